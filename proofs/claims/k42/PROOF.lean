import PyProof.Rows.All
import Wide.All
import OpenK.AllK
import Wide.FinOn
import Lean
import PyProof.EqAt
import PyProof.EqKinds
import PyProof.TupleCall
import PySem.Challenge.RW_forerun_k42_no_hand
import KE.IntBitsLaws
import KE.KDictList
import KE.KDictOf
import KE.KEqDict
import KE.KIntText
import KE.KItemsList
import KE.KRevIter
import KE.KSortAsk
import KE.KSortTup
import KE.KSorted
import KE.KTryMore
import KE.LcSums
import PyProof.AttrMissHeap
import PyProof.Conv_int_bool
import PyProof.DictItems
import PyProof.DictKinds
import PyProof.DictWalks
import PyProof.EnumFor
import PyProof.EnumMake
import PyProof.EqKinds
import PyProof.ListIndexNeg
import PyProof.MeetsStr
import PyProof.NeKinds
import PyProof.NsDelKeeps
import PyProof.P3Eq
import PyProof.Rows.EqDataRows
import PyProof.Rows.Range3
import PyProof.StrCalls2
import PyProof.StrLaws
import PyProof.StrLawsTight
import PyProof.StrOps
import PyProof.StrOps2
import PyProof.TupleIter
import PyProof.TupleKey
import PyProof.TupleOfSeq
import PyProof.ZipIter
import Wide.ObjOpen
import Wide.RegSB
set_option Elab.async false
set_option linter.all false
set_option maxRecDepth 100000
/-! THE HAND LAYER, for ints, bools, texts, own classes, LISTS and tuples (index, slices, in, append, pop ..), calls, loops. Paste it whole ahead of your own text; what your proof does not reach may be deleted. -/
namespace L2
open PySem PySem.Spec PyProof.Rows

/-- a key: an int or a str -/
abbrev Key := Sum Int Str
def keyIs : Key → Value → Bool
  | .inl k, v => Value.isInt k v
  | .inr x, v => Value.isStrOf x v
def keyH (w : World) : Key → Int
  | .inl k => hashInt k
  | .inr x => hashStr w x
theorem keyIs_shape : ∀ {k : Key} {v : Value}, keyIs k v = true → (∃ i t, k = Sum.inl i ∧ v = Value.int i t) ∨ (∃ x t, k = Sum.inr x ∧ v = Value.str x t)
  | .inl i, v, h => by
    obtain ⟨t, e⟩ := Value.isInt_shape (k := i) (v := v) h
    exact .inl ⟨i, t, rfl, e⟩
  | .inr x, v, h => by
    obtain ⟨t, e⟩ := Value.isStrOf_shape (x := x) (v := v) h
    exact .inr ⟨x, t, rfl, e⟩
theorem keyIs_int (i : Int) (t : Tok) : keyIs (.inl i) (.int i t) = true := by simp [keyIs, Value.isInt]
theorem keyIs_str (x : Str) (t : Tok) : keyIs (.inr x) (.str x t) = true := by simp [keyIs, Value.isStrOf]
theorem key_ll (a b : Int) : decide ((Sum.inl a : Key) = Sum.inl b) = (a == b) := by
  by_cases e : a = b
  · subst e; simp
  · have h : ¬ (Sum.inl a : Key) = Sum.inl b := fun q => e (Sum.inl.inj q)
    rw [decide_eq_false h]
    exact (beq_eq_false_iff_ne.mpr e).symm
theorem key_rr (a b : Str) : decide ((Sum.inr a : Key) = Sum.inr b) = decide (a = b) := by
  by_cases e : a = b
  · subst e; simp
  · have h : ¬ (Sum.inr a : Key) = Sum.inr b := fun q => e (Sum.inr.inj q)
    rw [decide_eq_false h, decide_eq_false e]
theorem key_lr (a : Int) (b : Str) : decide ((Sum.inl a : Key) = Sum.inr b) = false := decide_eq_false (fun q => nomatch q)
theorem key_rl (a : Str) (b : Int) : decide ((Sum.inr a : Key) = Sum.inl b) = false := decide_eq_false (fun q => nomatch q)

def mixKind (prog : Program) (w : World) : PySem.KeyKind prog w Key where
  is := keyIs
  hash := keyH w
  inj := fun v a b ha hb => by
    rcases keyIs_shape ha with ⟨i, t, rfl, rfl⟩ | ⟨x, t, rfl, rfl⟩
    · rcases keyIs_shape hb with ⟨j, u, rfl, e⟩ | ⟨y, u, rfl, e⟩
      · injection e with e1 _; rw [e1]
      · exact nomatch e
    · rcases keyIs_shape hb with ⟨j, u, rfl, e⟩ | ⟨y, u, rfl, e⟩
      · exact nomatch e
      · injection e with e1 _; rw [e1]
  byValue := fun k v h => by
    rcases keyIs_shape h with ⟨i, t, rfl, rfl⟩ | ⟨x, t, rfl, rfl⟩ <;> rfl
  pyHash := fun hv h => by
    rcases keyIs_shape hv with ⟨i, t, rfl, rfl⟩ | ⟨x, t, rfl, rfl⟩
    · exact wpAny_pyHash_int h
    · exact wpAny_pyHash_str h
  eqBool := fun hu hv h => by
    rcases keyIs_shape hu with ⟨i, t, rfl, rfl⟩ | ⟨x, t, rfl, rfl⟩
    · rcases keyIs_shape hv with ⟨j, u, rfl, rfl⟩ | ⟨y, u, rfl, rfl⟩
      · rw [key_ll] at h; exact wpAny_eqBool_int h
      · rw [key_lr] at h; exact SeqAt.EqAt.int_str i t y u _ _ _ _ h
    · rcases keyIs_shape hv with ⟨j, u, rfl, rfl⟩ | ⟨y, u, rfl, rfl⟩
      · rw [key_rl] at h; exact SeqAt.EqAt.str_int x t j u _ _ _ _ h
      · rw [key_rr] at h; exact wpAny_eqBool_str h
  «strs» := fun k x t v h => by
    rcases keyIs_shape h with ⟨i, u, rfl, e⟩ | ⟨y, u, rfl, e⟩
    · exact nomatch e
    · injection e with e1 _
      subst e1
      cases v <;> rfl

theorem mixKind_int (prog : Program) (w : World) (i : Int) (t : Tok) : (mixKind prog w).is (.inl i) (.int i t) = true := keyIs_int i t
theorem mixKind_str (prog : Program) (w : World) (x : Str) (t : Tok) : (mixKind prog w).is (.inr x) (.str x t) = true := keyIs_str x t
end L2

namespace L2
open PySem PySem.Spec PyProof.Rows

/-- a value, without the heap -/
inductive V where
  | non | bl (b : Bool) | int (i : Int) | str (x : Str) | byt (b : Array UInt8) | flt (b : UInt64) | ref (a : Addr) | ty (n : String)
  deriving DecidableEq

def RelV : V → Value → Prop
  | .non, u => u = Value.none
  | .bl b, u => u = Value.bool b
  | .int i, u => ∃ t, u = Value.int i t
  | .str x, u => ∃ t, u = Value.str x t
  | .byt b, u => ∃ t, u = Value.bytes b t
  | .flt b, u => ∃ t, u = Value.float b t
  | .ref a, u => u = Value.ref a
  | .ty n, u => u = Value.type n

abbrev Vals : List V → List Value → Prop := Paired RelV
theorem Vals.length {xs : List V} {us : List Value} (r : Vals xs us) : xs.length = us.length := Paired.length r
theorem Vals.get : ∀ {xs : List V} {us : List Value} {i : Nat} {x : V}, Vals xs us → xs[i]? = some x → ∃ u, us[i]? = some u ∧ RelV x u
  | _, _, _, _, .nil, e => by simp at e
  | _, _, 0, _, .cons r _, e => by simp at e; subst e; exact ⟨_, rfl, r⟩
  | _, _, i + 1, x, .cons _ t, e => by
    obtain ⟨u, h1, h2⟩ := Vals.get (i := i) (x := x) t (by simpa using e)
    exact ⟨u, by simpa using h1, h2⟩
theorem Vals.append : ∀ {xs ys : List V} {us ws : List Value}, Vals xs us → Vals ys ws → Vals (xs ++ ys) (us ++ ws)
  | _, _, _, _, .nil, s => s
  | _, _, _, _, .cons r t, s => .cons r (Vals.append t s)
theorem Vals.take : ∀ {xs : List V} {us : List Value} (n : Nat), Vals xs us → Vals (xs.take n) (us.take n)
  | _, _, 0, _ => .nil
  | _, _, _ + 1, .nil => .nil
  | _, _, n + 1, .cons r t => .cons r (Vals.take n t)
theorem Vals.drop : ∀ {xs : List V} {us : List Value} (n : Nat), Vals xs us → Vals (xs.drop n) (us.drop n)
  | _, _, 0, r => r
  | _, _, _ + 1, .nil => .nil
  | _, _, n + 1, .cons _ t => Vals.drop n t
def RelO : Option V → Option Value → Prop
  | some v, some u => RelV v u
  | none, none => True
  | _, _ => False
def KV {κ : Type} : List (κ × V) → List (κ × Value) → Prop := Paired fun (p : κ × V) (q : κ × Value) => p.1 = q.1 ∧ RelV p.2 q.2

/-- a key of a dict (00_mix): an int or a text -/
def kV : Key → V
  | .inl i => .int i
  | .inr x => .str x

/-- what stands at a tracked address -/
inductive HO where
  /-- a list -/
  | lst (xs : List V)
  /-- a tuple (never changes) -/
  | tup (xs : List V)
  /-- a dict whose keys are ints and texts; one whose keys are tuples of ints and texts (the empty one is both) -/
  | dK (kvs : List (Key × V)) | dT (kvs : List (List Key × V))
  /-- a set of ints: its members, its size -/
  | set (S : Int → Bool) (n : Nat)
  /-- an instance of the class at C, its dict at dx, its attributes -/
  | ins (C dx : Addr) (fs : List (Str × V))
  /-- the dict of the instance at x -/
  | own (x : Addr)
  /-- the dict of an exception -/
  | xd (fs : List (Str × V))
  /-- a bound method, f of x -/
  | met (f x : Addr)
  /-- a range object lo, lo + 1, .. below hi -/
  | rng (lo hi : Int)
  /-- a thing that is known to the object (the script; a dict while a loop walks it): read, never written while it is so -/
  | frz (o : Obj) (u : HO)
  /-- a code object's table -/
  | tbl (ps : Array Value)
  /-- any other thing, by what is true of its one object (a def of one's own: SetO a S n := HO.ext fun h => ..) -/
  | ext (φ : Heap → Prop)

abbrev Hp := Addr → Option HO
def upd (H : Hp) (a : Addr) (o : HO) : Hp := fun b => if b = a then some o else H b
theorem upd_same {H : Hp} {a : Addr} {o : HO} : upd H a o a = some o := by unfold upd; rw [if_pos rfl]
theorem upd_ne {H : Hp} {a b : Addr} {o : HO} (h : b ≠ a) : upd H a o b = H b := by unfold upd; rw [if_neg h]
theorem upd_upd {H : Hp} {a : Addr} {o u : HO} : upd (upd H a o) a u = upd H a u := by
  funext b; unfold upd; split <;> rfl
/-- two objects of different content stand apart -/
theorem ne_of {H : Hp} {a b : Addr} {o u : HO} (h : H a = some o) (h' : H b = some u) (d : o ≠ u) : a ≠ b := by
  intro e; subst e; rw [h] at h'; exact d (Option.some.inj h')
theorem ne_of_none {H : Hp} {a b : Addr} {o : HO} (h : H a = some o) (h' : H b = none) : a ≠ b := by
  intro e; subst e; rw [h] at h'; cases h'

section
variable (P : Program) (w : World)
def ObjOk (H : Hp) (h : Heap) (a : Addr) : HO → Prop
  | .lst xs => xs.length ≤ sizeLine ∧ ∃ (its : List Value) (n : Nat), Vals xs its ∧ h.get? a = some { cls := .type "list", data := .seq its.toArray n }
  | .tup xs => xs.length ≤ sizeLine ∧ ∃ its : List Value, Vals xs its ∧ IsTup h a its.toArray
  | .dK kvs => kvs.length ≤ sizeLine ∧ (a == sysModules) = false ∧ ∃ vs, KV kvs vs ∧ h.DictOf (mixKind P w) a vs
  | .dT kvs => kvs.length ≤ sizeLine ∧ (a == sysModules) = false ∧ ∃ xs : List (List Key × Addr × Value),
      Paired (fun (p : List Key × V) (q : List Key × Addr × Value) => p.1 = q.1 ∧ H q.2.1 = some (.tup (p.1.map kV)) ∧ RelV p.2 q.2.2) kvs xs ∧
      ∃ o es ep, h.get? a = some o ∧ o.ExactDict ∧ o.data = .dict es ep ∧ es.toList = xs.map (entryOfKey (tupleKind (mixKind P w))) ∧ (xs.map (·.1)).Nodup
  | .set S n => h.SetOf (intKind P w) a S n
  | .ins C dx fs => H dx = some (.own a) ∧ fs.length ≤ 1000 ∧ dx ≠ a ∧ h.get? a = some (PySem.W.instObj C dx) ∧
      ∃ mA, h.Ns1 dx mA ∧ (∀ f, RelO (fs.lookup f) (mA f)) ∧ PySem.Within mA (fs.map (·.1))
  | .own _ => ∃ o, h.get? a = some o
  | .xd fs => ∃ mA, h.Ns1 a mA ∧ ∀ f, RelO (fs.lookup f) (mA f)
  | .rng lo hi => ∃ t u v, h.get? a = some { cls := .type "range", data := .fields #[.int lo t, .int hi u, .int 1 v] }
  | .frz o u => h.get? a = some o ∧ ObjOk H h a u
  | .tbl ps => h.get? a = some { cls := .none, data := .fields ps }
  | .met f x => h.get? a = some (PySem.W.methodObj (.ref f) (.ref x))
  | .ext φ => φ h ∧ (∃ o, h.get? a = some o) ∧ ∀ h1 h2 : Heap, φ h1 → (∀ o, h1.get? a = some o → h2.get? a = some o) → φ h2
/-- the abstract heap is held -/
def HOk (H : Hp) (h : Heap) : Prop := ∀ a o, H a = some o → ObjOk P w H h a o
end

section
variable {P : Program} {w : World} {H H' : Hp} {h h' : Heap} {a : Addr} {o : HO}
theorem ObjOk.lt (x : ObjOk P w H h a o) : a < h.objs.size := by
  cases o with
  | lst xs => obtain ⟨_, _, _, _, e⟩ := x; exact Heap.lt_size e
  | tup xs => obtain ⟨_, _, _, p⟩ := x; exact p.lt
  | dK kvs => obtain ⟨_, _, _, _, o, _, _, e, _⟩ := x; exact Heap.lt_size e
  | dT kvs => obtain ⟨_, _, _, _, o, _, _, e, _⟩ := x; exact Heap.lt_size e
  | set S n => obtain ⟨o, _, _, _, e, _⟩ := x; exact Heap.lt_size e
  | ins C dx fs => obtain ⟨_, _, _, e, _⟩ := x; exact Heap.lt_size e
  | own y => obtain ⟨_, e⟩ := x; exact Heap.lt_size e
  | xd fs => obtain ⟨_, ⟨_, _, _, e, _⟩, _⟩ := x; exact Heap.lt_size e
  | rng lo hi => obtain ⟨_, _, _, e⟩ := x; exact Heap.lt_size e
  | frz ob u => obtain ⟨e, _⟩ := x; exact Heap.lt_size e
  | tbl ps => exact Heap.lt_size (show h.get? a = some _ from x)
  | met f y => exact Heap.lt_size (show h.get? a = some _ from x)
  | ext φ => obtain ⟨_, ⟨_, e⟩, _⟩ := x; exact Heap.lt_size e
theorem Paired.mapP {α β : Type} {F G : α → β → Prop} : ∀ {l₁ : List α} {l₂ : List β}, Paired F l₁ l₂ → (∀ a b, F a b → G a b) → Paired G l₁ l₂
  | _, _, .nil, _ => .nil
  | _, _, .cons r t, f => .cons (f _ _ r) (Paired.mapP t f)
/-- what an object's description leans on: its own object, its own dict, the tuples -/
theorem ObjOk.stay (x : ObjOk P w H h a o) (k : ∀ b u, (b = a ∨ H b = some (.own a)) → h.get? b = some u → h'.get? b = some u)
    (ho : ∀ b, H b = some (.own a) → H' b = some (.own a)) (ht : ∀ b xs, H b = some (.tup xs) → H' b = some (.tup xs)) : ObjOk P w H' h' a o := by
  induction o with
  | lst xs => obtain ⟨z, its, n, r, e⟩ := x; exact ⟨z, its, n, r, k _ _ (.inl rfl) e⟩
  | tup xs => obtain ⟨z, its, r, ob, e, c⟩ := x; exact ⟨z, its, r, ob, k _ _ (.inl rfl) e, c⟩
  | dK kvs => obtain ⟨z, y, vs, r, ob, es, ep, e, c⟩ := x; exact ⟨z, y, vs, r, ob, es, ep, k _ _ (.inl rfl) e, c⟩
  | dT kvs =>
    obtain ⟨z, y, xs, r, ob, es, ep, e, c⟩ := x
    exact ⟨z, y, xs, Paired.mapP r fun p q z => ⟨z.1, ht _ _ z.2.1, z.2.2⟩, ob, es, ep, k _ _ (.inl rfl) e, c⟩
  | set S n => obtain ⟨ob, es, ep, t, e, c⟩ := x; exact ⟨ob, es, ep, t, k _ _ (.inl rfl) e, c⟩
  | ins C dx fs =>
    obtain ⟨d, z, ne, e, mA, ⟨od, es, ep, e2, c⟩, r⟩ := x
    exact ⟨ho _ d, z, ne, k _ _ (.inl rfl) e, mA, ⟨od, es, ep, k _ _ (.inr d) e2, c⟩, r⟩
  | own y => obtain ⟨ob, e⟩ := x; exact ⟨ob, k _ _ (.inl rfl) e⟩
  | xd fs => obtain ⟨mA, ⟨od, es, ep, e, c⟩, r⟩ := x; exact ⟨mA, ⟨od, es, ep, k _ _ (.inl rfl) e, c⟩, r⟩
  | rng lo hi => obtain ⟨t, u, v, e⟩ := x; exact ⟨t, u, v, k _ _ (.inl rfl) e⟩
  | frz ob u ih => obtain ⟨e, q⟩ := x; exact ⟨k _ _ (.inl rfl) e, ih q⟩
  | tbl ps =>
    have e : h.get? a = some { cls := .none, data := .fields ps } := x
    show h'.get? a = some { cls := .none, data := .fields ps }
    exact k a _ (.inl rfl) e
  | met f y =>
    have e : h.get? a = some (PySem.W.methodObj (.ref f) (.ref y)) := x
    show h'.get? a = some (PySem.W.methodObj (.ref f) (.ref y))
    exact k a _ (.inl rfl) e
  | ext φ => obtain ⟨p, ⟨o, e⟩, st⟩ := x; exact ⟨st _ _ p fun o q => k _ _ (.inl rfl) q, ⟨o, k _ _ (.inl rfl) e⟩, st⟩
theorem HOk.lt (x : HOk P w H h) (e : H a = some o) : a < h.objs.size := (x a o e).lt
theorem HOk.fresh (x : HOk P w H h) (e : h.objs.size ≤ a) : H a = none := by
  cases q : H a with
  | none => rfl
  | some u => exact absurd (Nat.lt_of_lt_of_le (x.lt q) e) (Nat.lt_irrefl _)
/-- every object of the heap is kept -/
theorem HOk.kept (x : HOk P w H h) (k : ∀ b u, h.get? b = some u → h'.get? b = some u) : HOk P w H h' := fun a o e =>
  (x a o e).stay (fun b u _ q => k b u q) (fun _ q => q) fun _ _ q => q
/-- a new object is laid and tracked -/
theorem HOk.laid (x : HOk P w H h) (k : ∀ b u, h.get? b = some u → h'.get? b = some u) (hp : h.objs.size ≤ a) (new : ObjOk P w (upd H a o) h' a o) : HOk P w (upd H a o) h' := fun b u e => by
  have hn := x.fresh hp
  by_cases hb : b = a
  · subst hb; rw [upd_same] at e; cases e; exact new
  · rw [upd_ne hb] at e
    exact (x b u e).stay (fun c v _ q => k c v q) (fun c q => by rw [upd_ne (ne_of_none q hn)]; exact q) fun c xs q => by rw [upd_ne (ne_of_none q hn)]; exact q
end

/-- what may be read as u: it is u, or a known u -/
def Rd (H : Hp) (a : Addr) (u : HO) : Prop := H a = some u ∨ ∃ o, H a = some (.frz o u)
theorem Rd.ok {P : Program} {w : World} {H : Hp} {h : Heap} {a : Addr} {u : HO} (r : Rd H a u) (x : HOk P w H h) : ObjOk P w H h a u := by
  rcases r with r | ⟨o, r⟩
  · exact x a u r
  · obtain ⟨_, q⟩ := x a _ r
    exact q
/-- what may be written -/
def Mut : Option HO → Prop
  | some (.lst _) => True
  | some (.dK _) => True
  | some (.dT _) => True
  | some (.set _ _) => True
  | some (.ins _ _ _) => True
  | some (.ext _) => True
  | _ => False
section
variable {P : Program} {w : World} {H : Hp} {h h' : Heap} {x e : Addr} {o' : HO}
/-- the object at e is changed: x itself, or the dict of the instance x -/
theorem HOk.write (ok : HOk P w H h) (mu : Mut (H x)) (he : e = x ∨ H e = some (.own x)) (k : ∀ b u, b ≠ e → h.get? b = some u → h'.get? b = some u) (heo : ∃ u, h'.get? e = some u)
    (new : ObjOk P w (upd H x o') h' x o') : HOk P w (upd H x o') h' := fun b u q => by
  have nown : ∀ c y, H c = some (.own y) → c ≠ x := fun c y r z => by subst z; rw [r] at mu; exact mu
  have ntup : ∀ c xs, H c = some (.tup xs) → c ≠ x := fun c xs r z => by subst z; rw [r] at mu; exact mu
  by_cases hb : b = x
  · subst hb; rw [upd_same] at q; cases q; exact new
  · rw [upd_ne hb] at q
    by_cases hbe : b = e
    · have q' : H b = some (.own x) := by
        rcases he with z | z
        · exact absurd (hbe.trans z) hb
        · rw [hbe]; exact z
      rw [q] at q'; cases q'
      obtain ⟨v, hv⟩ := heo
      exact ⟨v, by rw [hbe]; exact hv⟩
    · refine (ok b u q).stay (fun c v hc r => k c v ?_ r) (fun c r => by rw [upd_ne (nown c b r)]; exact r) fun c xs r => by rw [upd_ne (ntup c xs r)]; exact r
      rcases hc with rfl | hc
      · exact hbe
      · rintro rfl
        rcases he with z | z
        · exact nown c b hc z
        · rw [hc] at z; cases z; exact hb rfl
end

/-! ### kept unless tracked; of the frames at fs (the callers') the slots may change (an exception that passes writes there); of the records at ex (iterators) nothing is said -/
structure Un (fs ex : List Addr) (H H' : Hp) (h h' : Heap) : Prop where
  keep : ∀ b o, h.get? b = some o → H b = none → b ∉ fs → b ∉ ex → h'.get? b = some o
  slot : ∀ b o, h.get? b = some o → H b = none → b ∈ fs → b ∉ ex → ∃ sl, h'.get? b = some { o with slots := sl }
  free : ∀ b o, h.get? b = some o → H b = none → b ∉ ex → H' b = none
  there : ∀ b o, h.get? b = some o → b ∉ ex → ∃ o', h'.get? b = some o'
  tups : ∀ b xs, H b = some (.tup xs) → H' b = some (.tup xs)
  frzs : ∀ b o u, H b = some (.frz o u) → H' b = some (.frz o u)
  tbls : ∀ b ps, H b = some (.tbl ps) → ∃ more, H' b = some (.tbl (ps ++ more))
section
variable {fs fs' ex ex' : List Addr} {H H1 H2 : Hp} {h h1 h2 h' : Heap} {a x e : Addr} {o : HO}
theorem Un.any (u : Un fs ex H H1 h h1) {b : Addr} {ob : Obj} (q : h.get? b = some ob) (n : H b = none) (hx : b ∉ ex) : ∃ sl, h1.get? b = some { ob with slots := sl } := by
  by_cases hb : b ∈ fs
  · exact u.slot b ob q n hb hx
  · exact ⟨ob.slots, u.keep b ob q n hb hx⟩
theorem Un.kept (k : ∀ b u, h.get? b = some u → h'.get? b = some u) : Un fs ex H H h h' :=
  ⟨fun b ob q _ _ _ => k b ob q, fun b ob q _ _ _ => ⟨ob.slots, k b ob q⟩, fun _ _ _ n _ => n, fun b ob q _ => ⟨ob, k b ob q⟩, fun _ _ q => q, fun _ _ _ q => q, fun _ ps q => ⟨#[], by rw [q]; simp⟩⟩
theorem Un.refl : Un fs ex H H h h := Un.kept fun _ _ q => q
theorem Un.laid (k : ∀ b u, h.get? b = some u → h'.get? b = some u) (hp : h.objs.size ≤ a) (hn : H a = none) : Un fs ex H (upd H a o) h h' where
  keep := fun b u q _ _ _ => k b u q
  slot := fun b u q _ _ _ => ⟨u.slots, k b u q⟩
  free := fun b u q n _ => by rw [upd_ne (Nat.ne_of_lt (Nat.lt_of_lt_of_le (Heap.lt_size q) hp))]; exact n
  there := fun b u q _ => ⟨u, k b u q⟩
  tups := fun b xs q => by rw [upd_ne (ne_of_none q hn)]; exact q
  frzs := fun b u xs q => by rw [upd_ne (ne_of_none q hn)]; exact q
  tbls := fun b ps q => ⟨#[], by rw [upd_ne (ne_of_none q hn), q]; simp⟩
theorem Un.write (mu : Mut (H x)) (he : e = x ∨ H e = some (.own x)) (k : ∀ b u, b ≠ e → h.get? b = some u → h'.get? b = some u) (heo : ∃ u, h'.get? e = some u) : Un fs ex H (upd H x o) h h' := by
  have hx : ∀ b, H b = none → b ≠ x := fun b n z => by subst z; rw [n] at mu; exact mu
  have hb : ∀ b, H b = none → b ≠ e := fun b n z => by
    subst z
    rcases he with r | r
    · exact hx b n r
    · rw [n] at r; cases r
  have hm : ∀ b u, H b = some u → ¬ Mut (some u) → b ≠ x := fun b u q nm z => by subst z; rw [q] at mu; exact nm mu
  refine ⟨fun b u q n _ _ => k b u (hb b n) q, fun b u q n _ _ => ⟨u.slots, k b u (hb b n) q⟩, fun b u q n _ => by rw [upd_ne (hx b n)]; exact n, fun b u q _ => ?_,
    fun b xs q => by rw [upd_ne (hm b _ q fun z => z)]; exact q, fun b u xs q => by rw [upd_ne (hm b _ q fun z => z)]; exact q, fun b ps q => ⟨#[], by rw [upd_ne (hm b _ q fun z => z), q]; simp⟩⟩
  by_cases hbe : b = e
  · subst hbe; exact heo
  · exact ⟨u, k b u hbe q⟩
end

/-! ### the heap without what is tracked -/
def trk (h : Heap) (H : Hp) : List Addr := (List.range h.objs.size).filter fun a => (H a).isSome
def hidT (h : Heap) (H : Hp) : Heap := PySem.W.hideAll h (trk h H)
theorem hidT_size (h : Heap) (H : Hp) : (hidT h H).objs.size = h.objs.size := PySem.W.hideAll_size _ _
theorem hidT_get {h : Heap} {H : Hp} {b : Addr} {o : Obj} (e : h.get? b = some o) (n : H b = none) : (hidT h H).get? b = some o :=
  PySem.W.hideAll_get _ e fun hm => by
    have q : (H b).isSome = true := (List.mem_filter.mp hm).2
    rw [n] at q; simp at q
theorem of_hidT {h : Heap} {H : Hp} {b : Addr} {o : Obj} (e : (hidT h H).get? b = some o) : h.get? b = some o ∧ H b = none := by
  have e' : h.get? b = some o := PySem.W.of_hideAll (trk h H) e
  refine ⟨e', ?_⟩
  cases q : H b with
  | none => rfl
  | some x =>
    have hm : b ∈ trk h H := List.mem_filter.mpr ⟨List.mem_range.mpr (Heap.lt_size e'), by simp [q]⟩
    have z : (hidT h H).get? b = none := PySem.W.hideAll_none (trk h H) hm
    rw [z] at e; cases e

/-! ### OpenK's ledger, filled with every new object but one -/
def allNews (g h : Heap) (L : Addr) : List (Addr × Obj) := (List.range h.objs.size).filterMap fun a => if a = L ∨ (g.get? a).isSome = true then none else (h.get? a).map fun o => (a, o)
def rest (g h : Heap) (L d : Addr) : List (Addr × Obj) := (allNews g h L).filter fun p => decide (p.1 ≠ d)
end L2

namespace L2
open PySem PySem.Spec PyProof.Rows

/-- the module's facts, over the base: the heap at the law's entry without what is tracked there -/
structure Mod (K : PySem.W.Frag) (mg : Str → Option Value) (base : Heap) : Prop where
  kin : K.In base
  glob : base.Ns mainGlobals mg
  blt : ∃ mb, base.Ns builtinsNs mb ∧ ∀ x : Str, x ≠ "__name__" → mb x = bootBuiltins x
  nolimit : base.NoLimit

set_option genSizeOf false in
set_option genInjectivity false in
structure Cx where
  prog : Program
  w : World
  K : PySem.W.Frag
  mg : Str → Option Value
  base : Heap
  A : Around
  N : List Str
  s₀ : Shared
  H₀ : Hp
  env : Env
  outer : List Env
  stack : List Env
  ex : List Addr
  fn : Str → Bool
  calm : Bool
  pn : List (Addr × Obj)
  xe : Value → Shared → Prop
/-- the callers' frames -/
def frs (l : List Env) : List Addr := l.filterMap (·.frame)
abbrev Cx.fs (X : Cx) : List Addr := frs X.outer

def Vis (sc : Scope) (x : Str) : Prop := sc.names.lookup x = some .local ∨ sc.names.lookup x = some .cell ∨ sc.names.lookup x = some .free
def Loc (sc : Scope) (x : Str) : Prop := sc.names.lookup x = some .local ∨ sc.names.lookup x = some .cell
def Look (env : Env) (h : Heap) (m : Str → Option Value) (x : Str) (u : Value) : Prop :=
  (env.kindOf x = some .local ∧ m x = some u) ∨ ((env.kindOf x = some .cell ∨ env.kindOf x = some .free) ∧ ∃ c, env.cells.lookup x = some c ∧ h.IsCell c (some u))

structure Cx.Ok (X : Cx) : Prop where
  mod : Mod X.K X.mg X.base
  kind : X.env.scope.kind = .function
  glob : X.env.globals = mainGlobals
  blt : X.env.builtins = builtinsNs
  above : X.s₀.heap.objs.size ≤ X.env.locals
  inj : ∀ x y c, X.env.cells.lookup x = some c → X.env.cells.lookup y = some c → x = y
  has : ∀ x, (X.env.kindOf x = some .cell ∨ X.env.kindOf x = some .free) → ∃ c, X.env.cells.lookup x = some c
  cab : ∀ x c, X.fn x = true → X.env.cells.lookup x = some c → X.s₀.heap.objs.size ≤ c
  hd : X.calm = true → X.A.handled = none
  frames : X.A.frames = some X.stack
  stk : X.stack = X.outer ∨ (X.stack = X.env :: X.outer ∧ X.env.frame = some X.env.locals)
  exf : ∀ b ∈ X.ex, b ≠ X.env.locals ∧ ∀ x c, X.env.cells.lookup x = some c → c ≠ b
  bs : ∀ b o, X.base.get? b = some o → X.s₀.heap.get? b = some o ∧ X.H₀ b = none
  bsz : X.base.objs.size ≤ X.s₀.heap.objs.size
  noex : ∀ b o, X.base.get? b = some o → b ∉ X.ex
  exfs : ∀ b ∈ X.ex, b ∉ X.fs
  funs : X.s₀.heap.FunFrames X.base X.outer
  frf : ∀ b ∈ X.fs, X.H₀ b = none

structure Inv (X : Cx) (pins : List (Addr × Obj)) (σ : List (Option V)) (H : Hp) (s : Shared) : Prop where
  ok : X.Ok
  os : s.os = X.s₀.os
  bare : AllBare s.gens
  base : Un X.fs X.ex X.H₀ H X.s₀.heap s.heap
  loc : ∃ m, s.heap.Ns X.env.locals m ∧ ∀ (i : Nat) (x : Str) (v : V), X.N[i]? = some x → σ[i]? = some (some v) → Vis X.env.scope x → ∃ u, RelV v u ∧ Look X.env s.heap m x u
  cell : ∀ x c, X.env.cells.lookup x = some c → ∃ v, s.heap.IsCell c v
  free : H X.env.locals = none
  freeC : ∀ x c, X.env.cells.lookup x = some c → H c = none
  pin : ∀ p ∈ X.pn ++ pins, s.heap.get? p.1 = some p.2 ∧ H p.1 = none ∧ p.1 ≠ X.env.locals ∧ p.1 ∉ X.fs ∧ ∀ v, p.2.data ≠ .cell v
  hok : HOk X.prog X.w H s.heap
  len : σ.length = X.N.length

section
variable {X : Cx} {pins : List (Addr × Obj)} {σ : List (Option V)} {H H' : Hp} {s : Shared} {h' : Heap}

theorem Cx.Ok.nofr (ok : X.Ok) {b : Addr} {o : Obj} (e : X.base.get? b = some o) : b ∉ X.fs := fun hb => by
  have := (ok.funs.mem hb).1
  rw [e] at this; cases this
theorem Inv.bs (I : Inv X pins σ H s) : ∀ b o, X.base.get? b = some o → s.heap.get? b = some o ∧ H b = none := fun b o e =>
  ⟨I.base.keep b o (I.ok.bs b o e).1 (I.ok.bs b o e).2 (I.ok.nofr e) (I.ok.noex b o e), I.base.free b o (I.ok.bs b o e).1 (I.ok.bs b o e).2 (I.ok.noex b o e)⟩
theorem Inv.bk (I : Inv X pins σ H s) : ∀ b o, X.base.get? b = some o → s.heap.get? b = some o := fun b o e => (I.bs b o e).1
theorem Inv.mod (I : Inv X pins σ H s) : Mod X.K X.mg X.base := I.ok.mod
theorem Inv.kIn (I : Inv X pins σ H s) : X.K.In s.heap := I.ok.mod.kin.keeps I.bk
theorem Inv.lt (I : Inv X pins σ H s) : X.env.locals < s.heap.objs.size := let ⟨_, hn, _⟩ := I.loc; hn.lt
theorem Inv.sz (I : Inv X pins σ H s) : X.s₀.heap.objs.size ≤ s.heap.objs.size := Nat.le_trans I.ok.above (Nat.le_of_lt I.lt)
theorem Inv.nofs (I : Inv X pins σ H s) {a : Addr} (h : s.heap.objs.size ≤ a) : a ∉ X.fs := fun hb => by
  obtain ⟨_, o, ho, _⟩ := I.ok.funs.mem hb
  exact absurd (Nat.lt_of_lt_of_le (Heap.lt_size ho) (Nat.le_trans I.sz h)) (Nat.lt_irrefl _)
theorem Inv.cne (I : Inv X pins σ H s) : ∀ x c, X.env.cells.lookup x = some c → c ≠ X.env.locals := fun x c e z => by
  obtain ⟨v, o, ho, hd⟩ := I.cell x c e
  obtain ⟨m, ⟨o', es, ep, ho', hd', _⟩, _⟩ := I.loc
  rw [z, ho'] at ho; cases ho; rw [hd'] at hd; cases hd
theorem Inv.funs (I : Inv X pins σ H s) : s.heap.FunFrames X.base X.outer := by
  have all : ∀ (l : List Env), (∀ b ∈ frs l, b ∈ X.fs) → X.s₀.heap.FunFrames X.base l → s.heap.FunFrames X.base l := by
    intro l
    induction l with
    | nil => intro _ _; trivial
    | cons env r ih =>
      intro hs hl
      obtain ⟨hk, ⟨L, o, hf, hn, ho, hd⟩, hr⟩ := hl
      have hL : L ∈ X.fs := hs L (by unfold frs; rw [List.filterMap_cons, hf]; exact List.mem_cons_self)
      obtain ⟨sl, e⟩ := I.base.slot L o ho (I.ok.frf L hL) hL fun z => I.ok.exfs L z hL
      exact ⟨hk, ⟨L, _, hf, hn, e, hd⟩, ih (fun b hb => hs b (by unfold frs; rw [List.filterMap_cons, hf]; exact List.mem_cons_of_mem _ hb)) hr⟩
  exact all X.outer (fun _ hb => hb) I.ok.funs

/-- the frames that run, for a call -/
theorem Inv.stack (I : Inv X pins σ H s) : s.heap.FunFrames X.base X.stack := by
  rcases I.ok.stk with e | ⟨e, hf⟩
  · rw [e]; exact I.funs
  · rw [e]
    obtain ⟨m, hn, _⟩ := I.loc
    refine .cons (by rw [I.ok.kind]; decide) hf hn ?_ I.funs
    exact Heap.get?_none_of_le (Nat.le_trans I.ok.bsz I.ok.above)
theorem Inv.stkSub (I : Inv X pins σ H s) : ∀ b ∈ frs X.stack, b ∈ X.env.locals :: X.fs := fun b hb => by
  rcases I.ok.stk with e | ⟨e, hf⟩
  · rw [e] at hb; exact List.mem_cons_of_mem _ hb
  · rw [e] at hb
    unfold frs at hb
    rw [List.filterMap_cons, hf] at hb
    exact hb
theorem Inv.stkFree (I : Inv X pins σ H s) : ∀ b ∈ frs X.stack, H b = none := fun b hb => by
  rcases List.mem_cons.mp (I.stkSub b hb) with e | hb
  · rw [e]; exact I.free
  · obtain ⟨_, o, ho, _⟩ := I.ok.funs.mem hb
    exact I.base.free b o ho (I.ok.frf b hb) fun z => I.ok.exfs b z hb

/-- THE STEP: the untracked objects but the frame and the records at ch are kept (the callers' frames up to slots), the frame's map is kept, the new abstract heap is held -/
theorem Inv.step {g' : Array GenState} {t' : Nat} {d' : Drawn} {ch : List Addr} (I : Inv X pins σ H s)
    (hch : ∀ b ∈ ch, (b ∈ X.ex ∨ X.s₀.heap.objs.size ≤ b) ∧ b ≠ X.env.locals ∧ (∀ x c, X.env.cells.lookup x = some c → c ≠ b) ∧ ∀ p ∈ X.pn ++ pins, p.1 ≠ b)
    (keep : ∀ b o, b ≠ X.env.locals → b ∉ X.fs → b ∉ ch → s.heap.get? b = some o → H b = none → h'.get? b = some o)
    (slot : ∀ b o, b ≠ X.env.locals → b ∈ X.fs → b ∉ ch → s.heap.get? b = some o → H b = none → ∃ sl, h'.get? b = some { o with slots := sl }) (free : ∀ b o, b ∉ ch → s.heap.get? b = some o → H b = none → H' b = none)
    (there : ∀ b o, b ∉ ch → s.heap.get? b = some o → ∃ o', h'.get? b = some o')
    (tups : ∀ b xs, H b = some (.tup xs) → H' b = some (.tup xs)) (frzs : ∀ b o u, H b = some (.frz o u) → H' b = some (.frz o u)) (tbls : ∀ b ps, H b = some (.tbl ps) → ∃ more, H' b = some (.tbl (ps ++ more)))
    (ns : ∀ m, s.heap.Ns X.env.locals m → h'.Ns X.env.locals m) (hok : HOk X.prog X.w H' h') (hg : AllBare g') :
    Inv X pins σ H' { s with heap := h', gens := g', drawn := d', toks := t' } := by
  have neL : ∀ b o, X.s₀.heap.get? b = some o → b ≠ X.env.locals := fun b o e => Nat.ne_of_lt (Nat.lt_of_lt_of_le (Heap.lt_size e) I.ok.above)
  have neC : ∀ b o, X.s₀.heap.get? b = some o → b ∉ X.ex → b ∉ ch := fun b o e hx hb => by
    rcases (hch b hb).1 with z | z
    · exact hx z
    · exact absurd (Nat.lt_of_lt_of_le (Heap.lt_size e) z) (Nat.lt_irrefl _)
  have cellK : ∀ x c, X.env.cells.lookup x = some c → ∀ v, s.heap.IsCell c v → h'.IsCell c v := fun x c e v ⟨o, ho, hd⟩ => by
    have nch : c ∉ ch := fun z => (hch c z).2.2.1 x c e rfl
    by_cases hc : c ∈ X.fs
    · obtain ⟨sl, q⟩ := slot c o (I.cne x c e) hc nch ho (I.freeC x c e)
      exact ⟨_, q, hd⟩
    · exact ⟨o, keep c o (I.cne x c e) hc nch ho (I.freeC x c e), hd⟩
  refine ⟨I.ok, I.os, hg, ⟨fun b o e n hb hx => ?_, fun b o e n hb hx => ?_, fun b o e n hx => ?_, fun b o e hx => ?_, fun b xs e => tups b xs (I.base.tups b xs e), fun b o xs e => frzs b o xs (I.base.frzs b o xs e), fun b ps e => ?_⟩, ?_, fun x c e => ?_, ?_, fun x c e => ?_, fun p hp => ?_, hok, I.len⟩
  · exact keep b o (neL b o e) hb (neC b o e hx) (I.base.keep b o e n hb hx) (I.base.free b o e n hx)
  · obtain ⟨sl, e1⟩ := I.base.slot b o e n hb hx
    obtain ⟨sl', e2⟩ := slot b _ (neL b o e) hb (neC b o e hx) e1 (I.base.free b o e n hx)
    exact ⟨sl', e2⟩
  · obtain ⟨o', e1⟩ := I.base.there b o e hx
    exact free b o' (neC b o e hx) e1 (I.base.free b o e n hx)
  · obtain ⟨o', e1⟩ := I.base.there b o e hx
    exact there b o' (neC b o e hx) e1
  · obtain ⟨m1, e1⟩ := I.base.tbls b ps e
    obtain ⟨m2, e2⟩ := tbls b _ e1
    exact ⟨m1 ++ m2, by rw [e2, Array.append_assoc]⟩
  · obtain ⟨m, hn, hl⟩ := I.loc
    refine ⟨m, ns m hn, fun i x v e1 e2 e3 => ?_⟩
    obtain ⟨u, r, l⟩ := hl i x v e1 e2 e3
    refine ⟨u, r, ?_⟩
    rcases l with l | ⟨k, c, e, z⟩
    · exact .inl l
    · exact .inr ⟨k, c, e, cellK x c e _ z⟩
  · obtain ⟨v, z⟩ := I.cell x c e
    exact ⟨v, cellK x c e v z⟩
  · obtain ⟨m, ⟨o, _, _, ho, _⟩, _⟩ := I.loc
    exact free _ o (fun z => (hch _ z).2.1 rfl) ho I.free
  · obtain ⟨v, o, ho, hd⟩ := I.cell x c e
    exact free c o (fun z => (hch c z).2.2.1 x c e rfl) ho (I.freeC x c e)
  · obtain ⟨e, n, ne, nf, d⟩ := I.pin p hp
    have nch : p.1 ∉ ch := fun z => (hch p.1 z).2.2.2 p hp rfl
    exact ⟨keep p.1 p.2 ne nf nch e n, free p.1 p.2 nch e n, ne, nf, d⟩
/-- .. where the frame's own object is kept too -/
theorem Inv.un {t' : Nat} (I : Inv X pins σ H s) (u : Un X.fs [] H H' s.heap h') (hok : HOk X.prog X.w H' h') : Inv X pins σ H' { s with heap := h', toks := t' } := by
  obtain ⟨m, ⟨o, es, ep, ho, r⟩, _⟩ := id I.loc
  obtain ⟨sl, hL⟩ := u.any ho I.free (by simp)
  exact I.step (g' := s.gens) (d' := s.drawn) (ch := []) (fun _ z => nomatch z) (fun b o _ hb _ e n => u.keep b o e n hb (by simp)) (fun b o _ hb _ e n => u.slot b o e n hb (by simp)) (fun b o _ e n => u.free b o e n (by simp)) (fun b o _ e => u.there b o e (by simp)) u.tups u.frzs u.tbls (fun m' hm => by
    obtain ⟨o', es', ep', ho', r'⟩ := hm
    rw [ho] at ho'; cases ho'
    exact ⟨_, es', ep', hL, r'⟩) hok I.bare
/-- behind a call (or a comprehension's block): the slots of this frame may have changed too, the records at ch may have turned -/
theorem Inv.call {g' : Array GenState} {t' : Nat} {d' : Drawn} {ch : List Addr} (I : Inv X pins σ H s) (u : Un (frs X.stack) ch H H' s.heap h') (hok : HOk X.prog X.w H' h') (hg : AllBare g')
    (hch : ∀ b ∈ ch, (b ∈ X.ex ∨ X.s₀.heap.objs.size ≤ b) ∧ b ≠ X.env.locals ∧ (∀ x c, X.env.cells.lookup x = some c → c ≠ b) ∧ ∀ p ∈ X.pn ++ pins, p.1 ≠ b) :
    Inv X pins σ H' { s with heap := h', gens := g', drawn := d', toks := t' } := by
  obtain ⟨m, ⟨o, es, ep, ho, r⟩, _⟩ := id I.loc
  obtain ⟨sl, hL⟩ := u.any ho I.free fun z => (hch _ z).2.1 rfl
  exact I.step (ch := ch) hch (fun b o hL hb hc e n => u.keep b o e n (fun z => (List.mem_cons.mp (I.stkSub b z)).elim hL hb) hc) (fun b o _ _ hc e n => u.any e n hc) (fun b o hc e n => u.free b o e n hc) (fun b o hc e => u.there b o e hc) u.tups u.frzs u.tbls (fun m' hm => by
    obtain ⟨o', es', ep', ho', r'⟩ := hm
    rw [ho] at ho'; cases ho'
    exact ⟨_, es', ep', hL, r'⟩) hok hg
/-- an untracked record of ours (an iterator) has turned -/
theorem Inv.turned {t' : Nat} {it : Addr} (I : Inv X pins σ H s) (k : ∀ b o, b ≠ it → s.heap.get? b = some o → h'.get? b = some o) (hn : H it = none) (hL : it ≠ X.env.locals)
    (h1 : it ∈ X.ex ∨ X.s₀.heap.objs.size ≤ it) (h2 : ∀ x c, X.env.cells.lookup x = some c → c ≠ it) (h3 : ∀ p ∈ X.pn ++ pins, p.1 ≠ it) : Inv X pins σ H { s with heap := h', toks := t' } := by
  have nit : ∀ b u, H b = some u → b ≠ it := fun b u e z => by rw [z, hn] at e; cases e
  refine I.step (g' := s.gens) (d' := s.drawn) (ch := [it]) (fun b hb => ?_) (fun b o _ _ hc e _ => k b o (fun z => hc (by simp [z])) e) (fun b o _ _ hc e _ => ⟨o.slots, k b o (fun z => hc (by simp [z])) e⟩) (fun _ _ _ _ n => n)
    (fun b o hc e => ⟨o, k b o (fun z => hc (by simp [z])) e⟩) (fun _ _ e => e) (fun _ _ _ e => e) (fun b ps e => ⟨#[], by rw [e]; simp⟩) (fun m hm => ?_) (fun b u e => ?_) I.bare
  · have e : b = it := by simpa using hb
    subst e
    exact ⟨h1, hL, h2, h3⟩
  · obtain ⟨o, es, ep, ho, r⟩ := hm
    exact ⟨o, es, ep, k _ o (Ne.symm hL) ho, r⟩
  · refine (I.hok b u e).stay (fun c v hc q => k c v ?_ q) (fun _ q => q) fun _ _ q => q
    rcases hc with z | z
    · rw [z]; exact nit b u e
    · exact nit c _ z
theorem Inv.tok (I : Inv X pins σ H s) (t : Nat) : Inv X pins σ H { s with toks := t } := I.un (h' := s.heap) (t' := t) Un.refl I.hok
/-- all objects kept -/
theorem Inv.kept {t' : Nat} (I : Inv X pins σ H s) (k : ∀ b u, s.heap.get? b = some u → h'.get? b = some u) : Inv X pins σ H { s with heap := h', toks := t' } := I.un (Un.kept k) (I.hok.kept k)
/-- a new object laid and tracked -/
theorem Inv.laid {a : Addr} {o : HO} {t' : Nat} (I : Inv X pins σ H s) (k : ∀ b u, s.heap.get? b = some u → h'.get? b = some u) (hp : s.heap.objs.size ≤ a) (new : ObjOk X.prog X.w (upd H a o) h' a o) :
    Inv X pins σ (upd H a o) { s with heap := h', toks := t' } := I.un (Un.laid k hp (I.hok.fresh hp)) (I.hok.laid k hp new)
/-- an object written -/
theorem Inv.write {x e : Addr} {o : HO} {t' : Nat} (I : Inv X pins σ H s) (mu : Mut (H x)) (he : e = x ∨ H e = some (.own x)) (k : ∀ b u, b ≠ e → s.heap.get? b = some u → h'.get? b = some u) (heo : ∃ u, h'.get? e = some u)
    (new : ObjOk X.prog X.w (upd H x o) h' x o) : Inv X pins σ (upd H x o) { s with heap := h', toks := t' } := I.un (Un.write mu he k heo) (I.hok.write mu he k heo new)
theorem Inv.pins_of {pins' : List (Addr × Obj)} (I : Inv X pins σ H s) (h : ∀ p ∈ pins', s.heap.get? p.1 = some p.2 ∧ H p.1 = none ∧ p.1 ≠ X.env.locals ∧ p.1 ∉ X.fs ∧ ∀ v, p.2.data ≠ .cell v) : Inv X pins' σ H s :=
  ⟨I.ok, I.os, I.bare, I.base, I.loc, I.cell, I.free, I.freeC, fun p hp => (List.mem_append.mp hp).elim (fun z => I.pin p (List.mem_append_left _ z)) (h p), I.hok, I.len⟩

theorem nodup_ix {N : List Str} (hN : N.Nodup) {i j : Nat} {x : Str} (a : N[i]? = some x) (b : N[j]? = some x) : i = j := by
  obtain ⟨h1, e1⟩ := List.getElem?_eq_some_iff.mp a
  obtain ⟨h2, e2⟩ := List.getElem?_eq_some_iff.mp b
  exact (List.getElem_inj hN).mp (e1.trans e2.symm)

/-- a name is stored; what changed -/
theorem store_ok2 {M : Model} {A : Around} {E : Value → Shared → Prop} {i : Nat} {x : Str} {v : V} {u : Value} {Q : Unit → Shared → Prop} (I : Inv X pins σ H s) (hN : X.N.Nodup) (hi : X.N[i]? = some x) (hx : Loc X.env.scope x) (r : RelV v u)
    (h : ∀ s', Inv X pins (σ.set i (some v)) H s' → (∃ a, Heap.SameBut a s.heap s'.heap ∧ (a = X.env.locals ∨ X.env.cells.lookup x = some a)) → Q () s') (hf : X.fn x = true ∨ X.env.scope.names.lookup x = some .local := by first | exact .inl rfl | exact .inr rfl | assumption) : wpAny M A (storeName X.env x u) Q E s := by
  obtain ⟨m, hn, hl⟩ := id I.loc
  have hcls : (X.env.scope.kind == .class || (X.env.scope.kind == .module && X.env.locals != X.env.globals)) = false := by rw [I.ok.kind]; rfl
  have hiσ : i < σ.length := by rw [I.len]; exact (List.getElem?_eq_some_iff.mp hi).1
  have cne := I.cne
  have tracked : ∀ {a : Addr} {h' : Heap}, (∃ o, s.heap.get? a = some o ∧ H a = none) → Heap.SameBut a s.heap h' → HOk X.prog X.w H h' := fun {a h'} ha hs b ob e => by
    obtain ⟨_, _, hfree⟩ := ha
    refine (I.hok b ob e).stay (fun c w' hc q => (hs.2 c ?_).trans q) (fun _ q => q) fun _ _ q => q
    rintro rfl
    rcases hc with rfl | hc
    · rw [hfree] at e; cases e
    · rw [hfree] at hc; cases hc
  rcases hx with hk | hk
  · refine wpAny_storeName_local hk hn (fun h' hn' hs => ?_) hcls
    obtain ⟨oL, _, _, hoL, _⟩ := id hn
    refine h _ ⟨I.ok, I.os, I.bare, ⟨fun b o e n hb hx => ?_, fun b o e n hb hx => ?_, I.base.free, fun b o e hx => ?_, I.base.tups, I.base.frzs, I.base.tbls⟩, ⟨_, hn', fun j y v' e1 e2 e3 => ?_⟩, fun y c e => ?_, I.free, I.freeC, fun p hp => ?_, tracked ⟨oL, hoL, I.free⟩ hs, by simpa using I.len⟩ ⟨_, hs, .inl rfl⟩
    · exact (hs.2 b (Nat.ne_of_lt (Nat.lt_of_lt_of_le (Heap.lt_size e) I.ok.above))).trans (I.base.keep b o e n hb hx)
    · obtain ⟨sl, e1⟩ := I.base.slot b o e n hb hx
      exact ⟨sl, (hs.2 b (Nat.ne_of_lt (Nat.lt_of_lt_of_le (Heap.lt_size e) I.ok.above))).trans e1⟩
    · obtain ⟨o', e1⟩ := I.base.there b o e hx
      exact ⟨o', (hs.2 b (Nat.ne_of_lt (Nat.lt_of_lt_of_le (Heap.lt_size e) I.ok.above))).trans e1⟩
    · by_cases hj : j = i
      · subst hj
        rw [hi] at e1; cases e1
        rw [List.getElem?_set_self hiσ] at e2
        cases e2
        exact ⟨u, r, .inl ⟨hk, by simp⟩⟩
      · rw [List.getElem?_set_ne (Ne.symm hj)] at e2
        obtain ⟨u', r', q⟩ := hl j y v' e1 e2 e3
        refine ⟨u', r', ?_⟩
        rcases q with ⟨k, e⟩ | ⟨k, c, e, z⟩
        · refine .inl ⟨k, ?_⟩
          have : y ≠ x := fun e => hj (nodup_ix hN e1 (e ▸ hi))
          simp [this, e]
        · exact .inr ⟨k, c, e, z.sameBut hs (cne y c e)⟩
    · obtain ⟨w', z⟩ := I.cell y c e
      exact ⟨w', z.sameBut hs (cne y c e)⟩
    · obtain ⟨e, n, ne, nf, d⟩ := I.pin p hp
      exact ⟨(hs.2 p.1 ne).trans e, n, ne, nf, d⟩
  · have hfn : X.fn x = true := by
      rcases hf with z | z
      · exact z
      · rw [z] at hk; cases hk
    obtain ⟨c, hc⟩ := I.ok.has x (.inl hk)
    obtain ⟨w', z⟩ := I.cell x c hc
    refine wpAny_storeName_cell I.ok.kind hk hc z (fun h' hc' hs => ?_)
    obtain ⟨oc, hoc, hocd⟩ := id z
    refine h { s with heap := h' } ⟨I.ok, I.os, I.bare, ⟨fun b o e n hb hx => ?_, fun b o e n hb hx => ?_, I.base.free, fun b o e hx => ?_, I.base.tups, I.base.frzs, I.base.tbls⟩, ⟨m, hn.sameBut hs (Ne.symm (cne x c hc)), fun j y v' e1 e2 e3 => ?_⟩, fun y c' e => ?_, I.free, I.freeC, fun p hp => ?_, tracked ⟨oc, hoc, I.freeC x c hc⟩ hs, by simpa using I.len⟩ ⟨c, hs, .inr hc⟩
    · exact (hs.2 b (Nat.ne_of_lt (Nat.lt_of_lt_of_le (Heap.lt_size e) (I.ok.cab x c hfn hc)))).trans (I.base.keep b o e n hb hx)
    · obtain ⟨sl, e1⟩ := I.base.slot b o e n hb hx
      exact ⟨sl, (hs.2 b (Nat.ne_of_lt (Nat.lt_of_lt_of_le (Heap.lt_size e) (I.ok.cab x c hfn hc)))).trans e1⟩
    · obtain ⟨o', e1⟩ := I.base.there b o e hx
      exact ⟨o', (hs.2 b (Nat.ne_of_lt (Nat.lt_of_lt_of_le (Heap.lt_size e) (I.ok.cab x c hfn hc)))).trans e1⟩
    · by_cases hj : j = i
      · subst hj
        rw [hi] at e1; cases e1
        rw [List.getElem?_set_self hiσ] at e2
        cases e2
        exact ⟨u, r, .inr ⟨.inl hk, c, hc, hc'⟩⟩
      · rw [List.getElem?_set_ne (Ne.symm hj)] at e2
        obtain ⟨u', r', q⟩ := hl j y v' e1 e2 e3
        refine ⟨u', r', ?_⟩
        rcases q with q | ⟨k, c', e, z'⟩
        · exact .inl q
        · refine .inr ⟨k, c', e, z'.sameBut hs ?_⟩
          rintro rfl
          exact hj (nodup_ix hN e1 (I.ok.inj _ _ _ e hc ▸ hi))
    · by_cases hcc : c' = c
      · subst hcc; exact ⟨_, hc'⟩
      · obtain ⟨w2, z2⟩ := I.cell y c' e
        exact ⟨w2, z2.sameBut hs hcc⟩
    · obtain ⟨e, n, ne, nf, d⟩ := I.pin p hp
      refine ⟨(hs.2 p.1 ?_).trans e, n, ne, nf, d⟩
      intro q
      rw [q, hoc] at e
      have q' : oc = p.2 := Option.some.inj e
      exact d w' (by rw [← q']; exact hocd)
theorem store_ok {M : Model} {A : Around} {E : Value → Shared → Prop} {i : Nat} {x : Str} {v : V} {u : Value} {Q : Unit → Shared → Prop} (I : Inv X pins σ H s) (hN : X.N.Nodup) (hi : X.N[i]? = some x) (hx : Loc X.env.scope x) (r : RelV v u)
    (h : ∀ s', Inv X pins (σ.set i (some v)) H s' → Q () s') (hf : X.fn x = true ∨ X.env.scope.names.lookup x = some .local := by first | exact .inl rfl | exact .inr rfl | assumption) : wpAny M A (storeName X.env x u) Q E s :=
  store_ok2 I hN hi hx r (fun s' I' _ => h s' I') hf
/-- behind a call or a block, the state as it is -/
theorem Inv.call' {s' : Shared} {ch : List Addr} (I : Inv X pins σ H s) (ho : s'.os = s.os) (u : Un (frs X.stack) ch H H' s.heap s'.heap) (hok : HOk X.prog X.w H' s'.heap) (hg : AllBare s'.gens)
    (hch : ∀ b ∈ ch, (b ∈ X.ex ∨ X.s₀.heap.objs.size ≤ b) ∧ b ≠ X.env.locals ∧ (∀ x c, X.env.cells.lookup x = some c → c ≠ b) ∧ ∀ p ∈ X.pn ++ pins, p.1 ≠ b) : Inv X pins σ H' s' := by
  obtain ⟨h', g', d', t', o'⟩ := s'
  have e : o' = s.os := ho
  subst e
  exact I.call (g' := g') (t' := t') (d' := d') u hok hg hch
end

/-! ### the judgements -/
/-- an exception: its class, its own dict's address (where it has one), the abstract heap behind it -/
abbrev XK := Value → Option Addr → Hp → Prop
abbrev St := List (Option V)
abbrev VK := V → Hp → Prop
/-- an expression's reading; a test's; an argument list's -/
abbrev TE := St → Hp → VK → Prop
abbrev TT := St → Hp → (Bool → Hp → Prop) → Prop
abbrev TA := St → Hp → (List V → Hp → Prop) → Prop
set_option genSizeOf false in
set_option genInjectivity false in
structure Ends where
  nx : St → Hp → Prop
  rt : VK
  bk : St → Hp → Prop := fun _ _ => False
  ct : St → Hp → Prop := fun _ _ => False
abbrev TS := Ends → St → Hp → Prop

def EP (X : Cx) (pins : List (Addr × Obj)) (σ : St) (Q : VK) (u : Value) (s' : Shared) : Prop := ∃ v H', Inv X pins σ H' s' ∧ RelV v u ∧ Q v H'
def TP (X : Cx) (pins : List (Addr × Obj)) (σ : St) (Q : Bool → Hp → Prop) (b : Bool) (s' : Shared) : Prop := ∃ H', Inv X pins σ H' s' ∧ Q b H'
def AP (X : Cx) (pins : List (Addr × Obj)) (σ : St) (Q : List V → Hp → Prop) (us : List Value) (s' : Shared) : Prop := ∃ vs H', Inv X pins σ H' s' ∧ Vals vs us ∧ Q vs H'
def SP (X : Cx) (pins : List (Addr × Obj)) (D : Ends) (f : Flow) (s' : Shared) : Prop :=
  match f with
  | .next => ∃ σ' H', Inv X pins σ' H' s' ∧ D.nx σ' H'
  | .brk => ∃ σ' H', Inv X pins σ' H' s' ∧ D.bk σ' H'
  | .cont => ∃ σ' H', Inv X pins σ' H' s' ∧ D.ct σ' H'
  | .ret u => ∃ v σ' H', Inv X pins σ' H' s' ∧ RelV v u ∧ D.rt v H'

def PE (X : Cx) (e : Expr) (t : TE) : Prop :=
  ∀ (pins : List (Addr × Obj)) (s : Shared) (σ : St) (H : Hp) (Q : VK), Inv X pins σ H s → t σ H Q → wpAny (model X.prog X.w) X.A (eval e X.env) (EP X pins σ Q) X.xe s
def PT (X : Cx) (e : Expr) (t : TT) : Prop :=
  ∀ (pins : List (Addr × Obj)) (s : Shared) (σ : St) (H : Hp) (Q : Bool → Hp → Prop), Inv X pins σ H s → t σ H Q → wpAny (model X.prog X.w) X.A (isTrue e X.env (eval e X.env)) (TP X pins σ Q) X.xe s
/-- a test whatever its 'whole' is (and, or) -/
def PW (X : Cx) (e : Expr) (t : TT) : Prop :=
  ∀ (whole : Sem Value) (pins : List (Addr × Obj)) (s : Shared) (σ : St) (H : Hp) (Q : Bool → Hp → Prop), Inv X pins σ H s → t σ H Q → wpAny (model X.prog X.w) X.A (isTrue e X.env whole) (TP X pins σ Q) X.xe s
theorem PW.pt {X : Cx} {e : Expr} {t : TT} (h : PW X e t) : PT X e t := h _
/-- an argument list (no star), from the left -/
def PA (X : Cx) (es : List Expr) (t : TA) : Prop :=
  ∀ (pos : Pos) (pins : List (Addr × Obj)) (s : Shared) (σ : St) (H : Hp) (Q : List V → Hp → Prop), Inv X pins σ H s → t σ H Q → wpAny (model X.prog X.w) X.A (spliced (backTo pos (starEach es X.env))) (AP X pins σ Q) X.xe s
def PS (X : Cx) (st : Stmt) (t : TS) : Prop :=
  ∀ (pins : List (Addr × Obj)) (s : Shared) (σ : St) (H : Hp) (D : Ends), Inv X pins σ H s → t D σ H → wpAny (model X.prog X.w) X.A (exec st X.env) (SP X pins D) X.xe s
def PSs (X : Cx) (st : List Stmt) (t : TS) : Prop :=
  ∀ (pins : List (Addr × Obj)) (s : Shared) (σ : St) (H : Hp) (D : Ends), Inv X pins σ H s → t D σ H → wpAny (model X.prog X.w) X.A (execs st X.env) (SP X pins D) X.xe s
/-- weaken the end -/
theorem thn {α : Type} {t : Sem α} {Q Q' : α → Shared → Prop} {M : Model} {A : Around} {E : Value → Shared → Prop} {s : Shared} (h : wpAny M A t Q E s) (hQ : ∀ a s, Q a s → Q' a s) : wpAny M A t Q' E s := wpAny_mono h hQ fun _ _ x => x
end L2

namespace L2
open PySem PySem.Spec PyProof.Rows
section
variable {X : Cx}

/-! ### names and constants -/
def tVar (i : Nat) : TE := fun σ H Q => ∃ v, σ[i]? = some (some v) ∧ Q v H
def tC (v : V) : TE := fun _ H Q => Q v H
theorem pe_var {i : Nat} {x : Str} {pos : Pos} (hN : X.N[i]? = some x) (hv : Vis X.env.scope x) (hd : (x == ("__debug__" : Str)) = false := by decide) (hcd : (x == ("__classdict__" : Str)) = false := by decide) : PE X (.Name x pos) (tVar i) := by
  intro pins s σ H Q I h
  obtain ⟨v, e, h⟩ := h
  obtain ⟨m, hn, hl⟩ := I.loc
  obtain ⟨u, r, l⟩ := hl i x v hN e hv
  have fin : EP X pins σ Q u s := ⟨v, H, I, r, h⟩
  rcases l with ⟨hk, hm⟩ | ⟨hk, c, hc, hcell⟩
  · exact wpAny_Name (wpAny_loadName_local I.ok.kind hk hn hm fin) hd
  · rcases hk with hk | hk
    · exact wpAny_Name (wpAny_loadName_cell I.ok.kind hk hc hcell fin) hd
    · exact wpAny_Name (wpAny_loadName_free I.ok.kind hk hc hcell fin hcd) hd
theorem pe_int {i j pos} : PE X (.Constant (.int i) j pos) (tC (.int i)) := fun _ _ _ H _ I h => wpAny_Constant_int ⟨.int i, H, I.tok _, ⟨_, rfl⟩, h⟩
theorem pe_bl {b j pos} : PE X (.Constant (.bool b) j pos) (tC (.bl b)) := fun _ _ _ H _ I h => Constant_bool ⟨.bl b, H, I, rfl, h⟩
theorem pe_non {j pos} : PE X (.Constant .none j pos) (tC .non) := fun _ _ _ H _ I h => Constant_none ⟨.non, H, I, rfl, h⟩
theorem pe_str {x j pos} : PE X (.Constant (.str x) j pos) (tC (.str x)) := fun _ _ _ H _ I h => Calls.Constant_str ⟨.str x, H, I.tok _, ⟨_, rfl⟩, h⟩

/-- a global name of the def -/
def Gl (X : Cx) (x : Str) : Prop := X.env.kindOf x = some .globalImplicit
theorem ld_glob {E : Value → Shared → Prop} {pins : List (Addr × Obj)} {s : Shared} {σ : St} {H : Hp} {x : Str} {u : Value} {pos : Pos} {Q : Value → Shared → Prop} (I : Inv X pins σ H s) (hg : Gl X x) (hm : X.mg x = some u) (h : Q u s)
    (hd : (x == ("__debug__" : Str)) = false := by decide) : wpAny (model X.prog X.w) X.A (eval (.Name x pos) X.env) Q E s :=
  Calls.Name_function_global I.ok.kind hg (Calls.loadGlobal_global (by rw [I.ok.glob]; exact I.mod.glob.keeps I.bk) hm h) hd
theorem ld_blt {E : Value → Shared → Prop} {pins : List (Addr × Obj)} {s : Shared} {σ : St} {H : Hp} {x : Str} {u : Value} {pos : Pos} {Q : Value → Shared → Prop} (I : Inv X pins σ H s) (hg : Gl X x) (hm : X.mg x = none) (hv : bootBuiltins x = some u) (h : Q u s)
    (hn : x ≠ "__name__" := by decide) (hd : (x == ("__debug__" : Str)) = false := by decide) : wpAny (model X.prog X.w) X.A (eval (.Name x pos) X.env) Q E s := by
  obtain ⟨mb, h1, h2⟩ := I.mod.blt
  exact Calls.Name_function_global I.ok.kind hg (Calls.loadGlobal_builtin (by rw [I.ok.glob]; exact I.mod.glob.keeps I.bk) hm (by rw [I.ok.blt]; exact h1.keeps I.bk) ((h2 x hn).trans hv) h) hd
/-- a module's constant, a class, a function, as a value -/
theorem pe_glob {x : Str} {v : V} {u : Value} {pos : Pos} (hg : Gl X x) (hm : X.mg x = some u) (r : RelV v u) (hd : (x == ("__debug__" : Str)) = false := by decide) : PE X (.Name x pos) (tC v) :=
  fun _ _ _ H _ I h => ld_glob I hg hm ⟨v, H, I, r, h⟩ hd
theorem pe_bltn {x : Str} {v : V} {u : Value} {pos : Pos} (hg : Gl X x) (hm : X.mg x = none) (hv : bootBuiltins x = some u) (r : RelV v u) (hn : x ≠ "__name__" := by decide) (hd : (x == ("__debug__" : Str)) = false := by decide) : PE X (.Name x pos) (tC v) :=
  fun _ _ _ H _ I h => ld_blt I hg hm hv ⟨v, H, I, r, h⟩ hn hd

/-! ### arithmetic -/
variable {a b : Expr} {ta tb : TE} {pos : Pos}
/-! ### comparisons -/
/-- a comparison as a value, as a test -/
def tB (t : TE) : TT := fun σ H Q => t σ H fun x H1 => ∃ c, x = .bl c ∧ Q c H1
/-- an expression whose value is a bool, as a test -/
theorem pt_val {e : Expr} {t : TE} (h : PE X e t) (he : ∀ whole, isTrue e X.env whole = (do let v ← whole; standAt e.pos; holding [v] (truthy v)) := by intro _; rfl) : PT X e (tB t) := by
  intro pins s σ H Q I hw
  refine isTrue_plain (thn (h pins s σ H _ I hw) fun v s1 ⟨x, H1, I1, r1, q1⟩ => ?_) (he _)
  obtain ⟨d, rfl, q⟩ := q1
  cases r1
  exact wpAny_truthy_bool ⟨H1, I1, q⟩

/-! ### and, or, not -/
variable {tA tB' : TT} {rest : List Expr}
def tAnd (t u : TT) : TT := fun σ H Q => t σ H fun c H1 => if c = true then u σ H1 Q else Q false H1
def tOr (t u : TT) : TT := fun σ H Q => t σ H fun c H1 => if c = true then Q true H1 else u σ H1 Q
def tNot (t : TT) : TT := fun σ H Q => t σ H fun c H1 => Q (!c) H1
theorem pw_and1 (ha : PT X a tA) : PW X (.BoolOp .And [a] pos) tA := by
  intro wh pins s σ H Q I h
  refine isTrue_and (thn (ha pins s σ H Q I h) fun c s1 e => ?_)
  cases c with
  | true => exact isTrue_and_nil e
  | false => exact e
theorem pw_or1 (ha : PT X a tA) : PW X (.BoolOp .Or [a] pos) tA := by
  intro wh pins s σ H Q I h
  refine isTrue_or (thn (ha pins s σ H Q I h) fun c s1 e => ?_)
  cases c with
  | false => exact isTrue_or_nil e
  | true => exact e
theorem pw_and (ha : PT X a tA) (hb : PW X (.BoolOp .And (b :: rest) pos) tB') : PW X (.BoolOp .And (a :: b :: rest) pos) (tAnd tA tB') := by
  intro wh pins s σ H Q I h
  refine isTrue_and (thn (ha pins s σ H _ I h) fun c s1 ⟨H1, I1, q1⟩ => ?_)
  cases c with
  | true => exact hb wh pins s1 σ H1 Q I1 q1
  | false => exact ⟨H1, I1, q1⟩
theorem pw_or (ha : PT X a tA) (hb : PW X (.BoolOp .Or (b :: rest) pos) tB') : PW X (.BoolOp .Or (a :: b :: rest) pos) (tOr tA tB') := by
  intro wh pins s σ H Q I h
  refine isTrue_or (thn (ha pins s σ H _ I h) fun c s1 ⟨H1, I1, q1⟩ => ?_)
  cases c with
  | true => exact ⟨H1, I1, q1⟩
  | false => exact hb wh pins s1 σ H1 Q I1 q1
theorem pt_not (ha : PT X a tA) : PT X (.UnaryOp .Not a pos) (tNot tA) := by
  intro pins s σ H Q I h
  exact isTrue_not (ha pins s σ H (fun c H1 => Q (!c) H1) I h)
/-- .. as values (bools) -/
def tAndV (ta tb : TE) : TE := fun σ H Q => ta σ H fun x H1 => ∃ c, x = .bl c ∧ if c = true then tb σ H1 Q else Q (.bl false) H1
def tOrV (ta tb : TE) : TE := fun σ H Q => ta σ H fun x H1 => ∃ c, x = .bl c ∧ if c = true then Q (.bl true) H1 else tb σ H1 Q
def tNotV (ta : TE) : TE := fun σ H Q => ta σ H fun x H1 => ∃ c, x = .bl c ∧ Q (.bl (!c)) H1
theorem pe_one {op} {t : TE} (h : PE X a t) : PE X (.BoolOp op [a] pos) t := fun pins s σ H Q I hw => BoolOp_one (h pins s σ H Q I hw)
theorem pe_and (ha : PE X a ta) (hb : PE X (.BoolOp .And (b :: rest) pos) tb) : PE X (.BoolOp .And (a :: b :: rest) pos) (tAndV ta tb) := by
  intro pins s σ H Q I h
  refine BoolOp_and (thn (ha pins s σ H _ I h) fun v s1 ⟨x, H1, I1, r1, q1⟩ => ?_)
  obtain ⟨c, rfl, q1⟩ := q1
  cases r1
  refine wpAny_truthy_bool ?_
  cases c with
  | true => exact hb pins s1 σ H1 Q I1 q1
  | false => exact ⟨.bl false, H1, I1, rfl, q1⟩
theorem pe_not (ha : PE X a ta) : PE X (.UnaryOp .Not a pos) (tNotV ta) := by
  intro pins s σ H Q I h
  refine UnaryOp_ (thn (ha pins s σ H _ I h) fun v s1 ⟨x, H1, I1, r1, q1⟩ => ?_)
  obtain ⟨c, rfl, q1⟩ := q1
  cases r1
  exact not_of (wpAny_truthy_bool ⟨.bl (!c), H1, I1, rfl, q1⟩)
/-- a if t else b -/
def tIf (t : TT) (ta tb : TE) : TE := fun σ H Q => t σ H fun c H1 => if c = true then ta σ H1 Q else tb σ H1 Q
end
end L2

namespace L2
open PySem PySem.Spec PyProof.Rows

/-! ### a list, a tuple that is read: tracked, frozen, or an object of the module -/
def SqL (K : PySem.W.Frag) (H : Hp) (a : Addr) (xs : List V) : Prop :=
  Rd H a (.lst xs) ∨
    ∃ (o : Obj) (its : Array Value) (n : Nat), K.lookup a = some o ∧ o.cls = .type "list" ∧ o.dict = none ∧ o.data = .seq its n ∧ its.size ≤ sizeLine ∧ Vals xs its.toList
def SqT (K : PySem.W.Frag) (H : Hp) (a : Addr) (xs : List V) : Prop :=
  Rd H a (.tup xs) ∨
    ∃ (o : Obj) (its : Array Value) (n : Nat), K.lookup a = some o ∧ o.cls = .type "tuple" ∧ o.data = .seq its n ∧ its.size ≤ sizeLine ∧ Vals xs its.toList
def absV : Value → Option V
  | .none => some .non
  | .bool b => some (.bl b)
  | .int i _ => some (.int i)
  | .str x _ => some (.str x)
  | .bytes b _ => some (.byt b)
  | .float b _ => some (.flt b)
  | .ref a => some (.ref a)
  | .type n => some (.ty n)
  | _ => none
theorem RelV.abs {x : V} {u : Value} (r : RelV x u) : absV u = some x := by
  cases x with
  | non => cases r; rfl
  | bl _ => cases r; rfl
  | int _ => obtain ⟨t, rfl⟩ := r; rfl
  | str _ => obtain ⟨t, rfl⟩ := r; rfl
  | byt _ => obtain ⟨t, rfl⟩ := r; rfl
  | flt _ => obtain ⟨t, rfl⟩ := r; rfl
  | ref _ => cases r; rfl
  | ty _ => cases r; rfl
theorem RelV.inj {x y : V} {u : Value} (r : RelV x u) (q : RelV y u) : x = y := Option.some.inj (r.abs.symm.trans q.abs)
theorem Vals.inj : ∀ {xs ys : List V} {us : List Value}, Vals xs us → Vals ys us → xs = ys
  | _, _, _, .nil, .nil => rfl
  | _, _, _, .cons r t, .cons r' t' => by rw [r.inj r', Vals.inj t t']
section
variable {X : Cx} {pins : List (Addr × Obj)} {σ : St} {H : Hp} {s : Shared} {a : Addr} {xs ys : List V}
theorem SqL.of {K : PySem.W.Frag} (h : H a = some (.lst xs)) : SqL K H a xs := .inl (.inl h)
theorem SqT.of {K : PySem.W.Frag} (h : H a = some (.tup xs)) : SqT K H a xs := .inl (.inl h)
theorem Inv.list (I : Inv X pins σ H s) (h : SqL X.K H a xs) : ∃ its : List Value, Vals xs its ∧ PlainL s.heap a its.toArray ∧ xs.length ≤ sizeLine := by
  rcases h with h | ⟨o, its, n, hk, hc, hd, hs, hz, r⟩
  · obtain ⟨z, its, n, r, e⟩ := h.ok I.hok
    exact ⟨its, r, ⟨_, n, e, rfl, rfl, rfl⟩, z⟩
  · refine ⟨its.toList, r, ⟨o, n, I.kIn a o hk, hc, hd, by simpa using hs⟩, ?_⟩
    have e := r.length
    simp only [Array.length_toList] at e
    omega
theorem Inv.tuple (I : Inv X pins σ H s) (h : SqT X.K H a xs) : ∃ its : List Value, Vals xs its ∧ IsTup s.heap a its.toArray ∧ xs.length ≤ sizeLine := by
  rcases h with h | ⟨o, its, n, hk, hc, hs, hz, r⟩
  · obtain ⟨z, its, r, p⟩ := h.ok I.hok
    exact ⟨its, r, p, z⟩
  · refine ⟨its.toList, r, ⟨o, I.kIn a o hk, hc, n, by simpa using hs⟩, ?_⟩
    have e := r.length
    simp only [Array.length_toList] at e
    omega
theorem Inv.list_inj (I : Inv X pins σ H s) (h : SqL X.K H a xs) (h' : SqL X.K H a ys) : xs = ys := by
  obtain ⟨its, r, ⟨o, n, e, _, _, d⟩, _⟩ := I.list h
  obtain ⟨its', r', ⟨o', n', e', _, _, d'⟩, _⟩ := I.list h'
  rw [e] at e'; cases e'
  rw [d] at d'
  injection d' with d1 _
  have : its = its' := by simpa using congrArg Array.toList d1
  subst this
  exact r.inj r'
theorem Inv.tuple_inj (I : Inv X pins σ H s) (h : SqT X.K H a xs) (h' : SqT X.K H a ys) : xs = ys := by
  obtain ⟨its, r, ⟨o, e, _, n, d⟩, _⟩ := I.tuple h
  obtain ⟨its', r', ⟨o', e', _, n', d'⟩, _⟩ := I.tuple h'
  rw [e] at e'; cases e'
  rw [d] at d'
  injection d' with d1 _
  have : its = its' := by simpa using congrArg Array.toList d1
  subst this
  exact r.inj r'
end

/-! ### another wish about exceptions -/
abbrev Cx.wish (X : Cx) (E : Value → Shared → Prop) : Cx := { X with xe := E }
/-- no exception leaves -/
abbrev Cx.nox (X : Cx) : Cx := X.wish fun _ _ => False
theorem Cx.Ok.wish {X : Cx} (ok : X.Ok) (E : Value → Shared → Prop) : (X.wish E).Ok :=
  ⟨ok.mod, ok.kind, ok.glob, ok.blt, ok.above, ok.inj, ok.has, ok.cab, ok.hd, ok.frames, ok.stk, ok.exf, ok.bs, ok.bsz, ok.noex, ok.exfs, ok.funs, ok.frf⟩
theorem Cx.Ok.unwish {X : Cx} {E : Value → Shared → Prop} (ok : (X.wish E).Ok) : X.Ok :=
  ⟨ok.mod, ok.kind, ok.glob, ok.blt, ok.above, ok.inj, ok.has, ok.cab, ok.hd, ok.frames, ok.stk, ok.exf, ok.bs, ok.bsz, ok.noex, ok.exfs, ok.funs, ok.frf⟩
section
variable {X : Cx} {pins : List (Addr × Obj)} {σ : St} {H : Hp} {s : Shared} {E : Value → Shared → Prop}
theorem Inv.wish (I : Inv X pins σ H s) (E : Value → Shared → Prop) : Inv (X.wish E) pins σ H s := ⟨I.ok.wish E, I.os, I.bare, I.base, I.loc, I.cell, I.free, I.freeC, I.pin, I.hok, I.len⟩
theorem Inv.unwish (I : Inv (X.wish E) pins σ H s) : Inv X pins σ H s := ⟨I.ok.unwish, I.os, I.bare, I.base, I.loc, I.cell, I.free, I.freeC, I.pin, I.hok, I.len⟩
theorem SP.unwish {D : Ends} {f : Flow} {s' : Shared} (h : SP (X.wish E) pins D f s') : SP X pins D f s' := by
  cases f with
  | next => obtain ⟨σ', H', I, q⟩ := h; exact ⟨σ', H', I.unwish, q⟩
  | brk => obtain ⟨σ', H', I, q⟩ := h; exact ⟨σ', H', I.unwish, q⟩
  | cont => obtain ⟨σ', H', I, q⟩ := h; exact ⟨σ', H', I.unwish, q⟩
  | ret u => obtain ⟨v, σ', H', I, r, q⟩ := h; exact ⟨v, σ', H', I.unwish, r, q⟩
theorem PSs.nox {st : List Stmt} {t : TS} (h : PSs X.nox st t) : PSs X st t := fun pins s σ H D I hw =>
  wpAny_mono (h pins s σ H D (I.wish _) hw) (fun _ _ q => q.unwish) fun _ _ z => False.elim z
end

/-! ### blocks and small statements -/
section
variable {X : Cx} {st : Stmt} {rest : List Stmt} {t u : TS} {e : Expr} {te : TE} {pos : Pos}
def tNext : TS := fun D σ H => D.nx σ H
def tSeq (t u : TS) : TS := fun D σ H => t { D with nx := u D } σ H
theorem pss_nil : PSs X [] tNext := fun _ _ σ H _ I h => wpAny_execs_nil ⟨σ, H, I, h⟩
theorem pss_cons (h1 : PS X st t) (h2 : PSs X rest u) : PSs X (st :: rest) (tSeq t u) := by
  intro pins s σ H D I h
  refine wpAny_execs_cons (thn (h1 pins s σ H { D with nx := u D } I h) fun f s1 q => ?_)
  cases f with
  | next =>
    obtain ⟨σ', H', I', q⟩ := q
    exact h2 pins s1 σ' H' D I' q
  | ret v => exact q
  | brk => exact q
  | cont => exact q
theorem pss_one (h1 : PS X st t) : PSs X [st] t := by
  intro pins s σ H D I h
  refine wpAny_execs_cons (thn (h1 pins s σ H D I h) fun f s1 q => ?_)
  cases f with
  | next => exact wpAny_execs_nil q
  | ret v => exact q
  | brk => exact q
  | cont => exact q
/-- in a def's body nothing is shown -/
theorem Inv.quiet {pins : List (Addr × Obj)} {σ : St} {H : Hp} {s : Shared} (I : Inv X pins σ H s) : interactive X.env = false := by simp [interactive, I.ok.kind]
/-- an expression whose value is dropped -/
def tDrop (te : TE) : TS := fun D σ H => te σ H fun _ H1 => D.nx σ H1
theorem ps_expr (he : PE X e te) (hs : swapsWith e none pos.line X.env = pure false := by rfl) : PS X (.Expr e pos) (tDrop te) := by
  intro pins s σ H D I h
  exact wpAny_Expr_any (thn (he pins s σ H _ I h) fun v s1 ⟨x, H1, I1, r1, q1⟩ => ⟨σ, H1, I1, q1⟩) I.quiet hs
def tRet (te : TE) : TS := fun D σ H => te σ H D.rt
theorem ps_ret (he : PE X e te) : PS X (.Return (some e) pos) (tRet te) := by
  intro pins s σ H D I h
  exact wpAny_Return_some (thn (he pins s σ H _ I h) fun v s1 ⟨x, H1, I1, r1, q1⟩ => ⟨x, σ, H1, I1, r1, q1⟩)
def tRetN : TS := fun D _ H => D.rt .non H
def tIfS (c : TT) (t u : TS) : TS := fun D σ H => c σ H fun b H1 => if b = true then t D σ H1 else u D σ H1
theorem ps_if {c : Expr} {a b : List Stmt} {tc : TT} (hc : PT X c tc) (ha : PSs X a t) (hb : PSs X b u) : PS X (.If c a b pos) (tIfS tc t u) := by
  intro pins s σ H D I h
  refine wpAny_If (thn (hc pins s σ H _ I h) fun d s1 ⟨H1, I1, q1⟩ => ?_)
  cases d with
  | true => exact ha pins s1 σ H1 D I1 q1
  | false => exact hb pins s1 σ H1 D I1 q1
/-- code that the proof never comes to -/
def tNever : TS := fun _ _ _ => False
theorem ps_never : PS X st tNever := fun _ _ _ _ _ _ h => h.elim
end

/-! ### targets -/
abbrev TG := V → St → Hp → (St → Hp → Prop) → Prop
abbrev TGs := List V → St → Hp → (St → Hp → Prop) → Prop
def PG (X : Cx) (target : Expr) (t : TG) : Prop :=
  ∀ (pins : List (Addr × Obj)) (s : Shared) (σ : St) (H : Hp) (v : V) (u : Value) (Q : St → Hp → Prop), Inv X pins σ H s → RelV v u → t v σ H Q →
    wpAny (model X.prog X.w) X.A (assign target X.env u) (fun _ s' => ∃ σ' H', Inv X pins σ' H' s' ∧ Q σ' H') X.xe s
/-- a op= b, by values -/
abbrev TIp := V → V → Hp → VK → Prop
section
variable {X : Cx} {pos : Pos}
def gName (i : Nat) : TG := fun v σ H Q => Q (σ.set i (some v)) H
theorem pg_name {i : Nat} {x : Str} (hN : X.N.Nodup) (hi : X.N[i]? = some x) (hx : Loc X.env.scope x) (hf : X.fn x = true ∨ X.env.scope.names.lookup x = some .local := by first | exact .inl rfl | exact .inr rfl | assumption) : PG X (.Name x pos) (gName i) := by
  intro pins s σ H v u Q I r h
  exact wpAny_assign_Name (store_ok I hN hi hx r (fun s' I' => ⟨_, H, I', h⟩) hf)
def gNil : TGs := fun vs σ H Q => vs = [] ∧ Q σ H
def gCons (t : TG) (u : TGs) : TGs := fun vs σ H Q => ∃ v r, vs = v :: r ∧ t v σ H fun σ' H' => u r σ' H' Q
/-- (a, b, ..) = a tuple of that length -/
def gTup (K : PySem.W.Frag) (n : Nat) (t : TGs) : TG := fun v σ H Q => ∃ a xs, v = .ref a ∧ SqT K H a xs ∧ xs.length = n ∧ t xs σ H Q
/-- target = value -/
def tAsg (te : TE) (g : TG) : TS := fun D σ H => te σ H fun x H1 => g x σ H1 D.nx
/-- name = value -/
theorem ps_set {i : Nat} {x : Str} {e : Expr} {te : TE} {pos' : Pos} (hN : X.N.Nodup) (hi : X.N[i]? = some x) (hx : Loc X.env.scope x) (he : PE X e te) (hs : swapsWith e (some (.Name x pos')) pos.line X.env = pure false := by rfl) (hf : X.fn x = true ∨ X.env.scope.names.lookup x = some .local := by first | exact .inl rfl | exact .inr rfl | assumption) :
    PS X (.Assign [.Name x pos'] e pos) (tAsg te (gName i)) := by
  intro pins s σ H D I h
  refine wpAny_Assign_Name (thn (he pins s σ H _ I h) fun v s1 ⟨y, H1, I1, r1, q1⟩ => ?_) hs
  exact store_ok I1 hN hi hx r1 (fun s2 I2 => ⟨_, H1, I2, q1⟩) hf
/-- name op= e -/
def tAug (i : Nat) (te : TE) (ti : TIp) : TS := fun D σ H => ∃ x, σ[i]? = some (some x) ∧ te σ H fun y H1 => ti x y H1 fun z H2 => D.nx (σ.set i (some z)) H2
/-- ints -/
def ipI (f : Int → Int → Int) : TIp := fun x y H Q => ∃ i j, x = .int i ∧ y = .int j ∧ Q (.int (f i j)) H
end

/-! ### while -/
section
variable {X : Cx} {pos : Pos}
end

/-! ### what a loop or a comprehension walks -/
set_option genSizeOf false in
set_option genInjectivity false in
structure It where
  go : Nat → Hp → Prop
  yld : Nat → Hp → V → Hp → Prop
  stop : Nat → Hp → Prop
/-- the iterator's own objects may turn: they are not the frame's, not pinned, younger than the entry (or a comprehension's own) -/
def FpOk (X : Cx) (pins : List (Addr × Obj)) (H : Hp) (b : Addr) : Prop :=
  H b = none ∧ b ≠ X.env.locals ∧ b ∉ X.fs ∧ (b ∈ X.ex ∨ X.s₀.heap.objs.size ≤ b) ∧ (∀ x c, X.env.cells.lookup x = some c → c ≠ b) ∧ ∀ p ∈ X.pn ++ pins, p.1 ≠ b
theorem Inv.fpOk {X : Cx} {pins : List (Addr × Obj)} {σ : St} {H H' : Hp} {s : Shared} {b : Addr} (I : Inv X pins σ H s) (hb : s.heap.objs.size ≤ b) (hn : H' b = none) : FpOk X pins H' b := by
  refine ⟨hn, Nat.ne_of_gt (Nat.lt_of_lt_of_le I.lt hb), I.nofs hb, .inr (Nat.le_trans I.sz hb), fun x c e z => ?_, fun p hp z => ?_⟩
  · obtain ⟨v, q⟩ := I.cell x c e
    exact absurd (Nat.lt_of_lt_of_le q.lt (by rw [z]; exact hb)) (Nat.lt_irrefl _)
  · exact absurd (Nat.lt_of_lt_of_le (Heap.lt_size (I.pin p hp).1) (by rw [z]; exact hb)) (Nat.lt_irrefl _)
structure Turn (P : Program) (w : World) (K : PySem.W.Frag) (tg : Expr) (J : It) (fp : List Addr) (it : Addr) (tn : Nat → Heap → Prop) : Prop where
  mem : it ∈ fp
  obj : ∀ i h, tn i h → ∀ b ∈ fp, ∃ o, h.get? b = some o ∧ ∀ v, o.data ≠ .cell v
  keep : ∀ i h h', tn i h → (∀ b ∈ fp, ∀ o, h.get? b = some o → h'.get? b = some o) → tn i h'
  item : ∀ (X : Cx), X.prog = P → X.w = w → X.K = K → X.calm = true → ∀ (i : Nat) (pins : List (Addr × Obj)) (s : Shared) (σ : St) (H : Hp) (E : Value → Shared → Prop), Inv X pins σ H s → (∀ b ∈ fp, FpOk X pins H b) → tn i s.heap → J.go i H →
    wpAny (model P w) X.A (pyNext (.ref it)) (fun r s1 => ∃ u, r = some u ∧
      wpAny (model P w) X.A (letOwnedTupleGo tg (.ref it) u) (fun _ s2 => ∃ x H', Inv X pins σ H' s2 ∧ RelV x u ∧ J.yld i H x H' ∧ tn (i + 1) s2.heap ∧ ∀ b ∈ fp, H' b = none) E s1) E s
  done : ∀ (X : Cx), X.prog = P → X.w = w → X.K = K → X.calm = true → ∀ (i : Nat) (pins : List (Addr × Obj)) (s : Shared) (σ : St) (H : Hp) (E : Value → Shared → Prop), Inv X pins σ H s → (∀ b ∈ fp, FpOk X pins H b) → tn i s.heap → J.stop i H →
    wpAny (model P w) X.A (pyNext (.ref it)) (fun r s1 => r = none ∧ Inv X pins σ H s1) E s
  self : ∀ (A : Around) (i : Nat) (s : Shared) (Q : Value → Shared → Prop) (E : Value → Shared → Prop), tn i s.heap → Q (.ref it) s → wpAny (model P w) A (pyIter (.ref it)) Q E s
abbrev TI := St → Hp → (It → Hp → Prop) → Prop
/-- an iterator has come -/
def PIE (X : Cx) (pins : List (Addr × Obj)) (σ : St) (tg : Expr) (R : It → Hp → Prop) (itv : Value) (s2 : Shared) : Prop :=
  ∃ (it : Addr) (fp : List Addr) (tn : Nat → Heap → Prop) (J : It) (H' : Hp), itv = .ref it ∧ Inv X pins σ H' s2 ∧ Turn X.prog X.w X.K tg J fp it tn ∧ tn 0 s2.heap ∧ (∀ b ∈ fp, FpOk X pins H' b) ∧ R J H'
def PI (X : Cx) (tg iter : Expr) (wi : TI) : Prop :=
  ∀ (pins : List (Addr × Obj)) (s : Shared) (σ : St) (H : Hp) (R : It → Hp → Prop), Inv X pins σ H s → wi σ H R →
    wpAny (model X.prog X.w) X.A (eval iter X.env) (fun v s1 => wpAny (model X.prog X.w) X.A (pyIter v) (PIE X pins σ tg R) X.xe s1) X.xe s

/-- the step ahead of the store is nothing for an iterator that keeps no tuple -/
theorem go_of {M : Model} {A : Around} {E : Value → Shared → Prop} {s : Shared} {tg : Expr} {it : Addr} {u : Value} {o : Obj} {n : String} {vs : Array Value} {Q : Unit → Shared → Prop} (ho : s.heap.get? it = some o) (hc : o.cls = .type n) (hd : o.data = .fields vs)
    (hn : ["enumerate", "zip", "dict_itemiterator", "dict_reverseitemiterator", "odict_iterator", "itertools.zip_longest", "itertools.pairwise"].contains n = false) (hQ : Q () s) : wpAny M A (letOwnedTupleGo tg (.ref it) u) Q E s := by
  unfold letOwnedTupleGo
  cases tg <;> first
    | exact wpAny_pure hQ
    | (cases u <;> first
        | exact wpAny_pure hQ
        | (refine wpAny_bind (wpAny_load ho ?_)
           rw [hc, hd]
           show wpAny M A (if (["enumerate", "zip", "dict_itemiterator", "dict_reverseitemiterator", "odict_iterator", "itertools.zip_longest", "itertools.pairwise"].contains n && vs[0]? == some (rawInt _)) = true then _ else _) Q E s
           rw [if_neg (by intro h; rw [hn, Bool.false_and] at h; cases h)]
           exact wpAny_pure hQ))

/-- the list at a, as it stands at each turn (a loop may append to it) -/
def Itl (K : PySem.W.Frag) (a : Addr) : It :=
  ⟨fun i H => ∃ xs x, SqL K H a xs ∧ xs[i]? = some x, fun i H x H' => H' = H ∧ ∀ xs, SqL K H a xs → xs[i]? = some x, fun i H => ∃ xs, SqL K H a xs ∧ xs.length ≤ i⟩
def Itt (K : PySem.W.Frag) (a : Addr) : It :=
  ⟨fun i H => ∃ xs x, SqT K H a xs ∧ xs[i]? = some x, fun i H x H' => H' = H ∧ ∀ xs, SqT K H a xs → xs[i]? = some x, fun i H => ∃ xs, SqT K H a xs ∧ xs.length ≤ i⟩
/-- lo, lo + 1, .. (n of them) -/
def Itr (lo : Int) (n : Nat) : It := ⟨fun i _ => i < n, fun i H x H' => H' = H ∧ x = .int (lo + i), fun i _ => n ≤ i⟩
theorem turn_list {P : Program} {w : World} {K : PySem.W.Frag} {tg : Expr} (a it : Addr) : Turn P w K tg (Itl K a) [it] it (fun i h => h.IsListIter it a i) where
  mem := by simp
  obj := fun i h st b hb => by
    have e : b = it := by simpa using hb
    subst e
    obtain ⟨o, e, c, d⟩ := st
    exact ⟨o, e, fun v z => by rw [d] at z; cases z⟩
  keep := fun i h h' st k => st.at fun o e => k it (by simp) o e
  item := by
    intro X hP hw hK hc i pins s σ H E I hf st hg
    subst hP hw hK
    obtain ⟨xs, x, hq, hx⟩ := hg
    obtain ⟨its, rv, p, hz⟩ := I.list hq
    obtain ⟨u, hu, ru⟩ := rv.get hx
    obtain ⟨f0, f1, f2, f3, f4, f5⟩ := hf it (by simp)
    refine wpAny_pyNext_list_item st p.isList (x := u) (by simpa using hu) fun h' st' sb => ?_
    have I1 : Inv X pins σ H { s with heap := h' } := I.turned (t' := s.toks) (fun b o hb e => (sb.2 b hb).trans e) f0 f1 f3 f4 f5
    obtain ⟨o, e, c, d⟩ := id st'
    exact ⟨u, rfl, go_of (s := { s with heap := h' }) e c d (by decide) ⟨x, H, I1, ru, ⟨rfl, fun ys hy => by rw [I.list_inj hy hq]; exact hx⟩, st', fun b hb => (hf b hb).1⟩⟩
  done := by
    intro X hP hw hK hc i pins s σ H E I hf st hg
    subst hP hw hK
    obtain ⟨xs, hq, hx⟩ := hg
    obtain ⟨its, rv, p, hz⟩ := I.list hq
    obtain ⟨f0, f1, f2, f3, f4, f5⟩ := hf it (by simp)
    have hl := rv.length
    exact wpAny_pyNext_list_end (I.ok.hd hc) st p.isList (by simp; omega) fun h' eb => ⟨rfl, I.turned (t' := s.toks) (fun b o hb e => eb b o hb e) f0 f1 f3 f4 f5⟩
  self := fun _ _ _ _ _ st h => wpAny_pyIter_listiter st h
theorem turn_tuple {P : Program} {w : World} {K : PySem.W.Frag} {tg : Expr} (a it : Addr) : Turn P w K tg (Itt K a) [it] it (fun i h => h.IsTupleIter it a i) where
  mem := by simp
  obj := fun i h st b hb => by
    have e : b = it := by simpa using hb
    subst e
    obtain ⟨o, e, c, d⟩ := st
    exact ⟨o, e, fun v z => by rw [d] at z; cases z⟩
  keep := fun i h h' st k => st.at fun o e => k it (by simp) o e
  item := by
    intro X hP hw hK hc i pins s σ H E I hf st hg
    subst hP hw hK
    obtain ⟨xs, x, hq, hx⟩ := hg
    obtain ⟨its, rv, p, hz⟩ := I.tuple hq
    obtain ⟨u, hu, ru⟩ := rv.get hx
    obtain ⟨f0, f1, f2, f3, f4, f5⟩ := hf it (by simp)
    refine wpAny_pyNext_tuple_item st (show s.heap.IsTuple a its.toArray from p) (x := u) (by simpa using hu) fun h' st' sb => ?_
    have I1 : Inv X pins σ H { s with heap := h' } := I.turned (t' := s.toks) (fun b o hb e => (sb.2 b hb).trans e) f0 f1 f3 f4 f5
    obtain ⟨o, e, c, d⟩ := id st'
    exact ⟨u, rfl, go_of (s := { s with heap := h' }) e c d (by decide) ⟨x, H, I1, ru, ⟨rfl, fun ys hy => by rw [I.tuple_inj hy hq]; exact hx⟩, st', fun b hb => (hf b hb).1⟩⟩
  done := by
    intro X hP hw hK hc i pins s σ H E I hf st hg
    subst hP hw hK
    obtain ⟨xs, hq, hx⟩ := hg
    obtain ⟨its, rv, p, hz⟩ := I.tuple hq
    obtain ⟨f0, f1, f2, f3, f4, f5⟩ := hf it (by simp)
    have hl := rv.length
    exact wpAny_pyNext_tuple_end (I.ok.hd hc) st (show s.heap.IsTuple a its.toArray from p) (by simp; omega) fun h' eb => ⟨rfl, I.turned (t' := s.toks) (fun b o hb e => eb b o hb e) f0 f1 f3 f4 f5⟩
  self := fun _ _ _ _ _ st h => wpAny_pyIter_tupleiter st h
theorem turn_range {P : Program} {w : World} {K : PySem.W.Frag} {tg : Expr} (it : Addr) (lo : Int) (n : Nat) : Turn P w K tg (Itr lo n) [it] it (fun i h => IsRangeIter h it (lo + (i : Nat) * 1) ((n : Int) - (i : Nat)) 1) where
  mem := by simp
  obj := fun i h st b hb => by
    have e : b = it := by simpa using hb
    subst e
    exact ⟨_, st, fun v z => by
      have z' : Data.fields _ = Data.cell v := z
      cases z'⟩
  keep := fun i h h' st k => k it (by simp) _ st
  item := by
    intro X hP hw hK hc i pins s σ H E I hf st hg
    subst hP hw hK
    obtain ⟨f0, f1, f2, f3, f4, f5⟩ := hf it (by simp)
    have W := Walks.range (prog := X.prog) (w := X.w) (I.ok.hd hc) it lo 1 n
    refine W.item i s _ _ hg st fun v h' tk hv st' kk => ?_
    obtain ⟨t, rfl⟩ := hv
    have I1 : Inv X pins σ H { s with heap := h', toks := tk } := I.turned (fun b o hb e => kk b o (by simpa using hb) e) f0 f1 f3 f4 f5
    refine ⟨_, rfl, go_of (s := { s with heap := h', toks := tk }) (n := "range_iterator") st' rfl rfl (by decide) ⟨.int (lo + i), H, I1, ⟨t, ?_⟩, ⟨rfl, rfl⟩, st', fun b hb => (hf b hb).1⟩⟩
    rw [Int.mul_one]
  done := by
    intro X hP hw hK hc i pins s σ H E I hf st hg
    subst hP hw hK
    obtain ⟨f0, f1, f2, f3, f4, f5⟩ := hf it (by simp)
    exact wpAny_pyNext_range_end (I.ok.hd hc) st (by have : n ≤ i := hg; omega) fun h' eb => ⟨rfl, I.turned (t' := s.toks) (fun b o hb e => eb b o hb e) f0 f1 f3 f4 f5⟩
  self := fun _ _ _ _ _ st h => wpAny_pyIter_rangeiter st h
end L2

namespace L2
open PySem PySem.Spec PyProof.Rows
section
variable {X : Cx} {tg : Expr}
def iList (K : PySem.W.Frag) (tl : TE) : TI := fun σ H R => tl σ H fun x H1 => ∃ a, x = .ref a ∧ (∃ xs, SqL K H1 a xs) ∧ R (Itl K a) H1
def iTup (K : PySem.W.Frag) (tl : TE) : TI := fun σ H R => tl σ H fun x H1 => ∃ a, x = .ref a ∧ (∃ xs, SqT K H1 a xs) ∧ R (Itt K a) H1
theorem pi_list {l : Expr} {tl : TE} (hl : PE X l tl) : PI X tg l (iList X.K tl) := by
  intro pins s σ H R I h
  refine thn (hl pins s σ H _ I h) fun v s1 ⟨x, H1, I1, r1, q1⟩ => ?_
  obtain ⟨a, e, ⟨xs, hq⟩, q⟩ := q1
  subst e
  cases r1
  obtain ⟨its, rv, p, hz⟩ := I1.list hq
  refine wpAny_pyIter_list p.isList ?_
  refine ⟨s1.heap.objs.size, [s1.heap.objs.size], _, _, H1, rfl, I1.kept (t' := s1.toks) fun b o e => Heap.get?_push_of_some _ e, turn_list a _, ⟨_, Heap.get?_push_size _ rfl, rfl, rfl⟩, fun b hb => ?_, q⟩
  have e : b = s1.heap.objs.size := by simpa using hb
  subst e
  exact I1.fpOk (Nat.le_refl _) (I1.hok.fresh (Nat.le_refl _))
theorem pi_tup {l : Expr} {tl : TE} (hl : PE X l tl) : PI X tg l (iTup X.K tl) := by
  intro pins s σ H R I h
  refine thn (hl pins s σ H _ I h) fun v s1 ⟨x, H1, I1, r1, q1⟩ => ?_
  obtain ⟨a, e, ⟨xs, hq⟩, q⟩ := q1
  subst e
  cases r1
  obtain ⟨its, rv, p, hz⟩ := I1.tuple hq
  refine wpAny_pyIter_tuple (show s1.heap.IsTuple a its.toArray from p) ?_
  refine ⟨s1.heap.objs.size, [s1.heap.objs.size], _, _, H1, rfl, I1.kept (t' := s1.toks) fun b o e => Heap.get?_push_of_some _ e, turn_tuple a _, ⟨_, Heap.get?_push_size _ rfl, rfl, rfl⟩, fun b hb => ?_, q⟩
  have e : b = s1.heap.objs.size := by simpa using hb
  subst e
  exact I1.fpOk (Nat.le_refl _) (I1.hok.fresh (Nat.le_refl _))
/-- a range object just made, walked -/
theorem range_it {pins : List (Addr × Obj)} {σ : St} {H : Hp} {s : Shared} {R : It → Hp → Prop} {E : Value → Shared → Prop} {lo hi : Int} {t u v : Tok} {tk : Nat} (I : Inv X pins σ H s) (h1 : -(2 ^ 62) ≤ lo) (h2 : lo < 2 ^ 62) (h3 : -(2 ^ 62) ≤ hi) (h4 : hi < 2 ^ 62)
    (q : R (Itr lo (hi - lo).toNat) H) : wpAny (model X.prog X.w) X.A (pyIter (.ref s.heap.objs.size)) (PIE X pins σ tg R) E { s with heap := s.heap.push { cls := .type "range", data := .fields #[.int lo t, .int hi u, .int 1 v] }, toks := tk } := by
  refine wpAny_pyIter_range (IsRange.new ..) (small_one h1 h2 h3 h4) ?_
  have I1 : Inv X pins σ H { s with heap := s.heap.push { cls := .type "range", data := .fields #[.int lo t, .int hi u, .int 1 v] }, toks := tk } := I.kept fun b o e => Heap.get?_push_of_some _ e
  refine ⟨(s.heap.push { cls := .type "range", data := .fields #[.int lo t, .int hi u, .int 1 v] }).objs.size, [(s.heap.push { cls := .type "range", data := .fields #[.int lo t, .int hi u, .int 1 v] }).objs.size], _, _, H, rfl,
    I1.kept (t' := tk) fun b o e => Heap.get?_push_of_some _ e, turn_range _ lo (hi - lo).toNat, ?_, fun b hb => ?_, q⟩
  · have e1 : lo + ((0 : Nat) : Int) * 1 = lo := by simp
    have e2 : (((hi - lo).toNat : Nat) : Int) - ((0 : Nat) : Int) = Builtin.Range.rangeSize lo hi 1 := by rw [rangeSize_one]; split <;> omega
    show IsRangeIter _ _ (lo + ((0 : Nat) : Int) * 1) ((((hi - lo).toNat : Nat) : Int) - ((0 : Nat) : Int)) 1
    rw [e1, e2]
    exact Heap.get?_push_size _ rfl
  · have e : b = (s.heap.push { cls := .type "range", data := .fields #[.int lo t, .int hi u, .int 1 v] }).objs.size := by simpa using hb
    subst e
    exact I1.fpOk (Nat.le_refl _) (I1.hok.fresh (Nat.le_refl _))
def iRng1 (ta : TA) : TI := fun σ H R => ta σ H fun vs H1 => ∃ j : Int, vs = [.int j] ∧ -(2 ^ 62) ≤ j ∧ j < 2 ^ 62 ∧ R (Itr 0 j.toNat) H1
def iRng2 (ta : TA) : TI := fun σ H R => ta σ H fun vs H1 => ∃ i j : Int, vs = [.int i, .int j] ∧ (-(2 ^ 62) ≤ i ∧ i < 2 ^ 62 ∧ -(2 ^ 62) ≤ j ∧ j < 2 ^ 62) ∧ R (Itr i (j - i).toNat) H1
theorem pi_range1 {a : Expr} {ta : TA} {p pos : Pos} (hg : Gl X "range") (hm : X.mg "range" = none) (ha : PA X [a] ta) (hs : starEach [a] X.env = [(false, eval a X.env)] := by rfl) : PI X tg (.Call (.Name "range" p) [a] [] pos) (iRng1 ta) := by
  intro pins s σ H R I h
  refine Call_ (ld_blt I hg hm boot_range (PyProof.Rows.callWith_type1 (thn (ha pos pins s σ H _ I h) fun us s1 ⟨vs, H1, I1, r1, q1⟩ => ?_) hs rfl))
  obtain ⟨j, e, q1, q2, q⟩ := q1
  subst e
  cases r1 with
  | cons r rr =>
    cases rr
    obtain ⟨t, rfl⟩ := r
    exact call_range_1 (range_it I1 (by omega) (by omega) q1 q2 (by simpa using q))
/-! ### for -/
/-- W: the invariant by the turn and a measure; N: what the body is to reach -/
def tFor (wi : TI) (g : TG) (tb : TS) : TS := fun D σ H => wi σ H fun J H1 => ∃ W : Nat → Nat → St → Hp → Prop, (∃ m, W 0 m σ H1) ∧ ∀ i m σ H, W i m σ H →
  (J.stop i H ∧ D.nx σ H) ∨ (J.go i H ∧ ∃ N : St → Hp → Prop, (∀ σ' H', N σ' H' → ∃ m', m' < m ∧ W (i + 1) m' σ' H') ∧ ∀ x H', J.yld i H x H' → g x σ H' fun σ2 H2 => tb { D with nx := N, ct := N, bk := D.nx } σ2 H2)
/-- the records at fp as they stand -/
def pinsAt (fp : List Addr) (h : Heap) : List (Addr × Obj) := fp.filterMap fun b => (h.get? b).map fun o => (b, o)
theorem mem_pinsAt {fp : List Addr} {h : Heap} {b : Addr} {o : Obj} (hb : b ∈ fp) (e : h.get? b = some o) : (b, o) ∈ pinsAt fp h := List.mem_filterMap.mpr ⟨b, hb, by rw [e]; rfl⟩
theorem of_pinsAt {fp : List Addr} {h : Heap} {p : Addr × Obj} (hp : p ∈ pinsAt fp h) : p.1 ∈ fp ∧ h.get? p.1 = some p.2 := by
  obtain ⟨b, hb, e⟩ := List.mem_filterMap.mp hp
  cases q : h.get? b with
  | none => rw [q] at e; cases e
  | some o =>
    rw [q] at e
    have e' : (b, o) = p := Option.some.inj e
    subst e'
    exact ⟨hb, q⟩
theorem Inv.pinned {pins : List (Addr × Obj)} {σ : St} {H : Hp} {s : Shared} {fp : List Addr} (I : Inv X pins σ H s) (hf : ∀ b ∈ fp, FpOk X pins H b) (ho : ∀ b ∈ fp, ∃ o, s.heap.get? b = some o ∧ ∀ v, o.data ≠ .cell v) : Inv X (pins ++ pinsAt fp s.heap) σ H s :=
  I.pins_of fun p hp => (List.mem_append.mp hp).elim (fun z => I.pin p (List.mem_append_right _ z)) fun z => by
    obtain ⟨hb, e⟩ := of_pinsAt z
    obtain ⟨f0, f1, f2, _⟩ := hf p.1 hb
    obtain ⟨o, e', d⟩ := ho p.1 hb
    rw [e] at e'; cases e'
    exact ⟨e, f0, f1, f2, d⟩
theorem Inv.unpinned {pins pl : List (Addr × Obj)} {σ : St} {H : Hp} {s : Shared} (I : Inv X (pins ++ pl) σ H s) : Inv X pins σ H s := I.pins_of fun p hp => I.pin p (List.mem_append_right _ (List.mem_append_left _ hp))
theorem ps_for {iter : Expr} {body : List Stmt} {wi : TI} {g : TG} {tb : TS} {pos : Pos} (hp : PassesOwn (model X.prog X.w) X.A X.env X.xe) (hc : X.calm = true) (hi : PI X tg iter wi) (hg : PG X tg g) (hb : PSs X body tb)
    (hs : ∀ x, foldedSetIterable iter X.env x = pure x := by intro _; rfl) : PS X (.For tg iter body [] pos) (tFor wi g tb) := by
  intro pins s σ H D I h
  refine wpAny_For (thn (hi pins s σ H _ I h) fun v s1 h1 => thn h1 fun itv s2 h2 => ?_) hs
  obtain ⟨it, fp, tn, J, H2, e, I2, T, st2, f2, W, ⟨m0, w0⟩, turn⟩ := h2
  subst e
  -- what stays true of the iterator's objects through the loop
  have stat : ∀ {H' : Hp}, (∀ b ∈ fp, H' b = none) → ∀ b ∈ fp, FpOk X pins H' b := fun hn b hb => ⟨hn b hb, (f2 b hb).2⟩
  refine codeAny_forLoop_any (fun n s' => ∃ i σ' H', Inv X pins σ' H' s' ∧ tn i s'.heap ∧ (∀ b ∈ fp, H' b = none) ∧ W i n σ' H') ?_ m0 ⟨0, σ, H2, I2, st2, fun b hb => (f2 b hb).1, w0⟩
  rintro n s3 ⟨i, σ3, H3, I3, st3, fr3, w3⟩
  rcases turn i n σ3 H3 w3 with ⟨stop, qn⟩ | ⟨go, N, hN, step⟩
  · refine wpAny_passesOwn hp (thn (T.done X rfl rfl rfl hc i pins s3 σ3 H3 X.xe I3 (stat fr3) st3 stop) fun r s4 ⟨hr, I4⟩ => ?_)
    subst hr
    exact wpAny_execs_nil ⟨σ3, H3, I4, qn⟩
  · refine wpAny_passesOwn hp (thn (T.item X rfl rfl rfl hc i pins s3 σ3 H3 X.xe I3 (stat fr3) st3 go) fun r s4 ⟨u, hr, h4⟩ => ?_)
    subst hr
    refine wpAny_passesOwn hp (thn h4 fun _ s5 ⟨x, H5, I5, r5, y5, st5, fr5⟩ => ?_)
    have I5' := I5.pinned (stat fr5) (T.obj _ _ st5)
    refine wpAny_passesOwn hp (thn (hg _ s5 σ3 H5 x u _ I5' r5 (step x H5 y5)) fun _ s6 ⟨σ6, H6, I6, q6⟩ => ?_)
    refine wpAny_passesOwn hp (thn (hb _ s6 σ6 H6 _ I6 q6) fun f s7 q7 => ?_)
    have again : ∀ {σ7 : St} {H7 : Hp}, Inv X (pins ++ pinsAt fp s5.heap) σ7 H7 s7 → N σ7 H7 → ∃ m, m < n ∧ ∃ i σ' H', Inv X pins σ' H' s7 ∧ tn i s7.heap ∧ (∀ b ∈ fp, H' b = none) ∧ W i m σ' H' := fun {σ7 H7} I7 n7 => by
      obtain ⟨m', hm, w7⟩ := hN σ7 H7 n7
      refine ⟨m', hm, i + 1, σ7, H7, I7.unpinned, T.keep _ _ _ st5 fun b hb o e => (I7.pin (b, o) (List.mem_append_right _ (List.mem_append_right _ (mem_pinsAt hb e)))).1, fun b hb => ?_, w7⟩
      obtain ⟨o, e, d⟩ := T.obj _ _ st5 b hb
      exact (I7.pin (b, o) (List.mem_append_right _ (List.mem_append_right _ (mem_pinsAt hb e)))).2.1
    cases f with
    | next => obtain ⟨σ7, H7, I7, n7⟩ := q7; exact again I7 n7
    | cont => obtain ⟨σ7, H7, I7, n7⟩ := q7; exact again I7 n7
    | brk => obtain ⟨σ7, H7, I7, q7⟩ := q7; exact ⟨σ7, H7, I7.unpinned, q7⟩
    | ret v => obtain ⟨x7, σ7, H7, I7, r7, q7⟩ := q7; exact ⟨x7, σ7, H7, I7.unpinned, r7, q7⟩
end

/-! ### the forms one uses -/
end L2

namespace L2
open PySem PySem.Spec PyProof.Rows

abbrev R2 := V → V → Hp → VK → Prop
/-- a two-place operation on values: f is binaryOp op, inplaceOp op or compareOp op -/
def OpR (X : Cx) (f : Value → Value → Sem Value) (r : R2) : Prop :=
  ∀ (pins : List (Addr × Obj)) (s : Shared) (σ : St) (H : Hp) (x y : V) (v u : Value) (Q : VK), Inv X pins σ H s → RelV x v → RelV y u → r x y H Q →
    wpAny (model X.prog X.w) X.A (f v u) (EP X pins σ Q) X.xe s
/-- a one-place operation -/
def UnR (X : Cx) (f : Value → Sem Value) (r : V → Hp → VK → Prop) : Prop :=
  ∀ (pins : List (Addr × Obj)) (s : Shared) (σ : St) (H : Hp) (x : V) (v : Value) (Q : VK), Inv X pins σ H s → RelV x v → r x H Q →
    wpAny (model X.prog X.w) X.A (f v) (EP X pins σ Q) X.xe s
/-- a call of a value that is known (a builtin, a type) with values -/
def CallR (X : Cx) (f : Value) (r : List V → Hp → VK → Prop) : Prop :=
  ∀ (pins : List (Addr × Obj)) (s : Shared) (σ : St) (H : Hp) (xs : List V) (us : List Value) (Q : VK), Inv X pins σ H s → Vals xs us → r xs H Q →
    wpAny (model X.prog X.w) X.A (call f us) (EP X pins σ Q) X.xe s
def tOp (r : R2) (ta tb : TE) : TE := fun σ H Q => ta σ H fun x H1 => tb σ H1 fun y H2 => r x y H2 Q
def tUn (r : V → Hp → VK → Prop) (ta : TE) : TE := fun σ H Q => ta σ H fun x H1 => r x H1 Q
/-- ints in, under C, and a value out -/
def rI (C : Int → Int → Prop) (g : Int → Int → V) : R2 := fun x y H Q => ∃ i j, x = .int i ∧ y = .int j ∧ C i j ∧ Q (g i j) H
def rI0 (g : Int → Int → V) : R2 := fun x y H Q => ∃ i j, x = .int i ∧ y = .int j ∧ Q (g i j) H
def rU (g : Int → V) : V → Hp → VK → Prop := fun x H Q => ∃ i, x = .int i ∧ Q (g i) H

section
variable {X : Cx} {a b c : Expr} {ta tb tc : TE} {pos : Pos}

theorem binT (ha : PE X a ta) (hb : PE X b tb) {pins : List (Addr × Obj)} {s : Shared} {σ : St} {H : Hp} {R : V → V → Hp → Prop} (I : Inv X pins σ H s)
    (h : ta σ H fun x H1 => tb σ H1 fun y H2 => R x y H2) {Q : Value → Shared → Prop} {f : Value → Value → Sem Value}
    (hf : ∀ v u s2 x y H2, Inv X pins σ H2 s2 → RelV x v → RelV y u → R x y H2 → wpAny (model X.prog X.w) X.A (f v u) Q X.xe s2) :
    wpAny (model X.prog X.w) X.A (eval a X.env) (fun v s₁ => wpAny (model X.prog X.w) X.A (eval b X.env) (fun u s₂ => wpAny (model X.prog X.w) X.A (f v u) Q X.xe s₂) X.xe s₁) X.xe s := by
  refine thn (ha pins s σ H _ I h) fun v s1 ⟨x, H1, I1, r1, q1⟩ => ?_
  refine thn (hb pins s1 σ H1 _ I1 q1) fun u s2 ⟨y, H2, I2, r2, q2⟩ => ?_
  exact hf v u s2 x y H2 I2 r1 r2 q2

theorem pe_op {op : Operator} {r : R2} (ho : OpR X (binaryOp op) r) (ha : PE X a ta) (hb : PE X b tb) : PE X (.BinOp a op b pos) (tOp r ta tb) := by
  intro pins s σ H Q I h
  exact wpAny_BinOp (binT ha hb I h fun v u s2 x y H2 I2 rx ry q => ho pins s2 σ H2 x y v u Q I2 rx ry q)
theorem pe_un {op : UnaryOp} {r : V → Hp → VK → Prop} (ho : UnR X (unaryOp op) r) (ha : PE X a ta) : PE X (.UnaryOp op a pos) (tUn r ta) := by
  intro pins s σ H Q I h
  exact UnaryOp_ (thn (ha pins s σ H _ I h) fun v s1 ⟨x, H1, I1, r1, q1⟩ => ho pins s1 σ H1 x v Q I1 r1 q1)
/-! ### ints -/
theorem opI {f : Value → Value → Sem Value} {C : Int → Int → Prop} {g : Int → Int → Int}
    (rule : ∀ (i j : Int) (t u : Tok) (s : Shared) (Q : Value → Shared → Prop) (E : Value → Shared → Prop), C i j → Q (.int (g i j) s.toks) { s with toks := s.toks + 1 } → wpAny (model X.prog X.w) X.A (f (.int i t) (.int j u)) Q E s) :
    OpR X f (rI C fun i j => .int (g i j)) := by
  intro pins s σ H x y v u Q I rx ry h
  obtain ⟨i, j, rfl, rfl, hc, q⟩ := h
  obtain ⟨t, rfl⟩ := rx
  obtain ⟨t', rfl⟩ := ry
  exact rule i j t t' s _ _ hc ⟨.int (g i j), H, I.tok _, ⟨_, rfl⟩, q⟩
theorem opI0 {f : Value → Value → Sem Value} {g : Int → Int → Int}
    (rule : ∀ (i j : Int) (t u : Tok) (s : Shared) (Q : Value → Shared → Prop) (E : Value → Shared → Prop), Q (.int (g i j) s.toks) { s with toks := s.toks + 1 } → wpAny (model X.prog X.w) X.A (f (.int i t) (.int j u)) Q E s) :
    OpR X f (rI0 fun i j => .int (g i j)) := by
  intro pins s σ H x y v u Q I rx ry h
  obtain ⟨i, j, rfl, rfl, q⟩ := h
  obtain ⟨t, rfl⟩ := rx
  obtain ⟨t', rfl⟩ := ry
  exact rule i j t t' s _ _ ⟨.int (g i j), H, I.tok _, ⟨_, rfl⟩, q⟩
theorem opB0 {f : Value → Value → Sem Value} {g : Int → Int → Bool}
    (rule : ∀ (i j : Int) (t u : Tok) (s : Shared) (Q : Value → Shared → Prop) (E : Value → Shared → Prop), Q (.bool (g i j)) s → wpAny (model X.prog X.w) X.A (f (.int i t) (.int j u)) Q E s) :
    OpR X f (rI0 fun i j => .bl (g i j)) := by
  intro pins s σ H x y v u Q I rx ry h
  obtain ⟨i, j, rfl, rfl, q⟩ := h
  obtain ⟨t, rfl⟩ := rx
  obtain ⟨t', rfl⟩ := ry
  exact rule i j t t' s _ _ ⟨.bl (g i j), H, I, rfl, q⟩

def CPow (i j : Int) : Prop := 0 ≤ j ∧ j ≤ 1000000 ∧ i.natAbs < 2 ^ 64
theorem op_add : OpR X (binaryOp .Add) (rI0 fun i j => .int (i + j)) := opI0 fun _ _ _ _ _ _ _ q => add_int q
theorem op_sub : OpR X (binaryOp .Sub) (rI0 fun i j => .int (i - j)) := opI0 fun _ _ _ _ _ _ _ q => sub_int q
/-- % by a positive divisor of any size -/
theorem op_mod : OpR X (binaryOp .Mod) (rI (fun _ j => 0 < j) fun i j => .int (i % j)) := opI fun i j _ _ _ _ _ hc q => by
  have h1 : (0 : Int) < j := hc
  exact mod_int' (by omega) (by rw [Int.fmod_eq_emod_of_nonneg i (by omega)]; exact q)
theorem op_pow : OpR X (binaryOp .Pow) (rI CPow fun i j => .int (i ^ j.toNat)) := opI fun _ _ _ _ _ _ _ hc q => pow_int_small hc.1 hc.2.1 hc.2.2 q
theorem unI {f : Value → Sem Value} {g : Int → Int}
    (rule : ∀ (i : Int) (t : Tok) (s : Shared) (Q : Value → Shared → Prop) (E : Value → Shared → Prop), Q (.int (g i) s.toks) { s with toks := s.toks + 1 } → wpAny (model X.prog X.w) X.A (f (.int i t)) Q E s) :
    UnR X f (rU fun i => .int (g i)) := by
  intro pins s σ H x v Q I rx h
  obtain ⟨i, rfl, q⟩ := h
  obtain ⟨t, rfl⟩ := rx
  exact rule i t s _ _ ⟨.int (g i), H, I.tok _, ⟨_, rfl⟩, q⟩
theorem un_neg : UnR X (unaryOp .USub) (rU fun i => .int (-i)) := unI fun _ _ _ _ _ q => neg_int q
/-! ### bools among ints: n += (a < b) -/
end

/-! ### comparisons -/
/-- the scalars that == tells apart as data does -/
def scal : V → V → Bool
  | .non, .non => true | .non, .int _ => true | .int _, .non => true | .non, .bl _ => true | .bl _, .non => true | .non, .str _ => true | .str _, .non => true
  | .int _, .int _ => true | .bl _, .bl _ => true | .str _, .str _ => true | .byt _, .byt _ => true
  | .int _, .str _ => true | .str _, .int _ => true | .bl _, .str _ => true | .str _, .bl _ => true
  | _, _ => false
def rEq : R2 := fun x y H Q => scal x y = true ∧ Q (.bl (decide (x = y))) H
def rNe : R2 := fun x y H Q => scal x y = true ∧ Q (.bl (!decide (x = y))) H

theorem dec_int {i j : Int} : decide (V.int i = V.int j) = (i == j) := by
  rw [Bool.eq_iff_iff]
  simp
theorem dec_bl {i j : Bool} : decide (V.bl i = V.bl j) = (i == j) := by
  rw [Bool.eq_iff_iff]
  simp
theorem dec_str {i j : Str} : decide (V.str i = V.str j) = (i == j) := by
  rw [Bool.eq_iff_iff]
  simp
theorem dec_byt {i j : Array UInt8} : decide (V.byt i = V.byt j) = (i.toList == j.toList) := by
  rw [Bool.eq_iff_iff]
  cases i
  cases j
  simp

section
variable {X : Cx} {a b c : Expr} {ta tb tc : TE} {pos : Pos}
theorem fin_bl {pins : List (Addr × Obj)} {σ : St} {H : Hp} {s : Shared} {Q : VK} {k k' : Bool} (I : Inv X pins σ H s) (q : Q (.bl k) H) (e : k = k') : EP X pins σ Q (.bool k') s := by
  subst e
  exact ⟨.bl k, H, I, rfl, q⟩
theorem op_eq : OpR X (compareOp .Eq) rEq := by
  intro pins s σ H x y v u Q I rx ry h
  obtain ⟨hs, q⟩ := h
  cases x with
  | non =>
    cases rx
    cases y with
    | non => cases ry; exact PySem.EqNone.eq_none_none (fin_bl I q (by simp))
    | bl j => cases ry; exact PySem.EqNone.eq_none_bool (fin_bl I q (by simp))
    | int j => obtain ⟨t', rfl⟩ := ry; exact PySem.EqNone.eq_none_int (fin_bl I q (by simp))
    | str j => obtain ⟨t', rfl⟩ := ry; exact PySem.EqNone.eq_none_str (fin_bl I q (by simp))
    | _ => exact absurd (show false = true from hs) Bool.false_ne_true
  | bl i =>
    cases rx
    cases y with
    | non => cases ry; exact PySem.EqNone.eq_bool_none (fin_bl I q (by simp))
    | bl j => cases ry; exact eq_bool (fin_bl I q dec_bl)
    | str j => obtain ⟨t', rfl⟩ := ry; exact PySem.EqMixed.eq_bool_str (fin_bl I q (by simp))
    | _ => exact absurd (show false = true from hs) Bool.false_ne_true
  | int i =>
    obtain ⟨t, rfl⟩ := rx
    cases y with
    | non => cases ry; exact PySem.EqNone.eq_int_none (fin_bl I q (by simp))
    | int j => obtain ⟨t', rfl⟩ := ry; exact eq_int (fin_bl I q dec_int)
    | str j => obtain ⟨t', rfl⟩ := ry; exact PySem.EqMixed.eq_int_str (fin_bl I q (by simp))
    | _ => exact absurd (show false = true from hs) Bool.false_ne_true
  | str i =>
    obtain ⟨t, rfl⟩ := rx
    cases y with
    | non => cases ry; exact PySem.EqNone.eq_str_none (fin_bl I q (by simp))
    | bl j => cases ry; exact PySem.EqMixed.eq_str_bool (fin_bl I q (by simp))
    | int j => obtain ⟨t', rfl⟩ := ry; exact PySem.EqMixed.eq_str_int (fin_bl I q (by simp))
    | str j => obtain ⟨t', rfl⟩ := ry; exact eq_str (fin_bl I q dec_str)
    | _ => exact absurd (show false = true from hs) Bool.false_ne_true
  | byt i =>
    obtain ⟨t, rfl⟩ := rx
    cases y with
    | byt j => obtain ⟨t', rfl⟩ := ry; exact PySem.W.eq_bytes (fin_bl I q dec_byt)
    | _ => exact absurd (show false = true from hs) Bool.false_ne_true
  | _ => cases y <;> exact absurd (show false = true from hs) Bool.false_ne_true
theorem op_ne : OpR X (compareOp .NotEq) rNe := by
  intro pins s σ H x y v u Q I rx ry h
  obtain ⟨hs, q⟩ := h
  cases x with
  | non =>
    cases rx
    cases y with
    | non => cases ry; exact PySem.EqNone.ne_none_none (fin_bl I q (by simp))
    | bl j => cases ry; exact PySem.EqNone.ne_none_bool (fin_bl I q (by simp))
    | int j => obtain ⟨t', rfl⟩ := ry; exact PySem.EqNone.ne_none_int (fin_bl I q (by simp))
    | str j => obtain ⟨t', rfl⟩ := ry; exact PySem.EqNone.ne_none_str (fin_bl I q (by simp))
    | _ => exact absurd (show false = true from hs) Bool.false_ne_true
  | bl i =>
    cases rx
    cases y with
    | non => cases ry; exact PySem.EqNone.ne_bool_none (fin_bl I q (by simp))
    | bl j => cases ry; exact ne_bool (fin_bl I q (congrArg not dec_bl))
    | str j => obtain ⟨t', rfl⟩ := ry; exact PySem.EqMixed.ne_bool_str (fin_bl I q (by simp))
    | _ => exact absurd (show false = true from hs) Bool.false_ne_true
  | int i =>
    obtain ⟨t, rfl⟩ := rx
    cases y with
    | non => cases ry; exact PySem.EqNone.ne_int_none (fin_bl I q (by simp))
    | int j => obtain ⟨t', rfl⟩ := ry; exact ne_int (fin_bl I q (congrArg not dec_int))
    | str j => obtain ⟨t', rfl⟩ := ry; exact PySem.EqMixed.ne_int_str (fin_bl I q (by simp))
    | _ => exact absurd (show false = true from hs) Bool.false_ne_true
  | str i =>
    obtain ⟨t, rfl⟩ := rx
    cases y with
    | non => cases ry; exact PySem.EqNone.ne_str_none (fin_bl I q (by simp))
    | bl j => cases ry; exact PySem.EqMixed.ne_str_bool (fin_bl I q (by simp))
    | int j => obtain ⟨t', rfl⟩ := ry; exact PySem.EqMixed.ne_str_int (fin_bl I q (by simp))
    | str j => obtain ⟨t', rfl⟩ := ry; exact ne_str (fin_bl I q (congrArg not dec_str))
    | _ => exact absurd (show false = true from hs) Bool.false_ne_true
  | byt i =>
    obtain ⟨t, rfl⟩ := rx
    cases y with
    | byt j => obtain ⟨t', rfl⟩ := ry; exact PySem.W.ne_bytes (fin_bl I q (congrArg not dec_byt))
    | _ => exact absurd (show false = true from hs) Bool.false_ne_true
  | _ => cases y <;> exact absurd (show false = true from hs) Bool.false_ne_true

theorem op_lt : OpR X (compareOp .Lt) (rI0 fun i j => .bl (decide (i < j))) := opB0 fun _ _ _ _ _ _ _ q => lt_int q
theorem op_ge : OpR X (compareOp .GtE) (rI0 fun i j => .bl (decide (j ≤ i))) := opB0 fun _ _ _ _ _ _ _ q => ge_int q
/-- is None, is not None: the right side a value none -/
theorem op_isN : OpR X (compareOp .Is) (fun x y H Q => y = .non ∧ Q (.bl (decide (x = .non))) H) := by
  intro pins s σ H x y v u Q I rx ry h
  obtain ⟨rfl, q⟩ := h
  cases ry
  refine is_none_gen (fin_bl I q ?_)
  cases x <;> first
    | (cases rx; rfl)
    | (obtain ⟨t, rfl⟩ := rx; rfl)
theorem op_notN : OpR X (compareOp .IsNot) (fun x y H Q => y = .non ∧ Q (.bl (!decide (x = .non))) H) := by
  intro pins s σ H x y v u Q I rx ry h
  obtain ⟨rfl, q⟩ := h
  cases ry
  refine isnot_none_gen (fin_bl I q ?_)
  cases x <;> first
    | (cases rx; rfl)
    | (obtain ⟨t, rfl⟩ := rx; rfl)

theorem nomark (b : Expr) {op : CmpOp} (h : op ≠ .In := by decide) (h2 : op ≠ .NotIn := by decide) : behindInMarks op b = false := by
  have e1 : (op == CmpOp.In) = false := by cases op <;> first | rfl | exact absurd rfl h
  have e2 : (op == CmpOp.NotIn) = false := by cases op <;> first | rfl | exact absurd rfl h2
  cases b <;> simp [behindInMarks, e1, e2]
/-- a comparison as a value; hm: nomark b, or (for in, not in) by with_unfolding_all rfl -/
theorem pe_cmpR {op : CmpOp} {r : R2} (ho : OpR X (compareOp op) r) (ha : PE X a ta) (hb : PE X b tb) (hm : behindInMarks op b = false) : PE X (.Compare a [op] [b] pos) (tOp r ta tb) := by
  intro pins s σ H Q I h
  exact wpAny_Compare1 (binT ha hb I h fun v u s2 x y H2 I2 rx ry q => ho pins s2 σ H2 x y v u Q I2 rx ry q) hm
/-- a reading of a value as a test -/
def tTest (t : TE) : TT := fun σ H Q => t σ H fun x H' => ∃ k, x = .bl k ∧ Q k H'
theorem pt_cmpR {op : CmpOp} {r : R2} (ho : OpR X (compareOp op) r) (ha : PE X a ta) (hb : PE X b tb) (hm : behindInMarks op b = false) : PT X (.Compare a [op] [b] pos) (tTest (tOp r ta tb)) := by
  intro pins s σ H Q I h
  refine wpAny_isTrue_Compare1 (thn (ha pins s σ H _ I h) fun v s1 ⟨x, H1, I1, r1, q1⟩ => thn (hb pins s1 σ H1 _ I1 q1) fun u s2 ⟨y, H2, I2, r2, q2⟩ =>
    thn (ho pins s2 σ H2 x y v u _ I2 r1 r2 q2) fun c s3 ⟨z, H3, I3, r3, k, e, q3⟩ => ?_) hm
  subst e
  cases r3
  exact wpAny_truthy_bool ⟨H3, I3, q3⟩
/-- a op1 b op2 c -/
def tChain (r r' : R2) (ta tb tc : TE) : TE := fun σ H Q => ta σ H fun x H1 => tb σ H1 fun y H2 => r x y H2 fun z H3 => ∃ k, z = .bl k ∧
  (if k = true then tc σ H3 fun w' H4 => r' y w' H4 Q else Q (.bl false) H3)
/-! ### truth -/
theorem line63 : (sizeLine : Nat) < 2 ^ 63 := by rw [sizeLine_eq]; decide
/-! ### strs and bytes -/
/-! ### scalar builtins, by CallR -/
theorem vals1 {x : V} {us : List Value} (r : Vals [x] us) : ∃ u, us = [u] ∧ RelV x u := by
  cases r with
  | cons r1 r2 => cases r2; exact ⟨_, rfl, r1⟩
theorem vals2 {x y : V} {us : List Value} (r : Vals [x, y] us) : ∃ u w', us = [u, w'] ∧ RelV x u ∧ RelV y w' := by
  cases r with
  | cons r1 r2 =>
    cases r2 with
    | cons r3 r4 => cases r4; exact ⟨_, _, rfl, r1, r3⟩
/-- len of a str, a bytes, a list, a tuple -/
def LenV (K : PySem.W.Frag) (x : V) (H : Hp) (n : Nat) : Prop :=
  match x with
  | .str y => y.length ≤ sizeLine ∧ n = y.length
  | .byt y => y.size ≤ sizeLine ∧ n = y.size
  | .ref p => (∃ xs, SqL K H p xs ∧ n = xs.length) ∨ ∃ xs, SqT K H p xs ∧ n = xs.length
  | _ => False
theorem call_len : CallR X (.builtin "len") (fun xs H Q => ∃ x n, xs = [x] ∧ LenV X.K x H n ∧ Q (.int n) H) := by
  intro pins s σ H xs us Q I r h
  obtain ⟨x, n, rfl, e, q⟩ := h
  obtain ⟨u, rfl, rx⟩ := vals1 r
  have hl := line63
  have hs : sizeLine = 16777216 := sizeLine_eq
  cases x with
  | str y =>
    obtain ⟨t, rfl⟩ := rx
    obtain ⟨hy, e'⟩ : y.length ≤ sizeLine ∧ n = y.length := e
    subst e'
    exact len_str (by omega) ⟨.int _, H, I.tok _, ⟨_, rfl⟩, q⟩
  | byt y =>
    obtain ⟨t, rfl⟩ := rx
    obtain ⟨hy, e'⟩ : y.size ≤ sizeLine ∧ n = y.size := e
    subst e'
    exact PySem.W.len_bytes (by omega) ⟨.int _, H, I.tok _, ⟨_, rfl⟩, q⟩
  | ref p =>
    cases rx
    have e' : (∃ xs, SqL X.K H p xs ∧ n = xs.length) ∨ ∃ xs, SqT X.K H p xs ∧ n = xs.length := e
    rcases e' with ⟨xs, hx, e'⟩ | ⟨xs, hx, e'⟩
    · subst e'
      obtain ⟨its, r', pl, hz⟩ := I.list hx
      have hlen := r'.length
      exact Calls.call_len_list pl.isList (by simp only [List.size_toArray]; omega) ⟨.int xs.length, H, I.tok _, ⟨_, by simp only [List.size_toArray]; rw [hlen]⟩, q⟩
    · subst e'
      obtain ⟨its, r', pl, hz⟩ := I.tuple hx
      have hlen := r'.length
      exact len_tuple pl (by simp only [List.size_toArray]; omega) ⟨.int xs.length, H, I.tok _, ⟨_, by simp only [List.size_toArray]; rw [hlen]⟩, q⟩
  | _ => exact (show False from e).elim
end
end L2

namespace L2
open PySem PySem.Spec PyProof.Rows

/-! ### an instance, its attributes a map -/
structure ObjM (h : Heap) (x dx C : Addr) (mA : Str → Option Value) : Prop where
  obj : h.get? x = some (PySem.W.instObj C dx)
  ns : h.Ns1 dx mA
  ne : dx ≠ x

theorem lookIn_ns {h : Heap} {dx : Addr} {mA : Str → Option Value} (n : h.Ns1 dx mA) : ∃ od, h.get? dx = some od ∧ ∀ name, PySem.W.lookIn name od = some (mA name) := by
  obtain ⟨o, es, ep, ho, hd, hk, _, hm⟩ := n
  refine ⟨o, ho, fun name => ?_⟩
  have e := hm name
  unfold nsFind findBy at e
  rw [← Array.find?_toList] at e
  unfold PySem.W.lookIn
  rw [hd]
  dsimp only
  split
  · rename_i y q
    rw [q] at e
    exact congrArg some e
  · rename_i q
    rw [q] at e
    have a : es.toList.any (·.refKey) = false := by
      rw [List.any_eq_false]
      intro y hy
      obtain ⟨z, t, hkey⟩ := hk y (Array.mem_toList_iff.mp hy)
      simp [DictEntry.refKey, hkey]
    have a' : ¬ es.toList.any (·.refKey) = true := by rw [a]; exact Bool.false_ne_true
    rw [if_neg a']
    exact congrArg some e

theorem ObjM.look {h : Heap} {x dx C : Addr} {mA : Str → Option Value} (I : ObjM h x dx C mA) : ∃ od, PySem.W.InstAt h x (PySem.W.instObj C dx) C (some od) ∧ ∀ name, PySem.W.lookIn name od = some (mA name) :=
  let ⟨od, ho, hl⟩ := lookIn_ns I.ns
  ⟨od, ⟨I.obj, rfl, rfl, ho⟩, hl⟩

section
variable {prog : Program} {w : World} {A : Around} {E : Value → Shared → Prop} {s : Shared} {K : PySem.W.Frag} {x dx C f : Addr} {mA : Str → Option Value} {name : Str} {v : Value}

theorem get_map {expr : Bool} {Q : Value → Shared → Prop} (X : K.In s.heap) (I : ObjM s.heap x dx C mA) (hg : PySem.W.plainGet K C name = true) (hh : PySem.W.hasDictIn K C = true)
    (ha : PySem.W.findIn K (.ref C) name = some none) (hv : mA name = some v) (hv' : PySem.W.handedIn v = true) (h : Q v { s with toks := s.toks + 1 }) :
    wpAny (model prog w) A (getAttr (.ref x) name expr) Q E s := by
  obtain ⟨od, J, hl⟩ := I.look
  exact PySem.W.get_value X J (PySem.W.plainGet_of hg).1 (PySem.W.findObj_own hh ha rfl (by rw [hl, hv])) hv' h

theorem get_meth {pl : Sem Bool} {Q : Value × List Value → Shared → Prop} (X : K.In s.heap) (I : ObjM s.heap x dx C mA) (hg : PySem.W.plainGet K C name = true)
    (hf : PySem.W.findIn K (.ref C) name = some (some (.ref f))) (ht : PySem.W.isFn K (.ref f) = true) (hv : mA name = none) (h : Q (.ref f, [.ref x]) s) :
    wpAny (model prog w) A (getMethod (.ref x) name pl) Q E s := by
  obtain ⟨od, J, hl⟩ := I.look
  exact PySem.W.method_fn X J (PySem.W.plainGet_of hg).1 (PySem.W.plainGet_of hg).2 hf (beq_iff_eq.mp ht) (by show (PySem.W.lookIn name od).map (·.isSome) = some false; rw [hl, hv]; rfl) h

theorem set_map {ns : List Str} {Q : Unit → Shared → Prop} (X : K.In s.heap) (I : ObjM s.heap x dx C mA)
    (hs : PySem.W.findIn K (.ref C) "__setattr__" = some (some (.builtin "object.__setattr__"))) (hp : PySem.W.plainOver K C = true) (ht : PySem.W.takerIn K C name = some none) (hh : PySem.W.hasDictIn K C = true)
    (hw : PySem.Within mA ns) (hsz : ns.length ≤ sizeLine)
    (h : ∀ h', ObjM h' x dx C (fun y => if y = name then some v else mA y) → Heap.SameBut dx s.heap h' → Q () { s with heap := h', toks := s.toks + 2 }) :
    wpAny (model prog w) A (setAttr (.ref x) name v) Q E s := by
  obtain ⟨od, J, hl⟩ := I.look
  refine PySem.W.set_plain X J hs (PySem.W.osa_open (s := { s with toks := s.toks + 1 }) (r := none) X J hp ht fun b => ?_)
  obtain ⟨cd, hc, hd'⟩ := PySem.W.any_some hh
  have hx : s.heap.get? x = some ⟨.ref C, some dx, .plain, #[]⟩ := I.obj
  refine wpAny_bind (wpAny_pure (wpAny_bind (wpAny_bind (wpAny_loadPart hx (wpAny_bind (PySem.W.Looks.here (s := { s with toks := s.toks + 1 }) (PySem.W.looks_clsIn X hc) ?_))))))
  rw [hd']
  refine wpAny_pure (a := some dx) (wpAny_bind (wpAny_pure (wpAny_bind ?_)))
  refine wpAny_nsSet1 (s := { s with toks := s.toks + 1 }) I.ns fun h' hn2 hs2 => ?_
  obtain ⟨oD, esD, epD, hoD, hdD, hcD⟩ := hn2.count (PySem.Within.cons name v hw)
  refine wpAny_bind (wpAny_lookBehind hoD (by rw [hdD]; exact pastItsLine_dict (Nat.le_trans hcD (by rw [List.length_cons]; omega))) ?_)
  exact wpAny_pure (h _ ⟨(hs2.2 _ (Ne.symm I.ne)).trans I.obj, hn2, I.ne⟩ hs2)

/-- C(..): the dict at the heap's end, the instance behind it; then its __init__ -/
theorem make_map {R : Result → Shared → Prop} {vs : List Value} {kw : List (Str × Value)} (X : K.In s.heap) (hm : PySem.W.makesIn K C = true)
    (hi : PySem.W.findIn K (.ref C) "__init__" = some (some (.ref f))) (hf : PySem.W.typeIn K (.ref f) = some (.type "function"))
    (h : codeAny (model prog w) (A.under (.builtin "type.__call__" ⟨.ref C :: vs, kw⟩)) (.call (.ref f) ⟨.ref (s.heap.objs.size + 1) :: vs, kw⟩) (PySem.W.InitBack (s.heap.objs.size + 1) R)
      { s with heap := (s.heap.push PySem.W.emptyDict).push (PySem.W.instObj C s.heap.objs.size) }) :
    codeAny (model prog w) A (.call (.ref C) ⟨vs, kw⟩) R s := by
  obtain ⟨hh, g, d, t, os⟩ := s
  exact PySem.W.make_core (PySem.W.makes_of X hm) (PySem.W.looks_findIn X hi) (fun self => PySem.W.bind_fn X self hf) (.inl rfl) h
/-- C() where there is no __init__ but object's -/
theorem make_map0 {R : Result → Shared → Prop} (X : K.In s.heap) (hm : PySem.W.makesIn K C = true)
    (hi : PySem.W.findIn K (.ref C) "__init__" = some (some (.builtin "object.__init__")))
    (hb : ∀ self, PySem.W.Looks (model prog w) s.heap (bindSpecial (.builtin "object.__init__") self) (.builtin "object.__init__", [self]))
    (h : codeAny (model prog w) (A.under (.builtin "type.__call__" ⟨[.ref C], []⟩)) (.call (.builtin "object.__init__") ⟨[.ref (s.heap.objs.size + 1)], []⟩) (PySem.W.InitBack (s.heap.objs.size + 1) R)
      { s with heap := (s.heap.push PySem.W.emptyDict).push (PySem.W.instObj C s.heap.objs.size) }) :
    codeAny (model prog w) A (.call (.ref C) ⟨[], []⟩) R s := by
  obtain ⟨hh, g, d, t, os⟩ := s
  exact PySem.W.make_core (PySem.W.makes_of X hm) (PySem.W.looks_findIn X hi) hb (.inr ⟨rfl, rfl⟩) h
end

/-! ### the attributes as a list of pairs -/
def putF (f : Str) (v : V) : List (Str × V) → List (Str × V)
  | [] => [(f, v)]
  | (g, x) :: r => if g = f then (g, v) :: r else (g, x) :: putF f v r
theorem lookup_putF (f g : Str) (v : V) : ∀ fs : List (Str × V), (putF f v fs).lookup g = if g = f then some v else fs.lookup g
  | [] => by
    show List.lookup g [(f, v)] = _
    by_cases h : g = f
    · have hb : (g == f) = true := beq_iff_eq.mpr h
      simp only [List.lookup, hb, if_pos h]
    · have hb : (g == f) = false := beq_eq_false_iff_ne.mpr h
      simp only [List.lookup, hb, if_neg h]
  | (k, x) :: r => by
    have ih := lookup_putF f g v r
    rw [show putF f v ((k, x) :: r) = (if k = f then (k, v) :: r else (k, x) :: putF f v r) from rfl]
    by_cases hk : k = f
    · rw [if_pos hk]
      by_cases h : g = k
      · have hb : (g == k) = true := beq_iff_eq.mpr h
        simp only [List.lookup, hb, if_pos (h.trans hk)]
      · have hb : (g == k) = false := beq_eq_false_iff_ne.mpr h
        simp only [List.lookup, hb, if_neg (fun e : g = f => h (e.trans hk.symm))]
    · rw [if_neg hk]
      by_cases h : g = k
      · have hb : (g == k) = true := beq_iff_eq.mpr h
        simp only [List.lookup, hb, if_neg (fun e : g = f => hk (h.symm.trans e))]
      · have hb : (g == k) = false := beq_eq_false_iff_ne.mpr h
        simp only [List.lookup, hb]
        exact ih
theorem keys_putF (f : Str) (v : V) : ∀ fs : List (Str × V), f ∈ (putF f v fs).map (·.1) ∧ ∀ g, g ∈ fs.map (·.1) → g ∈ (putF f v fs).map (·.1)
  | [] => ⟨by simp [putF], fun g h => by simp at h⟩
  | (k, x) :: r => by
    obtain ⟨i1, i2⟩ := keys_putF f v r
    rw [show putF f v ((k, x) :: r) = (if k = f then (k, v) :: r else (k, x) :: putF f v r) from rfl]
    by_cases hk : k = f
    · rw [if_pos hk]
      subst hk
      exact ⟨by simp, fun g h => by simpa using h⟩
    · rw [if_neg hk]
      refine ⟨?_, fun g h => ?_⟩
      · rw [List.map_cons]
        exact List.mem_cons_of_mem _ i1
      · rw [List.map_cons] at h ⊢
        rcases List.mem_cons.mp h with e | e
        · exact List.mem_cons.mpr (.inl e)
        · exact List.mem_cons_of_mem _ (i2 g e)
theorem length_putF (f : Str) (v : V) : ∀ fs : List (Str × V), (putF f v fs).length ≤ fs.length + 1
  | [] => by simp [putF]
  | (k, x) :: r => by
    have ih := length_putF f v r
    rw [show putF f v ((k, x) :: r) = (if k = f then (k, v) :: r else (k, x) :: putF f v r) from rfl]
    by_cases hk : k = f
    · rw [if_pos hk, List.length_cons, List.length_cons]; omega
    · rw [if_neg hk, List.length_cons, List.length_cons]; omega

theorem RelO.some_of {v : V} {o : Option Value} (r : RelO (some v) o) : ∃ u, o = some u ∧ RelV v u := by
  cases o with
  | none => exact (show False from r).elim
  | some u => exact ⟨u, rfl, r⟩
theorem RelO.none_of {o : Option Value} (r : RelO none o) : o = none := by
  cases o with
  | none => rfl
  | some u => exact (show False from r).elim
theorem handed_of {v : V} {u : Value} (r : RelV v u) : PySem.W.handedIn u = true := by
  cases v with
  | non => cases (show u = Value.none from r); rfl
  | bl b => cases (show u = Value.bool b from r); rfl
  | int i => obtain ⟨t, e⟩ := (show ∃ t, u = Value.int i t from r); cases e; rfl
  | str x => obtain ⟨t, e⟩ := (show ∃ t, u = Value.str x t from r); cases e; rfl
  | byt b => obtain ⟨t, e⟩ := (show ∃ t, u = Value.bytes b t from r); cases e; rfl
  | flt b => obtain ⟨t, e⟩ := (show ∃ t, u = Value.float b t from r); cases e; rfl
  | ref a => cases (show u = Value.ref a from r); rfl
  | ty n => cases (show u = Value.type n from r); rfl

section
variable {P : Program} {w : World} {H H' : Hp} {h h' : Heap} {a C dx : Addr} {fs fs' : List (Str × V)}
theorem ins_get (hok : HOk P w H h) (e : H a = some (.ins C dx fs)) : ∃ mA, ObjM h a dx C mA ∧ (∀ f, RelO (fs.lookup f) (mA f)) ∧ PySem.Within mA (fs.map (·.1)) ∧ fs.length ≤ 1000 ∧ H dx = some (.own a) := by
  obtain ⟨d, z, ne, ob, mA, n, r, q⟩ := (show ObjOk P w H h a (.ins C dx fs) from hok a _ e)
  exact ⟨mA, ⟨ob, n, ne⟩, r, q, z, d⟩
end

/-! ### what of the text a class must have -/
structure Cls (K : PySem.W.Frag) (C : Addr) : Prop where
  pg : PySem.W.plainGet K C Str.empty = true
  hd : PySem.W.hasDictIn K C = true
  po : PySem.W.plainOver K C = true
  sa : PySem.W.findIn K (.ref C) "__setattr__" = some (some (.builtin "object.__setattr__"))
theorem Cls.get {K : PySem.W.Frag} {C : Addr} (c : Cls K C) (f : Str) : PySem.W.plainGet K C f = true := c.pg
/-- no class of it has the name -/
def NoAttr (K : PySem.W.Frag) (C : Addr) (f : Str) : Prop := PySem.W.findIn K (.ref C) f = some none
theorem NoAttr.taker {K : PySem.W.Frag} {C : Addr} {f : Str} (n : NoAttr K C f) : PySem.W.takerIn K C f = some none := by
  unfold PySem.W.takerIn
  rw [show PySem.W.findIn K (.ref C) f = some none from n]
  rfl
/-- a method: a plain def of the class or of one above it -/
structure Meth (K : PySem.W.Frag) (C : Addr) (m : Str) (f : Addr) : Prop where
  at_ : PySem.W.findIn K (.ref C) m = some (some (.ref f))
  fn : PySem.W.isFn K (.ref f) = true
  kp : PySem.W.keepIn K (.ref f) = true

section
variable {X : Cx} {pins : List (Addr × Obj)} {σ : St} {H : Hp} {s : Shared} {a C dx : Addr} {fs : List (Str × V)} {f : Str} {v : V} {A : Around} {E : Value → Shared → Prop}

theorem getattr_ok {b : Bool} {Q : Value → Shared → Prop} (I : Inv X pins σ H s) (e : H a = some (.ins C dx fs)) (c : Cls X.K C) (n : NoAttr X.K C f) (l : fs.lookup f = some v)
    (h : ∀ u s', Inv X pins σ H s' → RelV v u → Q u s') : wpAny (model X.prog X.w) A (getAttr (.ref a) f b) Q E s := by
  obtain ⟨mA, O, r, _, _, _⟩ := ins_get I.hok e
  obtain ⟨u, hu, ru⟩ := RelO.some_of (v := v) (o := mA f) (by rw [← l]; exact r f)
  exact get_map I.kIn O (c.get f) c.hd n hu (handed_of ru) (h u _ (I.tok _) ru)

theorem getmeth_ok {m : Str} {g : Addr} {pl : Sem Bool} {Q : Value × List Value → Shared → Prop} (I : Inv X pins σ H s) (e : H a = some (.ins C dx fs)) (c : Cls X.K C) (k : Meth X.K C m g) (l : fs.lookup m = none)
    (h : Q (.ref g, [.ref a]) s) : wpAny (model X.prog X.w) A (getMethod (.ref a) m pl) Q E s := by
  obtain ⟨mA, O, r, _, _, _⟩ := ins_get I.hok e
  have hn : mA m = none := RelO.none_of (by rw [← l]; exact r m)
  exact get_meth I.kIn O (c.get m) k.at_ k.fn hn h

theorem setattr_ok {y : V} {u : Value} {Q : Unit → Shared → Prop} (I : Inv X pins σ H s) (e : H a = some (.ins C dx fs)) (c : Cls X.K C) (n : NoAttr X.K C f) (hl : fs.length < 1000) (ry : RelV y u)
    (h : ∀ s', Inv X pins σ (upd H a (.ins C dx (putF f y fs))) s' → Q () s') : wpAny (model X.prog X.w) A (setAttr (.ref a) f u) Q E s := by
  obtain ⟨mA, O, r, wi, _, ho⟩ := ins_get I.hok e
  have hz : (fs.map (·.1)).length ≤ sizeLine := by rw [List.length_map, sizeLine_eq]; omega
  refine set_map I.kIn O c.sa c.po n.taker c.hd wi hz fun h' O' sb => h _ ?_
  have hd : ∃ o, h'.get? dx = some o := let ⟨o, _, _, e', _⟩ := O'.ns; ⟨o, e'⟩
  refine I.write (x := a) (e := dx) (by rw [e]; exact True.intro) (.inr ho) (fun b q hb z => (sb.2 b hb).trans z) hd ?_
  refine ⟨by rw [upd_ne O.ne]; exact ho, ?_, O.ne, O'.obj, _, O'.ns, fun g => ?_, fun g hg => ?_⟩
  · have := length_putF f y fs; omega
  · show RelO ((putF f y fs).lookup g) (if g = f then some u else mA g)
    rw [lookup_putF]
    by_cases q : g = f
    · rw [if_pos q, if_pos q]; exact ry
    · rw [if_neg q, if_neg q]; exact r g
  · by_cases q : g = f
    · rw [q]; exact (keys_putF f y fs).1
    · refine (keys_putF f y fs).2 g (wi g fun z => hg ?_)
      show (if g = f then some u else mA g) = none
      rw [if_neg q]; exact z

/-- a new instance, tracked, without attributes -/
theorem Inv.made (I : Inv X pins σ H s) : Inv X pins σ (upd (upd H s.heap.objs.size (.own (s.heap.objs.size + 1))) (s.heap.objs.size + 1) (.ins C s.heap.objs.size []))
    { s with heap := (s.heap.push PySem.W.emptyDict).push (PySem.W.instObj C s.heap.objs.size) } := by
  have e1 : (s.heap.push PySem.W.emptyDict).get? s.heap.objs.size = some PySem.W.emptyDict := Heap.get?_push_size s.heap rfl
  have e2 : ((s.heap.push PySem.W.emptyDict).push (PySem.W.instObj C s.heap.objs.size)).get? (s.heap.objs.size + 1) = some (PySem.W.instObj C s.heap.objs.size) := by
    have := Heap.get?_push_size (s.heap.push PySem.W.emptyDict) (o := PySem.W.instObj C s.heap.objs.size) rfl
    rwa [Heap.size_push] at this
  have e3 : (s.heap.push PySem.W.emptyDict).Ns s.heap.objs.size (fun _ => none) := ⟨PySem.W.emptyDict, #[], _, e1, rfl, (fun e he => absurd he (by simp)), fun _ => rfl⟩
  have I1 := I.laid (a := s.heap.objs.size) (o := .own (s.heap.objs.size + 1)) (h' := s.heap.push PySem.W.emptyDict) (t' := s.toks) (fun b u q => Heap.get?_push_of_some _ q) (Nat.le_refl _) ⟨_, e1⟩
  refine I1.laid (a := s.heap.objs.size + 1) (o := .ins C s.heap.objs.size []) (t' := s.toks) (fun b u q => Heap.get?_push_of_some _ q) (Nat.le_of_eq (Heap.size_push _ _)) ?_
  have ne : s.heap.objs.size ≠ s.heap.objs.size + 1 := Nat.ne_of_lt (Nat.lt_succ_self _)
  refine ⟨by rw [upd_ne ne, upd_same], Nat.zero_le _, ne, e2, fun _ => none, (Heap.Ns1.of_empty e3).at fun o q => Heap.get?_push_of_some _ q, fun _ => True.intro, fun y hy => absurd rfl hy⟩

/-- e.f where nothing but the object is asked: through attributeBase (super) and the last hold -/
theorem attr_of {prog : Program} {w : World} {env : Env} {e : Expr} {f : Str} {pos : Pos} {s : Shared} {Q : Value → Shared → Prop} (hb : attributeBase e f env (eval e env) = eval e env)
    (h : wpAny (model prog w) A (eval e env) (fun o s₁ => wpAny (model prog w) A (getAttr o f true) Q E s₁) E s) : wpAny (model prog w) A (eval (.Attribute e f pos) env) Q E s :=
  Attribute_any_ h (by rw [arm_eval_Attribute, hb])
end

/-! ### readings and rules -/
/-- e.f, an attribute of the instance -/
def tFld (K : PySem.W.Frag) (ta : TE) (f : Str) : TE := fun σ H Q => ta σ H fun x H1 => ∃ a C dx fs v, x = .ref a ∧ H1 a = some (.ins C dx fs) ∧ Cls K C ∧ NoAttr K C f ∧ fs.lookup f = some v ∧ Q v H1
/-- e.f = value -/
def sFld (K : PySem.W.Frag) (ta tv : TE) (f : Str) : TS := fun D σ H => tv σ H fun y H1 => ta σ H1 fun x H2 => ∃ a C dx fs, x = .ref a ∧ H2 a = some (.ins C dx fs) ∧ Cls K C ∧ NoAttr K C f ∧ fs.length < 1000 ∧
  D.nx σ (upd H2 a (.ins C dx (putF f y fs)))
/-- e.f op= value -/
def sFldAug (K : PySem.W.Frag) (ta tv : TE) (rd : V → V → Hp → VK → Prop) (f : Str) : TS := fun D σ H => ta σ H fun x H1 => ∃ a C dx fs v, x = .ref a ∧ H1 a = some (.ins C dx fs) ∧ Cls K C ∧ NoAttr K C f ∧ fs.lookup f = some v ∧
  tv σ H1 fun y H2 => rd v y H2 fun z H3 => ∃ dx' fs', H3 a = some (.ins C dx' fs') ∧ fs'.length < 1000 ∧ D.nx σ (upd H3 a (.ins C dx' (putF f z fs')))

section
variable {X : Cx} {o e value : Expr} {f : Str} {pos pos' tpos : Pos} {ta tv : TE}
theorem pe_fld (he : PE X e ta) (hb : attributeBase e f X.env (eval e X.env) = eval e X.env) : PE X (.Attribute e f pos) (tFld X.K ta f) := by
  intro pins s σ H Q I h
  refine attr_of hb (thn (he pins s σ H _ I h) fun u s1 ⟨x, H1, I1, rx, a, C, dx, fs, v, ex, ea, c, n, l, q⟩ => ?_)
  subst ex
  obtain rfl : u = Value.ref a := rx
  exact getattr_ok I1 ea c n l fun u' s2 I2 ru => ⟨v, H1, I2, ru, q⟩
theorem ps_fld (ha : PE X o ta) (hv : PE X value tv) (hs : swapsWith value (some (.Attribute o f pos')) pos.line X.env = pure false) : PS X (.Assign [.Attribute o f pos'] value pos) (sFld X.K ta tv f) := by
  intro pins s σ H D I h
  refine plainObj_wpAny_Assign_Attribute (thn (hv pins s σ H _ I h) fun u s1 ⟨y, H1, I1, ry, q⟩ => thn (ha pins s1 σ H1 _ I1 q) fun ov s2 ⟨x, H2, I2, rx, a, C, dx, fs, ex, ea, c, n, l, q2⟩ => ?_) hs
  subst ex
  obtain rfl : ov = Value.ref a := rx
  exact setattr_ok I2 ea c n l ry fun s3 I3 => ⟨σ, _, I3, q2⟩
def rAdd : V → V → Hp → VK → Prop := fun x y H Q => ∃ i j, x = .int i ∧ y = .int j ∧ Q (.int (i + j)) H
end

/-! ### isinstance -/
section
variable {X : Cx} {pins : List (Addr × Obj)} {σ : St} {H : Hp} {s : Shared} {A : Around} {E : Value → Shared → Prop} {Q : Value → Shared → Prop} {c : Value} {b : Bool}
/-- the type of a value, as the fragment's deciders take it; for an instance its class -/
inductive TyOf (K : PySem.W.Frag) (H : Hp) : V → Value → Prop where
  | non : TyOf K H .non (.type "NoneType")
  | bl (x : Bool) : TyOf K H (.bl x) (.type "bool")
  | int (i : Int) : TyOf K H (.int i) (.type "int")
  | str (x : Str) : TyOf K H (.str x) (.type "str")
  | flt (x : UInt64) : TyOf K H (.flt x) (.type "float")
  | lst {a : Addr} {xs : List V} (e : H a = some (.lst xs)) : TyOf K H (.ref a) (.type "list")
  | frz {a : Addr} {o : Obj} {xs : List V} (e : H a = some (.frz o (.lst xs))) : TyOf K H (.ref a) (.type "list")
  | tup {a : Addr} {xs : List V} (e : H a = some (.tup xs)) : TyOf K H (.ref a) (.type "tuple")
  | dK {a : Addr} {kvs : List (Key × V)} (e : H a = some (.dK kvs)) : TyOf K H (.ref a) (.type "dict")
  | dT {a : Addr} {kvs : List (List Key × V)} (e : H a = some (.dT kvs)) : TyOf K H (.ref a) (.type "dict")
  | ins {a C dx : Addr} {fs : List (Str × V)} (e : H a = some (.ins C dx fs)) (cl : Cls K C) (ha : PySem.W.findIn K (.ref C) "__class__" = some (some (.builtin "object.__class__")))
      (hn : PySem.W.specialIn K (.builtin "object.__class__") "__get__" = some (some (.builtin "getset_descriptor.__get__"))) (htk : PySem.W.takesIn K (.builtin "object.__class__") = some true)
      (hm : PySem.W.mroIn K C (.type "object") = some true) : TyOf K H (.ref a) (.ref C)
/-- isinstance(x, c) for one class c, a built-in or an own one: kitOne's answer -/
theorem isinst_ok {x : V} {u t : Value} (I : Inv X pins σ H s) (rx : RelV x u) (ty : TyOf X.K H x t) (e : PySem.W.kitOne X.K t c = some b) (h : ∀ tk, Q (.bool b) { s with toks := tk }) :
    wpAny (model X.prog X.w) A (call (.builtin "isinstance") [u, c]) Q E s := by
  cases ty with
  | non => cases (show u = Value.none from rx); exact PySem.W.kia_one PySem.W.kitx_none I.kIn True.intro e (fun z => nomatch z) h
  | bl y => cases (show u = Value.bool y from rx); exact PySem.W.kia_one PySem.W.kitx_bool I.kIn True.intro e (fun z => nomatch z) h
  | int i => obtain ⟨t, q⟩ := (show ∃ t, u = Value.int i t from rx); cases q; exact PySem.W.kia_one PySem.W.kitx_int I.kIn True.intro e (fun z => nomatch z) h
  | str y => obtain ⟨t, q⟩ := (show ∃ t, u = Value.str y t from rx); cases q; exact PySem.W.kia_one PySem.W.kitx_str I.kIn True.intro e (fun z => nomatch z) h
  | flt y => obtain ⟨t, q⟩ := (show ∃ t, u = Value.float y t from rx); cases q; exact PySem.W.kia_one PySem.W.kitx_float I.kIn True.intro e (fun z => nomatch z) h
  | @lst a xs ea =>
    cases (show u = Value.ref a from rx)
    obtain ⟨_, _, n, _, h1⟩ := (show ObjOk X.prog X.w H s.heap a (.lst xs) from I.hok a _ ea)
    exact PySem.W.kia_one PySem.W.kitx_list I.kIn ⟨_, h1, rfl⟩ e (fun z => nomatch z) h
  | @frz a ob xs ea =>
    cases (show u = Value.ref a from rx)
    obtain ⟨_, _, _, n, _, h1⟩ := (show ObjOk X.prog X.w H s.heap a (.frz ob (.lst xs)) from I.hok a _ ea)
    exact PySem.W.kia_one PySem.W.kitx_list I.kIn ⟨_, h1, rfl⟩ e (fun z => nomatch z) h
  | @tup a xs ea =>
    cases (show u = Value.ref a from rx)
    obtain ⟨_, _, _, p⟩ := (show ObjOk X.prog X.w H s.heap a (.tup xs) from I.hok a _ ea)
    obtain ⟨o, h1, h2, _⟩ := p
    exact PySem.W.kia_one PySem.W.kitx_tuple I.kIn ⟨o, h1, h2⟩ e (fun z => nomatch z) h
  | @dK a kvs ea =>
    cases (show u = Value.ref a from rx)
    obtain ⟨_, _, vs, _, p⟩ := (show ObjOk X.prog X.w H s.heap a (.dK kvs) from I.hok a _ ea)
    obtain ⟨o, es, ep, h1, h2, _⟩ := p
    exact PySem.W.kia_one PySem.W.kitx_dict I.kIn ⟨o, h1, h2.1⟩ e (fun z => nomatch z) h
  | @dT a kvs ea =>
    cases (show u = Value.ref a from rx)
    obtain ⟨_, _, xs, _, o, es, ep, h1, h2, _⟩ := (show ObjOk X.prog X.w H s.heap a (.dT kvs) from I.hok a _ ea)
    exact PySem.W.kia_one PySem.W.kitx_dict I.kIn ⟨o, h1, h2.1⟩ e (fun z => nomatch z) h
  | @ins a C dx fs ea cl ha hn htk hm =>
    cases (show u = Value.ref a from rx)
    obtain ⟨mA, O, _⟩ := ins_get I.hok ea
    obtain ⟨od, J, _⟩ := O.look
    exact PySem.W.kia_one (PySem.W.kitx_own (cl.get _) cl.hd ha hn htk hm) I.kIn J e (fun z => nomatch z) h
end
end L2

namespace L2
open PySem PySem.Spec PyProof.Rows

/-! ### room -/
structure Room (k : Nat) (A : Around) : Prop where
  hd : A.handled = none
  dp : A.depth + 3 * k + 5 < recursionLimit
  un : A.units + 16 * k + 200 < cLine
theorem Room.mono {j k : Nat} {A : Around} (r : Room k A) (h : j ≤ k) : Room j A := ⟨r.hd, by have := r.dp; omega, by have := r.un; omega⟩
theorem Room.deeper {k : Nat} {A : Around} (r : Room (k + 1) A) (env : Env) : Room k (A.deeper env) :=
  ⟨r.hd, by have := r.dp; show A.depth + 1 + 3 * k + 5 < _; omega, by have := r.un; show A.units + 3 + 16 * k + 200 < _; omega⟩
theorem make_depth {A : Around} {C : Addr} {us : List Value} {kw : List (Str × Value)} : (A.under (.builtin "type.__call__" ⟨.ref C :: us, kw⟩)).depth = A.depth + 1 := by
  first | rfl | simp [Around.under, Code.weight, Code.isCreation, Code.isGuard, Code.isCaller, Code.frames, Code.isFrame, guardIds]
theorem make_units {A : Around} {C : Addr} {us : List Value} {kw : List (Str × Value)} : (A.under (.builtin "type.__call__" ⟨.ref C :: us, kw⟩)).units = A.units + 1 := by
  first | rfl | simp [Around.under, Code.cUnits, Code.frames, Code.isFrame]
theorem Room.make {k : Nat} {A : Around} (r : Room (k + 1) A) (C : Addr) (us : List Value) (kw : List (Str × Value)) : Room k (A.under (.builtin "type.__call__" ⟨.ref C :: us, kw⟩)) :=
  ⟨r.hd, by have := r.dp; rw [make_depth]; omega, by have := r.un; rw [make_units]; omega⟩
theorem Room.depth {k : Nat} {A : Around} (r : Room k A) : A.depth < recursionLimit := by have := r.dp; omega
theorem Room.units {k : Nat} {A : Around} (r : Room k A) : A.units + 64 < cLine := by have := r.un; omega
/-! ### argument lists and displays -/
def tNil : TA := fun _ H Q => Q [] H
def tCons (ta : TE) (tr : TA) : TA := fun σ H Q => ta σ H fun x H1 => tr σ H1 fun xs H2 => Q (x :: xs) H2
section
variable {X : Cx} {e : Expr} {es : List Expr} {te : TE} {t : TA} {pos : Pos}
theorem pa_nil : PA X [] tNil := fun _ _ _ _ H Q I h => Calls.spliced_nil ⟨[], H, I, .nil, h⟩
theorem pa_cons (ha : PE X e te) (hr : PA X es t) (hs : starEach (e :: es) X.env = (false, eval e X.env) :: starEach es X.env := by rfl) : PA X (e :: es) (tCons te t) := by
  intro pos pins s σ H Q I h
  rw [hs]
  show wpAny _ _ (spliced ((false, eval e X.env) :: backTo pos (starEach es X.env))) _ _ s
  refine Calls.spliced_cons (thn (ha pins s σ H _ I h) fun u s1 ⟨x, H1, I1, r1, q1⟩ => ?_)
  exact thn (hr pos pins s1 σ H1 _ I1 q1) fun us s2 ⟨xs, H2, I2, r2, q2⟩ => ⟨x :: xs, H2, I2, .cons r1 r2, q2⟩

/-- a tuple, a list of written items -/
def tTup (t : TA) : TE := fun σ H Q => t σ H fun xs H1 => xs.length ≤ sizeLine ∧ ∀ p, H1 p = none → Q (.ref p) (upd H1 p (.tup xs))
def tLst (t : TA) : TE := fun σ H Q => t σ H fun xs H1 => xs.length ≤ sizeLine ∧ ∀ p, H1 p = none → Q (.ref p) (upd H1 p (.lst xs))
theorem pe_tup {x1} (h : PA X es t) : PE X (.Tuple es x1 pos) (tTup t) := by
  intro pins s σ H Q I hq
  refine wpAny_Tuple_spliced (thn (h pos pins s σ H _ I hq) fun us s1 ⟨xs, H1, I1, r, z, q⟩ => ⟨by rw [← r.length]; exact z, ?_⟩)
  have hf : H1 s1.heap.objs.size = none := I1.hok.fresh (Nat.le_refl _)
  refine ⟨.ref s1.heap.objs.size, upd H1 s1.heap.objs.size (.tup xs), I1.laid (t' := s1.toks) (fun b u e => Heap.get?_push_of_some _ e) (Nat.le_refl _) ?_, rfl, q _ hf⟩
  exact ⟨z, us, r, ⟨_, Heap.get?_push_size _ rfl, rfl, _, rfl⟩⟩
theorem pe_lst (h : PA X es t) : PE X (.List es pos) (tLst t) := by
  intro pins s σ H Q I hq
  refine wpAny_List_spliced (thn (h pos pins s σ H _ I hq) fun us s1 ⟨xs, H1, I1, r, z, q⟩ => ⟨by rw [← r.length]; exact z, ?_⟩)
  have hf : H1 s1.heap.objs.size = none := I1.hok.fresh (Nat.le_refl _)
  refine ⟨.ref s1.heap.objs.size, upd H1 s1.heap.objs.size (.lst xs), I1.laid (t' := s1.toks) (fun b u e => Heap.get?_push_of_some _ e) (Nat.le_refl _) ?_, rfl, q _ hf⟩
  exact ⟨z, us, 0, r, Heap.get?_push_size _ rfl⟩
end

/-! ### what a def promises -/
/-- a def's promise: the bound arguments in the parameters' order, the heap, the wanted end, the wanted exception -/
abbrev Sp := List V → Hp → VK → XK → Prop
/-- how an exception lies behind a call (file 08 gives it): the callers' frames, abstract heap and state ahead of the call, the wish, the exception, the state -/
abbrev CXT := List Env → Hp → Shared → XK → Value → Shared → Prop

/-- the state at a call -/
structure Env0 (P : Program) (w : World) (K : PySem.W.Frag) (mg : Str → Option Value) (base : Heap) (A : Around) (outer : List Env) (s : Shared) (H : Hp) : Prop where
  frames : A.frames = some outer
  mod : Mod K mg base
  bs : ∀ b o, base.get? b = some o → s.heap.get? b = some o ∧ H b = none
  bsz : base.objs.size ≤ s.heap.objs.size
  funs : s.heap.FunFrames base outer
  frf : ∀ b ∈ frs outer, H b = none
  hok : HOk P w H s.heap
  bare : AllBare s.gens
/-- a call's end -/
def CE (outer : List Env) (P : Program) (w : World) (H : Hp) (s : Shared) (Q : VK) (u : Value) (s' : Shared) : Prop :=
  ∃ v H', s'.os = s.os ∧ AllBare s'.gens ∧ Un (frs outer) [] H H' s.heap s'.heap ∧ HOk P w H' s'.heap ∧ RelV v u ∧ Q v H'
def CR (CX : CXT) (outer : List Env) (P : Program) (w : World) (H : Hp) (s : Shared) (Q : VK) (E : XK) (r : Result) (s' : Shared) : Prop :=
  match r with
  | .ok (.ret u) => CE outer P w H s Q u s'
  | .ok _ => False
  | .error e => CX outer H s E e s'
structure FnOk (P : Program) (w : World) (K : PySem.W.Frag) (mg : Str → Option Value) (base : Heap) (CX : CXT) (k : Nat) (f : Addr) (fd : FuncData) (ps : List Str) (sp : Sp) : Prop where
  len : ∀ vs H Q E, sp vs H Q E → vs.length = ps.length
  run : ∀ (A : Around) (outer : List Env) (s : Shared) (H : Hp) (args : Args) (us : List Value) (vs : List V) (Q : VK) (E : XK), Room k A → Env0 P w K mg base A outer s H → BindsTo s fd args (ps.zip us) → Vals vs us → sp vs H Q E →
    codeAny (model P w) A (.call (.ref f) args) (CR CX outer P w H s Q E) s
theorem FnOk.mono {P : Program} {w : World} {K : PySem.W.Frag} {mg : Str → Option Value} {base : Heap} {CX : CXT} {j k : Nat} {f : Addr} {fd : FuncData} {ps : List Str} {sp : Sp} (F : FnOk P w K mg base CX j f fd ps sp) (h : j ≤ k) :
    FnOk P w K mg base CX k f fd ps sp := ⟨F.len, fun A outer s H args us vs Q E hr => F.run A outer s H args us vs Q E (hr.mono h)⟩
theorem Env0.make {P : Program} {w : World} {K : PySem.W.Frag} {mg : Str → Option Value} {base : Heap} {A : Around} {outer : List Env} {s : Shared} {H : Hp} (e : Env0 P w K mg base A outer s H) (C : Addr) (us : List Value) (kw : List (Str × Value)) :
    Env0 P w K mg base (A.under (.builtin "type.__call__" ⟨.ref C :: us, kw⟩)) outer s H := ⟨by first | exact e.frames | (simpa [Around.under, Code.envs, Code.isFrame, pushEnvs] using e.frames), e.mod, e.bs, e.bsz, e.funs, e.frf, e.hok, e.bare⟩
section
variable {X : Cx} {pins : List (Addr × Obj)} {σ : St} {H : Hp} {s s' : Shared}
/-- from a body: what a callee wants -/
theorem Inv.env0 (I : Inv X pins σ H s) : Env0 X.prog X.w X.K X.mg X.base X.A X.stack s H :=
  ⟨I.ok.frames, I.ok.mod, I.bs, Nat.le_trans I.ok.bsz I.sz, I.stack, I.stkFree, I.hok, I.bare⟩
/-- behind a call -/
theorem Inv.after {Q : VK} {u : Value} (I : Inv X pins σ H s) (h : CE X.stack X.prog X.w H s Q u s') : EP X pins σ Q u s' := by
  obtain ⟨v, H', os, bare, un, hok, r, q⟩ := h
  obtain ⟨hh, g, d, t, os'⟩ := s'
  obtain rfl : os' = s.os := os
  exact ⟨v, H', I.call (h' := hh) (g' := g) (d' := d) (t' := t) (ch := []) un hok bare (fun b z => absurd z (by simp)), r, q⟩
end

/-! ### calls -/
/-- f(..): the written arguments, then the defaults dvs; E: what is wanted of an exception -/
def tCall (sp : Sp) (dvs : List V) (E : XK) (t : TA) : TE := fun σ H Q => t σ H fun vs H1 => sp (vs ++ dvs) H1 Q E
/-- o.m(..) of an instance of the class at C -/
def tMeth (C : Addr) (m : Str) (sp : Sp) (dvs : List V) (E : XK) (ta : TE) (t : TA) : TE := fun σ H Q => ta σ H fun x H1 => ∃ a dx fs, x = .ref a ∧ H1 a = some (.ins C dx fs) ∧ fs.lookup m = none ∧
  t σ H1 fun vs H2 => sp (x :: (vs ++ dvs)) H2 Q E
/-- C(..): a new instance and its dict, then __init__ -/
def tMake (C : Addr) (sp : Sp) (dvs : List V) (E : XK) (t : TA) : TE := fun σ H Q => t σ H fun vs H1 => ∀ x dx, H1 x = none → H1 dx = none → dx ≠ x →
  sp (.ref x :: (vs ++ dvs)) (upd (upd H1 dx (.own x)) x (.ins C dx [])) (fun v H2 => v = .non ∧ Q (.ref x) H2) E

/-- how the parameters are bound: us the positional arguments, kw the keywords' values by name, ds the defaults that fill up -/
def Binds (K : PySem.W.Frag) (fd : FuncData) (ps : List Str) (ds : List Value) : Prop :=
  ∀ (s : Shared) (us : List Value), K.In s.heap → (us ++ ds).length = ps.length → BindsTo s fd ⟨us, []⟩ (ps.zip (us ++ ds))
/-- every parameter is given -/
theorem Binds.all {K : PySem.W.Frag} {fd : FuncData} {ps : List Str} (h : ∀ us : List Value, us.length = ps.length → bindArgs fd ⟨us, []⟩ = pure (ps.zip us)) : Binds K fd ps [] := fun s us _ hl => by
  rw [List.append_nil] at hl ⊢
  exact .of_eq (h us hl)

/-- an exception of a callee reaches what this body wants of exceptions -/
def Passes (CX : CXT) (X : Cx) (E : XK) : Prop := ∀ (pins : List (Addr × Obj)) (σ : St) (H : Hp) (s : Shared) (e : Value) (s' : Shared), Inv X pins σ H s → CX X.stack H s E e s' → X.xe e s'

section
variable {X : Cx} {CX : CXT} {k : Nat} {f C : Addr} {fd : FuncData} {ps : List Str} {sp : Sp} {dvs : List V} {ds : List Value} {E : XK} {x m : Str} {p pos apos : Pos} {e o : Expr} {es : List Expr} {ta : TE} {t : TA}

/-- the callee runs -/
theorem run_fn {pins : List (Addr × Obj)} {σ : St} {H : Hp} {s : Shared} {Q : VK} {us : List Value} {vs : List V} (F : FnOk X.prog X.w X.K X.mg X.base CX k f fd ps sp) (hr : Room k X.A) (hb : Binds X.K fd ps ds) (hd : Vals dvs ds) (hx : Passes CX X E)
    (I : Inv X pins σ H s) (r : Vals vs us) (h : sp (vs ++ dvs) H Q E) : wpAny (model X.prog X.w) X.A (call (.ref f) us) (EP X pins σ Q) X.xe s := by
  have r2 : Vals (vs ++ dvs) (us ++ ds) := r.append hd
  have hl : (us ++ ds).length = ps.length := by rw [← r2.length]; exact F.len _ _ _ _ h
  refine wpAny_call (codeAny_mono (F.run X.A X.stack s H ⟨us, []⟩ (us ++ ds) (vs ++ dvs) Q E hr I.env0 (hb s us I.kIn hl) r2 h) fun r s' hq => ?_)
  cases r with
  | error e => exact hx pins σ H s e s' I hq
  | ok fl =>
    cases fl with
    | ret u => exact I.after hq
    | next => exact False.elim hq
    | brk => exact False.elim hq
    | cont => exact False.elim hq

theorem pe_call (F : FnOk X.prog X.w X.K X.mg X.base CX k f fd ps sp) (hr : Room k X.A) (hg : Gl X x) (hm : X.mg x = some (.ref f)) (hk : PySem.W.keepIn X.K (.ref f) = true) (hb : Binds X.K fd ps ds) (hd : Vals dvs ds) (hx : Passes CX X E)
    (ha : PA X (e :: es) t) (hdb : (x == ("__debug__" : Str)) = false := by decide) (he : starEach (e :: es) X.env = (false, eval e X.env) :: starEach es X.env := by rfl) (hpl : (backTo pos (starEach es X.env)).any (·.1) = false := by rfl) :
    PE X (.Call (.Name x p) (e :: es) [] pos) (tCall sp dvs E t) := by
  intro pins s σ H Q I h
  refine wpAny_Call_Name_kw (ld_glob I hg hm ?_ hdb)
  refine PySem.W.callWith_K (h₀ := X.base) I.ok.mod.kin hk (thn (ha pos pins s σ H _ I h) fun us s1 ⟨vs, H1, I1, r, q⟩ => ⟨I1.kIn, ?_⟩) he hpl
  exact run_fn F hr hb hd hx I1 r q
/-- o.m(e, ..) -/
theorem pe_meth {pl : Sem Bool} (he : PE X o ta) (c : Cls X.K C) (hm : Meth X.K C m f) (F : FnOk X.prog X.w X.K X.mg X.base CX k f fd ps sp) (hr : Room k X.A) (hb : Binds X.K fd ps ds) (hd : Vals dvs ds) (hx : Passes CX X E) (ha : PA X (e :: es) t)
    (hst : starEach (e :: es) X.env = (false, eval e X.env) :: starEach es X.env := by rfl) (hpl : (backTo pos (starEach es X.env)).any (·.1) = false := by rfl)
    (ht : eval (.Call (.Attribute o m apos) (e :: es) [] pos) X.env = (do
      let ov ← eval o X.env
      standAt apos.atName
      let (f, first) ← holding [ov] (getMethod ov m pl)
      callWith pos f first (backTo pos (starEach (e :: es) X.env)) (backToKw pos (keywordEach [] X.env))) := by rfl) :
    PE X (.Call (.Attribute o m apos) (e :: es) [] pos) (tMeth C m sp dvs E ta t) := by
  intro pins s σ H Q I h
  refine PySem.W.methodCall_KW (pl := pl) (thn (he pins s σ H _ I h) fun u s1 ⟨x, H1, I1, rx, a, dx, fs, ex, ea, l, q⟩ => ?_) ht
  subst ex
  obtain rfl : u = Value.ref a := rx
  refine getmeth_ok I1 ea c hm l ?_
  refine PySem.W.callWith_K (first := [.ref a]) (h₀ := X.base) I.ok.mod.kin hm.kp (thn (ha pos pins s1 σ H1 _ I1 q) fun us s2 ⟨vs, H2, I2, r, q2⟩ => ⟨I2.kIn, ?_⟩) hst hpl
  exact run_fn (us := .ref a :: us) (vs := .ref a :: vs) F hr hb hd hx I2 (.cons rfl r) q2
/-- o.m() -/
theorem pe_meth0 {pl : Sem Bool} (he : PE X o ta) (c : Cls X.K C) (hm : Meth X.K C m f) (F : FnOk X.prog X.w X.K X.mg X.base CX k f fd ps sp) (hr : Room k X.A) (hb : Binds X.K fd ps ds) (hd : Vals dvs ds) (hx : Passes CX X E)
    (ht : eval (.Call (.Attribute o m apos) [] [] pos) X.env = (do
      let ov ← eval o X.env
      standAt apos.atName
      let (f, first) ← holding [ov] (getMethod ov m pl)
      callWith pos f first (backTo pos (starEach [] X.env)) (backToKw pos (keywordEach [] X.env))) := by rfl) :
    PE X (.Call (.Attribute o m apos) [] [] pos) (tMeth C m sp dvs E ta tNil) := by
  intro pins s σ H Q I h
  refine PySem.W.methodCall_KW (pl := pl) (thn (he pins s σ H _ I h) fun u s1 ⟨x, H1, I1, rx, a, dx, fs, ex, ea, l, q⟩ => ?_) ht
  subst ex
  obtain rfl : u = Value.ref a := rx
  refine getmeth_ok I1 ea c hm l ?_
  exact PySem.W.callWith_K0 (first := [.ref a]) I1.kIn hm.kp (run_fn (us := [.ref a]) (vs := [.ref a]) F hr hb hd hx I1 (.cons rfl .nil) q)

/-- what a class must have to be made -/
structure Mk (K : PySem.W.Frag) (C f : Addr) : Prop where
  makes : PySem.W.makesIn K C = true
  init : PySem.W.findIn K (.ref C) "__init__" = some (some (.ref f))
  fn : PySem.W.isFn K (.ref f) = true
  kp : PySem.W.keepIn K (.ref C) = true

theorem run_make {pins : List (Addr × Obj)} {σ : St} {H : Hp} {s : Shared} {Q : VK} {us : List Value} {vs : List V} (M : Mk X.K C f) (F : FnOk X.prog X.w X.K X.mg X.base CX k f fd ps sp) (hr : Room (k + 1) X.A) (hb : Binds X.K fd ps ds) (hd : Vals dvs ds)
    (hx : Passes CX X E) (I : Inv X pins σ H s) (r : Vals vs us)
    (h : ∀ x dx, H x = none → H dx = none → dx ≠ x → sp (.ref x :: (vs ++ dvs)) (upd (upd H dx (.own x)) x (.ins C dx [])) (fun v H2 => v = .non ∧ Q (.ref x) H2) E) :
    wpAny (model X.prog X.w) X.A (call (.ref C) us) (EP X pins σ Q) X.xe s := by
  have hq := h (s.heap.objs.size + 1) s.heap.objs.size (I.hok.fresh (Nat.le_succ _)) (I.hok.fresh (Nat.le_refl _)) (Nat.ne_of_lt (Nat.lt_succ_self _))
  have I2 := Inv.made (C := C) I
  have r2 : Vals (V.ref (s.heap.objs.size + 1) :: (vs ++ dvs)) (Value.ref (s.heap.objs.size + 1) :: (us ++ ds)) := .cons rfl (r.append hd)
  have hl : (Value.ref (s.heap.objs.size + 1) :: us ++ ds).length = ps.length := by
    have e := r2.length
    rw [F.len _ _ _ _ hq] at e
    exact e.symm
  refine wpAny_call (make_map (f := f) I.kIn M.makes M.init (beq_iff_eq.mp M.fn) (codeAny_mono (F.run _ X.stack _ _ ⟨Value.ref (s.heap.objs.size + 1) :: us, []⟩ (Value.ref (s.heap.objs.size + 1) :: (us ++ ds)) _ _ E (hr.make C us [])
    (I2.env0.make C us []) (hb _ (Value.ref (s.heap.objs.size + 1) :: us) I2.kIn hl) r2 hq) fun r s' hq' => ?_))
  cases r with
  | error e => exact hx pins σ _ _ e s' I2 hq'
  | ok fl =>
    cases fl with
    | ret u =>
      obtain ⟨v, H', I3, rv, ev, q3⟩ := I2.after hq'
      subst ev
      exact ⟨rv, ⟨V.ref (s.heap.objs.size + 1), H', I3, rfl, q3⟩⟩
    | next => exact False.elim hq'
    | brk => exact False.elim hq'
    | cont => exact False.elim hq'
theorem pe_make (M : Mk X.K C f) (F : FnOk X.prog X.w X.K X.mg X.base CX k f fd ps sp) (hr : Room (k + 1) X.A) (hg : Gl X x) (hm : X.mg x = some (.ref C)) (hb : Binds X.K fd ps ds) (hd : Vals dvs ds) (hx : Passes CX X E)
    (ha : PA X (e :: es) t) (hdb : (x == ("__debug__" : Str)) = false := by decide) (he : starEach (e :: es) X.env = (false, eval e X.env) :: starEach es X.env := by rfl) (hpl : (backTo pos (starEach es X.env)).any (·.1) = false := by rfl) :
    PE X (.Call (.Name x p) (e :: es) [] pos) (tMake C sp dvs E t) := by
  intro pins s σ H Q I h
  refine wpAny_Call_Name_kw (ld_glob I hg hm ?_ hdb)
  refine PySem.W.callWith_K (h₀ := X.base) I.ok.mod.kin M.kp (thn (ha pos pins s σ H _ I h) fun us s1 ⟨vs, H1, I1, r, q⟩ => ⟨I1.kIn, ?_⟩) he hpl
  exact run_make M F hr hb hd hx I1 r q
end

/-! ### keywords -/
section
variable {X : Cx} {CX : CXT} {k : Nat} {f C : Addr} {fd : FuncData} {ps ks : List Str} {sp : Sp} {E : XK} {x m : Str} {p pos apos kpos : Pos} {e o : Expr} {es : List Expr} {kws : List Keyword} {te ta : TE} {t tk : TA} {nm : Option Str}
variable {g : List Value → List Value → List Value} {gV : List V → List V → List V}
end

/-! ### a def's body keeps its promise -/
/-- names: the parameters first -/
structure FnScope (N P : List Str) (sc : Scope) : Prop where
  kind : sc.kind = .function
  co : sc.isCoroutine = false
  gen : sc.isGenerator = false
  nd : N.Nodup
  pre : N.take P.length = P
  par : ∀ x ∈ P, sc.names.lookup x = some .local ∨ sc.names.lookup x = some .cell
  nofree : ∀ y ∈ sc.names, y.2 ≠ .free

theorem bindL_out {kindOf : Str → Option NameKind} {x : Str} : ∀ {binds : List (Str × Value)} {m : Str → Option Value}, (∀ v, (x, v) ∉ binds) → bindL kindOf binds m x = m x
  | [], _, _ => rfl
  | (n, v) :: r, m, h => by
    unfold bindL
    rw [bindL_out fun w hw => h w (List.mem_cons_of_mem _ hw)]
    split
    · have : x ≠ n := by rintro rfl; exact h v List.mem_cons_self
      simp [this]
    · rfl
theorem bindC_out {kindOf : Str → Option NameKind} {x : Str} : ∀ {binds : List (Str × Value)} {m : Str → Option Value}, (∀ v, (x, v) ∉ binds) → bindC kindOf binds m x = m x
  | [], _, _ => rfl
  | (n, v) :: r, m, h => by
    unfold bindC
    rw [bindC_out fun w hw => h w (List.mem_cons_of_mem _ hw)]
    split
    · rfl
    · have : x ≠ n := by rintro rfl; exact h v List.mem_cons_self
      simp [this]
theorem bindL_get {kindOf : Str → Option NameKind} {x : Str} {v : Value} : ∀ {P : List Str} {vs : List Value} {i : Nat} {m : Str → Option Value}, P.Nodup → P[i]? = some x → vs[i]? = some v → kindOf x = some .local →
    bindL kindOf (P.zip vs) m x = some v
  | [], _, _, _, _, h, _, _ => by simp at h
  | _ :: _, [], _, _, _, _, h, _ => by simp at h
  | p :: P, w :: vs, 0, m, nd, h1, h2, hk => by
    simp at h1 h2; subst h1; subst h2
    show bindL kindOf ((p, w) :: P.zip vs) m p = _
    unfold bindL
    rw [bindL_out fun v hv => (List.nodup_cons.mp nd).1 (List.of_mem_zip hv).1, if_pos hk]
    simp
  | p :: P, w :: vs, i + 1, m, nd, h1, h2, hk => by
    show bindL kindOf ((p, w) :: P.zip vs) m x = _
    unfold bindL
    exact bindL_get (i := i) (List.nodup_cons.mp nd).2 (by simpa using h1) (by simpa using h2) hk
theorem bindC_get {kindOf : Str → Option NameKind} {x : Str} {v : Value} : ∀ {P : List Str} {vs : List Value} {i : Nat} {m : Str → Option Value}, P.Nodup → P[i]? = some x → vs[i]? = some v → kindOf x ≠ some .local →
    bindC kindOf (P.zip vs) m x = some v
  | [], _, _, _, _, h, _, _ => by simp at h
  | _ :: _, [], _, _, _, _, h, _ => by simp at h
  | p :: P, w :: vs, 0, m, nd, h1, h2, hk => by
    simp at h1 h2; subst h1; subst h2
    show bindC kindOf ((p, w) :: P.zip vs) m p = _
    unfold bindC
    rw [bindC_out fun v hv => (List.nodup_cons.mp nd).1 (List.of_mem_zip hv).1, if_neg hk]
    simp
  | p :: P, w :: vs, i + 1, m, nd, h1, h2, hk => by
    show bindC kindOf ((p, w) :: P.zip vs) m x = _
    unfold bindC
    exact bindC_get (i := i) (List.nodup_cons.mp nd).2 (by simpa using h1) (by simpa using h2) hk

/-- the names' values at the entry -/
def start (N : List Str) (vs : List V) : St := vs.map some ++ List.replicate (N.length - vs.length) none

/-- the context of a def's body, at its entry; an exception leaves the frame, then lies as CX says -/
def cxOf (CX : CXT) (P : Program) (w : World) (K : PySem.W.Frag) (mg : Str → Option Value) (base : Heap) (N : List Str) (qual : Str) (scope : Scope) (f : Addr) (cd : Value) (A : Around) (outer : List Env) (s : Shared) (H : Hp) (E : XK) : Cx where
  prog := P
  w := w
  K := K
  mg := mg
  base := base
  A := A.deeper (envOfC qual scope s.heap.objs.size f cd)
  N := N
  s₀ := s
  H₀ := H
  env := envOfC qual scope s.heap.objs.size f cd
  outer := outer
  stack := envOfC qual scope s.heap.objs.size f cd :: outer
  ex := []
  calm := true
  fn := fun _ => true
  pn := []
  xe := fun e s' => wpAny (model P w) (A.deeper (envOfC qual scope s.heap.objs.size f cd)) (leaving (envOfC qual scope s.heap.objs.size f cd) e) (fun _ s'' => CX outer H s E e s'') (fun e' s'' => CX outer H s E e' s'') s'

theorem cell_has {sc : Scope} {n : Nat} {x : Str} (h : sc.names.lookup x = some .cell) : ∃ c, (cellsFrom n sc.names []).lookup x = some c := by
  have q := PySem.W.cellsFrom_some sc.names n [] (.inl h)
  exact Option.isSome_iff_exists.mp q

theorem inv_start {CX : CXT} {P : Program} {w : World} {K : PySem.W.Frag} {mg : Str → Option Value} {base : Heap} {N ps : List Str} {qual : Str} {scope : Scope} {f : Addr} {cd : Value} {A : Around} {outer : List Env} {s s1 : Shared} {H : Hp} {E : XK} {us : List Value} {vs : List V}
    (S : FnScope N ps scope) (hd : A.handled = none) (e0 : Env0 P w K mg base A outer s H) (hl : vs.length = ps.length) (r : Vals vs us)
    (x : InCallC s s.heap.objs.size (bindL (envOfC qual scope s.heap.objs.size f cd).kindOf (ps.zip us) fun _ => none) (cellsFrom (s.heap.objs.size + 1) scope.names []) (bindC (envOfC qual scope s.heap.objs.size f cd).kindOf (ps.zip us) fun _ => none) s1) :
    Inv (cxOf CX P w K mg base N qual scope f cd A outer s H E) [] (start N vs) H s1 := by
  have hpl : ps.length ≤ N.length := by have := congrArg List.length S.pre; rw [List.length_take] at this; omega
  obtain ⟨h1, tk, rfl, hk⟩ := x.done
  have noA : ∀ b : Addr, b ∉ (cxOf CX P w K mg base N qual scope f cd A outer s H E).ex := fun b z => absurd (show b ∈ ([] : List Addr) from z) (by simp)
  refine ⟨⟨e0.mod, S.kind, rfl, rfl, Nat.le_refl _, fun y z c h1 h2 => ?_, fun y hy => ?_, fun y c _ h => ?_, fun _ => hd, Around.frames_deeper e0.frames, .inr ⟨rfl, rfl⟩, fun b z => absurd z (noA b), e0.bs, e0.bsz, fun b _ _ => noA b, fun b z => absurd z (noA b), e0.funs, e0.frf⟩,
    rfl, e0.bare, Un.kept hk, ⟨_, x.toInCall.ns, fun i y v h1 h2 h3 => ?_⟩, fun y c h => ⟨_, x.cell y c h⟩, e0.hok.fresh (Nat.le_refl _), fun y c h => ?_, fun p hp => absurd (show p ∈ ([] : List (Addr × Obj)) from hp) (by simp), e0.hok.kept hk, ?_⟩
  · exact name_of_addr x.apart (PySem.mem_of_lookup h1) (PySem.mem_of_lookup h2)
  · have hy : scope.names.lookup y = some .cell ∨ scope.names.lookup y = some .free := hy
    rcases hy with hy | hy
    · exact cell_has hy
    · exact absurd rfl (S.nofree _ (PySem.mem_of_lookup hy))
  · exact Nat.le_of_lt (x.above y c (PySem.mem_of_lookup h))
  · have hi : i < vs.length := by
      unfold start at h2
      by_cases hi : i < vs.length
      · exact hi
      · rw [List.getElem?_append_right (by simpa using hi)] at h2
        rw [List.getElem?_replicate] at h2
        split at h2 <;> cases h2
    have ha : vs[i]? = some v := by
      unfold start at h2
      rw [List.getElem?_append_left (by simpa using hi), List.getElem?_map] at h2
      cases e : vs[i]? with
      | none => rw [e] at h2; cases h2
      | some a => rw [e] at h2; cases h2; rfl
    obtain ⟨u, hu, rv⟩ := r.get ha
    have hp : ps[i]? = some y := by
      rw [← S.pre, List.getElem?_take_of_lt (by omega)]; exact h1
    have ndP : ps.Nodup := by rw [← S.pre]; exact S.nd.sublist (List.take_sublist _ _)
    refine ⟨u, rv, ?_⟩
    rcases S.par y (List.mem_of_getElem? hp) with k | k
    · exact .inl ⟨k, bindL_get ndP hp hu k⟩
    · obtain ⟨c, e⟩ := cell_has (n := s.heap.objs.size + 1) k
      refine .inr ⟨.inl k, c, e, ?_⟩
      have q := x.cell y c e
      rw [bindC_get ndP hp hu (by show scope.names.lookup y ≠ _; rw [k]; decide)] at q
      exact q
  · exact e0.hok.fresh (Nat.le_of_lt (x.above y c (PySem.mem_of_lookup h)))
  · unfold start
    show _ = N.length
    rw [List.length_append, List.length_map, List.length_replicate]
    omega

/-- THE RULE: a def (or a method) of the text, by its body. The body's reading t is chosen for each entry; it is run at the parameters' values -/
theorem fn_of {CX : CXT} {P : Program} {w : World} {K : PySem.W.Frag} {mg : Str → Option Value} {base : Heap} {k : Nat} {f : Addr} {name qual : Str} {params : Arguments} {body : List Stmt} {scope : Scope} {dV kV doc pm cdv ct oc : Value} {an od : Option Addr}
    {osl : Array (Option Value)} {N ps : List Str} {sp : Sp} (lk : K.lookup f = some ⟨oc, od, .func (PySem.W.fnOf name qual params body scope dV kV doc pm an cdv ct), osl⟩) (hcd : PySem.W.codeIn K cdv qual = true) (S : FnScope N ps scope)
    (len : ∀ vs H Q E, sp vs H Q E → vs.length = ps.length)
    (hbody : ∀ (A : Around) (outer : List Env) (s : Shared) (H : Hp) (vs : List V) (Q : VK) (E : XK), Room k (A.deeper (envOfC qual scope s.heap.objs.size f cdv)) → sp vs H Q E →
      ∃ t, PSs (cxOf CX P w K mg base N qual scope f cdv A outer s H E) body t ∧ t { nx := fun _ H' => Q .non H', rt := Q } (start N vs) H) :
    FnOk P w K mg base CX (k + 1) f (PySem.W.fnOf name qual params body scope dV kV doc pm an cdv ct) ps sp := by
  refine ⟨len, fun A outer s H args us vs Q E hr e0 hb r hsp => ?_⟩
  have hl := len _ _ _ _ hsp
  have KX : K.In s.heap := e0.mod.kin.keeps fun b o e => (e0.bs b o e).1
  have lim : s.heap.NoLimit := e0.mod.nolimit.keeps fun b o e => (e0.bs b o e).1
  have hkind : ∀ y ∈ ps.zip us, scope.names.lookup y.1 = some .local ∨ (scope.names.lookup y.1 = some .cell ∧ ((cellsFrom (s.heap.objs.size + 1) scope.names []).lookup y.1).isSome = true) := fun ⟨n, v⟩ hy => by
    rcases S.par n (List.of_mem_zip hy).1 with q | q
    · exact .inl q
    · exact .inr ⟨q, PySem.W.cellsFrom_some _ _ _ (.inl q)⟩
  refine codeAny_call_function hr.depth (KX _ _ lk) rfl S.co S.gen rfl (PySem.W.codeRec_of KX hcd) (hb _ _ _ _ ?_)
  refine wpAny_newFunctionEnv_cells S.kind hkind fun env he s1 x => ?_
  subst he
  refine ⟨lim.keeps x.toInCall.keep, codeAny_func ?_⟩
  obtain ⟨t, ht, hq⟩ := hbody A outer s H vs Q E (hr.deeper _) hsp
  have I : Inv (cxOf CX P w K mg base N qual scope f cdv A outer s H E) [] (start N vs) H s1 := inv_start S hr.hd e0 hl r x
  refine wpAny_mono (ht [] s1 (start N vs) H _ I hq) (fun fl s' hs => ?_) fun e s' hs => hs
  have fin : ∀ {σ' : St} {H' : Hp} {v : V} {u : Value}, Inv (cxOf CX P w K mg base N qual scope f cdv A outer s H E) [] σ' H' s' → RelV v u → Q v H' → CE outer P w H s Q u s' :=
    fun {σ' H' v u} J rv q => ⟨v, H', J.os, J.bare, J.base, J.hok, rv, q⟩
  cases fl with
  | ret u =>
    obtain ⟨v, σ', H', J, rv, q⟩ := hs
    exact fin J rv q
  | next =>
    obtain ⟨σ', H', J, q⟩ := hs
    exact fin (v := V.non) (u := Value.none) J rfl q
  | brk =>
    obtain ⟨_, _, _, q⟩ := hs
    exact False.elim q
  | cont =>
    obtain ⟨_, _, _, q⟩ := hs
    exact False.elim q
end L2

namespace L2
open PySem PySem.Spec PyProof.Rows
section
variable {X : Cx} {x : Str} {p pos : Pos} {e : Expr} {es : List Expr} {t : TA} {id T : String} {r : List V → Hp → VK → Prop}

def tCB (r : List V → Hp → VK → Prop) (t : TA) : TE := fun σ H Q => t σ H fun vs H1 => r vs H1 Q
/-- f(e, ..), f a built-in function -/
theorem pe_callB (hc : CallR X (.builtin id) r) (hg : Gl X x) (hm : X.mg x = none) (hv : bootBuiltins x = some (.builtin id)) (ha : PA X (e :: es) t) (hn : x ≠ "__name__" := by decide) (hdb : (x == ("__debug__" : Str)) = false := by decide)
    (he : starEach (e :: es) X.env = (false, eval e X.env) :: starEach es X.env := by rfl) (hpl : (backTo pos (starEach es X.env)).any (·.1) = false := by rfl) : PE X (.Call (.Name x p) (e :: es) [] pos) (tCB r t) := by
  intro pins s σ H Q I h
  refine wpAny_Call_Name_kw (ld_blt I hg hm hv ?_ hn hdb)
  exact PyProof.Rows.callWith_builtin1 (thn (ha pos pins s σ H _ I h) fun us s1 ⟨vs, H1, I1, r1, q1⟩ => hc pins s1 σ H1 vs us Q I1 r1 q1) he hpl
/-- T(e, ..), T a built-in type -/
theorem pe_callTy (hc : CallR X (.type T) r) (hg : Gl X x) (hm : X.mg x = none) (hv : bootBuiltins x = some (.type T)) (ha : PA X (e :: es) t) (hn : x ≠ "__name__" := by decide) (hdb : (x == ("__debug__" : Str)) = false := by decide)
    (he : starEach (e :: es) X.env = (false, eval e X.env) :: starEach es X.env := by rfl) (hpl : (backTo pos (starEach es X.env)).any (·.1) = false := by rfl) : PE X (.Call (.Name x p) (e :: es) [] pos) (tCB r t) := by
  intro pins s σ H Q I h
  refine wpAny_Call_Name_kw (ld_blt I hg hm hv ?_ hn hdb)
  exact PyProof.Rows.callWith_type1 (thn (ha pos pins s σ H _ I h) fun us s1 ⟨vs, H1, I1, r1, q1⟩ => hc pins s1 σ H1 vs us Q I1 r1 q1) he hpl
end
end L2

namespace HT
open PySem PyProof.Rows

/-- t < u of tuples of ints -/
def lexLt : List Int → List Int → Bool
  | [], [] => false
  | [], _ :: _ => true
  | _ :: _, [] => false
  | x :: xs, y :: ys => if x = y then lexLt xs ys else decide (x < y)
section
open PySem.SeqAt
open PySem.AutoSeq1 (wpAny_loadPart')
open PySem.MeetsSeq PySem.MeetsSeq2 PySem.MeetsSeq3

end

section
variable {prog : Program} {w : World} {A : Around} {E : Value → Shared → Prop} {s : Shared}

/-- t + u, t not empty -/
theorem cat_tup {t b : Addr} {vs ws : List Value} {Q : Value → Shared → Prop} (ht : IsTup s.heap t vs.toArray) (hb : IsTup s.heap b ws.toArray) (hv : vs ≠ [])
    (h1 : ws = [] → Q (.ref t) s) (h2 : ws ≠ [] → Q (.ref s.heap.objs.size) { s with heap := s.heap.push { cls := .type "tuple", data := .seq (vs ++ ws).toArray } })
    (hsz : vs.length + ws.length ≤ sizeLine) : wpAny (model prog w) A (binaryOp .Add (.ref t) (.ref b)) Q E s := by
  obtain ⟨⟨cls, dd, data, sl⟩, ho, hc, n, hd⟩ := id ht
  obtain ⟨⟨cls2, dd2, data2, sl2⟩, ho2, hc2, n2, hd2⟩ := id hb
  simp only at hc hd hc2 hd2
  subst hc hd hc2 hd2
  have e : vs.toArray ++ ws.toArray = (vs ++ ws).toArray := by simp
  by_cases hw : ws = []
  · exact concat_meets ⟨_, ho, rfl⟩ ⟨_, ho2, rfl⟩ noFill_tuple_add seq_tuple_add PySem.F.slot_tuple_add PySem.F.entry_tuple_add (PySem.F.args_tuple_add_2 _ _)
      (tuple_addW1 t b vs.toArray ws.toArray n n2 dd dd2 sl sl2 (by simpa using hv) (by simp [hw])) ⟨ho, ho2, h1 hw⟩
  · refine concat_meets ⟨_, ho, rfl⟩ ⟨_, ho2, rfl⟩ noFill_tuple_add seq_tuple_add PySem.F.slot_tuple_add PySem.F.entry_tuple_add (PySem.F.args_tuple_add_2 _ _)
      (tuple_addW2 t b vs.toArray ws.toArray n n2 dd dd2 sl sl2 (by simpa using hv) (by simpa using hw) (by rw [List.size_toArray, List.size_toArray]; exact hsz)) ⟨ho, ho2, ?_⟩
    rw [e]
    exact h2 hw

/-! ### t[a:b], not the whole -/
/-- a slice's bound as a place among n (d where it is left out) -/
def sIx (n d : Nat) : Option Int → Nat
  | none => d
  | some v => if v < 0 then (v + (n : Int)).toNat else min v.toNat n
theorem sIx_le (n d : Nat) (hd : d ≤ n) (o : Option Int) : sIx n d o ≤ n := by
  cases o with
  | none => exact hd
  | some v =>
    show (if v < 0 then (v + (n : Int)).toNat else min v.toNat n) ≤ n
    by_cases hv : v < 0
    · rw [if_pos hv]; omega
    · rw [if_neg hv]; exact Nat.min_le_right _ _
theorem clip_eq (v : Int) (n d : Nat) : (if v < 0 then max (v + (n : Int)) 0 else min v (n : Int)) = ((sIx n d (some v) : Nat) : Int) := by
  show (if v < 0 then max (v + (n : Int)) 0 else min v (n : Int)) = (((if v < 0 then (v + (n : Int)).toNat else min v.toNat n) : Nat) : Int)
  by_cases hv : v < 0
  · simp only [if_pos hv]; omega
  · simp only [if_neg hv]; omega
theorem adjust_gen (lo hi : Option Int) (n : Nat) : Builtin.Slice.sliceAdjust lo hi 1 (n : Int) = (((sIx n 0 lo : Nat) : Int), ((sIx n n hi : Nat) : Int)) := by
  have h1 : ¬ ((1 : Int) < 0) := by omega
  unfold Builtin.Slice.sliceAdjust
  simp only [h1, if_false]
  refine Prod.ext ?_ ?_
  · cases lo with
    | none => rfl
    | some v => exact clip_eq v n 0
  · cases hi with
    | none => rfl
    | some v => exact clip_eq v n n
theorem places_gen (i j : Nat) : Builtin.Slice.slicePlaces (i : Int) (j : Int) 1 = j - i := by
  unfold Builtin.Slice.slicePlaces
  have h1 : (1 : Int) > 0 := by omega
  simp only [h1, if_true, Int.ediv_one]
  split <;> omega
theorem slicePart_ {v : Value} {o : Option Int} {Q : Option Int → Shared → Prop} (p : IsPart v o) (h : Q o s) : wpAny (model prog w) A (Builtin.Slice.slicePartIndex v) Q E s := by
  cases p with
  | none => exact slicePart_none h
  | int i t => exact slicePart_int h
theorem sliceApplied_gen {sl : Addr} {vl vu : Value} {lo hi : Option Int} {n : Nat} {Q : Int × Int × Nat → Shared → Prop} (hs : s.heap.IsSliceOf sl vl vu .none) (pl : IsPart vl lo) (pu : IsPart vu hi)
    (h : Q (((sIx n 0 lo : Nat) : Int), 1, sIx n n hi - sIx n 0 lo) s) : wpAny (model prog w) A (Builtin.Slice.sliceApplied (.ref sl) (pure (n : Int))) Q E s := by
  obtain ⟨os, hos, hcs, hds⟩ := id hs
  unfold Builtin.Slice.sliceApplied Builtin.Slice.sliceFields
  refine wpAny_bind (wpAny_bind (wpAny_field hos hds (x := vl) rfl (wpAny_bind (wpAny_field hos hds (x := vu) rfl (wpAny_bind (wpAny_field hos hds (x := .none) rfl (wpAny_pure ?_)))))))
  refine wpAny_bind (slicePart_none ?_)
  show wpAny _ _ (if ((1 : Int) == 0) = true then _ else _) _ _ s
  rw [if_neg (by decide)]
  refine wpAny_bind (slicePart_ pl (wpAny_bind (slicePart_ pu (wpAny_bind (wpAny_pure ?_)))))
  show wpAny _ _ (match Builtin.Slice.sliceAdjust lo hi 1 (n : Int) with | (lo, hi) => pure (lo, (1 : Int), Builtin.Slice.slicePlaces lo hi 1)) _ _ s
  rw [adjust_gen lo hi n]
  show wpAny _ _ (pure (((sIx n 0 lo : Nat) : Int), (1 : Int), Builtin.Slice.slicePlaces ((sIx n 0 lo : Nat) : Int) ((sIx n n hi : Nat) : Int) 1)) _ _ s
  rw [places_gen]
  exact wpAny_pure h
theorem pick_gen (xs : Array Value) (i k : Nat) : ((List.range k).filterMap fun (m : Nat) => xs[((i : Int) + (m : Int) * 1).toNat]?).toArray = ((xs.toList.drop i).take k).toArray := by
  have e : (fun (m : Nat) => xs[((i : Int) + (m : Int) * 1).toNat]?) = fun m => xs[i + m]? := by
    funext m
    have : ((i : Int) + (m : Int) * 1).toNat = i + m := by omega
    rw [this]
  rw [e]
  have := pick_run xs i k
  rw [List.filterMap_map] at this
  have e2 : ((fun x => xs[x]?) ∘ fun x => i + x) = fun m => xs[i + m]? := rfl
  rw [e2] at this
  rw [this]

theorem getItem_tuple_cut {t sl : Addr} {items : Array Value} {vl vu : Value} {lo hi : Option Int} {Q : Value → Shared → Prop} (ht : IsTup s.heap t items) (hs : s.heap.IsSliceOf sl vl vu .none) (pl : IsPart vl lo) (pu : IsPart vu hi)
    (hw : ¬ (sIx items.size 0 lo = 0 ∧ sIx items.size items.size hi = items.size))
    (h : Q (.ref s.heap.objs.size) { s with heap := s.heap.push { cls := .type "tuple", data := .seq ((items.toList.drop (sIx items.size 0 lo)).take (sIx items.size items.size hi - sIx items.size 0 lo)).toArray } })
    (hsz : items.size ≤ sizeLine) : wpAny (model prog w) A (getItem (.ref t) (.ref sl)) Q E s := by
  have htake : sizeOk (.seq ((items.toList.drop (sIx items.size 0 lo)).take (sIx items.size items.size hi - sIx items.size 0 lo)).toArray) := by
    show ((items.toList.drop (sIx items.size 0 lo)).take (sIx items.size items.size hi - sIx items.size 0 lo)).toArray.size ≤ sizeLine
    rw [List.size_toArray, List.length_take, List.length_drop, Array.length_toList]
    omega
  have hj : sIx items.size items.size hi ≤ items.size := sIx_le _ _ (Nat.le_refl _) hi
  obtain ⟨os, hos, hcs, hds⟩ := id hs
  have hTs : s.TypeIs (.ref sl) "slice" := ⟨os, hos, hcs⟩
  unfold getItem
  try with_reducible refine wpAny_holding ?_
  first | refine wpAny_bind (wpAny_pure ?_) | skip
  refine wpAny_bind (wpAny_sequenceKey ht.typeIs (by decide) ?_)
  refine wpAny_bind (wpAny_callSpecial?_slot (name := Str.ofString "__getitem__") ht.typeIs PyProof.Rows.slot_tuple_getitem
    (wpAny_call_entry PyProof.Rows.slot_tuple_getitem ht.typeIs entry_tuple_getitem ?_ (args_tuple_getitem _ _)))
  show wpAny _ _ (Builtin.Tuple.tupleItemsOf (.ref t) >>= _) _ _ s
  refine wpAny_bind (tupleItemsOf_ ht ?_)
  refine wpAny_bind (wpAny_typeOf hTs ?_)
  rw [if_pos (by decide)]
  refine wpAny_bind (sliceApplied_gen hs pl pu ?_)
  have hno : ¬ ((((sIx items.size 0 lo : Nat) : Int) == 0 && (1 : Int) == 1 && (sIx items.size items.size hi - sIx items.size 0 lo) == items.size) = true) := by
    intro q
    rw [Bool.and_eq_true, Bool.and_eq_true] at q
    have q1 : ((sIx items.size 0 lo : Nat) : Int) = 0 := eq_of_beq q.1.1
    have q2 : sIx items.size items.size hi - sIx items.size 0 lo = items.size := eq_of_beq q.2
    exact hw ⟨by omega, by omega⟩
  show wpAny _ _ (if (((sIx items.size 0 lo : Nat) : Int) == 0 && (1 : Int) == 1 && (sIx items.size items.size hi - sIx items.size 0 lo) == items.size) = true then _ else _) _ _ s
  rw [if_neg hno, pick_gen]
  first
    | exact wpAny_bind (m := Builtin.Tuple.tupleExact _) (wpAny_newObj_type (wpAny_pure ⟨_, rfl, wpAny_pure h⟩) htake)
    | exact wpAny_bind (m := Builtin.Tuple.tupleExact _) (wpAny_newObj_type (wpAny_bind (wpAny_pure (wpAny_pure ⟨_, rfl, wpAny_pure h⟩))) htake)
    | exact wpAny_bind (wpAny_bind (m := Builtin.Tuple.tupleExact _) (wpAny_newObj_type (wpAny_pure (wpAny_pure ⟨_, rfl, wpAny_pure h⟩)) htake))
    | exact wpAny_bind (wpAny_bind (m := Builtin.Tuple.tupleExact _) (wpAny_newObj_type (wpAny_pure ⟨_, rfl, wpAny_pure h⟩) htake))
end
end HT

namespace L2
open PySem PySem.Spec PyProof.Rows

/-! ### the parts of a slice -/
abbrev TO := St → Hp → (Option Int → Hp → Prop) → Prop
/-- a slice's part (left out, or an int) -/
def PO (X : Cx) (e : Option Expr) (t : TO) : Prop :=
  ∀ (pins : List (Addr × Obj)) (s : Shared) (σ : St) (H : Hp) (Q : Option Int → Hp → Prop), Inv X pins σ H s → t σ H Q →
    wpAny (model X.prog X.w) X.A (evalPart e X.env) (fun u s' => ∃ o H', Inv X pins σ H' s' ∧ IsPart u o ∧ Q o H') X.xe s
def tNoPart : TO := fun _ H Q => Q none H
def tPart (t : TE) : TO := fun σ H Q => t σ H fun x H1 => ∃ i, x = .int i ∧ Q (some i) H1

theorem intsAre_of {ns : List Int} : ∀ {us : List Value}, Vals (ns.map V.int) us → IntsAre us ns := by
  induction ns with
  | nil => intro us r; rw [List.map_nil] at r; cases r; exact .nil
  | cons n ns ih =>
    intro us r
    rw [List.map_cons] at r
    cases r with
    | cons r1 r2 =>
      obtain ⟨t, e⟩ := r1
      subst e
      exact .cons n t (ih r2)

section
variable {X : Cx} {e : Expr} {te : TE} {lo hi : Option Expr} {tl th : TO} {pos p2 : Pos}

theorem po_none : PO X none tNoPart := by
  intro pins s σ H Q I h
  rw [evalPart_none]
  exact wpAny_pure ⟨none, H, I, .none, h⟩
theorem po_some (h : PE X e te) : PO X (some e) (tPart te) := by
  intro pins s σ H Q I hw
  rw [evalPart_some]
  refine thn (h pins s σ H _ I hw) fun u s1 ⟨x, H1, I1, r1, q1⟩ => ?_
  obtain ⟨i, rfl, q⟩ := q1
  obtain ⟨t, rfl⟩ := r1
  exact ⟨some i, H1, I1, .int i t, q⟩

/-- what a slice of a value is, by values: the slice object stands at sl -/
def SlR (X : Cx) (r : V → Option Int → Option Int → Hp → VK → Prop) : Prop :=
  ∀ (pins : List (Addr × Obj)) (s : Shared) (σ : St) (H : Hp) (x : V) (v vl vu : Value) (lo hi : Option Int) (sl : Addr) (Q : VK), Inv X pins σ H s → RelV x v → s.heap.IsSliceOf sl vl vu .none → IsPart vl lo → IsPart vu hi → r x lo hi H Q →
    ∃ T id, typeLookup (.type T) "__getitem__" = pure (some (.builtin id)) ∧ s.TypeIs v T ∧ wpAny (model X.prog X.w) X.A (getItem v (.ref sl)) (EP X pins σ Q) X.xe s
def tSl (r : V → Option Int → Option Int → Hp → VK → Prop) (te : TE) (tl th : TO) : TE := fun σ H Q => te σ H fun x H1 => tl σ H1 fun l H2 => th σ H2 fun u H3 => r x l u H3 Q
/-- a[lo:hi], any a -/
theorem pe_slice {r : V → Option Int → Option Int → Hp → VK → Prop} (hr : SlR X r) (he : PE X e te) (hl : PO X lo tl) (hu : PO X hi th) : PE X (.Subscript e (.Slice lo hi none p2) pos) (tSl r te tl th) := by
  intro pins s σ H Q I h
  refine Subscript_ (thn (he pins s σ H _ I h) fun v s1 ⟨x, H1, I1, r1, q1⟩ => ?_)
  refine wpAny_Slice (thn (hl pins s1 σ H1 _ I1 q1) fun vl s2 ⟨l, H2, I2, pl, q2⟩ => thn (hu pins s2 σ H2 _ I2 q2) fun vu s3 ⟨u, H3, I3, pu, q3⟩ => ?_)
  rw [evalPart_none]
  refine wpAny_pure ?_
  have I4 : Inv X pins σ H3 { s3 with heap := s3.heap.push { cls := .type "slice", data := .fields #[vl, vu, .none] } } := I3.kept (t' := s3.toks) fun b ob q => Heap.get?_push_of_some _ q
  obtain ⟨T, id, hT, ht, hg⟩ := hr pins { s3 with heap := s3.heap.push { cls := .type "slice", data := .fields #[vl, vu, .none] } } σ H3 x v vl vu l u s3.heap.objs.size Q I4 r1 (Heap.IsSliceOf.new ..) pl pu q3
  show wpAny (model X.prog X.w) X.A (subscriptTail e (.Slice lo hi none p2) v (.ref s3.heap.objs.size)) (EP X pins σ Q) X.xe { s3 with heap := s3.heap.push { cls := .type "slice", data := .fields #[vl, vu, .none] } }
  exact tail_any (ops := [.ref s3.heap.objs.size, v]) ht hT hg (by with_unfolding_all rfl)

/-- the items of xs[lo:hi] -/
def cutV (xs : List V) (lo hi : Option Int) : List V := (xs.drop (HT.sIx xs.length 0 lo)).take (HT.sIx xs.length xs.length hi - HT.sIx xs.length 0 lo)
theorem cutV_length (xs : List V) (lo hi : Option Int) : (cutV xs lo hi).length ≤ xs.length := by
  unfold cutV
  rw [List.length_take, List.length_drop]
  omega
/-- t[lo:hi], not the whole of it (the whole would be t itself) -/
def rSlT (K : PySem.W.Frag) : V → Option Int → Option Int → Hp → VK → Prop := fun x lo hi H Q => ∃ a xs, x = .ref a ∧ SqT K H a xs ∧
  ¬ (HT.sIx xs.length 0 lo = 0 ∧ HT.sIx xs.length xs.length hi = xs.length) ∧ ∀ p, H p = none → Q (.ref p) (upd H p (.tup (cutV xs lo hi)))
theorem sl_tup : SlR X (rSlT X.K) := by
  intro pins s σ H x v vl vu lo hi sl Q I rx hs pl pu h
  obtain ⟨a, xs, rfl, hx, hw, q⟩ := h
  cases rx
  obtain ⟨its, r, ht, hz⟩ := I.tuple hx
  have hlen : its.toArray.size = xs.length := by rw [List.size_toArray]; exact r.length.symm
  refine ⟨"tuple", _, PyProof.Rows.slot_tuple_getitem.lookup, ht.typeIs, ?_⟩
  refine HT.getItem_tuple_cut ht hs pl pu (by rw [hlen]; exact hw) ?_ (by rw [hlen]; exact hz)
  rw [hlen]
  refine ⟨.ref s.heap.objs.size, _, I.laid (t' := s.toks) (o := .tup (cutV xs lo hi)) (fun b ob q => Heap.get?_push_of_some _ q) (Nat.le_refl _) ?_, rfl, q _ (I.hok.fresh (Nat.le_refl _))⟩
  exact ⟨Nat.le_trans (cutV_length xs lo hi) hz, _, (r.drop (HT.sIx xs.length 0 lo)).take (HT.sIx xs.length xs.length hi - HT.sIx xs.length 0 lo), IsTup.new _ _⟩

/-! ### t < u, t + u -/
/-- t + u, t not empty: u empty gives t itself -/
def rCatT (K : PySem.W.Frag) : R2 := fun x y H Q => ∃ a b xs ys, x = .ref a ∧ y = .ref b ∧ SqT K H a xs ∧ SqT K H b ys ∧ xs ≠ [] ∧ xs.length + ys.length ≤ sizeLine ∧
  (ys = [] → Q (.ref a) H) ∧ (ys ≠ [] → ∀ p, H p = none → Q (.ref p) (upd H p (.tup (xs ++ ys))))
theorem Vals.nil_iff {xs : List V} {us : List Value} (r : Vals xs us) : us = [] ↔ xs = [] := by
  cases r with
  | nil => simp
  | cons _ _ => simp
theorem op_catT : OpR X (binaryOp .Add) (rCatT X.K) := by
  intro pins s σ H x y v u Q I rx ry h
  obtain ⟨a, b, xs, ys, rfl, rfl, ha, hb, hx, hz, q1, q2⟩ := h
  cases rx
  cases ry
  obtain ⟨its, r1, p1, _⟩ := I.tuple ha
  obtain ⟨its2, r2, p2, _⟩ := I.tuple hb
  refine HT.cat_tup p1 p2 (fun z => hx (r1.nil_iff.mp z)) (fun z => ⟨.ref a, H, I, rfl, q1 (r2.nil_iff.mp z)⟩) (fun z => ?_) (by rw [← r1.length, ← r2.length]; exact hz)
  refine ⟨.ref s.heap.objs.size, _, I.laid (t' := s.toks) (o := .tup (xs ++ ys)) (fun b ob q => Heap.get?_push_of_some _ q) (Nat.le_refl _) ?_, rfl, q2 (fun w => z (r2.nil_iff.mpr w)) _ (I.hok.fresh (Nat.le_refl _))⟩
  exact ⟨by rw [List.length_append]; exact hz, _, r1.append r2, IsTup.new _ _⟩
end
end L2

namespace L2
open PySem PySem.Spec PyProof.Rows

/-! ### places -/
/-- the place that an index of any sign means -/
def ixN (n : Nat) (i : Int) : Option Nat := if 0 ≤ i then (if i < n then some i.toNat else none) else if -(n : Int) ≤ i then some (i + n).toNat else none
def atI {α : Type} (xs : List α) (i : Int) : Option α := (ixN xs.length i).bind fun j => xs[j]?
theorem ixN_seq {n : Nat} {i : Int} {j : Nat} (h : ixN n i = some j) : seqIndex? i n = some j ∧ j < n ∧ -(n : Int) ≤ i ∧ i < n := by
  unfold ixN at h
  by_cases h0 : 0 ≤ i
  · rw [if_pos h0] at h
    by_cases h1 : i < n
    · rw [if_pos h1] at h
      have e : i.toNat = j := Option.some.inj h
      exact ⟨by rw [seqIndex_of h0 h1, e], by omega, by omega, h1⟩
    · rw [if_neg h1] at h; cases h
  · rw [if_neg h0] at h
    by_cases h1 : -(n : Int) ≤ i
    · rw [if_pos h1] at h
      have e : (i + n).toNat = j := Option.some.inj h
      exact ⟨by rw [seqIndex_neg (by omega) h1, e], by omega, h1, by omega⟩
    · rw [if_neg h1] at h; cases h
theorem atI_get {α : Type} {xs : List α} {i : Int} {v : α} (h : atI xs i = some v) : ∃ j, seqIndex? i xs.length = some j ∧ xs[j]? = some v ∧ j < xs.length ∧ -(xs.length : Int) ≤ i ∧ i < xs.length := by
  unfold atI at h
  cases e : ixN xs.length i with
  | none => rw [e] at h; cases h
  | some j =>
    rw [e] at h
    obtain ⟨h1, h2, h3, h4⟩ := ixN_seq e
    exact ⟨j, h1, h, h2, h3, h4⟩
theorem atI_nat {α : Type} {xs : List α} {j : Nat} {v : α} (h : xs[j]? = some v) : atI xs (j : Int) = some v := by
  have hj : j < xs.length := (List.getElem?_eq_some_iff.mp h).1
  have e : ixN xs.length (j : Int) = some j := by
    unfold ixN
    rw [if_pos (by omega), if_pos (by omega)]; simp
  unfold atI; rw [e]; exact h
theorem atI_last {α : Type} (xs : List α) (v : α) : atI (xs ++ [v]) (-1) = some v := by
  have hl : (xs ++ [v]).length = xs.length + 1 := by simp
  have e : ixN (xs ++ [v]).length (-1) = some xs.length := by
    unfold ixN
    rw [hl, if_neg (by decide), if_pos (by omega)]
    congr 1
    omega
  unfold atI
  rw [e]
  show (xs ++ [v])[xs.length]? = some v
  simp

/-! ### what may be subscripted -/
/-- what stands as an index of a plain subscript -/
def PlainIx (b : Expr) : Prop := ∀ o i, subscripted b false o i = operate [o, i] (getItem o i)
/-- a subscript by values -/
def IxR (X : Cx) (r : R2) : Prop :=
  ∀ (value slice : Expr) (pins : List (Addr × Obj)) (s : Shared) (σ : St) (H : Hp) (x y : V) (v u : Value) (Q : VK), Inv X pins σ H s → RelV x v → RelV y u → r x y H Q →
    subscripted slice false v u = operate [v, u] (getItem v u) → wpAny (model X.prog X.w) X.A (subscriptTail value slice v u) (EP X pins σ Q) X.xe s
/-- a call of a builtin's method by values: the receiver, the arguments -/
def MtR (X : Cx) (id : String) (r : V → List V → Hp → VK → Prop) : Prop :=
  ∀ (pins : List (Addr × Obj)) (s : Shared) (σ : St) (H : Hp) (x : V) (xs : List V) (v : Value) (us : List Value) (Q : VK), Inv X pins σ H s → RelV x v → Vals xs us → r x xs H Q →
    wpAny (model X.prog X.w) X.A (call (.builtin id) (v :: us)) (EP X pins σ Q) X.xe s
section
variable {X : Cx} {a b : Expr} {ta tb : TE} {pos : Pos}
/-- a[b] -/
theorem pe_ix {r : R2} (hr : IxR X r) (ha : PE X a ta) (hb : PE X b tb) (hs : PlainIx b) : PE X (.Subscript a b pos) (tOp r ta tb) := by
  intro pins s σ H Q I h
  exact Subscript_ (binT ha hb I h fun v u s2 x y H2 I2 rx ry q => hr a b pins s2 σ H2 x y v u Q I2 rx ry q (hs _ _))

def rIxL (K : PySem.W.Frag) : R2 := fun x y H Q => ∃ p xs i v, x = .ref p ∧ y = .int i ∧ SqL K H p xs ∧ atI xs i = some v ∧ Q v H
def rIxT (K : PySem.W.Frag) : R2 := fun x y H Q => ∃ p xs i v, x = .ref p ∧ y = .int i ∧ SqT K H p xs ∧ atI xs i = some v ∧ Q v H
def rIxS : R2 := fun x y H Q => ∃ z i c, x = .str z ∧ y = .int i ∧ z.length ≤ sizeLine ∧ atI z.cps.toList i = some c ∧ Q (.str ⟨#[c]⟩) H
theorem ix_list : IxR X (rIxL X.K) := by
  intro value slice pins s σ H x y v u Q I rx ry h hs
  obtain ⟨p, xs, i, z, rfl, rfl, hq, he, q⟩ := h
  cases rx
  obtain ⟨t, rfl⟩ := ry
  obtain ⟨its, r, pl, hz⟩ := I.list hq
  obtain ⟨j, h1, h2, h3, h4, h5⟩ := atI_get he
  obtain ⟨w, ew, rw'⟩ := r.get h2
  have hl := r.length
  have hn := line63
  have fin : EP X pins σ Q w s := ⟨z, H, I, rw', q⟩
  by_cases h0 : 0 ≤ i
  · have hj : i.toNat = j := by
      rw [seqIndex_of h0 h5] at h1
      exact Option.some.inj h1
    exact item_listR pl.isList h0 (by omega) (by rw [hj]; simpa using ew) fin hs
  · have hj : (i + (its.toArray.size : Int)).toNat = j := by
      rw [seqIndex_neg (by omega) h4] at h1
      rw [List.size_toArray, ← hl]
      exact Option.some.inj h1
    exact subscriptTail_builtinR (x := w) pl.isList.typeIs slot_list_getitem.lookup
      (wpAny_getItem_list_neg (Q := fun r s' => r = w ∧ EP X pins σ Q r s') pl.isList (by omega) (by rw [List.size_toArray] <;> omega) (by omega) (by rw [hj]; simpa using ew) ⟨rfl, fin⟩) hs
theorem ix_tup : IxR X (rIxT X.K) := by
  intro value slice pins s σ H x y v u Q I rx ry h hs
  obtain ⟨p, xs, i, z, rfl, rfl, hq, he, q⟩ := h
  cases rx
  obtain ⟨t, rfl⟩ := ry
  obtain ⟨its, r, pl, hz⟩ := I.tuple hq
  obtain ⟨j, h1, h2, h3, h4, h5⟩ := atI_get he
  obtain ⟨w, ew, rw'⟩ := r.get h2
  have hl := r.length
  have hn := line63
  have fin : EP X pins σ Q w s := ⟨z, H, I, rw', q⟩
  exact subscriptTail_builtinR (x := w) pl.typeIs slot_tuple_getitem.lookup
    (getItem_tuple (j := j) (Q := fun r s' => r = w ∧ EP X pins σ Q r s') pl (by omega) (by omega) (by rw [List.size_toArray, ← hl]; exact h1) (by simpa using ew) ⟨rfl, fin⟩) hs
/-! ### xs[i] = v, any sign -/
/-! ### slices -/
/-- xs[lo:hi] of a list: a new list -/
def rSlL (K : PySem.W.Frag) : V → Option Int → Option Int → Hp → VK → Prop := fun x lo hi H Q => ∃ a xs, x = .ref a ∧ SqL K H a xs ∧ ∀ p, H p = none → Q (.ref p) (upd H p (.lst (cutV xs lo hi)))
/-! ### in, not in: flat items -/
def flatV : V → Bool
  | .non => true
  | .bl _ => true
  | .int _ => true
  | .str _ => true
  | _ => false
/-- == of flat values -/
def eqV : V → V → Bool
  | .non, .non => true
  | .bl a, .bl b => a == b
  | .bl a, .int b => (if a then 1 else 0) == b
  | .int a, .bl b => a == (if b then 1 else 0)
  | .int a, .int b => a == b
  | .str a, .str b => a == b
  | _, _ => false
def inV (x : V) (xs : List V) : Bool := xs.any fun y => eqV y x
/-- x in a list or tuple of flat items -/
def rIn (K : PySem.W.Frag) (neg : Bool) : R2 := fun x y H Q => ∃ p xs, y = .ref p ∧ (SqL K H p xs ∨ SqT K H p xs) ∧ flatV x = true ∧ xs.all flatV = true ∧ Q (.bl (if neg then !inV x xs else inV x xs)) H
/-! ### len, list(x), tuple(x) of any list or tuple that is read -/
theorem call_list_of : CallR X (.type "list") (fun xs H Q => ∃ p ys, xs = [.ref p] ∧ (SqL X.K H p ys ∨ SqT X.K H p ys) ∧ ∀ l, H l = none → Q (.ref l) (upd H l (.lst ys))) := by
  intro pins s σ H xs us Q I r h
  obtain ⟨p, ys, rfl, hq, q⟩ := h
  obtain ⟨u, rfl, rx⟩ := vals1 r
  cases rx
  have fin : ∀ (its : List Value), Vals ys its → ys.length ≤ sizeLine → ∀ (h' : Heap) (c' : Nat), (∀ b o', s.heap.get? b = some o' → h'.get? b = some o') →
      h'.get? s.heap.objs.size = some { cls := .type "list", dict := none, data := .seq its.toArray c', slots := #[] } → EP X pins σ Q (.ref s.heap.objs.size) { s with heap := h' } := fun its r' hz h' c' kp e =>
    ⟨.ref s.heap.objs.size, _, I.laid (t' := s.toks) kp (Nat.le_refl _) (show ObjOk X.prog X.w _ h' _ (.lst ys) from ⟨hz, its, c', r', e⟩), rfl, q _ (I.hok.fresh (Nat.le_refl _))⟩
  rcases hq with hq | hq
  · obtain ⟨its, r', pl, hz⟩ := I.list hq
    have hlen := r'.length
    obtain ⟨o, ho, hc, n, hd⟩ := pl.isList
    exact call_list_seq p (.inl rfl) ho hc hd (fun h' c' kp e => fin its r' hz h' c' kp e) (by simp only [List.size_toArray] <;> omega)
  · obtain ⟨its, r', pl, hz⟩ := I.tuple hq
    have hlen := r'.length
    obtain ⟨o, ho, hc, n, hd⟩ := pl
    exact call_list_seq p (.inr rfl) ho hc hd (fun h' c' kp e => fin its r' hz h' c' kp e) (by simp only [List.size_toArray] <;> omega)
/-! ### the call of a builtin's method: o.m(..) -/
/-- the value is of that builtin type -/
def tyV (K : PySem.W.Frag) (T : String) (x : V) (H : Hp) : Prop := match x with
  | .str _ => T = "str"
  | .int _ => T = "int"
  | .ref p => (T = "list" ∧ ∃ xs, SqL K H p xs) ∨ (T = "tuple" ∧ ∃ o, K.lookup p = some o ∧ o.cls = .type "tuple" ∧ o.dict = none) ∨
      (T = "dict" ∧ ((∃ kvs, H p = some (.dK kvs)) ∨ ∃ kvs, H p = some (.dT kvs))) ∨ (T = "set" ∧ ∃ S n, H p = some (.set S n))
  | _ => False
theorem tyV_is {pins : List (Addr × Obj)} {σ : St} {H : Hp} {s : Shared} {T : String} {x : V} {v : Value} (I : Inv X pins σ H s) (r : RelV x v) (ty : tyV X.K T x H) :
    s.TypeIs v T ∧ ∀ a, v = .ref a → ∃ ob, s.heap.get? a = some ob ∧ ob.dict = none := by
  cases x with
  | str z =>
    obtain ⟨t, rfl⟩ := r
    cases (show T = "str" from ty)
    exact ⟨typeIs_str s z t, fun _ e => nomatch e⟩
  | int i =>
    obtain ⟨t, rfl⟩ := r
    cases (show T = "int" from ty)
    exact ⟨typeIs_int s i t, fun _ e => nomatch e⟩
  | ref p =>
    cases r
    rcases ty with ⟨rfl, xs, hq⟩ | ⟨rfl, o, hk, hc, hd⟩ | ⟨rfl, hk⟩ | ⟨rfl, S, n, hk⟩
    · obtain ⟨its, _, pl, _⟩ := I.list hq
      refine ⟨pl.isList.typeIs, fun a e => ?_⟩
      cases e
      obtain ⟨o, n, e, c, hd, _⟩ := pl
      exact ⟨o, e, hd⟩
    · refine ⟨⟨o, I.kIn p o hk, hc⟩, fun a e => ?_⟩
      cases e
      exact ⟨o, I.kIn _ o hk, hd⟩
    · have z : ∃ o, s.heap.get? p = some o ∧ o.ExactDict := by
        rcases hk with ⟨kvs, hk⟩ | ⟨kvs, hk⟩
        · obtain ⟨_, _, _, _, o, _, _, e, ex, _⟩ := I.hok p _ hk
          exact ⟨o, e, ex⟩
        · obtain ⟨_, _, _, _, o, _, _, e, ex, _⟩ := I.hok p _ hk
          exact ⟨o, e, ex⟩
      obtain ⟨o, e, ex⟩ := z
      refine ⟨⟨o, e, ex.1⟩, fun a e2 => ?_⟩
      cases e2
      exact ⟨o, e, ex.2.1⟩
    · obtain ⟨o, _, _, _, e, ex, _⟩ := I.hok p _ hk
      refine ⟨⟨o, e, ex.1⟩, fun a e2 => ?_⟩
      cases e2
      exact ⟨o, e, ex.2.1⟩
  | _ => exact False.elim ty
def tBM0 (K : PySem.W.Frag) (T : String) (r : V → List V → Hp → VK → Prop) (to : TE) : TE := fun σ H Q => to σ H fun x H1 => tyV K T x H1 ∧ r x [] H1 Q
def tBM (K : PySem.W.Frag) (T : String) (r : V → List V → Hp → VK → Prop) (to : TE) (t : TA) : TE := fun σ H Q => to σ H fun x H1 => tyV K T x H1 ∧ t σ H1 fun xs H2 => r x xs H2 Q
variable {o e : Expr} {es : List Expr} {to : TE} {t : TA} {name : Str} {apos cpos : Pos} {T id : String} {r : V → List V → Hp → VK → Prop}
theorem pe_bm (pa : PlainAttrs T) (slot : Slot T name id) (hty : typeOf (.builtin id) = pure (.type "method_descriptor")) (hm : MtR X id r) (ho : PE X o to) (ha : PA X (e :: es) t)
    (hbase : attributeBase o name X.env (eval o X.env) = eval o X.env := by rfl)
    (hfew : ((backTo cpos (starEach (e :: es) X.env)).all (fun x => !x.1) && (backToKw cpos (keywordEach [] X.env)).all (fun x => x.1.isSome)
      && decide ((e :: es).length + ([] : List Keyword).length + (if ([] : List Keyword).isEmpty then 0 else 1) < 30)) = true := by rfl)
    (hline : (apos.endLine == cpos.line) = true := by rfl) (hs : starEach (e :: es) X.env = (false, eval e X.env) :: starEach es X.env := by rfl) (hplain : (backTo cpos (starEach es X.env)).any (·.1) = false := by rfl) :
    PE X (.Call (.Attribute o name apos) (e :: es) [] cpos) (tBM X.K T r to t) := by
  intro pins s σ H Q I h
  refine wpAny_Call_method_late hbase hfew hline rfl (thn (ho pins s σ H _ I h) fun v s1 ⟨x, H1, I1, r1, ty, q1⟩ => ?_)
  obtain ⟨h1, h2⟩ := tyV_is I1 r1 ty
  refine ⟨T, id, pa, slot, hty, h1, h2, ?_⟩
  have hA := ha cpos pins s1 σ H1 _ I1 q1
  rw [hs] at hA ⊢
  refine Calls.callWith_builtin (by show (false || (backTo cpos (starEach es X.env)).any (·.1)) = false; rw [hplain] <;> rfl) (Calls.evalArgs_plain ?_)
  exact thn hA fun us s2 ⟨vs, H2, I2, r2, q2⟩ => hm pins s2 σ H2 x vs v us Q I2 r1 r2 q2
/- xs.append(e), list.index on a module's tuple .. are MtR facts of 06m -/
end
end L2

namespace L2
open PySem PySem.Spec PyProof.Rows

def MtM (X : Cx) (id : String) (r : V → List V → Hp → VK → Prop) : Prop :=
  ∀ (pins : List (Addr × Obj)) (s : Shared) (σ : St) (H : Hp) (x : V) (xs : List V) (v : Value) (us : List Value) (Q : VK), Inv X pins σ H s → RelV x v → Vals xs us → r x xs H Q →
    wpAny (model X.prog X.w) X.A (call (.builtin id) (v :: us)) (EP X pins σ Q) X.xe s

/-! ### lists of values -/
theorem Vals.one : ∀ {x : V} {us : List Value}, Vals [x] us → ∃ u, us = [u] ∧ RelV x u
  | _, _, .cons r .nil => ⟨_, rfl, r⟩
theorem Vals.eraseIdx : ∀ {xs : List V} {us : List Value} (i : Nat), Vals xs us → Vals (xs.eraseIdx i) (us.eraseIdx i)
  | _, _, _, .nil => .nil
  | _, _, 0, .cons _ t => t
  | _, _, i + 1, .cons r t => .cons r (Vals.eraseIdx i t)
theorem len_erase {α : Type} : ∀ (l : List α) (i : Nat), (l.eraseIdx i).length ≤ l.length
  | [], _ => Nat.le_refl _
  | _ :: _, 0 => Nat.le_succ _
  | _ :: r, i + 1 => Nat.succ_le_succ (len_erase r i)
section
variable {X : Cx} {pins : List (Addr × Obj)} {σ : St} {H : Hp} {s : Shared} {l b : Addr} {xs ys zs : List V}

/-! ### the two steps: a tracked list is rewritten, a new list is laid -/
theorem Inv.lset {its its' : List Value} {n : Nat} {f : Array Value → Array Value} {t' : Nat} (I : Inv X pins σ H s) (hH : H l = some (.lst xs))
    (e : s.heap.get? l = some { cls := .type "list", data := .seq its.toArray n }) (hf : f its.toArray = its'.toArray) (hv : Vals ys its') (hz : ys.length ≤ sizeLine) :
    Inv X pins σ (upd H l (.lst ys)) { s with heap := s.heap.update l (Obj.mapSeq f), toks := t' } := by
  have q := PySem.IsL.update e f
  rw [hf] at q
  refine I.write (x := l) (e := l) (by rw [hH]; exact trivial) (.inl rfl) (fun b' u hb hu => (Heap.get?_update_other s.heap (Obj.mapSeq f) (Ne.symm hb)).trans hu) ⟨_, q⟩ ?_
  exact ⟨hz, its', _, hv, q⟩
theorem Inv.lnew {its : List Value} {t' : Nat} (I : Inv X pins σ H s) (hv : Vals ys its) (hz : ys.length ≤ sizeLine) :
    Inv X pins σ (upd H s.heap.objs.size (.lst ys)) { s with heap := s.heap.push { cls := .type "list", data := .seq its.toArray }, toks := t' } :=
  I.laid (fun _ _ q => Heap.get?_push_of_some _ q) (Nat.le_refl _) ⟨hz, its, 0, hv, Heap.get?_push_size _ rfl⟩
theorem Inv.fresh (I : Inv X pins σ H s) : H s.heap.objs.size = none := I.hok.fresh (Nat.le_refl _)
theorem Inv.lstM (I : Inv X pins σ H s) (hH : H l = some (.lst xs)) : xs.length ≤ sizeLine ∧ ∃ (its : List Value) (n : Nat), Vals xs its ∧ xs.length = its.length ∧ s.heap.get? l = some { cls := .type "list", data := .seq its.toArray n } := by
  obtain ⟨z, its, n, r, e⟩ := I.hok l _ hH
  exact ⟨z, its, n, r, r.length, e⟩

end

section
variable {X : Cx}

/-! ### methods -/
def rAppend : V → List V → Hp → VK → Prop := fun x vs H Q => ∃ l xs y, x = .ref l ∧ vs = [y] ∧ H l = some (.lst xs) ∧ xs.length < sizeLine ∧ Q .non (upd H l (.lst (xs ++ [y])))
theorem mt_append : MtM X "list.append" rAppend := by
  intro pins s σ H x vs v us Q I rx rv h
  obtain ⟨l, xs, y, rfl, rfl, hH, hz, q⟩ := h
  cases rx
  obtain ⟨u, rfl, ru⟩ := rv.one
  obtain ⟨z, its, n, r, hl, e⟩ := I.lstM hH
  refine call_meets F.slot_list_append ⟨_, e, rfl⟩ F.entry_list_append (F.args_list_append_2 _ _) (PySem.list_append l its.toArray n u (by rw [List.size_toArray]; omega)) ⟨e, ?_⟩
  refine ⟨.non, _, I.lset (its' := its ++ [u]) hH e (by simp) (r.append (.cons ru .nil)) ?_, rfl, q⟩
  rw [List.length_append, List.length_singleton]
  omega

def rExtend : V → List V → Hp → VK → Prop := fun x vs H Q => ∃ l b xs zs, x = .ref l ∧ vs = [.ref b] ∧ H l = some (.lst xs) ∧ H b = some (.lst zs) ∧ xs.length + zs.length ≤ sizeLine ∧ Q .non (upd H l (.lst (xs ++ zs)))
def rPop : V → List V → Hp → VK → Prop := fun x vs H Q => ∃ l xs y, x = .ref l ∧ vs = [] ∧ H l = some (.lst xs) ∧ xs[xs.length - 1]? = some y ∧ Q y (upd H l (.lst xs.dropLast))
def rClear : V → List V → Hp → VK → Prop := fun x vs H Q => ∃ l xs, x = .ref l ∧ vs = [] ∧ H l = some (.lst xs) ∧ Q .non (upd H l (.lst []))
/-! ### list + list, list += list, list * int -/
def rCat : R2 := fun x y H Q => ∃ l b xs zs, x = .ref l ∧ y = .ref b ∧ H l = some (.lst xs) ∧ H b = some (.lst zs) ∧ xs.length + zs.length ≤ sizeLine ∧ ∀ p, H p = none → Q (.ref p) (upd H p (.lst (xs ++ zs)))
theorem op_cat : OpR X (binaryOp .Add) rCat := by
  intro pins s σ H x y v u Q I rx ry h
  obtain ⟨l, b, xs, zs, rfl, rfl, hH, hB, hz, q⟩ := h
  cases rx
  cases ry
  obtain ⟨z, its, n, r, hl, e⟩ := I.lstM hH
  obtain ⟨z2, its2, n2, r2, hl2, e2⟩ := I.lstM hB
  refine PySem.P.add_list e e2 ?_ (by rw [List.size_toArray, List.size_toArray]; omega)
  have ea : its.toArray ++ its2.toArray = (its ++ its2).toArray := by simp
  rw [ea]
  exact ⟨.ref _, _, I.lnew (t' := s.toks) (r.append r2) (by rw [List.length_append]; omega), rfl, q _ I.fresh⟩
/-- a list times an int (a negative one is nothing) -/
def rRep : R2 := fun x y H Q => ∃ l k xs, x = .ref l ∧ y = .int k ∧ H l = some (.lst xs) ∧ -(2 ^ 63) ≤ k ∧ k < 2 ^ 63 ∧ xs.length * k.toNat ≤ sizeLine ∧
  ∀ p, H p = none → Q (.ref p) (upd H p (.lst (List.replicate k.toNat xs).flatten))
/-! ### del xs[i] -/
end

/-! ### xs[a:b] = ys -/
section
variable {prog : Program} {w : World} {A : Around} {E : Value → Shared → Prop} {s : Shared}
set_option maxRecDepth 100000 in
end

section
variable {X : Cx}
end
end L2

namespace L2
open PySem PySem.Spec PyProof.Rows

/-! ### lists of pairs as tables -/
section
variable {κ : Type} [DecidableEq κ]
def valV (kvs : List (κ × V)) (k : κ) : Option V := (kvs.find? fun kv => decide (kv.1 = k)).map (·.2)
/-- in its place, or at the end -/
def putK (kvs : List (κ × V)) (k : κ) (v : V) : List (κ × V) :=
  if (kvs.any fun kv => decide (kv.1 = k)) = true then kvs.map (fun kv => if kv.1 = k then (kv.1, v) else kv) else kvs ++ [(k, v)]
def dropK (kvs : List (κ × V)) (k : κ) : List (κ × V) := kvs.filter fun kv => decide (kv.1 ≠ k)

theorem valV_pos {p : κ × V} {r : List (κ × V)} {k : κ} (e : p.1 = k) : valV (p :: r) k = some p.2 := by simp [valV, List.find?_cons, e]
theorem valV_neg {p : κ × V} {r : List (κ × V)} {k : κ} (e : ¬ p.1 = k) : valV (p :: r) k = valV r k := by simp [valV, List.find?_cons, e]
theorem valV_any (k : κ) : ∀ kvs : List (κ × V), (kvs.any fun kv => decide (kv.1 = k)) = (valV kvs k).isSome
  | [] => rfl
  | p :: r => by
    rw [List.any_cons]
    by_cases e : p.1 = k
    · simp only [valV_pos e, decide_eq_true e, Bool.true_or, Option.isSome_some]
    · rw [valV_neg e, decide_eq_false e, Bool.false_or]; exact valV_any k r
theorem valV_map (k j : κ) (y : V) : ∀ kvs : List (κ × V), valV (kvs.map fun kv => if kv.1 = k then (kv.1, y) else kv) j = (valV kvs j).map fun x => if j = k then y else x
  | [] => rfl
  | p :: r => by
    have ih := valV_map k j y r
    rw [List.map_cons]
    by_cases h : p.1 = k
    · rw [if_pos h]
      by_cases e : p.1 = j
      · rw [valV_pos (p := (p.1, y)) e, valV_pos e, Option.map_some, if_pos (e.symm.trans h)]
      · rw [valV_neg (p := (p.1, y)) e, valV_neg e, ih]
    · rw [if_neg h]
      by_cases e : p.1 = j
      · rw [valV_pos (p := p) e, valV_pos e, Option.map_some, if_neg (fun z => h (e.trans z))]
      · rw [valV_neg (p := p) e, valV_neg e, ih]
theorem valV_snoc (k j : κ) (y : V) : ∀ kvs : List (κ × V), valV kvs k = none → valV (kvs ++ [(k, y)]) j = if j = k then some y else valV kvs j
  | [], _ => by
    by_cases e : k = j
    · rw [if_pos e.symm]; exact valV_pos (p := (k, y)) e
    · rw [if_neg (fun z => e z.symm)]; exact valV_neg (p := (k, y)) e
  | p :: r, hn => by
    rw [List.cons_append]
    have hk : ¬ p.1 = k := fun z => by rw [valV_pos z] at hn; cases hn
    rw [valV_neg hk] at hn
    have ih := valV_snoc k j y r hn
    by_cases e : p.1 = j
    · rw [valV_pos e, valV_pos e, if_neg (fun z => hk (e.trans z))]
    · rw [valV_neg e, valV_neg e, ih]
theorem valV_put (kvs : List (κ × V)) (k j : κ) (y : V) : valV (putK kvs k y) j = if j = k then some y else valV kvs j := by
  unfold putK
  by_cases a : (kvs.any fun kv => decide (kv.1 = k)) = true
  · rw [if_pos a, valV_map]
    rw [valV_any] at a
    by_cases e : j = k
    · obtain ⟨x, hx⟩ := Option.isSome_iff_exists.mp a
      rw [if_pos e, e, hx, Option.map_some, if_pos rfl]
    · rw [if_neg e]
      cases valV kvs j with
      | none => rfl
      | some x => rw [Option.map_some, if_neg e]
  · rw [if_neg a]
    refine valV_snoc k j y kvs ?_
    rw [valV_any] at a
    cases q : valV kvs k with
    | none => rfl
    | some x => rw [q] at a; exact (a rfl).elim
theorem length_putK (kvs : List (κ × V)) (k : κ) (v : V) : (putK kvs k v).length ≤ kvs.length + 1 := by
  unfold putK
  split
  · rw [List.length_map]; omega
  · rw [List.length_append, List.length_cons, List.length_nil]; omega
theorem putK_new {kvs : List (κ × V)} {k : κ} (v : V) (h : valV kvs k = none) : putK kvs k v = kvs ++ [(k, v)] := by
  unfold putK
  rw [valV_any, h]
  exact if_neg (by decide)

theorem RelO.isSome_eq {o : Option V} {u : Option Value} (r : RelO o u) : o.isSome = u.isSome := by
  cases o with
  | none => cases u with
    | none => rfl
    | some _ => exact (show False from r).elim
  | some _ => cases u with
    | none => exact (show False from r).elim
    | some _ => rfl
/-- raw tables of the same keys -/
theorem KV.val {kvs : List (κ × V)} {vs : List (κ × Value)} (r : KV kvs vs) (k : κ) : RelO (valV kvs k) (valueAt vs k) := by
  unfold KV at r
  induction r with
  | nil => exact True.intro
  | @cons p q ps qs h t ih =>
    obtain ⟨h1, h2⟩ := h
    by_cases e : p.1 = k
    · have e' : q.1 = k := h1.symm.trans e
      have b : valueAt (q :: qs) k = some q.2 := by simp [valueAt, List.find?_cons, e']
      rw [valV_pos e, b]; exact h2
    · have e' : ¬ q.1 = k := fun z => e (h1.trans z)
      have b : valueAt (q :: qs) k = valueAt qs k := by simp [valueAt, List.find?_cons, e']
      rw [valV_neg e, b]; exact ih
theorem KV.any {kvs : List (κ × V)} {vs : List (κ × Value)} (r : KV kvs vs) (k : κ) : (kvs.any fun kv => decide (kv.1 = k)) = vs.any fun kv => decide (kv.1 = k) := by
  unfold KV at r
  induction r with
  | nil => rfl
  | cons h t ih => rw [List.any_cons, List.any_cons, ih, h.1]
theorem KV.repl {kvs : List (κ × V)} {vs : List (κ × Value)} (r : KV kvs vs) (k : κ) {y : V} {u : Value} (ry : RelV y u) :
    KV (kvs.map fun kv => if kv.1 = k then (kv.1, y) else kv) (vs.map fun kv => if kv.1 = k then (kv.1, u) else kv) := by
  unfold KV at r ⊢
  induction r with
  | nil => exact .nil
  | @cons p q ps qs h t ih =>
    rw [List.map_cons, List.map_cons]
    refine .cons ?_ ih
    obtain ⟨h1, h2⟩ := h
    by_cases e : p.1 = k
    · rw [if_pos e, if_pos (h1.symm.trans e)]; exact ⟨h1, ry⟩
    · rw [if_neg e, if_neg (fun z => e (h1.trans z))]; exact ⟨h1, h2⟩
theorem KV.put {kvs : List (κ × V)} {vs : List (κ × Value)} (r : KV kvs vs) (k : κ) {y : V} {u : Value} (ry : RelV y u) : KV (putK kvs k y) (stored vs k u) := by
  unfold putK stored
  rw [r.any k]
  by_cases e : (vs.any fun kv => decide (kv.1 = k)) = true
  · rw [if_pos e, if_pos e]; exact r.repl k ry
  · rw [if_neg e, if_neg e]; exact Paired.snoc r ⟨rfl, ry⟩
theorem KV.length {kvs : List (κ × V)} {vs : List (κ × Value)} (r : KV kvs vs) : kvs.length = vs.length := Paired.length r
theorem dropK_le (kvs : List (κ × V)) (k : κ) : (dropK kvs k).length ≤ kvs.length := List.length_filter_le _ _
end


/-! ### a tracked dict, its keys ints and texts or tuples of these -/
theorem kV_is {P : Program} {w : World} {k : Key} {u : Value} (r : RelV (kV k) u) : (mixKind P w).is k u = true := by
  cases k with
  | inl i => obtain ⟨t, e⟩ := (show ∃ t, u = Value.int i t from r); subst e; exact mixKind_int P w i t
  | inr x => obtain ⟨t, e⟩ := (show ∃ t, u = Value.str x t from r); subst e; exact mixKind_str P w x t
theorem items_are {P : Program} {w : World} : ∀ {ks : List Key} {us : List Value}, Vals (ks.map kV) us → ItemsAre (mixKind P w) ks us
  | [], _, r => by rw [List.map_nil] at r; cases r; exact .nil
  | k :: ks, _, r => by
    rw [List.map_cons] at r
    cases r with
    | cons h t => exact .cons (kV_is h) (items_are t)

/-- raw entries of a dict with tuple keys -/
abbrev KT (H : Hp) : List (List Key × V) → List (List Key × Addr × Value) → Prop := Paired fun p q => p.1 = q.1 ∧ H q.2.1 = some (.tup (p.1.map kV)) ∧ RelV p.2 q.2.2
theorem KT.val {H : Hp} {kvs : List (List Key × V)} {xs : List (List Key × Addr × Value)} (r : KT H kvs xs) (k : List Key) : RelO (valV kvs k) ((atKey xs k).map (·.2)) := by
  induction r with
  | nil => exact True.intro
  | @cons p q ps qs h t ih =>
    obtain ⟨h1, _, h2⟩ := h
    by_cases e : p.1 = k
    · have e' : q.1 = k := h1.symm.trans e
      have b : atKey (q :: qs) k = some q.2 := by simp [atKey, List.find?_cons, e']
      rw [valV_pos e, b]; exact h2
    · have e' : ¬ q.1 = k := fun z => e (h1.trans z)
      have b : atKey (q :: qs) k = atKey qs k := by simp [atKey, List.find?_cons, e']
      rw [valV_neg e, b]; exact ih
theorem KT.repl {H : Hp} {kvs : List (List Key × V)} {xs : List (List Key × Addr × Value)} (r : KT H kvs xs) (k : List Key) {y : V} {u : Value} (ry : RelV y u) :
    KT H (kvs.map fun kv => if kv.1 = k then (kv.1, y) else kv) (xs.map (putAt k u)) := by
  induction r with
  | nil => exact .nil
  | @cons p q ps qs h t ih =>
    rw [List.map_cons, List.map_cons]
    refine .cons ?_ ih
    obtain ⟨h1, h2, h3⟩ := h
    unfold putAt
    by_cases e : p.1 = k
    · rw [if_pos e, if_pos (h1.symm.trans e)]; exact ⟨h1, h2, ry⟩
    · rw [if_neg e, if_neg (fun z => e (h1.trans z))]; exact ⟨h1, h2, h3⟩
theorem KT.put {H : Hp} {kvs : List (List Key × V)} {xs : List (List Key × Addr × Value)} (r : KT H kvs xs) (k : List Key) {b : Addr} {y : V} {u : Value} (hb : H b = some (.tup (k.map kV))) (ry : RelV y u) :
    KT H (putK kvs k y) (storedH xs k b u) := by
  have e : (kvs.any fun kv => decide (kv.1 = k)) = (atKey xs k).isSome := by
    rw [valV_any, (r.val k).isSome_eq, Option.isSome_map]
  unfold putK storedH
  rw [e]
  by_cases q : (atKey xs k).isSome = true
  · rw [if_pos q, if_pos q]; exact r.repl k ry
  · rw [if_neg q, if_neg q]; exact Paired.snoc r ⟨rfl, hb, ry⟩
theorem KT.keeps {H H' : Hp} {kvs : List (List Key × V)} {xs : List (List Key × Addr × Value)} (r : KT H kvs xs) (ht : ∀ b ys, H b = some (.tup ys) → H' b = some (.tup ys)) : KT H' kvs xs :=
  Paired.mapP r fun _ _ z => ⟨z.1, ht _ _ z.2.1, z.2.2⟩

section
variable {P : Program} {w : World} {H : Hp} {h : Heap} {a : Addr}
theorem rd_of {u : HO} (ok : HOk P w H h) (e : Rd H a u) : ObjOk P w H h a u := e.ok ok
theorem dk_rd {kvs : List (Key × V)} (ok : HOk P w H h) (e : Rd H a (.dK kvs)) : kvs.length ≤ sizeLine ∧ (a == sysModules) = false ∧ ∃ vs, KV kvs vs ∧ h.DictOf (mixKind P w) a vs :=
  show ObjOk P w H h a (.dK kvs) from rd_of ok e
theorem dk_of {kvs : List (Key × V)} (ok : HOk P w H h) (e : H a = some (.dK kvs)) : kvs.length ≤ sizeLine ∧ (a == sysModules) = false ∧ ∃ vs, KV kvs vs ∧ h.DictOf (mixKind P w) a vs := dk_rd ok (.inl e)
/-- a tracked tuple of ints and texts is a key -/
theorem key_of {ks : List Key} (ok : HOk P w H h) (e : H a = some (.tup (ks.map kV))) : (tupleKind (mixKind P w)).is h ks a := by
  obtain ⟨_, its, r, o, h1, h2, n, h3⟩ := (show ObjOk P w H h a (.tup (ks.map kV)) from ok a _ e)
  exact ⟨o, its.toArray, n, h1, h2, h3, by simpa using items_are r⟩
theorem dt_rd {kvs : List (List Key × V)} (ok : HOk P w H h) (e : Rd H a (.dT kvs)) : kvs.length ≤ sizeLine ∧ (a == sysModules) = false ∧
    ∃ xs, KT H kvs xs ∧ h.DictOfH (tupleKind (mixKind P w)) a xs := by
  obtain ⟨z, y, xs, r, o, es, ep, h1, h2, h3, h4, h5⟩ := (show ObjOk P w H h a (.dT kvs) from rd_of ok e)
  refine ⟨z, y, xs, r, o, es, ep, h1, h2, h3, h4, fun x hx => ?_, h5⟩
  have all : ∀ {l : List (List Key × V)} {m : List (List Key × Addr × Value)}, KT H l m → ∀ x ∈ m, (tupleKind (mixKind P w)).is h x.1 x.2.1 := by
    intro l m q
    induction q with
    | nil => intro x hx; exact nomatch hx
    | @cons p q ps qs hq t ih =>
      intro x hx
      rcases List.mem_cons.mp hx with e | hx
      · subst e
        exact key_of ok (by rw [← hq.1]; exact hq.2.1)
      · exact ih x hx
  exact all r x hx
theorem dt_of {kvs : List (List Key × V)} (ok : HOk P w H h) (e : H a = some (.dT kvs)) : kvs.length ≤ sizeLine ∧ (a == sysModules) = false ∧
    ∃ xs, KT H kvs xs ∧ h.DictOfH (tupleKind (mixKind P w)) a xs := dt_rd ok (.inl e)
end

/-- what the dict at a holds at the key y -/
def DGet (H : Hp) (a : Addr) (y : V) (r : Option V) : Prop :=
  (∃ kvs k, Rd H a (.dK kvs) ∧ y = kV k ∧ r = valV kvs k) ∨ ∃ kvs k b, Rd H a (.dT kvs) ∧ y = .ref b ∧ H b = some (.tup (k.map kV)) ∧ r = valV kvs k
/-- the heap behind a[y] = v -/
def DPut (H : Hp) (a : Addr) (y v : V) (H' : Hp) : Prop :=
  (∃ kvs k, H a = some (.dK kvs) ∧ y = kV k ∧ kvs.length < sizeLine ∧ H' = upd H a (.dK (putK kvs k v))) ∨
  ∃ kvs k b, H a = some (.dT kvs) ∧ y = .ref b ∧ H b = some (.tup (k.map kV)) ∧ kvs.length < sizeLine ∧ H' = upd H a (.dT (putK kvs k v))
theorem DGet.k {H : Hp} {a : Addr} {kvs : List (Key × V)} {k : Key} (e : H a = some (.dK kvs)) : DGet H a (kV k) (valV kvs k) := .inl ⟨kvs, k, .inl e, rfl, rfl⟩
theorem DPut.k {H : Hp} {a : Addr} {kvs : List (Key × V)} {k : Key} {v : V} (e : H a = some (.dK kvs)) (hl : kvs.length < sizeLine) : DPut H a (kV k) v (upd H a (.dK (putK kvs k v))) := .inl ⟨kvs, k, e, rfl, hl, rfl⟩
section
variable {X : Cx} {pins : List (Addr × Obj)} {σ : St} {H : Hp} {s : Shared} {a : Addr} {y v : V} {u r : Value} {o : Option V} {A : Around} {E : Value → Shared → Prop}

theorem Inv.big (I : Inv X pins σ H s) : sysModules < s.heap.objs.size := by
  have h : mainGlobals < s.heap.objs.size := (I.mod.glob.keeps I.bk).lt
  exact Nat.lt_trans (by decide) h

/-- d[y], there -/
theorem d_getItem {Q : Value → Shared → Prop} (hu : A.units + 1 < cLine) (I : Inv X pins σ H s) (g : DGet H a y (some v)) (ry : RelV y u) (h : ∀ w' s', Inv X pins σ H s' → RelV v w' → Q w' s') :
    wpAny (model X.prog X.w) A (getItem (.ref a) u) Q E s := by
  rcases g with ⟨kvs, k, e, ey, l⟩ | ⟨kvs, k, b, e, ey, eb, l⟩
  · subst ey
    obtain ⟨z, hd, vs, rel, dd⟩ := dk_rd I.hok e
    obtain ⟨w', hw, rw'⟩ := RelO.some_of (v := v) (o := valueAt vs k) (by rw [l]; exact rel.val k)
    exact wpAny_getItem_of (kV_is ry) dd.mapOf hw (h w' _ (I.tok _) rw')
  · subst ey
    cases (show u = Value.ref b from ry)
    obtain ⟨z, hd, xs, rel, dd⟩ := dt_rd I.hok e
    obtain ⟨w', hw, rw'⟩ := RelO.some_of (v := v) (o := (atKey xs k).map (·.2)) (by rw [l]; exact rel.val k)
    obtain ⟨p, hp, hp2⟩ := Option.map_eq_some_iff.mp hw
    refine wpAny_getItem_heap (tupleKind_room_in1 hu) (key_of I.hok eb) dd hp ?_
    rw [hp2]
    exact h w' _ (I.tok _) rw'
/-- y in d -/
theorem d_in {Q : Value → Shared → Prop} (hu : A.units + 1 < cLine) (I : Inv X pins σ H s) (g : DGet H a y o) (ry : RelV y u) (h : ∀ s', Inv X pins σ H s' → Q (.bool o.isSome) s') :
    wpAny (model X.prog X.w) A (compareOp .In u (.ref a)) Q E s := by
  rcases g with ⟨kvs, k, e, ey, l⟩ | ⟨kvs, k, b, e, ey, eb, l⟩
  · subst ey
    obtain ⟨z, hd, vs, rel, dd⟩ := dk_rd I.hok e
    refine wpAny_in_of (kV_is ry) hd dd.mapOf ?_
    rw [← (rel.val k).isSome_eq, ← l]
    exact h _ (I.tok _)
  · subst ey
    cases (show u = Value.ref b from ry)
    obtain ⟨z, hd, xs, rel, dd⟩ := dt_rd I.hok e
    refine wpAny_in_heap (tupleKind_room_in1 hu) (key_of I.hok eb) hd dd ?_
    have q := (rel.val k).isSome_eq
    rw [Option.isSome_map] at q
    rw [← q, ← l]
    exact h _ (I.tok _)
theorem d_notIn {Q : Value → Shared → Prop} (hu : A.units + 1 < cLine) (I : Inv X pins σ H s) (g : DGet H a y o) (ry : RelV y u) (h : ∀ s', Inv X pins σ H s' → Q (.bool (!o.isSome)) s') :
    wpAny (model X.prog X.w) A (compareOp .NotIn u (.ref a)) Q E s := by
  rcases g with ⟨kvs, k, e, ey, l⟩ | ⟨kvs, k, b, e, ey, eb, l⟩
  · subst ey
    obtain ⟨z, hd, vs, rel, dd⟩ := dk_rd I.hok e
    refine wpAny_notIn_of (kV_is ry) hd dd.mapOf ?_
    rw [← (rel.val k).isSome_eq, ← l]
    exact h _ (I.tok _)
  · subst ey
    cases (show u = Value.ref b from ry)
    obtain ⟨z, hd, xs, rel, dd⟩ := dt_rd I.hok e
    refine wpAny_notIn_heap (tupleKind_room_in1 hu) (key_of I.hok eb) hd dd ?_
    have q := (rel.val k).isSome_eq
    rw [Option.isSome_map] at q
    rw [← q, ← l]
    exact h _ (I.tok _)
/-- a dict's object is replaced -/
theorem d_write {h' : Heap} {t' : Nat} {ob : HO} (I : Inv X pins σ H s) (mu : Mut (H a)) (hs : Heap.SameBut a s.heap h') (he : ∃ q, h'.get? a = some q) (new : ObjOk X.prog X.w (upd H a ob) h' a ob) :
    Inv X pins σ (upd H a ob) { s with heap := h', toks := t' } :=
  I.write (x := a) (e := a) mu (.inl rfl) (fun b q hb z => (hs.2 b hb).trans z) he new
theorem dk_new {P : Program} {w : World} {H' : Hp} {h' : Heap} {kvs : List (Key × V)} {vs : List (Key × Value)} (z : kvs.length ≤ sizeLine) (hd : (a == sysModules) = false) (rel : KV kvs vs) (dd : h'.DictOf (mixKind P w) a vs) :
    ObjOk P w H' h' a (.dK kvs) := ⟨z, hd, vs, rel, dd⟩
/-- d[y] = v -/
theorem d_setItem {H' : Hp} {Q : Unit → Shared → Prop} (hu : A.units + 1 < cLine) (I : Inv X pins σ H s) (g : DPut H a y v H') (ry : RelV y u) (rv : RelV v r) (h : ∀ s', Inv X pins σ H' s' → Q () s') :
    wpAny (model X.prog X.w) A (setItem (.ref a) u r) Q E s := by
  rcases g with ⟨kvs, k, e, ey, l, eH⟩ | ⟨kvs, k, b, e, ey, eb, l, eH⟩
  · subst ey eH
    obtain ⟨z, hd, vs, rel, dd⟩ := dk_of I.hok e
    have hz : vs.length ≤ sizeLine := by rw [← rel.length]; exact z
    have hl : (putK kvs k v).length ≤ sizeLine := by have := length_putK kvs k v; omega
    refine wpAny_setItem_pairs (hsz := hz) (kV_is ry) dd fun h' dd' hs => h _ ?_
    have he : ∃ q, h'.get? a = some q := let ⟨q, _, _, hq, _⟩ := dd'; ⟨q, hq⟩
    exact d_write I (by rw [e]; exact True.intro) hs he (dk_new hl hd (rel.put k rv) dd')
  · subst ey eH
    cases (show u = Value.ref b from ry)
    obtain ⟨z, hd, xs, rel, dd⟩ := dt_of I.hok e
    have hz : xs.length ≤ sizeLine := by rw [← Paired.length rel]; exact z
    have hl : (putK kvs k v).length ≤ sizeLine := by have := length_putK kvs k v; omega
    refine wpAny_setItem_heap (hsz := hz) (tupleKind_room_in1 hu) (key_of I.hok eb) dd fun h' dd' hs => h _ ?_
    obtain ⟨q, es, ep, hq, h2, h3, h4, _, h5⟩ := dd'
    refine d_write I (by rw [e]; exact True.intro) hs ⟨q, hq⟩ ⟨hl, hd, _, (rel.put k eb rv).keeps fun c ys ec => ?_, q, es, ep, hq, h2, h3, h4, h5⟩
    rw [upd_ne (ne_of ec e (fun z => nomatch z))]
    exact ec
end

section
variable {X : Cx} {pins : List (Addr × Obj)} {σ : St} {H : Hp} {s : Shared} {a : Addr} {kvs : List (Key × V)} {k : Key} {u : Value} {A : Around} {E : Value → Shared → Prop}
end


/-! ### readings and rules -/
/-- the element of a subscription, not a slice -/
def NoSl (i : Expr) : Prop := ∀ ov iv, subscripted i false ov iv = operate [ov, iv] (getItem ov iv)
theorem subD_of {prog : Program} {w : World} {A : Around} {E : Value → Shared → Prop} {s : Shared} {env : Env} {value slice : Expr} {pos : Pos} {T id : String} {Q : Value → Shared → Prop}
    (hl : typeLookup (.type T) "__getitem__" = pure (some (.builtin id))) (hs : NoSl slice)
    (h : wpAny (model prog w) A (eval value env) (fun o s₁ => wpAny (model prog w) A (eval slice env) (fun i s₂ => s₂.TypeIs o T ∧ wpAny (model prog w) A (getItem o i) Q E s₂) E s₁) E s) :
    wpAny (model prog w) A (eval (.Subscript value slice pos) env) Q E s := by
  refine Subscript_ (wpAny_mono h (fun o s₁ h₁ => wpAny_mono h₁ (fun i s₂ h₂ => ?_) fun _ _ x => x) fun _ _ x => x)
  obtain ⟨hT, h₂⟩ := h₂
  unfold subscriptTail
  refine wpAny_bind ?_
  rw [getitemInPython_of_ne hT.not_modules]
  refine wpAny_bind (wpAny_specialOf hT hl ?_)
  have fin : wpAny (model prog w) A (subscripted slice false o i) (fun r s₃ => wpAny (model prog w) A (letTemporaryGo value o r >>= fun _ => pure r) Q E s₃) E s₂ := by
    rw [hs o i]
    exact wpAny_operating (wpAny_mono h₂ (fun r s₃ h₃ => wpAny_bind (wpAny_letTemporaryGo (wpAny_pure h₃))) fun _ _ x => x)
  first
    | exact wpAny_pure (wpAny_bind fin)
    | exact wpAny_bind (wpAny_pure (wpAny_bind fin))
    | exact wpAny_bind fin

theorem dict_typeIs {X : Cx} {pins : List (Addr × Obj)} {σ : St} {H : Hp} {s : Shared} {a : Addr} {y : V} {o : Option V} (I : Inv X pins σ H s) (g : DGet H a y o) : s.TypeIs (.ref a) "dict" := by
  rcases g with ⟨kvs, k, e, _, _⟩ | ⟨kvs, k, b, e, _, _, _⟩
  · obtain ⟨_, _, vs, _, dd⟩ := dk_rd I.hok e
    exact dd.typeIs
  · obtain ⟨_, _, xs, _, dd⟩ := dt_rd I.hok e
    exact dd.typeIs
/-- d[y] -/
def tDGet (td ty : TE) : TE := fun σ H Q => td σ H fun x H1 => ty σ H1 fun y H2 => ∃ a v, x = .ref a ∧ DGet H2 a y (some v) ∧ Q v H2
/-- d[y] = v -/
def sDPut (td ty tv : TE) : TS := fun D σ H => tv σ H fun v H1 => td σ H1 fun x H2 => ty σ H2 fun y H3 => ∃ a H4, x = .ref a ∧ DPut H3 a y v H4 ∧ D.nx σ H4
section
variable {X : Cx} {o i e value : Expr} {pos pos' tpos : Pos} {td ty tv : TE}
theorem pe_dget (hu : X.A.units + 1 < cLine) (ho : PE X o td) (hi : PE X i ty) (hs : NoSl i) : PE X (.Subscript o i pos) (tDGet td ty) := by
  intro pins s σ H Q I h
  refine subD_of PySem.F.slot_dict_getitem.lookup hs (thn (ho pins s σ H _ I h) fun u s1 ⟨x, H1, I1, rx, q1⟩ => thn (hi pins s1 σ H1 _ I1 q1) fun iv s2 ⟨y, H2, I2, ry, a, v, ex, g, q2⟩ => ?_)
  subst ex
  obtain rfl : u = Value.ref a := rx
  exact ⟨dict_typeIs I2 g, d_getItem hu I2 g ry fun w' s3 I3 rw' => ⟨v, H2, I3, rw', q2⟩⟩
theorem ps_dput (hu : X.A.units + 1 < cLine) (ho : PE X o td) (hi : PE X i ty) (hv : PE X value tv) (hs : swapsWith value (some (.Subscript o i pos')) pos.line X.env = pure false) :
    PS X (.Assign [.Subscript o i pos'] value pos) (sDPut td ty tv) := by
  intro pins s σ H D I h
  refine wpAny_Assign_Subscript (thn (hv pins s σ H _ I h) fun r s1 ⟨v, H1, I1, rv, q1⟩ => thn (ho pins s1 σ H1 _ I1 q1) fun u s2 ⟨x, H2, I2, rx, q2⟩ => thn (hi pins s2 σ H2 _ I2 q2) fun iv s3 ⟨y, H3, I3, ry, a, H4, ex, g, q3⟩ => ?_) hs
  subst ex
  obtain rfl : u = Value.ref a := rx
  exact d_setItem hu I3 g ry rv fun s4 I4 => ⟨σ, H4, I4, q3⟩
end


/-! ### displays -/
theorem dk_empty {P : Program} {w : World} {H : Hp} (h : Heap) (hb : sysModules < h.objs.size) : ObjOk P w H (h.push { cls := .type "dict", data := .dict #[] }) h.objs.size (.dK []) :=
  ⟨Nat.zero_le _, beq_eq_false_iff_ne.mpr (Ne.symm (Nat.ne_of_lt hb)), [], .nil, Heap.DictOf.new h⟩
theorem dt_empty {P : Program} {w : World} {H : Hp} (h : Heap) (hb : sysModules < h.objs.size) : ObjOk P w H (h.push { cls := .type "dict", data := .dict #[] }) h.objs.size (.dT []) :=
  ⟨Nat.zero_le _, beq_eq_false_iff_ne.mpr (Ne.symm (Nat.ne_of_lt hb)), [], .nil, _, #[], 0, Heap.get?_push_size _ rfl, ⟨rfl, rfl, rfl⟩, rfl, rfl, List.nodup_nil⟩
/-- {}, to be a dict of the kind that is wanted -/
def tDNewK : TE := fun _ H Q => ∀ p, H p = none → Q (.ref p) (upd H p (.dK []))
def tDNewT : TE := fun _ H Q => ∀ p, H p = none → Q (.ref p) (upd H p (.dT []))
section
variable {X : Cx} {pos : Pos}
theorem pe_dnewK : PE X (.Dict [] [] pos) tDNewK := fun pins s σ H Q I h =>
  wpAny_Dict_empty ⟨.ref s.heap.objs.size, _, I.laid (a := s.heap.objs.size) (o := .dK []) (t' := s.toks) (fun _ _ q => Heap.get?_push_of_some _ q) (Nat.le_refl _) (dk_empty s.heap I.big), rfl, h _ (I.hok.fresh (Nat.le_refl _))⟩
theorem pe_dnewT : PE X (.Dict [] [] pos) tDNewT := fun pins s σ H Q I h =>
  wpAny_Dict_empty ⟨.ref s.heap.objs.size, _, I.laid (a := s.heap.objs.size) (o := .dT []) (t' := s.toks) (fun _ _ q => Heap.get?_push_of_some _ q) (Nat.le_refl _) (dt_empty s.heap I.big), rfl, h _ (I.hok.fresh (Nat.le_refl _))⟩
end

/-- the pairs of a display, from the left -/
def tPairs : List (TE × TE) → St → Hp → (List (V × V) → Hp → Prop) → Prop
  | [], _, H, Q => Q [] H
  | (tk, tv) :: r, σ, H, Q => tk σ H fun x H1 => tv σ H1 fun y H2 => tPairs r σ H2 fun ps H3 => Q ((x, y) :: ps) H3
def mergeK (kvs more : List (Key × V)) : List (Key × V) := more.foldl (fun acc kv => putK acc kv.1 kv.2) kvs
/-- {k: v, ..} with keys ints and texts; the new dict stands empty while the pairs are made -/
def tDisp (trs : List (TE × TE)) : TE := fun σ H Q => ∀ p, H p = none → tPairs trs σ (upd H p (.dK [])) fun ps H2 => H2 p = some (.dK []) ∧ ∃ kvs : List (Key × V), ps = kvs.map (fun kv => (kV kv.1, kv.2)) ∧ kvs.length ≤ 15 ∧ Q (.ref p) (upd H2 p (.dK (mergeK [] kvs)))
/-! ### methods -/
/-- a method call o.m(e) of a built-in, with one argument: what must be seen of the text -/
structure M1 (X : Cx) (o : Expr) (m : Str) (apos : Pos) (e : Expr) (cpos : Pos) : Prop where
  base : attributeBase o m X.env (eval o X.env) = eval o X.env
  few : ((backTo cpos (starEach [e] X.env)).all (fun x => !x.1) && (backToKw cpos (keywordEach [] X.env)).all (fun x => x.1.isSome)
    && decide (([e] : List Expr).length + ([] : List Keyword).length + (if ([] : List Keyword).isEmpty then 0 else 1) < 30)) = true
  line : (apos.endLine == cpos.line) = true
  trees : backTo cpos (starEach [e] X.env) = [(false, eval e X.env)]
/-- a is a dict, whatever its keys -/
def IsD (H : Hp) (a : Addr) : Prop := (∃ kvs, Rd H a (.dK kvs)) ∨ ∃ kvs, Rd H a (.dT kvs)
theorem isD_at {X : Cx} {pins : List (Addr × Obj)} {σ : St} {H : Hp} {s : Shared} {a : Addr} (I : Inv X pins σ H s) (d : IsD H a) :
    s.TypeIs (.ref a) "dict" ∧ (∀ b, Value.ref a = .ref b → ∃ ob, s.heap.get? b = some ob ∧ ob.dict = none) ∧ (a == sysModules) = false := by
  rcases d with ⟨kvs, e⟩ | ⟨kvs, e⟩
  · obtain ⟨_, hd, vs, _, dd⟩ := dk_rd I.hok e
    refine ⟨dd.typeIs, fun b q => ?_, hd⟩
    cases q
    obtain ⟨ob, _, _, h1, h2, _⟩ := dd
    exact ⟨ob, h1, h2.2.1⟩
  · obtain ⟨_, hd, xs, _, dd⟩ := dt_rd I.hok e
    refine ⟨dd.typeIs, fun b q => ?_, hd⟩
    cases q
    obtain ⟨ob, _, _, h1, h2, _⟩ := dd
    exact ⟨ob, h1, h2.2.1⟩

section
variable {X : Cx} {pins : List (Addr × Obj)} {σ : St} {H : Hp} {s : Shared} {a : Addr} {y d : V} {u r : Value} {o : Option V} {A : Around} {E : Value → Shared → Prop}
end

def tDGet2 (td ty tx : TE) : TE := fun σ H Q => td σ H fun x H1 => ∃ a, x = .ref a ∧ IsD H1 a ∧ ty σ H1 fun y H2 => tx σ H2 fun z H3 => ∃ o, DGet H3 a y o ∧ Q (o.getD z) H3
def tDPop2 (td ty tx : TE) : TE := fun σ H Q => td σ H fun x H1 => ∃ a, x = .ref a ∧ IsD H1 a ∧ ty σ H1 fun y H2 => tx σ H2 fun z H3 => ∃ kvs k, H3 a = some (.dK kvs) ∧ y = kV k ∧
  (∀ v, valV kvs k = some v → Q v (upd H3 a (.dK (dropK kvs k)))) ∧ (valV kvs k = none → Q z H3)
section
variable {X : Cx} {o e f : Expr} {apos cpos : Pos} {td ty tx : TE}
end

/-! ### dict(d): a copy -/
section
variable {X : Cx} {pins : List (Addr × Obj)} {σ : St} {H : Hp} {s : Shared} {a : Addr} {kvs : List (Key × V)} {A : Around} {E : Value → Shared → Prop}
end


section
variable {X : Cx} {pins : List (Addr × Obj)} {σ : St} {H : Hp} {s : Shared} {a : Addr} {y : V} {u : Value} {A : Around} {E : Value → Shared → Prop}
end
end L2


namespace Att
open PySem PySem.W PySem.Calls PyProof.Rows

/-! ### the script -/
theorem ints_of_wellAll {P : Params} {h : Heap} : ∀ (ns : List Int) (vs : List Value), WellAll P h vs (ns.map WData.int) → IntsAre vs ns := by
  intro ns
  induction ns with
  | nil =>
    intro vs w
    rw [List.map_nil] at w
    cases w
    exact .nil
  | cons n ns ih =>
    intro vs w
    rw [List.map_cons] at w
    cases w with
    | cons a b =>
      cases a
      exact .cons _ _ (ih _ b)

theorem script_of {l : OpenLaw} {n : Nat} (hn : l.most = some n) {P : Params} {h : Heap} {args : List WData} {vals : List Value}
    (hpre : l.row.toRowW.claim.pre args = true) (hwl : WellAll P h vals args) :
    ∃ a vs ns, vals = [Value.ref a] ∧ args = [WData.list (ns.map WData.int)] ∧ h.get? a = some { cls := .type "list", data := .seq vs.toArray } ∧ IntsAre vs ns ∧ ns.length ≤ n := by
  have hsh : WShape.hasAll [] args [.list .int] = true := (pre_splitW hpre).1
  have hc : l.pre.holds [] { args := args } = true := (pre_splitW hpre).2
  obtain ⟨d, r, rfl, h1, h2⟩ := hasAllW_cons hsh
  obtain rfl := hasAllW_nil h2
  obtain ⟨xs, rfl, h3⟩ := hasW_list h1
  obtain ⟨ns, rfl⟩ := items_int h3
  have hlen : ns.length ≤ n := by
    unfold OpenLaw.pre at hc
    have h4 : (WTm.not (.lt (.lit (.int (n : Int))) (.len (.arg 0)))).holds [] { args := [.list (ns.map .int)] } = true := by
      have h4 := (holds_andW hc).1
      rw [hn] at h4
      exact h4
    have h5 := condW_of h4 (w_not (w_lt w_lit (w_len_list (w_arg rfl))))
    rw [List.length_map] at h5
    refine Nat.le_of_not_lt fun q => ?_
    have q' : (n : Int) < ((ns.length : Nat) : Int) := by omega
    first
      | (rw [decide_eq_true q'] at h5; exact absurd h5 (by decide))
      | (simp at h5; omega)
  cases hwl with
  | cons w1 w2 =>
    cases w2
    cases w1 with
    | list ho hall => exact ⟨_, _, ns, rfl, rfl, ho, ints_of_wellAll ns _ hall, hlen⟩

theorem post_true (l : OpenLaw) (args : List WData) : l.row.toRowW.claim.post args (.bool true) args = true :=
  postW_of (r := l.row.toRowW) (X := (true == true))
    (show WShape.has [] (.bool true) .bool = true by first | rfl | decide | simp [WShape.has, WShape.arms, WShape.armsAll])
    (show (WTm.eq .res (.lit (.bool true))).value [] { args := args, res := some (.bool true), after := args } = some (.bool (true == true)) from w_eq_bool (w_res rfl) w_lit) rfl

/-! ### the attachment: holds_open's last premise (the goal 'hc' behind k_head) from a wpAny of the law's body -/
/-- the same from a codeAny of the CALL (for a layer whose function contracts speak of calls) -/
theorem attach_call {l : OpenLaw} {n : Nat} {q : Program} {loose : List Str} {XP : (Str → Option Value) → Heap → Prop} {YP : World → Heap → Prop} {d : DefRec}
    (hn : l.most = some n) (hdf : d.params.defaults = [])
    (call : ∀ (w : World) (s₀ s₁ : Shared) (mg mb : Str → Option Value) (fa : Addr) (o : Obj) (pm cd doc : Value) (a : Addr) (vs : List Value) (ns : List Int),
      Ground q loose [] XP w s₀ mg mb s₁.heap → YP w s₁.heap →
      s₁.heap.get? fa = some o → o.data = .func (docDef d.name d.params d.body d.scope pm cd doc) → s₁.heap.CodeRec cd d.name → mg d.name = some (.ref fa) →
      s₁.heap.get? a = some { cls := .type "list", data := .seq vs.toArray } → IntsAre vs ns → ns.length ≤ n → s₁.gens = #[] →
      codeAny (model l.prog w) callerA (.call (.ref fa) ⟨[.ref a], []⟩) (fun r s' => r = .ok (.ret (.bool true)) ∧ OldK s₁.heap s'.heap ∧ s'.os = s₁.os ∧ AllBare s'.gens) s₁) :
    WalkO q loose XP YP l.row.toRowW d [] (fun f vs => PySem.call f vs) := by
  intro w s₀ s₁ mg mb G Y fa o pm cd doc dV kV ho hd hcd hD hmg hg args vals as hpre hlay hrd hwl hlo
  obtain rfl : dV = .none := Dflts.none hD hdf
  obtain rfl : kV = .none := Dflts.noKw hD
  obtain ⟨a, vs, ns, rfl, rfl, hobj, hints, hlen⟩ := script_of hn hpre hwl
  refine enter_call (codeAny_mono (call w s₀ s₁ mg mb fa o pm cd doc a vs ns G Y ho (fd_plain hd) hcd hmg hobj hints hlen hg) fun r s' hq => ?_)
  obtain ⟨rfl, h2, h3, h4⟩ := hq
  exact ⟨.inl ⟨.bool true, .bool true, [], rfl, fun _ => rfl, .bool true, post_true l _, fun _ => ⟨List.Pairwise.nil, fun _ hm => (nomatch hm)⟩⟩, h2, h3, h4⟩

/-! ### rules over ANY heap (no ledger) from facts about the written part K: the library's own take a ledger (News) for what they write -/
section
variable {prog : Program} {w : World} {A : Around} {E : Value → Shared → Prop} {s : Shared} {K : Frag}

/-! the whole heap as the ledger: makes every rule that writes through a ledger a rule over any heap -/
def ledger (h : Heap) (L d : Addr) : List (Addr × Obj) := (List.range h.objs.size).filterMap fun a => if a = L ∨ a = d then none else (h.get? a).map fun o => (a, o)
end
end Att

namespace L2
open PySem PySem.Spec PyProof.Rows

theorem vals_ints : ∀ {vs : List Value} {ns : List Int}, IntsAre vs ns → Vals (ns.map V.int) vs
  | _, _, .nil => .nil
  | _, _, .cons n t h => .cons ⟨t, rfl⟩ (vals_ints h)

/-- nothing is tracked but the script, known to the object (or it is an object of the module) -/
def Only (H : Hp) : Prop := ∀ b, H b = none ∨ ∃ o xs, H b = some (.frz o (.lst xs))

/-- THE HEAD: the law's promise, at the heap behind the top. F, the promise of the law's def, may use that base is part of the heap (so K.In base, base.Ns mainGlobals mg stand in Mod) -/
theorem law_call {P : Program} {w : World} {K : PySem.W.Frag} {mg mb : Str → Option Value} {CX : CXT} {k : Nat} {fa a : Addr} {fd : FuncData} {x : Str} {sp : Sp} {s₁ : Shared} {vs : List Value} {ns : List Int}
    (KX : K.In s₁.heap) (hns : s₁.heap.Ns mainGlobals mg) (hb : s₁.heap.Ns builtinsNs mb) (hbb : ∀ x : Str, x ≠ "__name__" → mb x = bootBuiltins x) (hlim : s₁.heap.NoLimit) (hg : s₁.gens = #[])
    (ha : s₁.heap.get? a = some { cls := .type "list", data := .seq vs.toArray }) (hi : IntsAre vs ns) (hl : ns.length ≤ sizeLine) (hr : Room k callerA)
    (F : ∀ base : Heap, K.In base → base.Ns mainGlobals mg → FnOk P w K mg base CX k fa fd [x] sp) (hbind : ∀ (s : Shared) (u : Value), BindsTo s fd ⟨[u], []⟩ [(x, u)])
    (hsp : ∀ H : Hp, Only H → SqL K H a (ns.map V.int) → sp [.ref a] H (fun v _ => v = .bl true) fun _ _ _ => False)
    (hCX : ∀ H e s', CX [] H s₁ (fun _ _ _ => False) e s' → False) :
    codeAny (model P w) callerA (.call (.ref fa) ⟨[.ref a], []⟩) (fun r s' => r = .ok (.ret (.bool true)) ∧ OldK s₁.heap s'.heap ∧ s'.os = s₁.os ∧ AllBare s'.gens) s₁ := by
  have rv := vals_ints hi
  have lenV := hi.length
  -- from an abstract heap in which nothing but the script may be tracked
  have core : ∀ H : Hp, Only H → SqL K H a (ns.map V.int) → HOk P w H s₁.heap → (∀ b, H b ≠ none → b = a) → (H a ≠ none → K.lookup a = none) →
      codeAny (model P w) callerA (.call (.ref fa) ⟨[.ref a], []⟩) (fun r s' => r = .ok (.ret (.bool true)) ∧ OldK s₁.heap s'.heap ∧ s'.os = s₁.os ∧ AllBare s'.gens) s₁ := by
    intro H hO hS hok hA hK
    have base_of : ∀ {b : Addr} {o : Obj}, s₁.heap.get? b = some o → H b = none → (hidT s₁.heap H).get? b = some o := fun e n => hidT_get e n
    have noA : ∀ {b : Addr} {o : Obj} {es : Array DictEntry} {ep : Nat}, s₁.heap.get? b = some o → o.data = .dict es ep → H b = none := fun {b o es ep} e d => by
      cases q : H b with
      | none => rfl
      | some u =>
        have e' : b = a := hA b (by rw [q]; simp)
        subst e'
        rw [ha] at e; cases e
        have d' : Data.seq vs.toArray _ = Data.dict es ep := d
        cases d'
    have nsK : ∀ {b : Addr} {m : Str → Option Value}, s₁.heap.Ns b m → (hidT s₁.heap H).Ns b m := fun {b m} ⟨o, es, ep, e, d, r⟩ => ⟨o, es, ep, base_of e (noA e d), d, r⟩
    have hKb : K.In (hidT s₁.heap H) := fun b o e => base_of (KX b o e) (by
      cases q : H b with
      | none => rfl
      | some u =>
        have e' : b = a := hA b (by rw [q]; simp)
        subst e'
        rw [hK (by rw [q]; simp)] at e; cases e)
    have hM : Mod K mg (hidT s₁.heap H) := ⟨hKb, nsK hns, ⟨mb, nsK hb, hbb⟩, let ⟨mc, h1, h2⟩ := hlim; ⟨mc, nsK h1, h2⟩⟩
    have e0 : Env0 P w K mg (hidT s₁.heap H) callerA [] s₁ H := ⟨rfl, hM, fun b o e => of_hidT e, Nat.le_of_eq (hidT_size _ _), trivial, fun b hb => absurd (show b ∈ ([] : List Addr) from hb) (by simp), hok, .of_eq hg⟩
    refine codeAny_mono ((F _ hKb (nsK hns)).run callerA [] s₁ H ⟨[.ref a], []⟩ [.ref a] [.ref a] _ _ hr e0 (hbind s₁ (.ref a)) (.cons rfl .nil) (hsp H hO hS)) fun r s' h => ?_
    cases r with
    | error e => exact (hCX H e s' h).elim
    | ok fl =>
      cases fl with
      | next => exact False.elim h
      | brk => exact False.elim h
      | cont => exact False.elim h
      | ret u =>
        obtain ⟨v, H', os, bare, un, hok', r', q⟩ := h
        have q' : v = .bl true := q
        subst q'
        obtain rfl : u = Value.bool true := r'
        refine ⟨rfl, OldK.of_keep fun b o e => ?_, os, bare⟩
        cases q : H b with
        | none => exact un.keep b o e q (by intro z; exact absurd (show b ∈ ([] : List Addr) from z) (by simp)) (by simp)
        | some u =>
          rcases hO b with z | ⟨ob, xs, z⟩
          · rw [q] at z; cases z
          · have z2 := un.frzs b ob _ z
            obtain ⟨e1, _⟩ := hok b _ z
            obtain ⟨e2, _⟩ := hok' b _ z2
            rw [e] at e1; cases e1
            exact e2
  cases hk : K.lookup a with
  | some o =>
    -- the script is one of the module's own objects
    have e := KX a o hk
    rw [ha] at e
    cases e
    refine core (fun _ => none) (fun _ => .inl rfl) (.inr ⟨_, vs.toArray, _, hk, rfl, rfl, rfl, by rw [List.size_toArray, lenV]; exact hl, by simpa using rv⟩) (fun b u z => by have z' : (none : Option HO) = some u := z; cases z') (fun b z => absurd rfl z) fun z => absurd rfl z
  | none =>
    refine core (fun b => if b = a then some (.frz { cls := .type "list", data := .seq vs.toArray } (.lst (ns.map V.int))) else none) (fun b => ?_) (.inl (.inr ⟨{ cls := .type "list", data := .seq vs.toArray }, if_pos rfl⟩)) (fun b u z => ?_) (fun b z => ?_) fun _ => hk
    · by_cases hb : b = a
      · exact .inr ⟨_, _, if_pos hb⟩
      · exact .inl (if_neg hb)
    · by_cases hb : b = a
      · have z' := (if_pos hb).symm.trans z
        cases z'
        subst hb
        exact ⟨ha, by rw [List.length_map]; exact hl, vs, _, rv, ha⟩
      · have z' := (if_neg hb).symm.trans z
        cases z'
    · by_cases hb : b = a
      · exact hb
      · exact absurd (if_neg hb) z
end L2

namespace L2
open PySem PySem.Spec PyProof.Rows

abbrev KOf {K : PySem.W.Frag} {h : Heap} (_ : K.In h) : PySem.W.Frag := K

/-- the goal that k_head leaves (case hc), from the law's promise. F gives the function object fd (K's own) once, then the promise over every base -/
theorem walk_of {l : PySem.W.OpenLaw} {n k : Nat} {q : Program} {loose : List Str} {XP : (Str → Option Value) → Heap → Prop} {YP : World → Heap → Prop} {d : DefRec} {K : Params → PySem.W.Frag} {CX : World → CXT} {sp : World → Sp} {x : Str}
    (hn : l.most = some n) (hn2 : n ≤ sizeLine) (hdf : d.params.defaults = []) (hr : Room k callerA)
    (hY : ∀ (w : World) (h : Heap), YP w h → (K w.params).In h)
    (F : ∀ (w : World) (mg : Str → Option Value) (fa : Addr) (h : Heap), (K w.params).In h → h.Ns mainGlobals mg → mg d.name = some (.ref fa) →
      ∃ fd : FuncData, (∀ (s : Shared) (u : Value), BindsTo s fd ⟨[u], []⟩ [(x, u)]) ∧
        ∀ base : Heap, (K w.params).In base → base.Ns mainGlobals mg → FnOk l.prog w (K w.params) mg base (CX w) k fa fd [x] (sp w))
    (hsp : ∀ (w : World) (H : Hp) (a : Addr) (ns : List Int), ns.length ≤ n → Only H → SqL (K w.params) H a (ns.map V.int) → sp w [.ref a] H (fun v _ => v = .bl true) fun _ _ _ => False)
    (hCX : ∀ (w : World) (H : Hp) (s : Shared) (e : Value) (s' : Shared), CX w [] H s (fun _ _ _ => False) e s' → False) :
    PySem.W.WalkO q loose XP YP l.row.toRowW d [] (fun f vs => PySem.call f vs) := by
  refine Att.attach_call hn hdf fun w s₀ s₁ mg mb fa o pm cd doc a vs ns G Y ho hd hcd hmg hobj hints hlen hg => ?_
  have KX := hY w _ Y
  obtain ⟨fd, hb, hF⟩ := F w mg fa _ KX G.T.g hmg
  exact law_call KX G.T.g G.T.b G.T.builtins G.T.nolimit hg hobj hints (Nat.le_trans hlen hn2) hr hF hb (fun H hO hS => hsp w H a ns hlen hO hS) fun H e s' => hCX w H s₁ e s'
/-- the same where the promise hangs on the written part alone: (sp := My.sp_law), no hole under a binder -/
theorem walk_ofK {l : PySem.W.OpenLaw} {n k : Nat} {q : Program} {loose : List Str} {XP : (Str → Option Value) → Heap → Prop} {YP : World → Heap → Prop} {d : DefRec} {K : Params → PySem.W.Frag} {CX : CXT} {sp : PySem.W.Frag → Sp} {x : Str}
    (hn : l.most = some n) (hn2 : n ≤ sizeLine) (hdf : d.params.defaults = []) (hr : Room k callerA)
    (hY : ∀ (w : World) (h : Heap), YP w h → (K w.params).In h)
    (F : ∀ (w : World) (mg : Str → Option Value) (fa : Addr) (h : Heap), (K w.params).In h → h.Ns mainGlobals mg → mg d.name = some (.ref fa) →
      ∃ fd : FuncData, (∀ (s : Shared) (u : Value), BindsTo s fd ⟨[u], []⟩ [(x, u)]) ∧
        ∀ base : Heap, (K w.params).In base → base.Ns mainGlobals mg → FnOk l.prog w (K w.params) mg base CX k fa fd [x] (sp (K w.params)))
    (hsp : ∀ (K : PySem.W.Frag) (H : Hp) (a : Addr) (ns : List Int), ns.length ≤ n → Only H → SqL K H a (ns.map V.int) → sp K [.ref a] H (fun v _ => v = .bl true) fun _ _ _ => False)
    (hCX : ∀ (H : Hp) (s : Shared) (e : Value) (s' : Shared), CX [] H s (fun _ _ _ => False) e s' → False) :
    PySem.W.WalkO q loose XP YP l.row.toRowW d [] (fun f vs => PySem.call f vs) :=
  walk_of (K := K) (CX := fun _ => CX) (sp := fun w => sp (K w.params)) hn hn2 hdf hr hY F (fun w H a ns h1 h2 h3 => hsp (K w.params) H a ns h1 h2 h3) fun _ H s e s' => hCX H s e s'
end L2



/-! SHORT WORDS over the layer: a def of the text, its body, what a loop and a test want. -/
namespace L2
open PySem PySem.Spec PyProof.Rows

/-! ### the text by places -/
/-- the j-th statement of a class's body -/
def inClass (s : Stmt) (j : Nat) : Stmt := match s with
  | .ClassDef _ _ _ body _ _ _ _ _ _ _ => body.getD j (.Pass ⟨0, 0, 0, 0⟩)
  | _ => .Pass ⟨0, 0, 0, 0⟩
def defArgs (s : Stmt) : Arguments := match s with
  | .FunctionDef _ a _ _ _ _ _ _ _ _ => a
  | _ => { posonlyargs := [], args := [], vararg := none, kwonlyargs := [], kw_defaults := [], kwarg := none, defaults := [] }
def defBody (s : Stmt) : List Stmt := match s with
  | .FunctionDef _ _ b _ _ _ _ _ _ _ => b
  | _ => []
def defScope (s : Stmt) : Scope := match s with
  | .FunctionDef _ _ _ _ _ _ sc _ _ _ => sc
  | _ => { kind := .function, names := [], isGenerator := false, isCoroutine := false }

/-! ### no exception leaves a def -/
abbrev E0 : XK := fun _ _ _ => False
/-! ### a def (or method) of the text as it stands behind the top -/
structure Fun (K : PySem.W.Frag) (x qual : Str) (st : Stmt) (f : Addr) (fd : FuncData) : Prop where
  ex : ∃ (oc : Value) (od : Option Addr) (kV doc pm : Value) (an : Option Addr) (cdv ct : Value) (osl : Array (Option Value)),
    fd = PySem.W.fnOf x qual (defArgs st) (defBody st) (defScope st) .none kV doc pm an cdv ct ∧ K.lookup f = some ⟨oc, od, .func fd, osl⟩ ∧ PySem.W.codeIn K cdv qual = true
  kp : PySem.W.keepIn K (.ref f) = true
section
variable {P : Program} {w : World} {K : PySem.W.Frag} {mg : Str → Option Value} {base : Heap}
/-- how its arguments bind (no defaults): h is «fun _ _ _ _ _ _ us hl => match us, hl with | [_, _], _ => rfl», one _ a parameter -/
theorem Fun.binds {x qual : Str} {st : Stmt} {f : Addr} {fd : FuncData} {ps : List Str} (F : Fun K x qual st f fd)
    (h : ∀ (kV doc pm : Value) (an : Option Addr) (cdv ct : Value) (us : List Value), us.length = ps.length → bindArgs (PySem.W.fnOf x qual (defArgs st) (defBody st) (defScope st) .none kV doc pm an cdv ct) ⟨us, []⟩ = pure (ps.zip us)) : Binds K fd ps [] := by
  obtain ⟨oc, od, kV, doc, pm, an, cdv, ct, osl, rfl, lk, hcd⟩ := F.ex
  exact .all (h kV doc pm an cdv ct)
theorem fun_mk {x qual : Str} {st : Stmt} {f : Addr} {oc : Value} {od an : Option Addr} {osl : Array (Option Value)} {kV doc pm cdv ct : Value} (l : K.lookup f = some ⟨oc, od, .func (PySem.W.fnOf x qual (defArgs st) (defBody st) (defScope st) .none kV doc pm an cdv ct), osl⟩)
    (c : PySem.W.codeIn K cdv qual = true) (k : PySem.W.keepIn K (.ref f) = true) : Fun K x qual st f (PySem.W.fnOf x qual (defArgs st) (defBody st) (defScope st) .none kV doc pm an cdv ct) := ⟨⟨oc, od, kV, doc, pm, an, cdv, ct, osl, rfl, l, c⟩, k⟩
end
theorem hu_of {A : Around} {k : Nat} (hr : Room k A) : A.units + 1 < cLine := Nat.lt_of_le_of_lt (Nat.add_le_add_left (by decide : 1 ≤ 64) _) hr.units
/-! ### expressions in short: the name that stands in the i-th slot -/
section
variable {X : Cx}
theorem pv (i : Nat) {x : Str} {pos : Pos} (hN : X.N[i]? = some x := by rfl) (hv : Vis X.env.scope x := by first | exact Or.inl rfl | exact Or.inr (Or.inl rfl) | exact Or.inr (Or.inr rfl)) (hd : (x == ("__debug__" : Str)) = false := by decide)
    (hcd : (x == ("__classdict__" : Str)) = false := by decide) : PE X (.Name x pos) (tVar i) := pe_var hN hv hd hcd
end

/-! ### tests -/
theorem ite2 {c A B : Prop} [Decidable c] (h1 : c → A) (h2 : ¬ c → B) : if c then A else B := by
  by_cases h : c
  · rw [if_pos h]
    exact h1 h
  · rw [if_neg h]
    exact h2 h
/-! ### heaps -/
/-- all that was tracked is as it was -/
def Same (H H' : Hp) : Prop := ∀ b o, H b = some o → H' b = some o
theorem Same.refl (H : Hp) : Same H H := fun _ _ h => h
theorem Same.trans {H H1 H2 : Hp} (a : Same H H1) (b : Same H1 H2) : Same H H2 := fun c o h => b c o (a c o h)
end L2
namespace L2
open PySem PySem.Spec PyProof.Rows
section
variable {X : Cx}
end
/-! ### a dict's pairs: keys that differ -/
section
variable {κ : Type} [DecidableEq κ]
theorem valV_not {kvs : List (κ × V)} {k : κ} (h : valV kvs k = none) : ¬ k ∈ kvs.map (·.1) := by
  intro m
  obtain ⟨p, hp, e⟩ := List.mem_map.mp m
  have q : (kvs.any fun kv => decide (kv.1 = k)) = true := List.any_eq_true.mpr ⟨p, hp, decide_eq_true e⟩
  rw [valV_any, h] at q
  exact absurd q (by simp)
theorem nd_snoc : ∀ {l : List κ} {k : κ}, l.Nodup → ¬ k ∈ l → (l ++ [k]).Nodup
  | [], k, _, _ => by simp
  | a :: r, k, h, hk => by
    obtain ⟨h1, h2⟩ := List.nodup_cons.mp h
    show (a :: (r ++ [k])).Nodup
    refine List.nodup_cons.mpr ⟨fun m => ?_, nd_snoc h2 fun m => hk (List.mem_cons.mpr (Or.inr m))⟩
    rcases List.mem_append.mp m with q | q
    · exact h1 q
    · exact hk (List.mem_cons.mpr (Or.inl (List.mem_singleton.mp q).symm))
theorem nd_putK {kvs : List (κ × V)} {k : κ} (v : V) (hn : (kvs.map (·.1)).Nodup) (h : valV kvs k = none) : ((putK kvs k v).map (·.1)).Nodup := by
  rw [putK_new v h, List.map_append]
  exact nd_snoc hn (valV_not h)
theorem dropK_neg {p : κ × V} {r : List (κ × V)} {k : κ} (e : ¬ p.1 = k) : dropK (p :: r) k = p :: dropK r k := by
  unfold dropK
  rw [List.filter_cons, if_pos (by simp [e])]
theorem dropK_no : ∀ {kvs : List (κ × V)} {k : κ}, ¬ k ∈ kvs.map (·.1) → dropK kvs k = kvs
  | [], _, _ => rfl
  | p :: r, k, h => by
    have h' : ¬ k ∈ r.map (·.1) := fun m => by
      obtain ⟨q, hq, e⟩ := List.mem_map.mp m
      exact h (List.mem_map.mpr ⟨q, List.mem_cons.mpr (Or.inr hq), e⟩)
    rw [dropK_neg fun e => h (List.mem_map.mpr ⟨p, List.mem_cons.mpr (Or.inl rfl), e⟩), dropK_no h']
end
end L2

set_option Elab.async false
set_option linter.all false
set_option maxRecDepth 100000
set_option maxHeartbeats 4000000
namespace L2
open PySem PySem.Spec PyProof.Rows

/-! ### comprehensions -/
/-- the context within a comprehension: its block's names, the walked iterator's records at fp may turn, no exception leaves -/
def Cx.comp (X : Cx) (scope : Scope) (cl : List (Str × Addr)) (C : Addr) (N : List Str) (fp : List Addr) (s : Shared) (H : Hp) : Cx :=
  { X with env := compEnvC scope cl C X.env, N := N, s₀ := s, H₀ := H, outer := X.stack, ex := fp, fn := fun _ => false, pn := [], xe := fun _ _ => False }
/-- how the block's names stand to those around it; ix: the slots of the names that it takes from there -/
structure CompScope (X : Cx) (scope : Scope) (cl : List (Str × Addr)) (ix : List Nat) : Prop where
  clos : closureFor scope X.env = pure cl
  nocell : ∀ y ∈ scope.names, y.2 ≠ .cell
  kind : scope.kind = .function
  names : ∀ y ∈ scope.names, y.2 = .local → scope.names.lookup y.1 = some .local
  sub : ∀ y c, cl.lookup y = some c → X.env.cells.lookup y = some c
  has : ∀ y, ((relabel scope X.env).names.lookup y = some .cell ∨ (relabel scope X.env).names.lookup y = some .free) → ∃ c, cl.lookup y = some c
  cap : ∀ i ∈ ix, ∃ y, X.N[i]? = some y ∧ (X.env.kindOf y = some .cell ∨ X.env.kindOf y = some .free) ∧ ((relabel scope X.env).names.lookup y = some .cell ∨ (relabel scope X.env).names.lookup y = some .free)
/-- the cells that a block takes from around it -/
def closOf (scope : Scope) (env : Env) : List (Str × Addr) := scope.names.foldl (fun cs y => if y.2 == .free then (y.1, (env.cells.lookup y.1).getD 0) :: cs else cs) []
/-- what must be true of the block's names: osc the scope around it, N the names there, ix the slots of those that it takes -/
def compD (osc : Scope) (N : List Str) (sc : Scope) (ix : List Nat) : Bool :=
  sc.kind == .function && sc.names.all (fun y => y.2 != .cell && (y.2 != .local || sc.names.lookup y.1 == some .local) && (y.2 != .free || osc.names.lookup y.1 == some .cell || osc.names.lookup y.1 == some .free)) &&
    ix.all fun i => match N[i]? with
      | some y => sc.names.lookup y == some .free
      | none => false
theorem mem_of_look {l : List (Str × NameKind)} {y : Str} {k : NameKind} (h : l.lookup y = some k) : (y, k) ∈ l := PySem.mem_of_lookup h
theorem relabel_look {env : Env} : ∀ {names : List (Str × NameKind)} {x : Str} {k : NameKind}, (names.map fun (n, k) => if (k == NameKind.free && env.scope.kind == .function && env.kindOf n == some .cell) then (n, NameKind.cell) else (n, k)).lookup x = some k →
    ∃ k', names.lookup x = some k' ∧ (k' = .free ∨ k' = k)
  | [], _, _, h => by simp at h
  | (n, k') :: r, x, k, h => by
    have ih := @relabel_look env r x k
    rw [List.map_cons] at h
    cases hx : x == n with
    | true =>
      by_cases hc : (k' == NameKind.free && env.scope.kind == .function && env.kindOf n == some .cell) = true
      · have e : k' = .free := by
          have := (Bool.and_eq_true _ _ ▸ (Bool.and_eq_true _ _ ▸ hc).1).1
          simpa using this
        exact ⟨k', by simp [List.lookup_cons, hx], .inl e⟩
      · simp only [if_neg hc, List.lookup_cons, hx] at h
        exact ⟨k', by simp [List.lookup_cons, hx], .inr (Option.some.inj h)⟩
    | false =>
      have h' : (r.map fun (n, k) => if (k == NameKind.free && env.scope.kind == .function && env.kindOf n == some .cell) then (n, NameKind.cell) else (n, k)).lookup x = some k := by
        by_cases hc : (k' == NameKind.free && env.scope.kind == .function && env.kindOf n == some .cell) = true
        · simp only [if_pos hc, List.lookup_cons, hx] at h; exact h
        · simp only [if_neg hc, List.lookup_cons, hx] at h; exact h
      obtain ⟨q, e, r'⟩ := ih h'
      exact ⟨q, by simp only [List.lookup_cons, hx]; exact e, r'⟩
theorem relabel_free {env : Env} : ∀ {names : List (Str × NameKind)} {x : Str}, names.lookup x = some .free →
    ((names.map fun (n, k) => if (k == NameKind.free && env.scope.kind == .function && env.kindOf n == some .cell) then (n, NameKind.cell) else (n, k)).lookup x = some .cell ∨
      (names.map fun (n, k) => if (k == NameKind.free && env.scope.kind == .function && env.kindOf n == some .cell) then (n, NameKind.cell) else (n, k)).lookup x = some .free)
  | [], _, h => by simp at h
  | (n, k') :: r, x, h => by
    have ih := @relabel_free env r x
    rw [List.map_cons]
    cases hx : x == n with
    | true =>
      simp only [List.lookup_cons, hx] at h
      cases h
      by_cases hc : (NameKind.free == NameKind.free && env.scope.kind == .function && env.kindOf n == some .cell) = true
      · left; simp only [if_pos hc, List.lookup_cons, hx]
      · right; simp only [if_neg hc, List.lookup_cons, hx]
    | false =>
      simp only [List.lookup_cons, hx] at h
      by_cases hc : (k' == NameKind.free && env.scope.kind == .function && env.kindOf n == some .cell) = true
      · simp only [if_pos hc, List.lookup_cons, hx]; exact ih h
      · simp only [if_neg hc, List.lookup_cons, hx]; exact ih h
theorem clos_fold {env : Env} : ∀ (l : List (Str × NameKind)) (cs : List (Str × Addr)), (∀ y ∈ l, y.2 = .free → ∃ c, env.cells.lookup y.1 = some c) →
    (∀ y c, cs.lookup y = some c → env.cells.lookup y = some c) → ∀ y c, (l.foldl (fun cs y => if y.2 == .free then (y.1, (env.cells.lookup y.1).getD 0) :: cs else cs) cs).lookup y = some c → env.cells.lookup y = some c
  | [], _, _, h, y, c, e => h y c e
  | z :: r, cs, hl, h, y, c, e => by
    rw [List.foldl_cons] at e
    refine clos_fold r _ (fun y hy => hl y (List.mem_cons_of_mem _ hy)) (fun y' c' e' => ?_) y c e
    by_cases hz : z.2 = .free
    · obtain ⟨c0, h0⟩ := hl z List.mem_cons_self hz
      have hb : (z.2 == NameKind.free) = true := by simpa using hz
      rw [if_pos hb, h0, List.lookup_cons] at e'
      cases hq : y' == z.1 with
      | true =>
        rw [hq] at e'
        have e2 : y' = z.1 := by simpa using hq
        cases e'
        rw [e2]; exact h0
      | false => rw [hq] at e'; exact h _ _ e'
    · have hb : (z.2 == NameKind.free) = false := by simpa using hz
      rw [hb] at e'
      exact h _ _ e'
theorem clos_has {env : Env} : ∀ (l : List (Str × NameKind)) (cs : List (Str × Addr)) (y : Str), ((∃ c, cs.lookup y = some c) ∨ (y, NameKind.free) ∈ l) →
    ∃ c, (l.foldl (fun cs y => if y.2 == .free then (y.1, (env.cells.lookup y.1).getD 0) :: cs else cs) cs).lookup y = some c
  | [], _, _, h => h.elim id fun z => nomatch z
  | z :: r, cs, y, h => by
    rw [List.foldl_cons]
    refine clos_has r _ y ?_
    rcases h with ⟨c, h⟩ | h
    · left
      by_cases hz : (z.2 == NameKind.free) = true
      · rw [if_pos hz, List.lookup_cons]
        cases y == z.1 with
        | true => exact ⟨_, rfl⟩
        | false => exact ⟨c, h⟩
      · rw [if_neg hz]; exact ⟨c, h⟩
    · rcases List.mem_cons.mp h with h | h
      · left
        subst h
        rw [if_pos (by rfl), List.lookup_cons]
        simp
      · exact .inr h
theorem clos_eq {env : Env} : ∀ (l : List (Str × NameKind)) (cs : List (Str × Addr)), (∀ y ∈ l, y.2 = .free → ∃ c, env.cells.lookup y.1 = some c) →
    forIn (m := Sem) l cs (fun x r => match x with | (name, kind) => if (kind == NameKind.free) = true then do let c ← cellOf env name; pure (ForInStep.yield ((name, c) :: r)) else pure (ForInStep.yield r)) =
      pure (l.foldl (fun cs y => if y.2 == .free then (y.1, (env.cells.lookup y.1).getD 0) :: cs else cs) cs)
  | [], _, _ => rfl
  | (n, k) :: r, cs, h => by
    rw [List.forIn_cons, List.foldl_cons]
    by_cases hz : (k == NameKind.free) = true
    · obtain ⟨c, hc⟩ := h (n, k) List.mem_cons_self (by simpa using hz)
      have e : cellOf env n = pure c := by unfold cellOf; rw [hc]
      simp only [hz, if_true, e, pure_bind]
      rw [clos_eq r _ fun y hy => h y (List.mem_cons_of_mem _ hy)]
      simp only [hc, Option.getD_some]
    · simp only [hz, if_false, pure_bind]
      exact clos_eq r _ fun y hy => h y (List.mem_cons_of_mem _ hy)
theorem compScope_of {X : Cx} {osc scope : Scope} {N : List Str} {ix : List Nat} (ok : X.Ok) (h : compD osc N scope ix = true) (hs : X.env.scope = osc) (hN : X.N = N) : CompScope X scope (closOf scope X.env) ix := by
  subst hs hN
  unfold compD at h
  rw [Bool.and_eq_true, Bool.and_eq_true, List.all_eq_true, List.all_eq_true] at h
  obtain ⟨⟨h1, h2⟩, h3⟩ := h
  have p : ∀ y ∈ scope.names, y.2 ≠ .cell ∧ (y.2 = .local → scope.names.lookup y.1 = some .local) ∧ (y.2 = .free → X.env.kindOf y.1 = some .cell ∨ X.env.kindOf y.1 = some .free) := fun y hy => by
    have q := h2 y hy
    rw [Bool.and_eq_true, Bool.and_eq_true] at q
    obtain ⟨⟨q1, q2⟩, q3⟩ := q
    refine ⟨by simpa using q1, fun e => ?_, fun e => ?_⟩
    · rw [e] at q2; simpa using q2
    · rw [e] at q3
      have q3' : X.env.scope.names.lookup y.1 = some .cell ∨ X.env.scope.names.lookup y.1 = some .free := by simpa using q3
      exact q3'
  have f : ∀ y ∈ scope.names, y.2 = .free → ∃ c, X.env.cells.lookup y.1 = some c := fun y hy e => ok.has y.1 ((p y hy).2.2 e)
  refine ⟨?_, fun y hy => (p y hy).1, by simpa using h1, fun y hy => (p y hy).2.1, fun y c e => clos_fold scope.names [] f (fun _ _ z => by simp at z) y c e, fun y hy => ?_, fun i hi => ?_⟩
  · have e := clos_eq scope.names [] f
    unfold closureFor closOf
    refine Eq.trans (congrArg (fun m => m >>= fun s => (pure s : Sem (List (Str × Addr)))) e) ?_
    rw [pure_bind]
  · refine clos_has scope.names [] y (.inr ?_)
    rcases hy with hy | hy
    · obtain ⟨k', e, z | z⟩ := relabel_look hy
      · subst z; exact mem_of_look e
      · subst z; exact absurd rfl (p _ (mem_of_look e)).1
    · obtain ⟨k', e, z | z⟩ := relabel_look hy
      · subst z; exact mem_of_look e
      · subst z; exact mem_of_look e
  · have q := h3 i hi
    cases hy : X.N[i]? with
    | none => rw [hy] at q; cases q
    | some y =>
      rw [hy] at q
      have q' : scope.names.lookup y = some .free := by simpa using q
      exact ⟨y, rfl, (p _ (mem_of_look q')).2.2 rfl, relabel_free q'⟩
/-- the values of the slots at ix -/
def capV (ix : List Nat) (σ : St) : St := ix.map fun i => (σ[i]?).getD none
def capN (ix : List Nat) (N : List Str) : List Str := ix.map fun i => (N[i]?).getD ""

section
variable {X : Cx} {pins : List (Addr × Obj)} {σ : St} {H : Hp} {s : Shared} {scope : Scope} {cl : List (Str × Addr)} {ix : List Nat} {fp : List Addr} {C : Addr} {xs : List Str}
theorem Inv.compOk (I : Inv X pins σ H s) (S : CompScope X scope cl ix) (hC : C = s.heap.objs.size) (hf : ∀ b ∈ fp, FpOk X pins H b) (hl : ∀ b ∈ fp, b < s.heap.objs.size) (N' : List Str) :
    (X.comp scope cl C N' fp s H).Ok where
  mod := I.ok.mod
  kind := S.kind
  glob := I.ok.glob
  blt := I.ok.blt
  above := Nat.le_of_eq hC.symm
  inj := fun x y c h1 h2 => I.ok.inj x y c (S.sub x c h1) (S.sub y c h2)
  has := fun x hx => S.has x hx
  cab := fun x c h1 _ => nomatch h1
  hd := I.ok.hd
  frames := I.ok.frames
  stk := .inl rfl
  exf := fun b hb => ⟨fun z => absurd (hl b hb) (by rw [z]; show ¬ C < _; rw [hC]; exact Nat.lt_irrefl _), fun x c h => (hf b hb).2.2.2.2.1 x c (S.sub x c h)⟩
  bs := I.bs
  bsz := Nat.le_trans I.ok.bsz I.sz
  noex := fun b o e hb => by
    rcases (hf b hb).2.2.2.1 with z | z
    · exact I.ok.noex b o e z
    · exact absurd (Nat.lt_of_lt_of_le (Heap.lt_size e) (Nat.le_trans I.ok.bsz z)) (Nat.lt_irrefl _)
  exfs := fun b hb z => by
    rcases List.mem_cons.mp (I.stkSub b z) with e | e
    · exact (hf b hb).2.1 e
    · exact (hf b hb).2.2.1 e
  funs := I.stack
  frf := I.stkFree

theorem Inv.comp {h₁ : Heap} {m₁ : Str → Option Value} {t' : Nat} (I : Inv X pins σ H s) (S : CompScope X scope cl ix) (hC : C = s.heap.objs.size) (hf : ∀ b ∈ fp, FpOk X pins H b) (hl : ∀ b ∈ fp, b < s.heap.objs.size)
    (hn : h₁.Ns C m₁) (hk : ∀ b o, s.heap.get? b = some o → h₁.get? b = some o) :
    Inv (X.comp scope cl C (xs ++ capN ix X.N) fp s H) [] (List.replicate xs.length none ++ capV ix σ) H { s with heap := h₁, toks := t' } where
  ok := I.compOk S hC hf hl _
  os := rfl
  bare := I.bare
  base := Un.kept hk
  loc := by
    refine ⟨m₁, hn, fun i y v e1 e2 e3 => ?_⟩
    by_cases hi : i < xs.length
    · rw [List.getElem?_append_left (by simpa using hi), List.getElem?_replicate, if_pos hi] at e2
      cases e2
    · have e1' : (xs ++ capN ix X.N)[i]? = some y := e1
      rw [List.getElem?_append_right (by omega)] at e1'
      rw [List.getElem?_append_right (by rw [List.length_replicate]; omega), List.length_replicate] at e2
      generalize i - xs.length = j at e1' e2
      unfold capN at e1'
      unfold capV at e2
      rw [List.getElem?_map] at e1' e2
      cases hj : ix[j]? with
      | none => rw [hj] at e1'; cases e1'
      | some k =>
        rw [hj] at e1' e2
        obtain ⟨y', c1, c2, c3⟩ := S.cap k (List.mem_of_getElem? hj)
        have ey : y' = y := by
          have q : (X.N[k]?).getD "" = y := Option.some.inj e1'
          rw [c1] at q
          exact q
        subst ey
        have ev : σ[k]? = some (some v) := by
          have q : (σ[k]?).getD none = some v := Option.some.inj e2
          cases hs : σ[k]? with
          | none => rw [hs] at q; cases q
          | some o => rw [hs] at q; exact congrArg some q
        obtain ⟨m, hm, hv⟩ := I.loc
        obtain ⟨u, r, l⟩ := hv k y' v c1 ev (c2.elim (fun z => .inr (.inl z)) fun z => .inr (.inr z))
        refine ⟨u, r, .inr ⟨c3, ?_⟩⟩
        rcases l with ⟨l1, _⟩ | ⟨_, c, lc, ⟨o, ho, hd⟩⟩
        · rcases c2 with z | z <;> (rw [l1] at z; cases z)
        · obtain ⟨c', hc'⟩ := S.has y' c3
          have e := S.sub _ _ hc'
          rw [lc] at e
          cases e
          exact ⟨c, hc', o, hk _ _ ho, hd⟩
  cell := fun x c e => by
    obtain ⟨v, o, ho, hd⟩ := I.cell x c (S.sub x c e)
    exact ⟨v, o, hk _ _ ho, hd⟩
  free := I.hok.fresh (Nat.le_of_eq hC.symm)
  freeC := fun x c e => I.freeC x c (S.sub x c e)
  pin := fun p hp => absurd (show p ∈ ([] : List (Addr × Obj)) from hp) (by simp)
  hok := I.hok.kept hk
  len := by
    show (List.replicate xs.length none ++ capV ix σ).length = (xs ++ capN ix X.N).length
    rw [List.length_append, List.length_append, List.length_replicate, capV, capN, List.length_map, List.length_map]
/-- behind the block: the block's own dict may have been emptied -/
theorem Inv.uncomp {s' : Shared} {σ' : St} {H' : Hp} {N' : List Str} {h' : Heap} (I : Inv X pins σ H s) (hC : C = s.heap.objs.size) (hf : ∀ b ∈ fp, FpOk X pins H b)
    (J : Inv (X.comp scope cl C N' fp s H) [] σ' H' s') (hb : Heap.SameBut C s'.heap h') : Inv X pins σ H' { s' with heap := h' } := by
  have lt : ∀ b o, s.heap.get? b = some o → b ≠ C := fun b o e => by
    rw [hC]; exact Nat.ne_of_lt (Heap.lt_size e)
  have B : Un (frs X.stack) fp H H' s.heap s'.heap := J.base
  refine I.call' (s' := { s' with heap := h' }) (ch := fp) J.os ?_ ?_ J.bare ?_
  · exact ⟨fun b o e n h1 h2 => (hb.2 b (lt b o e)).trans (B.keep b o e n h1 h2), fun b o e n h1 h2 => by
      obtain ⟨sl, q⟩ := B.slot b o e n h1 h2
      exact ⟨sl, (hb.2 b (lt b o e)).trans q⟩, B.free, fun b o e h1 => by
      obtain ⟨o', q⟩ := B.there b o e h1
      exact ⟨o', (hb.2 b (lt b o e)).trans q⟩, B.tups, B.frzs, B.tbls⟩
  · intro b o e
    refine (J.hok b o e).stay (fun c u hc q => (hb.2 c ?_).trans q) (fun _ q => q) fun _ _ q => q
    have hC0 : H' C = none := J.free
    rintro rfl
    rcases hc with rfl | hc
    · rw [hC0] at e; cases e
    · rw [hC0] at hc; cases hc
  · intro b hb'
    obtain ⟨f0, f1, f2, f3, f4, f5⟩ := hf b hb'
    exact ⟨f3, f1, f4, f5⟩
end

/-- the tests behind a comprehension's for -/
def PTs (X : Cx) (ifs : List Expr) (t : TT) : Prop :=
  ∀ (pins : List (Addr × Obj)) (s : Shared) (σ : St) (H : Hp) (Q : Bool → Hp → Prop), Inv X pins σ H s → t σ H Q →
    wpAny (model X.prog X.w) X.A (forIn ifs true fun c r => if r = true then do let ok ← isTrue c X.env (eval c X.env); pure (ForInStep.yield ok) else pure (ForInStep.yield r)) (TP X pins σ Q) X.xe s
def tYes : TT := fun _ H Q => Q true H
theorem pts_nil {X : Cx} : PTs X [] tYes := fun _ _ _ H _ I h => wpAny_tests_nil ⟨H, I, h⟩
theorem pts_one {X : Cx} {c : Expr} {t : TT} (h : PT X c t) : PTs X [c] t := fun pins s σ H Q I q => wpAny_tests_one (h pins s σ H Q I q)

section
variable {prog : Program} {w : World} {A : Around} {R : Result → Shared → Prop} {s : Shared}
theorem compLoop_any {elt target iter : Expr} {ifs : List Expr} {scope : Scope} {pos : Pos} {it acc : Value} {env : Env} (W : Nat → Shared → Prop) {EE : Value → Shared → Prop}
    (hE : ∀ e s', EE e s' → notedBy (model prog w) A env (fun e s' => R (.error e) s') e s')
    (turn : ∀ n s, W n s → wpAny (model prog w) A (pyNext it) (fun r s₁ => match r with
      | none => R (.ok .next) s₁
      | some v => wpAny (model prog w) A (letOwnedTupleGo target it v) (fun _ t₁ => wpAny (model prog w) A (assign target env v) (fun _ s₂ =>
          wpAny (model prog w) A (forIn ifs true fun c r => if r = true then do let ok ← isTrue c env (eval c env); pure (ForInStep.yield ok) else pure (ForInStep.yield r)) (fun ok s₃ =>
            if ok = true then wpAny (model prog w) A (eval elt env) (fun x s₄ => wpAny (model prog w) A (call (.builtin "list.append") [acc, x]) (fun _ s₅ => ∃ m, m < n ∧ W m s₅) EE s₄) EE s₃
            else ∃ m, m < n ∧ W m s₃) EE s₂) EE t₁) EE s₁) EE s)
    (n : Nat) (h : W n s) : codeAny (model prog w) A (.compLoop (.ListComp elt [⟨target, iter, ifs, 0⟩] scope pos) 0 it acc env) R s := by
  refine codeAny_loop rfl W (fun n s hW => ?_) n h
  show wpAny _ A ((compTurn (.ListComp elt [⟨target, iter, ifs, 0⟩] scope pos) 0 it acc env).onRaise (fun x => do noteFrame x env; theTreesLotGoes x)) _ _ s
  refine wpAny_noted (wpAny_mono ?_ (fun _ _ q => q) hE)
  rw [compTurn_list]
  refine wpAny_bind (wpAny_standAt (wpAny_bind (thn (turn n s hW) fun r s₁ h₁ => ?_)))
  cases r with
  | none => exact wpAny_pure h₁
  | some v =>
    refine wpAny_bind (thn h₁ fun _ t₁ k₁ => ?_)
    refine wpAny_bind (thn k₁ fun _ s₂ h₂ => wpAny_bind (thn h₂ fun ok s₃ h₃ => ?_))
    cases ok with
    | false => exact wpAny_pure ⟨rfl, h₃⟩
    | true => exact wpAny_bind (wpAny_bind (thn h₃ fun x s₄ h₄ => wpAny_bind (thn h₄ fun _ s₅ h₅ => wpAny_pure (wpAny_pure ⟨rfl, h₅⟩))))
end

/-- [elt for g in wi if tt]: the list at D grows; W: what holds between the turns, by the turn, a measure, the list -/
def tComp (wi : TI) (g : TG) (tt : TT) (te : TE) (k : Nat) (ix : List Nat) : TE := fun σ H Q => wi σ H fun J H1 => ∀ D, H1 D = none →
  ∃ W : Nat → Nat → List V → St → Hp → Prop, (∃ m, W 0 m [] (List.replicate k none ++ capV ix σ) (upd H1 D (.lst []))) ∧ ∀ i m ys τ H, W i m ys τ H → H D = some (.lst ys) ∧
    ((J.stop i H ∧ Q (.ref D) H) ∨ (J.go i H ∧ ys.length < sizeLine ∧ ∃ N : V → St → Hp → Prop,
      (∀ v τ' H', N v τ' H' → H' D = some (.lst ys) ∧ ∃ m', m' < m ∧ W (i + 1) m' (ys ++ [v]) τ' (upd H' D (.lst (ys ++ [v])))) ∧ ∃ Nf : St → Hp → Prop, (∀ τ' H', Nf τ' H' → ∃ m', m' < m ∧ W (i + 1) m' ys τ' H') ∧
      ∀ x H', J.yld i H x H' → g x τ H' fun τ2 H2 => tt τ2 H2 fun b H3 => if b = true then te τ2 H3 fun v H4 => N v τ2 H4 else Nf τ2 H3))
section
variable {X : Cx} {elt iter tg : Expr} {ifs : List Expr} {scope : Scope} {pos : Pos} {cl : List (Str × Addr)} {ix : List Nat} {xs : List Str} {wi : TI} {g : TG} {tt : TT} {te : TE}
/-- the block, whatever is wanted behind it -/
theorem comp_block (S : CompScope X scope cl ix) (hc : X.calm = true) (hi : PI X tg iter wi)
    (hg : ∀ C fp s H, PG (X.comp scope cl C (xs ++ capN ix X.N) fp s H) tg g) (ht : ∀ C fp s H, PTs (X.comp scope cl C (xs ++ capN ix X.N) fp s H) ifs tt)
    (he : ∀ C fp s H, PE (X.comp scope cl C (xs ++ capN ix X.N) fp s H) elt te)
    {pins : List (Addr × Obj)} {s : Shared} {σ : St} {H : Hp} {Q : VK} (I : Inv X pins σ H s) (h : tComp wi g tt te xs.length ix σ H Q) {RR : Value → Addr → Result → Shared → Prop}
    (hR : ∀ v u s' C, RelV v u → (∃ H', Q v H' ∧ (∃ m, s'.heap.Ns C m) ∧ (∀ h', Heap.SameBut C s'.heap h' → Inv X pins σ H' { s' with heap := h' }) ∧ FpOk X pins H' C) → RR u C (.ok .next) s') :
    wpAny (model X.prog X.w) X.A (eval iter X.env) (fun x s₁ => wpAny (model X.prog X.w) X.A (pyIter x) (fun it s₂ => wpAny (model X.prog X.w) X.A (newList []) (fun acc s₃ =>
      wpAny (model X.prog X.w) X.A (newFunctionEnv scope X.env.globals cl [] X.env.qual none .none (some X.env)) (fun cenv s₄ =>
        codeAny (model X.prog X.w) X.A (.compStart (.ListComp elt [⟨tg, iter, ifs, 0⟩] scope pos) 0 it acc { cenv with scope := relabel scope X.env }) (RR acc cenv.locals) s₄) X.xe s₃) X.xe s₂) X.xe s₁) X.xe s := by
  refine thn (hi pins s σ H _ I h) fun v s1 h1 => thn h1 fun itv s2 h2 => ?_
  obtain ⟨it, fp, tn, J, H2, e, I2, T, st2, f2, hW⟩ := h2
  subst e
  refine wpAny_newObj_type (wpAny_newFunctionEnv S.nocell (fun y hy => nomatch hy) (fun h₁ hns₁ hsb₁ => ?_) S.kind)
  dsimp only at hns₁ hsb₁ ⊢
  obtain ⟨W, ⟨m0, w0⟩, turn⟩ := hW s2.heap.objs.size I2.fresh
  have I3 := I2.lnew (t' := s2.toks) (ys := []) (its := []) .nil (Nat.zero_le _)
  have hl3 : ∀ b ∈ fp, b < s2.heap.objs.size := fun b hb => by
    obtain ⟨o, e, _⟩ := T.obj _ _ st2 b hb
    exact Heap.lt_size e
  generalize hs3 : ({ s2 with heap := s2.heap.push { cls := .type "list", data := .seq ([] : List Value).toArray }, toks := s2.toks } : Shared) = s3 at I3
  have hs3h : s3.heap = s2.heap.push { cls := .type "list", data := .seq ([] : List Value).toArray } := by rw [← hs3]
  have hsz : s3.heap.objs.size = s2.heap.objs.size + 1 := by rw [hs3h, Heap.size_push]
  have f3 : ∀ b ∈ fp, FpOk X pins (upd H2 s2.heap.objs.size (.lst [])) b := fun b hb => by
    obtain ⟨q0, q⟩ := f2 b hb
    exact ⟨by rw [upd_ne (Nat.ne_of_lt (hl3 b hb))]; exact q0, q⟩
  have hl3' : ∀ b ∈ fp, b < s3.heap.objs.size := fun b hb => by rw [hsz]; exact Nat.lt_succ_of_lt (hl3 b hb)
  rw [← hs3h] at hns₁ hsb₁ ⊢
  have hk : ∀ b o, s3.heap.get? b = some o → h₁.get? b = some o := fun b o e => (hsb₁.2 b (Nat.ne_of_lt (Heap.lt_size e))).trans (Heap.get?_push_of_some _ e)
  have hk2 : ∀ b o, s2.heap.get? b = some o → s3.heap.get? b = some o := fun b o e => by rw [hs3h]; exact Heap.get?_push_of_some _ e
  have J0 := I3.comp (xs := xs) (t' := s2.toks) (C := s3.heap.objs.size) S rfl f3 hl3' hns₁ hk
  have st3 : tn 0 h₁ := T.keep _ _ _ st2 fun b _ o e => hk b o (hk2 b o e)
  have loop : ∀ tk, codeAny (model X.prog X.w) X.A (.compLoop (.ListComp elt [⟨tg, iter, ifs, 0⟩] scope pos) 0 (.ref it) (.ref s2.heap.objs.size) (compEnvC scope cl s3.heap.objs.size X.env))
      (RR (.ref s2.heap.objs.size) s3.heap.objs.size) { s3 with heap := h₁, toks := tk } := by
    intro tk
    refine compLoop_any (EE := fun _ _ => False) (fun n s' => ∃ i ys τ H', Inv (X.comp scope cl s3.heap.objs.size (xs ++ capN ix X.N) fp s3 (upd H2 s2.heap.objs.size (.lst []))) [] τ H' s' ∧ tn i s'.heap ∧ (∀ b ∈ fp, H' b = none) ∧ W i n ys τ H')
      (fun _ _ z => z.elim) ?_ m0 ⟨0, [], _, _, J0.tok tk, st3, fun b hb => (f3 b hb).1, w0⟩
    rintro n s' ⟨i, ys, τ, H', I', st', fr', w'⟩
    have stat : ∀ {H' : Hp}, (∀ b ∈ fp, H' b = none) → ∀ b ∈ fp, FpOk (X.comp scope cl s3.heap.objs.size (xs ++ capN ix X.N) fp s3 (upd H2 s2.heap.objs.size (.lst []))) [] H' b := fun hn b hb =>
      ⟨hn b hb, (I'.ok.exf b hb).1, I'.ok.exfs b hb, .inl hb, (I'.ok.exf b hb).2, fun p hp => absurd (show p ∈ ([] : List (Addr × Obj)) from hp) (by simp)⟩
    obtain ⟨hD, ⟨stop, q⟩ | ⟨go, hz, N, hN, Nf, hNf, step⟩⟩ := turn i n ys τ H' w'
    · refine thn (T.done (X.comp scope cl s3.heap.objs.size (xs ++ capN ix X.N) fp s3 (upd H2 s2.heap.objs.size (.lst []))) rfl rfl rfl hc i [] s' τ H' _ I' (stat fr') st' stop) fun r s4 ⟨hr, I4⟩ => ?_
      subst hr
      refine hR (.ref s2.heap.objs.size) _ s4 _ rfl ⟨H', q, ?_, fun h' hb => I3.uncomp rfl f3 I4 hb, I3.fpOk (Nat.le_refl _) I4.free⟩
      obtain ⟨m, hn, _⟩ := I4.loc
      exact ⟨m, hn⟩
    · refine thn (T.item (X.comp scope cl s3.heap.objs.size (xs ++ capN ix X.N) fp s3 (upd H2 s2.heap.objs.size (.lst []))) rfl rfl rfl hc i [] s' τ H' _ I' (stat fr') st' go) fun r s4 ⟨u, hr, h4⟩ => ?_
      subst hr
      refine thn h4 fun _ s5 ⟨x, H5, I5, r5, y5, st5, fr5⟩ => ?_
      have I5' := I5.pinned (stat fr5) (T.obj _ _ st5)
      refine thn (hg _ _ _ _ _ s5 τ H5 x u _ I5' r5 (step x H5 y5)) fun _ s6 ⟨τ6, H6, I6, q6⟩ => ?_
      refine thn (ht _ _ _ _ _ s6 τ6 H6 _ I6 q6) fun ok s7 ⟨H7, I7, q7⟩ => ?_
      have back : ∀ {s8 : Shared} {H8 : Hp} {m : Nat} {zs : List V}, Inv (X.comp scope cl s3.heap.objs.size (xs ++ capN ix X.N) fp s3 (upd H2 s2.heap.objs.size (.lst []))) ([] ++ pinsAt fp s5.heap) τ6 H8 s8 → W (i + 1) m zs τ6 H8 →
          ∃ i ys τ H', Inv (X.comp scope cl s3.heap.objs.size (xs ++ capN ix X.N) fp s3 (upd H2 s2.heap.objs.size (.lst []))) [] τ H' s8 ∧ tn i s8.heap ∧ (∀ b ∈ fp, H' b = none) ∧ W i m ys τ H' := fun {s8 H8 m zs} I8 w8 => by
        refine ⟨i + 1, zs, τ6, H8, I8.unpinned, T.keep _ _ _ st5 fun b hb o e => (I8.pin (b, o) (List.mem_append_right _ (List.mem_append_right _ (mem_pinsAt hb e)))).1, fun b hb => ?_, w8⟩
        obtain ⟨o, e, d⟩ := T.obj _ _ st5 b hb
        exact (I8.pin (b, o) (List.mem_append_right _ (List.mem_append_right _ (mem_pinsAt hb e)))).2.1
      cases ok with
      | false =>
        rw [if_neg Bool.false_ne_true] at q7 ⊢
        obtain ⟨m', hm, w7⟩ := hNf _ _ q7
        exact ⟨m', hm, back I7 w7⟩
      | true =>
        rw [if_pos rfl] at q7 ⊢
        refine thn (he _ _ _ _ _ s7 τ6 H7 _ I7 q7) fun y s8 ⟨v8, H8, I8, r8, n8⟩ => ?_
        obtain ⟨hD8, m', hm, w8⟩ := hN _ _ _ n8
        refine thn (mt_append _ s8 τ6 H8 (.ref s2.heap.objs.size) [v8] (.ref s2.heap.objs.size) [y] (fun _ Hn => ∃ m, m < n ∧ W (i + 1) m (ys ++ [v8]) τ6 Hn) I8 rfl (.cons r8 .nil) ⟨_, ys, v8, rfl, rfl, hD8, hz, m', hm, w8⟩) fun _ s9 ⟨_, H9, I9, _, m9, hm9, w9⟩ => ?_
        exact ⟨m9, hm9, back I9 w9⟩
  have e3 : ∀ tk, ({ s3 with heap := h₁, toks := tk } : Shared) = { s2 with heap := h₁, toks := tk } := fun tk => by rw [← hs3]
  have loop' : ∀ tk, codeAny (model X.prog X.w) X.A (.compLoop (.ListComp elt [⟨tg, iter, ifs, 0⟩] scope pos) 0 (.ref it) (.ref s2.heap.objs.size) (compEnvC scope cl s3.heap.objs.size X.env))
      (RR (.ref s2.heap.objs.size) s3.heap.objs.size) { s2 with heap := h₁, toks := tk } := fun tk => by rw [← e3]; exact loop tk
  exact codeAny_compStart_list (loop' _) (T.self _ 0 _ _ _ st3 (loop' _))
theorem pe_comp {osc : Scope} {N : List Str} (hc : X.calm = true) (hD : compD osc N scope ix = true) (hi : PI X tg iter wi)
    (hg : ∀ C fp s H, PG (X.comp scope (closOf scope X.env) C (xs ++ capN ix X.N) fp s H) tg g) (ht : ∀ C fp s H, PTs (X.comp scope (closOf scope X.env) C (xs ++ capN ix X.N) fp s H) ifs tt)
    (he : ∀ C fp s H, PE (X.comp scope (closOf scope X.env) C (xs ++ capN ix X.N) fp s H) elt te) (hsc : X.env.scope = osc := by rfl) (hN : X.N = N := by rfl) (hs : ∀ x, foldedSetIterable iter X.env x = pure x := by intro _; rfl) :
    PE X (.ListComp elt [⟨tg, iter, ifs, 0⟩] scope pos) (tComp wi g tt te xs.length ix) := by
  intro pins s σ H Q I h
  have S := compScope_of I.ok hD hsc hN
  rw [eval_ListComp]
  refine wpAny_comprehension_free (use := none) rfl hs S.clos S.kind S.names (comp_block S hc hi hg ht he I h (RR := fun acc C => compPost (model X.prog X.w) X.A X.xe none (EP X pins σ Q) acc C) ?_)
  rintro v u s' C r ⟨H', q, ⟨m, hn⟩, hI, _⟩
  exact ⟨m, hn, fun h' hb => ⟨v, H', hI h' hb, r, q⟩⟩
end
end L2

namespace L2
open PySem PySem.Spec PyProof.Rows
/-! ### readings: short names -/
abbrev rAddS : R2 := fun x y H Q => ∃ i j, x = .str i ∧ y = .str j ∧ i.length + j.length ≤ sizeLine ∧ Q (.str (i ++ j)) H
abbrev rInS : R2 := fun x y H Q => ∃ i j, x = .str i ∧ y = .str j ∧ Q (.bl (!(Builtin.Str.occurrences j i 0 j.length 1).isEmpty)) H
abbrev rNotInS : R2 := fun x y H Q => ∃ i j, x = .str i ∧ y = .str j ∧ Q (.bl (!(!(Builtin.Str.occurrences j i 0 j.length 1).isEmpty))) H
abbrev rIsB : R2 := fun x y H Q => ∃ a b, x = .bl a ∧ y = .bl b ∧ Q (.bl (a == b)) H
abbrev rIsNotB : R2 := fun x y H Q => ∃ a b, x = .bl a ∧ y = .bl b ∧ Q (.bl (a != b)) H
abbrev rIsN : R2 := fun x y H Q => y = .non ∧ Q (.bl (decide (x = .non))) H
abbrev rNotN : R2 := fun x y H Q => y = .non ∧ Q (.bl (!decide (x = .non))) H
abbrev RC := List V → Hp → VK → Prop
abbrev cLen (K : PySem.W.Frag) : RC := fun xs H Q => ∃ x n, xs = [x] ∧ LenV K x H n ∧ Q (.int n) H
abbrev cIsi (K : PySem.W.Frag) : RC := fun xs H Q => ∃ x c t b, xs = [x, c] ∧ TyOf K H x t ∧ (∃ T, c = .ty T ∧ PySem.W.kitOne K t (.type T) = some b) ∧ Q (.bl b) H
abbrev cAll (K : PySem.W.Frag) : RC := fun xs H Q => ∃ (a : Addr) (bs : List Bool), xs = [.ref a] ∧ SqL K H a (bs.map V.bl) ∧ Q (.bl (bs.all id)) H
abbrev cAbs : RC := fun xs H Q => ∃ i, xs = [.int i] ∧ Q (.int (if i < 0 then -i else i)) H
abbrev cStr : RC := fun xs H Q => ∃ i, xs = [.int i] ∧ i.natAbs.log2 < 1920 ∧ Q (.str (toString i)) H
abbrev RM := V → List V → Hp → VK → Prop
abbrev r_mt_startswith : RM := fun x xs H Q => ∃ a b, x = .str a ∧ xs = [.str b] ∧ Q (.bl (0 + b.length ≤ a.length && Builtin.Str.subAt a b 0)) H
/-! ### promises -/
/-- what is asked of the arguments and the heap; what is told; all that was tracked stays -/
def spP (pre : List V → Hp → Prop) (post : List V → Hp → V → Hp → Prop) : Sp := fun vs H Q _ => pre vs H ∧ ∀ r H', post vs H r H' → Same H H' → Q r H'
abbrev cInt : RC := fun xs H Q => ∃ (x : Str) (n : Int), xs = [.str x] ∧ PySem.intText? x = some n ∧ x.length ≤ 640 ∧ Q (.int n) H
abbrev r_mt_upper : RM := fun x xs H Q => ∃ a : Str, x = .str a ∧ xs = [] ∧ (∀ c ∈ a.cps.toList, c < 128) ∧ a.length ≤ sizeLine ∧ ∀ y : Str, y.length = a.length → Q (.str y) H
theorem isV (p : Addr) {H : Hp} {o : HO} (h : H p = none) : Same H (upd H p o) := fun b u e => by rw [upd_ne (ne_of_none e h)]; exact e
theorem small_size {n : Nat} (h : n ≤ 100000) : n ≤ sizeLine := Nat.le_trans h (by decide)
/-! ### the built-in names -/
theorem bt_len : bootBuiltins "len" = some (.builtin "len") := by decide +kernel
theorem bt_isinstance : bootBuiltins "isinstance" = some (.builtin "isinstance") := by decide +kernel
theorem bt_sorted : bootBuiltins "sorted" = some (.builtin "sorted") := by decide +kernel
theorem bt_sum : bootBuiltins "sum" = some (.builtin "sum") := by decide +kernel
theorem bt_str : bootBuiltins "str" = some (.type "str") := by decide +kernel
theorem bt_int : bootBuiltins "int" = some (.type "int") := by decide +kernel
theorem bt_bool : bootBuiltins "bool" = some (.type "bool") := by decide +kernel
theorem bt_list : bootBuiltins "list" = some (.type "list") := by decide +kernel
theorem bt_tuple : bootBuiltins "tuple" = some (.type "tuple") := by decide +kernel
theorem bt_dict : bootBuiltins "dict" = some (.type "dict") := by decide +kernel
theorem bt_ValueError : bootBuiltins "ValueError" = some (.type "ValueError") := by decide +kernel
section
variable {X : Cx}

/-! ### bigger numbers -/
def big : Int := 10 ^ 200
def CDivB (_ j : Int) : Prop := 0 < j ∧ j < big
theorem log2_big {j : Int} (h : j.natAbs < 10 ^ 200) : j.natAbs.log2 < 700 := by
  by_cases h0 : j.natAbs = 0
  · rw [h0]; decide
  · exact (Nat.log2_lt h0).mpr (Nat.lt_of_lt_of_le h (by decide +kernel))
theorem abs_big {j : Int} (h : -big < j ∧ j < big) : j.natAbs < 10 ^ 200 := by
  have e : big = ((10 ^ 200 : Nat) : Int) := by decide +kernel
  rw [e] at h
  omega
theorem op_fdivB : OpR X (binaryOp .FloorDiv) (rI CDivB fun i j => .int (i / j)) := opI fun i j _ _ _ _ _ hc q => by
  have h1 : (0 : Int) < j := hc.1
  refine floordiv_int (by omega) ?_ (.inl (PyProof.noPylong_of_log2 (Nat.lt_trans (log2_big (abs_big ⟨by have := hc.2; omega, hc.2⟩)) (by decide))))
  rw [Int.fdiv_eq_ediv_of_nonneg i (by omega)]
  exact q

/-! ### is, of truths -/
/-! ### isinstance -/
theorem call_isi : CallR X (.builtin "isinstance") (cIsi X.K) := by
  intro pins s σ H xs us Q I r h
  obtain ⟨x, c, t, b, rfl, ty, ⟨T, rfl, e⟩, q⟩ := h
  obtain ⟨u, w', rfl, r1, r2⟩ := vals2 r
  cases r2
  exact isinst_ok I r1 ty e fun tk => ⟨.bl b, H, I.tok tk, rfl, q⟩

/-! ### signs of a text -/
def Its (x : Str) : It := ⟨fun i _ => i < x.cps.size, fun i H v H' => H' = H ∧ ∃ c, x.cps[i]? = some c ∧ v = .str ⟨#[c]⟩, fun i _ => x.cps.size ≤ i⟩
def iStr (tl : TE) : TI := fun σ H R => tl σ H fun x H1 => ∃ z, x = .str z ∧ R (Its z) H1
/-! ### all of a list of truths -/
/-! ### texts -/
def rSlS : V → Option Int → Option Int → Hp → VK → Prop := fun x lo hi H Q => ∃ z, x = .str z ∧ z.length ≤ sizeLine ∧ Q (.str (Txt.slice z lo hi)) H
end
end L2

namespace L2
open PySem PySem.Spec PyProof.Rows

/-! ### exceptions of the text's own classes -/
theorem ObjOk.there {P : Program} {w : World} {H : Hp} {h : Heap} {a : Addr} {o : HO} (x : ObjOk P w H h a o) : ∃ u, h.get? a = some u := by
  cases o with
  | lst xs => obtain ⟨_, _, _, _, e⟩ := x; exact ⟨_, e⟩
  | tup xs => obtain ⟨_, _, _, o, e, _⟩ := x; exact ⟨_, e⟩
  | dK kvs => obtain ⟨_, _, _, _, o, _, _, e, _⟩ := x; exact ⟨_, e⟩
  | dT kvs => obtain ⟨_, _, _, _, o, _, _, e, _⟩ := x; exact ⟨_, e⟩
  | set S n => obtain ⟨o, _, _, _, e, _⟩ := x; exact ⟨_, e⟩
  | ins C dx fs => obtain ⟨_, _, _, e, _⟩ := x; exact ⟨_, e⟩
  | own y => exact x
  | xd fs => obtain ⟨_, ⟨o, _, _, e, _⟩, _⟩ := x; exact ⟨_, e⟩
  | rng lo hi => obtain ⟨_, _, _, e⟩ := x; exact ⟨_, e⟩
  | frz ob u => obtain ⟨e, _⟩ := x; exact ⟨_, e⟩
  | tbl ps => exact ⟨_, (show h.get? a = some _ from x)⟩
  | met f y => exact ⟨_, (show h.get? a = some _ from x)⟩
  | ext φ => obtain ⟨_, e, _⟩ := x; exact e
/-- an exception that flies: its record and its traceback's newest entry, both new since g, not tracked -/
def XF (g h : Heap) (H : Hp) (e : Addr) (cls : Value) : Prop :=
  ∃ oe vs a0 T oT ts, h.get? e = some oe ∧ (oe.cls = cls ∧ vs[0]? = some a0) ∧ oe.data = .fields vs ∧ vs[1]? = some (.ref T) ∧ T ≠ e ∧ h.get? T = some oT ∧ oT.data = .fields ts ∧ ts[3]? = some .none ∧
    g.get? e = none ∧ g.get? T = none ∧ H e = none ∧ H T = none
def CX1 (P : Program) (w : World) : CXT := fun outer H s E ev s' => ∃ e cls H', ev = .ref e ∧ s'.os = s.os ∧ AllBare s'.gens ∧ Un (frs outer) [] H H' s.heap s'.heap ∧ HOk P w H' s'.heap ∧ XF s.heap s'.heap H' e cls ∧ E cls none H'
theorem none_back {g h : Heap} (k : ∀ b o, g.get? b = some o → ∃ o', h.get? b = some o') {b : Addr} (e : h.get? b = none) : g.get? b = none := by
  cases q : g.get? b with
  | none => rfl
  | some o =>
    obtain ⟨o', z⟩ := k b o q
    rw [e] at z; cases z
theorem XF.older {g g' h : Heap} {H : Hp} {e : Addr} {cls : Value} (x : XF g h H e cls) (k : ∀ b o, g'.get? b = some o → ∃ o', g.get? b = some o') : XF g' h H e cls := by
  obtain ⟨oe, vs, a0, T, oT, ts, h1, h2, h3, h4, h5, h6, h7, h8, h9, h10, h11, h12⟩ := x
  exact ⟨oe, vs, a0, T, oT, ts, h1, h2, h3, h4, h5, h6, h7, h8, none_back k h9, none_back k h10, h11, h12⟩

section
variable {X : Cx} {pins : List (Addr × Obj)} {σ : St} {H : Hp} {s : Shared}
theorem Inv.stackFields (J : Inv X pins σ H s) {b : Addr} (hb : b ∈ frs X.stack) : ∃ o, s.heap.get? b = some o ∧ ∀ vs, o.data ≠ .fields vs := (J.stack.mem hb).2
theorem Inv.there0 (hex : X.ex = []) (J : Inv X pins σ H s) : ∀ b o, X.s₀.heap.get? b = some o → ∃ o', s.heap.get? b = some o' := fun b o e => J.base.there b o e (by rw [hex]; simp)
/-- the heap behind an exception's way through this frame: the frames up to their slots, the records at cs apart -/
theorem Inv.behind {h2 : Heap} {cs : List Addr} (hex : X.ex = []) (J : Inv X pins σ H s) (hcs : ∀ b ∈ cs, H b = none ∧ X.s₀.heap.get? b = none)
    (hB : ∀ b o, s.heap.get? b = some o → b ∉ frs X.stack → b ∉ cs → h2.get? b = some o) (hF : ∀ b o, s.heap.get? b = some o → b ∈ frs X.stack → ∃ sl, h2.get? b = some { o with slots := sl }) :
    Un X.fs [] X.H₀ H X.s₀.heap h2 ∧ HOk X.prog X.w H h2 := by
  have B : Un X.fs [] X.H₀ H X.s₀.heap s.heap := by have := J.base; rw [hex] at this; exact this
  have nL : ∀ b o, X.s₀.heap.get? b = some o → b ≠ X.env.locals := fun b o e => Nat.ne_of_lt (Nat.lt_of_lt_of_le (Heap.lt_size e) J.ok.above)
  have nC : ∀ b o, X.s₀.heap.get? b = some o → b ∉ cs := fun b o e z => by rw [(hcs b z).2] at e; cases e
  have any : ∀ b o, s.heap.get? b = some o → b ∉ cs → ∃ sl, h2.get? b = some { o with slots := sl } := fun b o e n => by
    by_cases hb : b ∈ frs X.stack
    · exact hF b o e hb
    · exact ⟨o.slots, hB b o e hb n⟩
  refine ⟨⟨fun b o e n h1 _ => ?_, fun b o e n h1 _ => ?_, B.free, fun b o e h1 => ?_, B.tups, B.frzs, B.tbls⟩, fun b u e => ?_⟩
  · refine hB b o (B.keep b o e n h1 (by simp)) (fun z => ?_) (nC b o e)
    rcases List.mem_cons.mp (J.stkSub b z) with q | q
    · exact nL b o e q
    · exact h1 q
  · obtain ⟨sl, q⟩ := B.slot b o e n h1 (by simp)
    obtain ⟨sl', q'⟩ := any b _ q (nC b o e)
    exact ⟨sl', q'⟩
  · obtain ⟨o', q⟩ := B.there b o e (by simp)
    obtain ⟨sl, q'⟩ := any b o' q (nC b o e)
    exact ⟨_, q'⟩
  · refine (J.hok b u e).stay (fun c v hc q => ?_) (fun _ q => q) fun _ _ q => q
    have hn : H c ≠ none := by
      rcases hc with rfl | hc
      · rw [e]; simp
      · rw [hc]; simp
    exact hB c v q (fun z => hn (J.stkFree c z)) fun z => hn (hcs c z).1
/-- .. and the exception itself, by what the library's stations say of it -/
theorem Inv.flown {B h2 : Heap} {cs : List Addr} {e : Addr} {cls a0 : Value} (hex : X.ex = []) (J : Inv X pins σ H s) (hcs : ∀ b ∈ cs, H b = none ∧ X.s₀.heap.get? b = none)
    (hB : ∀ b o, s.heap.get? b = some o → b ∉ frs X.stack → b ∉ cs → B.get? b = some o) (hF : ∀ b o, s.heap.get? b = some o → b ∈ frs X.stack → ∃ sl, h2.get? b = some { o with slots := sl })
    (he : H e = none) (he0 : X.s₀.heap.get? e = none) (kb : B.StaysIn h2) (tr : h2.TracedW B e cls a0) :
    Un X.fs [] X.H₀ H X.s₀.heap h2 ∧ HOk X.prog X.w H h2 ∧ XF X.s₀.heap h2 H e cls := by
  have hk := J.behind (h2 := h2) hex hcs (fun b o q n1 n2 => kb b o (hB b o q n1 n2)) hF
  refine ⟨hk.1, hk.2, ?_⟩
  obtain ⟨oe, vs, T, oT, ts, h1, h2', h3, h4, h5, h6, h7, h8, h9⟩ := tr
  have noT : ∀ o, s.heap.get? T = some o → T ∈ cs := fun o q => by
    by_cases hb : T ∈ frs X.stack
    · obtain ⟨o', q', nf⟩ := J.stackFields hb
      obtain ⟨sl, z⟩ := hF T o' q' hb
      rw [h7] at z
      have z' : oT = { o' with slots := sl } := Option.some.inj z
      exact absurd (by rw [← h8, z']) (nf ts)
    · by_cases hc : T ∈ cs
      · exact hc
      · rw [hB T o q hb hc] at h5; cases h5
  refine ⟨oe, vs, a0, T, oT, ts, h1, h2', h3, h4, h6, h7, h8, h9, he0, ?_, he, ?_⟩
  · cases q : X.s₀.heap.get? T with
    | none => rfl
    | some o =>
      obtain ⟨o', q'⟩ := J.there0 hex T o q
      rw [(hcs T (noT o' q')).2] at q; cases q
  · cases q : H T with
    | none => rfl
    | some u =>
      obtain ⟨o, z⟩ := (J.hok T u q).there
      rw [(hcs T (noT o z)).1] at q; cases q

/-- an exception just made leaves the frame -/
theorem leave_new {h' : Heap} {e : Addr} {cls : Value} {vs : List Value} {E : XK} {EE : Value → Shared → Prop} (hst : X.stack = X.env :: X.outer ∧ X.env.frame = some X.env.locals) (hex : X.ex = []) (J : Inv X pins σ H s) (hx : Heap.MadeExcOf s.heap h' e cls vs) (hE : E cls none H) :
    wpAny (model X.prog X.w) X.A (leaving X.env (.ref e)) (fun _ s2 => CX1 X.prog X.w X.outer X.H₀ X.s₀ E (.ref e) s2) EE { s with heap := h' } := by
  have fr : s.heap.FunFrames (PySem.W.hideAll s.heap (frs X.stack)) (X.env :: X.outer) := by
    have q := PySem.W.funFrames_hide (as := frs X.stack) J.stack fun env he a ha => List.mem_filterMap.mpr ⟨env, he, ha⟩
    rw [hst.1] at q ⊢
    exact q
  refine wpAny_leaves_madeW (s := { s with heap := h' }) (base := PySem.W.hideAll s.heap (frs X.stack)) (h := s.heap) (by rw [J.ok.frames, hst.1]) hst.2 (fun b o q => PySem.W.of_hideAll _ q) fr hx fun h2 t hfl _ _ hup => ?_
  obtain ⟨f1, f2, f3, f4⟩ := hfl
  have hF : ∀ b o, s.heap.get? b = some o → b ∈ frs X.stack → ∃ sl, h2.get? b = some { o with slots := sl } := fun b o q hb => by
    obtain ⟨o', q', nf⟩ := J.stackFields hb
    rw [q] at q'; cases q'
    exact hup b o (hx.keeps b o q) nf
  obtain ⟨r1, r2, r3⟩ := J.flown (cs := []) hex (fun b z => nomatch z) (fun b o q n _ => PySem.W.hideAll_get _ q n) hF
    (by
      cases q : H e with
      | none => rfl
      | some u =>
        obtain ⟨o, z⟩ := (J.hok e u q).there
        rw [hx.new] at z; cases z)
    (none_back (J.there0 hex) hx.new) f1 f4
  exact ⟨e, cls, H, rfl, J.os, J.bare, r1, r2, r3, hE⟩
/-- one that came from a callee leaves this frame too -/
theorem leave_on {e : Addr} {cls : Value} {E : XK} {EE : Value → Shared → Prop} (hst : X.stack = X.env :: X.outer ∧ X.env.frame = some X.env.locals) (hex : X.ex = []) (J : Inv X pins σ H s) (xf : XF X.s₀.heap s.heap H e cls) (hE : E cls none H) :
    wpAny (model X.prog X.w) X.A (leaving X.env (.ref e)) (fun _ s2 => CX1 X.prog X.w X.outer X.H₀ X.s₀ E (.ref e) s2) EE s := by
  obtain ⟨oe, vs, a0, T, oT, ts, h1, h2, h3, h4, h5, h6, h7, h8, h9, h10, h11, h12⟩ := id xf
  have fr : s.heap.FunFrames (PySem.W.hideAll s.heap (frs X.stack ++ [e, T])) (X.env :: X.outer) := by
    have q := PySem.W.funFrames_hide (as := frs X.stack ++ [e, T]) J.stack fun env he a ha => List.mem_append_left _ (List.mem_filterMap.mpr ⟨env, he, ha⟩)
    rw [hst.1] at q ⊢
    exact q
  refine wpAny_leaves_onW (base := PySem.W.hideAll s.heap (frs X.stack ++ [e, T])) (a0 := a0) (by rw [J.ok.frames, hst.1]) hst.2
    ⟨fun b o q => PySem.W.of_hideAll _ q, PySem.W.hideAll_none _ (List.mem_append_right _ (by simp)), fr, oe, vs, T, oT, ts, h1, h2, h3, h4, PySem.W.hideAll_none _ (List.mem_append_right _ (by simp)), h5, h6, h7, h8⟩ fun h2' hfl hup => ?_
  obtain ⟨f1, f2, f3, f4⟩ := hfl
  have hF : ∀ b o, s.heap.get? b = some o → b ∈ frs X.stack → ∃ sl, h2'.get? b = some { o with slots := sl } := fun b o q hb => by
    obtain ⟨o', q', nf⟩ := J.stackFields hb
    rw [q] at q'; cases q'
    exact hup b o q nf
  obtain ⟨r1, r2, r3⟩ := J.flown (cs := [e, T]) hex (fun b z => by
      have z' : b = e ∨ b = T := by simpa using z
      rcases z' with rfl | rfl
      · exact ⟨h11, h9⟩
      · exact ⟨h12, h10⟩) (fun b o q n n2 => PySem.W.hideAll_get _ q fun z => (List.mem_append.mp z).elim n n2) hF h11 h9 f1 f4
  exact ⟨e, cls, H, rfl, J.os, J.bare, r1, r2, r3, hE⟩
end

/-- an exception that a raise makes reaches what this body wants of exceptions -/
def Raises (X : Cx) (E : XK) : Prop := ∀ (pins : List (Addr × Obj)) (σ : St) (H : Hp) (s : Shared) (h' : Heap) (e : Addr) (cls : Value) (vs : List Value), Inv X pins σ H s → Heap.MadeExcOf s.heap h' e cls vs → E cls none H → X.xe (.ref e) { s with heap := h' }
section
variable {P : Program} {w : World} {K : PySem.W.Frag} {mg : Str → Option Value} {base : Heap} {N : List Str} {qual : Str} {scope : Scope} {f : Addr} {cd : Value} {A : Around} {outer : List Env} {s₀ : Shared} {H₀ : Hp} {E : XK}
theorem pass1 : Passes (CX1 P w) (cxOf (CX1 P w) P w K mg base N qual scope f cd A outer s₀ H₀ E) E := by
  intro pins σ H s ev s' I hcx
  obtain ⟨e, cls, H', rfl, os, bare, un, hok, xf, hE⟩ := hcx
  have J := I.call' (ch := []) os un hok bare (fun b z => nomatch z)
  exact leave_on (X := cxOf (CX1 P w) P w K mg base N qual scope f cd A outer s₀ H₀ E) ⟨rfl, rfl⟩ rfl J (xf.older (I.there0 rfl)) hE
theorem raises1 : Raises (cxOf (CX1 P w) P w K mg base N qual scope f cd A outer s₀ H₀ E) E := by
  intro pins σ H s h' e cls vs I hx hE
  exact leave_new (X := cxOf (CX1 P w) P w K mg base N qual scope f cd A outer s₀ H₀ E) ⟨rfl, rfl⟩ rfl I hx hE
end

/-! ### raise -/
abbrev bmVal : List Value := [.type "ValueError", .type "Exception", .type "BaseException", .type "object"]
abbrev newVal : String := "ValueError.__new__"
def tRaise (C : Addr) (ta : TA) (E : XK) : TS := fun _ σ H => ta σ H fun vs H1 => vs.length ≤ sizeLine ∧ E (.ref C) none H1
theorem own_cls {K : PySem.W.Frag} {h : Heap} {C : Addr} {bmB : List Value} {newId : String} (X : K.In h) (q : PySem.W.excIn K C bmB newId = true) :
    ∃ bm N nm qn bs hdct sn sub ab col dd k0 k1 k2 k3 k5 mN, h.get? C = some (excClassObj nm qn C N bs bm hdct sn sub ab col dd k0 k1 k2 k3 k5 newId) ∧ h.Ns N mN ∧ mN "__init__" = none ∧ OwnTail h bmB bm := by
  unfold PySem.W.excIn at q
  split at q
  case h_2 => cases q
  rename_i dd cd sl ho
  split at q
  case h_2 => cases q
  rename_i C' bm k0 k1 k2 k3 n k5 hm hs
  rw [Bool.and_eq_true, Bool.and_eq_true, Bool.and_eq_true, Bool.and_eq_true, Bool.and_eq_true] at q
  obtain ⟨⟨⟨⟨⟨q1, q2⟩, q3⟩, q4⟩, q5⟩, q6⟩ := q
  obtain rfl : C' = C := by simpa using q1
  obtain rfl : n = newId := by simpa using q2
  obtain ⟨nm, bs, mro, ns, qn, hd, sn, sub, ab, col, del⟩ := cd
  have hdel : del = false := by simpa using q3
  have hm' : mro = .ref C' :: bm := hm
  subst hdel hm'
  have hsl : sl = #[k0, k1, k2, k3, some (.builtin n), k5] := by
    apply Array.ext'
    exact hs
  subst hsl
  exact ⟨bm, ns, nm, qn, bs, hd, sn, sub, ab, col, dd, k0, k1, k2, k3, k5, _, X _ _ ho, .of_isNs (PySem.W.isNs_of_in X q5), PySem.W.nsMap_none_of_in X q5 (by simpa using q6), PySem.W.tail_of_in X q4⟩
section
variable {X : Cx} {x : Str} {C : Addr} {np cpos pos : Pos} {e₀ : Expr} {rest : List Expr} {ta : TA} {E : XK}
theorem ps_raise (hc : X.calm = true) (q : PySem.W.excIn X.K C bmVal newVal = true) (hr : Raises X E) (hg : Gl X x) (hm : X.mg x = some (.ref C)) (ha : PA X (e₀ :: rest) ta)
    (he : starEach (e₀ :: rest) X.env = (false, eval e₀ X.env) :: starEach rest X.env := by rfl) (hp : (backTo cpos (starEach rest X.env)).any (·.1) = false := by rfl) (hd : (x == ("__debug__" : Str)) = false := by decide) :
    PS X (.Raise (some (.Call (.Name x np) (e₀ :: rest) [] cpos)) none pos) (tRaise C ta E) := by
  intro pins s σ H D I h
  obtain ⟨tl, N, nm, qn, bs, hdct, sn, sub, ab, col, dd, k0, k1, k2, k3, k5, mN, hC, hN, hni, T⟩ := own_cls I.ok.mod.kin q
  refine wpAny_Raise_call_subT (C := C) (nm := nm) (q := qn) (N := N) (bs := bs) (bm := tl) (hdct := hdct) (sn := sn) (sub := sub) (ab := ab) (col := col) (dd := dd) (k0 := k0) (k1 := k1) (k2 := k2) (k3 := k3) (k5 := k5) (newId := newVal)
    PySem.F.excBase_ValueError (mN := mN) (T.hasType PySem.F.excBase_ValueError.hasBase) (I.ok.hd hc) (by rw [he]; exact hp) hni (ld_glob I hg hm ⟨rfl, ?_⟩ hd)
  have hA := ha cpos pins s σ H _ I h
  rw [he] at hA ⊢
  refine Calls.evalArgs_plain (thn hA fun us s2 ⟨vs, H2, I2, r2, z2, q2⟩ => ?_)
  exact ⟨rfl, by rw [← r2.length]; exact z2, I2.bk _ _ hC, hN.keeps I2.bk, T.keeps I2.bk, fun h' e hm => hr pins σ H2 s2 h' e _ _ I2 hm q2⟩
end

/-! ### texts of messages -/
/-- signs that a text may have -/
def Asc (x : Str) : Prop := ∀ c ∈ x.cps.toList, c < 128
section
variable {X : Cx} {e : Expr} {te : TE} {a : Str} {j : Nat} {p1 p2 p3 : Pos}
/-- f'.. {e!r}' -/
def tMsgR (te : TE) : TE := fun σ H Q => te σ H fun v H1 => ∃ x : Str, v = .str x ∧ x.length ≤ 100000 ∧ Asc x ∧ ∀ y : Str, Q (.str y) H1
/-- f'{e} ..' -/
def tMsgS (te : TE) : TE := fun σ H Q => te σ H fun v H1 => ∃ x : Str, v = .str x ∧ x.length ≤ 100000 ∧ ∀ y : Str, Q (.str y) H1
end
end L2

namespace L2
open PySem PySem.Spec PyProof.Rows
structure ExC (K : PySem.W.Frag) (C : Addr) : Prop where
  ga : PySem.W.findIn K (.ref C) "__getattribute__" = some (some (.builtin "BaseException.__getattribute__"))
  gx : PySem.W.findIn K (.ref C) "__getattr__" = some none
  cl : PySem.W.findIn K (.ref C) "__class__" = some (some (.builtin "object.__class__"))
  ob : PySem.W.mroIn K C (.type "object") = some true
  be : PySem.W.mroIn K C (.type "BaseException") = some true
  ge : PySem.W.specialIn K (.builtin "object.__class__") "__get__" = some (some (.builtin "getset_descriptor.__get__"))
  tk : PySem.W.takesIn K (.builtin "object.__class__") = some true
section
variable {prog : Program} {w : World} {A : Around} {E : Value → Shared → Prop} {K : PySem.W.Frag} {e C : Addr} {s : Shared}
theorem exc_find {M : Model} {h : Heap} (X : K.In h) (c : ExC K C) : PySem.W.Looks M h (PySem.Builtin.ObjectAttr.find (.ref e) (.ref C) "__class__") (.bind (.builtin "getset_descriptor.__get__") (.builtin "object.__class__")) := by
  have l1 := PySem.W.looks_findIn (M := M) X c.cl
  have l2 : PySem.W.Looks M h (PySem.Builtin.ObjectAttr.getOf (some (.builtin "object.__class__"))) (some (.builtin "getset_descriptor.__get__")) := PySem.W.looks_specialIn X c.ge
  have l3 := PySem.W.looks_takesIn (M := M) X c.tk
  refine l1.andThen (l2.andThen ?_)
  exact (show PySem.W.Looks M h (PySem.Builtin.ObjectAttr.dataDescriptor? (some (.builtin "object.__class__")) (some (.builtin "getset_descriptor.__get__"))) (some ((.builtin "getset_descriptor.__get__"), (.builtin "object.__class__"))) from l3.andThen .now).andThen (PySem.W.Looks.tag .now)
open PySem.Builtin PySem.Builtin.Getset_descriptor in
theorem exc_get {R : Result → Shared → Prop} {tp : Value} (X : K.In s.heap) (c : ExC K C) (t0 : PySem.W.Looks (model prog w) s.heap (typeOf (.ref e)) (.ref C)) (hr : R (.ok (.ret (.ref C))) s) :
    codeAny (model prog w) A (.call (.builtin "getset_descriptor.__get__") ⟨[.builtin "object.__class__", .ref e, tp], []⟩) R s := by
  obtain ⟨hh, gs, dr, tt, os⟩ := s
  have t5 := PySem.W.looks_mroIn (M := model prog w) X c.ob
  refine codeAny_call_builtin PySem.W.KF.slot_gs.plain PySem.W.KF.entry_gs (PySem.W.KF.slot_gs.check _ _ _ _ _ _ _ _ PySem.W.KF.type_class (PySem.W.KF.args_gs _ _ _) ?_)
  unfold Builtin.«getset_descriptor.__get__» descrGet
  rw [PySem.W.dga_obj]
  refine wpAny_bind (wpAny_pure ?_)
  unfold descrGetter descrCheckInstance descrNameAndClass isInstance
  simp only [PySem.W.KF.owner_class]
  repeat lk
  refine ⟨Code.quiet_builtin _ (by decide +kernel), codeAny_builtin PySem.W.KF.entry_class ?_⟩
  unfold Builtin.«object.__class__» shownTypeOf
  repeat lk
  exact hr
theorem exc_class {Q : Option Value → Shared → Prop} (X : K.In s.heap) (c : ExC K C) (LT : ∀ M : Model, PySem.W.Looks M s.heap (typeOf (.ref e)) (.ref C)) (hq : Q (some (.ref C)) { s with toks := s.toks + 1 }) :
    wpAny (model prog w) A (getAttr? (.ref e) "__class__") Q E s := by
  obtain ⟨hh, gs, dr, tt, os⟩ := s
  have t0 := LT (model prog w)
  have t1 := PySem.W.looks_findIn (M := model prog w) X c.ga
  have t2 := PySem.W.looks_findIn (M := model prog w) X c.gx
  have t3 := PySem.W.looks_mroIn (M := model prog w) X c.be
  have t4 := exc_find (M := model prog w) (e := e) X c
  have t5 := PySem.W.looks_mroIn (M := model prog w) X c.ob
  have t6 : bindSpecial (.builtin "BaseException.__getattribute__") (.ref e) = pure (.builtin "BaseException.__getattribute__", [.ref e]) := F.excAttr_ValueError.ga.bind (.ref e)
  have b2 : (Value.builtin "BaseException.__getattribute__" == Value.builtin "object.__getattribute__") = false := by decide +kernel
  unfold getAttr? getAttrBy? getAttrBy
  refine wpAny_bind (wpAny_mkText (wpAny_bind (wpAny_attempt (wpAny_holding (wpAny_bind (t0.at (wpAny_bind (t1.at ?_))))))))
  simp only [b2, Bool.and_false, Bool.false_eq_true, if_false]
  unfold getAttrByItsOwn hookBefore
  refine wpAny_bind (t2.at ?_)
  unfold callGetattribute boundAndCalled
  simp only [Bool.false_and, Bool.false_eq_true, if_false, Option.toList, t6]
  refine wpAny_bind (wpAny_attempt (wpAny_holding (wpAny_bind (wpAny_pure (wpAny_call ?_)))))
  refine codeAny_call_builtin F.excAttr_ValueError.ga.plain F.entry_bexc_ga ?_
  have k1 : builtinKind "BaseException.__getattribute__" = some .slot := by decide +kernel
  have k2 : splitId "BaseException.__getattribute__" = some ("BaseException", "__getattribute__") := by decide +kernel
  have k3 := F.args_bexc_ga (.ref e) (.str "__class__" tt)
  simp only [checkBuiltinCall, k1, k2]
  refine wpAny_bind (?_ : wpAny _ _ (isInstance (.ref e) (.type "BaseException")) _ _ _)
  have k4 : PySem.W.Looks (model prog w) hh (isInstance (.ref e) (.type "BaseException")) true := t0.andThen t3
  refine k4.at ?_
  simp only [Bool.not_true, Bool.false_eq_true, if_false, List.cons_append, List.nil_append]
  refine wpAny_of_eq (show _ = pure () from k3) ?_
  refine wpAny_bind (wpAny_pure (wpAny_bind (wpAny_pure (wpAny_bind (t0.at (wpAny_bind (t4.at ?_)))))))
  show wpAny _ _ (holding [.builtin "object.__class__"] (call (.builtin "getset_descriptor.__get__") [.builtin "object.__class__", .ref e, .ref C]) >>= ret) _ _ _
  refine wpAny_bind (wpAny_holding (wpAny_call (exc_get X c t0 (wpAny_pure ?_))))
  exact PySem.W.handed_on rfl (wpAny_pure hq)
theorem kitx_exc {a : Addr} (c : ExC K C) (hc : (PySem.W.clsIn K C).isSome = true) : PySem.W.KitX K (.ref a) (.ref C) (fun h => ∃ o, h.get? a = some o ∧ o.cls = .ref C) where
  ty := fun M h _ p => by
    obtain ⟨o, p1, p2⟩ := p
    exact p2 ▸ (PySem.W.Looks.ld p1).andThen .now
  it := fun _ _ X _ => by
    obtain ⟨cd, z⟩ := Option.isSome_iff_exists.mp hc
    unfold PySem.W.clsIn at z
    split at z
    · rename_i y
      intro A' Q' E' s' k q
      unfold isType loadHead
      exact wpAny_bind (wpAny_loadPart (k _ _ (X _ _ y)) (wpAny_pure q))
    · cases z
  ne := fun h tp dd its n sl X p => by
    obtain ⟨cd, z⟩ := Option.isSome_iff_exists.mp hc
    refine Bool.eq_false_iff.mpr fun q => ?_
    obtain rfl : C = tp := Value.ref.inj (beq_iff_eq.mp q)
    unfold PySem.W.clsIn at z
    split at z
    · rename_i y
      cases (X _ _ y).symm.trans p
    · cases z
  ca := fun X p k => by
    obtain ⟨o, p1, p2⟩ := p
    exact exc_class X c (fun M => p2 ▸ (PySem.W.Looks.ld p1).andThen .now) k
end
end L2

namespace L2
open PySem PySem.Spec PyProof.Rows
/-! ### try, except C as n -/
section
variable {X : Cx} {pins : List (Addr × Obj)} {σ : St} {H : Hp} {s : Shared}
/-- the records at cs (an exception's) have changed, frames' slots too -/
theorem Inv.land {h2 : Heap} {cs : List Addr} (hex : X.ex = []) (I : Inv X pins σ H s) (hcs : ∀ b ∈ cs, H b = none ∧ X.s₀.heap.get? b = none) (hcp : ∀ b ∈ cs, ∀ p ∈ X.pn ++ pins, p.1 ≠ b)
    (hB : ∀ b o, s.heap.get? b = some o → b ∉ frs X.stack → b ∉ cs → h2.get? b = some o) (sm : s.heap.UpToSlots h2) : Inv X pins σ H { s with heap := h2 } := by
  have hF : ∀ b o, s.heap.get? b = some o → b ∈ frs X.stack → ∃ sl, h2.get? b = some { o with slots := sl } := fun b o q hb => by
    obtain ⟨o', q', nf⟩ := I.stackFields hb
    rw [q] at q'; cases q'
    exact sm b o q nf
  obtain ⟨r1, r2⟩ := I.behind hex hcs hB hF
  have ce : ∀ c v, s.heap.IsCell c v → h2.IsCell c v := fun c v ⟨o, ho, hd⟩ => by
    obtain ⟨sl, q⟩ := sm c o ho fun vs z => by rw [hd] at z; cases z
    exact ⟨_, q, hd⟩
  refine ⟨I.ok, I.os, I.bare, by rw [hex]; exact r1, ?_, fun x c e => ?_, I.free, I.freeC, fun p hp => ?_, r2, I.len⟩
  · obtain ⟨m, hn, hl⟩ := I.loc
    refine ⟨m, sm.ns hn, fun i x v e1 e2 e3 => ?_⟩
    obtain ⟨u, r, l⟩ := hl i x v e1 e2 e3
    refine ⟨u, r, ?_⟩
    rcases l with l | ⟨k, c, e, z⟩
    · exact .inl l
    · exact .inr ⟨k, c, e, ce c _ z⟩
  · obtain ⟨v, z⟩ := I.cell x c e
    exact ⟨v, ce c v z⟩
  · obtain ⟨e, n, ne, nf, d⟩ := I.pin p hp
    exact ⟨hB _ _ e (fun z => (List.mem_cons.mp (I.stkSub _ z)).elim ne nf) fun z => hcp _ z p hp rfl, n, ne, nf, d⟩
/-- an object that is there is tracked from here on -/
theorem Inv.track {e : Addr} {φ : Heap → Prop} (I : Inv X pins σ H s) (hn : H e = none) (h0 : X.s₀.heap.get? e = none) (hex : X.ex = []) (hL : e ≠ X.env.locals) (hc : ∀ x c, X.env.cells.lookup x = some c → c ≠ e) (hp : ∀ p ∈ X.pn ++ pins, p.1 ≠ e)
    (ok : φ s.heap ∧ (∃ o, s.heap.get? e = some o) ∧ ∀ h1 h2 : Heap, φ h1 → (∀ o, h1.get? e = some o → h2.get? e = some o) → φ h2) : Inv X pins σ (upd H e (.ext φ)) s := by
  have ne : ∀ b u, H b = some u → b ≠ e := fun b u q z => by rw [z, hn] at q; cases q
  have B := I.base
  refine ⟨I.ok, I.os, I.bare, ⟨B.keep, B.slot, fun b o q n x => ?_, B.there, fun b xs q => ?_, fun b o u q => ?_, fun b ps q => ?_⟩, I.loc, I.cell, ?_, fun x c q => ?_, fun p q => ?_, fun b u q => ?_, I.len⟩
  · rw [upd_ne fun z => by rw [z, h0] at q; cases q]; exact B.free b o q n x
  · have z := B.tups b xs q
    rw [upd_ne (ne _ _ z)]; exact z
  · have z := B.frzs b o u q
    rw [upd_ne (ne _ _ z)]; exact z
  · obtain ⟨m, z⟩ := B.tbls b ps q
    exact ⟨m, by rw [upd_ne (ne _ _ z)]; exact z⟩
  · rw [upd_ne (Ne.symm hL)]; exact I.free
  · rw [upd_ne (hc x c q)]; exact I.freeC x c q
  · obtain ⟨z1, z2, z3, z4, z5⟩ := I.pin p q
    exact ⟨z1, by rw [upd_ne (hp p q)]; exact z2, z3, z4, z5⟩
  · by_cases hb : b = e
    · subst hb
      rw [upd_same] at q; cases q
      exact ok
    · rw [upd_ne hb] at q
      exact (I.hok b u q).stay (fun c v _ z => z) (fun c z => by rw [upd_ne (ne _ _ z)]; exact z) fun c xs z => by rw [upd_ne (ne _ _ z)]; exact z
/-- a name goes -/
theorem Inv.forget {h' : Heap} {t' : Nat} {i : Nat} {n : Str} {m : Str → Option Value} {v : Option Value} (I : Inv X pins σ H s) (hN : X.N.Nodup) (hi : X.N[i]? = some n)
    (hm : s.heap.Ns X.env.locals m) (hl : ∀ (i : Nat) (x : Str) (v : V), X.N[i]? = some x → σ[i]? = some (some v) → Vis X.env.scope x → ∃ u, RelV v u ∧ Look X.env s.heap m x u)
    (hn : h'.Ns X.env.locals (fun x => if x = n then v else m x)) (hs : Heap.SameBut X.env.locals s.heap h') : Inv X pins (σ.set i none) H { s with heap := h', toks := t' } := by
  have nL : ∀ b o, X.s₀.heap.get? b = some o → b ≠ X.env.locals := fun b o e => Nat.ne_of_lt (Nat.lt_of_lt_of_le (Heap.lt_size e) I.ok.above)
  have hiσ : i < σ.length := by rw [I.len]; exact (List.getElem?_eq_some_iff.mp hi).1
  refine ⟨I.ok, I.os, I.bare, ⟨fun b o e n hb hx => (hs.2 b (nL b o e)).trans (I.base.keep b o e n hb hx), fun b o e n hb hx => ?_, I.base.free, fun b o e hx => ?_, I.base.tups, I.base.frzs, I.base.tbls⟩, ⟨_, hn, fun j y w e1 e2 e3 => ?_⟩, fun y c e => ?_, I.free, I.freeC, fun p hp => ?_, fun b u e => ?_, by simpa using I.len⟩
  · obtain ⟨sl, e1⟩ := I.base.slot b o e n hb hx
    exact ⟨sl, (hs.2 b (nL b o e)).trans e1⟩
  · obtain ⟨o', e1⟩ := I.base.there b o e hx
    exact ⟨o', (hs.2 b (nL b o e)).trans e1⟩
  · by_cases hj : j = i
    · subst hj
      rw [List.getElem?_set_self hiσ] at e2
      cases e2
    · rw [List.getElem?_set_ne (Ne.symm hj)] at e2
      obtain ⟨u, r, q⟩ := hl j y w e1 e2 e3
      refine ⟨u, r, ?_⟩
      rcases q with ⟨k, e⟩ | ⟨k, c, e, z⟩
      · have : y ≠ n := fun e => hj (nodup_ix hN e1 (e ▸ hi))
        exact .inl ⟨k, by simp [this, e]⟩
      · exact .inr ⟨k, c, e, z.sameBut hs (I.cne y c e)⟩
  · obtain ⟨w', z⟩ := I.cell y c e
    exact ⟨w', z.sameBut hs (I.cne y c e)⟩
  · obtain ⟨e, n, ne, nf, d⟩ := I.pin p hp
    exact ⟨(hs.2 p.1 ne).trans e, n, ne, nf, d⟩
  · refine (I.hok b u e).stay (fun c w' hc q => (hs.2 c ?_).trans q) (fun _ q => q) fun _ _ q => q
    rintro rfl
    rcases hc with rfl | hc
    · rw [I.free] at e; cases e
    · rw [I.free] at hc; cases hc
end
/-- what stands where an exception lies that is held by a name -/
def exO (e C : Addr) : HO := .ext fun h => ∃ o, h.get? e = some o ∧ o.cls = .ref C
/-- the context of an except suite -/
abbrev Cx.sub (X : Cx) (e : Addr) : Cx := { X with A := X.A.mark (some (.ref e)), calm := false, xe := fun _ _ => False }
section
variable {X : Cx} {pins : List (Addr × Obj)} {σ : St} {H : Hp} {s : Shared} {e : Addr}
theorem Inv.toSub (I : Inv X pins σ H s) : Inv (X.sub e) pins σ H s :=
  ⟨⟨I.ok.mod, I.ok.kind, I.ok.glob, I.ok.blt, I.ok.above, I.ok.inj, I.ok.has, I.ok.cab, (fun z => nomatch z), I.ok.frames, I.ok.stk, I.ok.exf, I.ok.bs, I.ok.bsz, I.ok.noex, I.ok.exfs, I.ok.funs, I.ok.frf⟩, I.os, I.bare, I.base, I.loc, I.cell, I.free, I.freeC, I.pin, I.hok, I.len⟩
theorem Inv.ofSub {J : Inv X pins σ H s} {σ' : St} {H' : Hp} {s' : Shared} (I : Inv (X.sub e) pins σ' H' s') : Inv X pins σ' H' s' :=
  ⟨J.ok, I.os, I.bare, I.base, I.loc, I.cell, I.free, I.freeC, I.pin, I.hok, I.len⟩
end
abbrev EXK := Value → St → Hp → Prop
/-- an exception that came from a call -/
def PX (X : Cx) (pins : List (Addr × Obj)) (EX : EXK) : Value → Shared → Prop := fun ev s' => ∃ e cls σ s1 H1 H', ev = .ref e ∧ Inv X pins σ H1 s1 ∧ Inv X pins σ H' s' ∧ XF s1.heap s'.heap H' e cls ∧ EX cls σ H'
def PEX (X : Cx) (ex : Expr) (t : EXK → TE) : Prop :=
  ∀ (pins : List (Addr × Obj)) (s : Shared) (σ : St) (H : Hp) (Q : VK) (EX : EXK), Inv X pins σ H s → t EX σ H Q → wpAny (model X.prog X.w) X.A (eval ex X.env) (EP X pins σ Q) (PX X pins EX) s
def PSX (X : Cx) (st : Stmt) (t : EXK → TS) : Prop :=
  ∀ (pins : List (Addr × Obj)) (s : Shared) (σ : St) (H : Hp) (D : Ends) (EX : EXK), Inv X pins σ H s → t EX D σ H → wpAny (model X.prog X.w) X.A (exec st X.env) (SP X pins D) (PX X pins EX) s
section
variable {X : Cx} {k : Nat} {f : Addr} {fd : FuncData} {ps : List Str} {sp : Sp} {x : Str} {p pos : Pos} {e : Expr} {es : List Expr} {t : TA}
def tCallX (sp : Sp) (ta : TA) (EX : EXK) : TE := fun σ H Q => ta σ H fun vs H1 => sp (vs ++ []) H1 Q fun cls _ H2 => EX cls σ H2
end
section
variable {X : Cx} {ex : Expr} {tx : EXK → TE} {pos p1 : Pos} {i : Nat} {y : Str}
def tDropX (tx : EXK → TE) (EX : EXK) : TS := fun D σ H => tx EX σ H fun _ H1 => D.nx σ H1
theorem psx_expr (he : PEX X ex tx) (hs : swapsWith ex none pos.line X.env = pure false := by rfl) : PSX X (.Expr ex pos) (tDropX tx) := by
  intro pins s σ H D EX I h
  exact wpAny_Expr_any (thn (he pins s σ H _ EX I h) fun v s1 ⟨x, H1, I1, r1, q1⟩ => ⟨σ, H1, I1, q1⟩) I.quiet hs
def tRetX (tx : EXK → TE) (EX : EXK) : TS := fun D σ H => tx EX σ H D.rt
def tAsgX (tx : EXK → TE) (i : Nat) (EX : EXK) : TS := fun D σ H => tx EX σ H fun v H1 => D.nx (σ.set i (some v)) H1
end
/-- all that a class must have so that its exceptions are looked at -/
structure ExK (K : PySem.W.Frag) (C : Addr) : Prop extends ExC K C where
  has : (PySem.W.clsIn K C).isSome = true
/-- the ends of an except suite: the name goes -/
def endT (i : Nat) (D : Ends) : Ends := { nx := fun σ H => D.nx (σ.set i none) H, rt := D.rt, bk := fun σ H => D.bk (σ.set i none) H, ct := fun σ H => D.ct (σ.set i none) H }
def tTry (K : PySem.W.Frag) (tb : EXK → TS) (C0 : Addr) (i : Nat) (th : TS) : TS := fun D σ H => tb (fun cls σ1 H1 => ∃ C, cls = .ref C ∧ ExK K C ∧ PySem.W.exmOne K (.ref C) (.ref C0) = some true ∧
  ∀ e, H1 e = none → th (endT i D) (σ1.set i (some (.ref e))) (upd H1 e (exO e C))) D σ H
section
variable {X : Cx} {st b₀ : Stmt} {suite : List Stmt} {tb : EXK → TS} {th : TS} {c n : Str} {C0 : Addr} {i : Nat} {np hpos pos : Pos}
theorem ps_try (hst : X.stack = X.env :: X.outer ∧ X.env.frame = some X.env.locals) (hex : X.ex = []) (hN : X.N.Nodup) (hb : PSX X st tb) (hg : Gl X c) (hm : X.mg c = some (.ref C0)) (hi : X.N[i]? = some n) (hl : X.env.scope.names.lookup n = some .local)
    (hs : ∀ e, PSs (X.sub e) (b₀ :: suite) th) (hdb : (c == ("__debug__" : Str)) = false := by decide) :
    PS X (.Try [st] [.ExceptHandler (some (.Name c np)) (some n) (b₀ :: suite) hpos] [] [] pos) (tTry X.K tb C0 i th) := by
  intro pins s σ H D I h
  refine wpAny_Try_except (wpAny_execs_cons (wpAny_mono (hb pins s σ H D _ I h) (fun f s1 q => ?_) fun ev s1 q => ?_))
  · cases f with
    | next => exact wpAny_execs_nil (wpAny_execs_nil q)
    | ret v => exact q
    | brk => exact q
    | cont => exact q
  obtain ⟨e, cls, σ1, s0, H0, H1, rfl, I0, I1, xf, C, rfl, ek, hx, hth⟩ := q
  obtain ⟨oe, vs, a0, T, oT, ts, h1, h2, h3, h4, h5, h6, h7, h8, h9, h10, h11, h12⟩ := xf
  have fr : s1.heap.FunFrames (PySem.W.hideAll s1.heap (frs X.stack ++ [e, T])) (X.env :: X.outer) := by
    have q := PySem.W.funFrames_hide (as := frs X.stack ++ [e, T]) I1.stack fun env he a ha => List.mem_append_left _ (List.mem_filterMap.mpr ⟨env, he, ha⟩)
    rw [hst.1] at q ⊢
    exact q
  have two : ∀ b ∈ [e, T], s0.heap.get? b = none ∧ H1 b = none := fun b z => by
    have z' : b = e ∨ b = T := by simpa using z
    rcases z' with rfl | rfl
    · exact ⟨h9, h11⟩
    · exact ⟨h10, h12⟩
  have hcs : ∀ b ∈ [e, T], H1 b = none ∧ X.s₀.heap.get? b = none := fun b z => ⟨(two b z).2, none_back (I0.there0 hex) (two b z).1⟩
  have hcp : ∀ b ∈ [e, T], ∀ p ∈ X.pn ++ pins, p.1 ≠ b := fun b z p hp q => by
    have := (I0.pin p hp).1
    rw [q, (two b z).1] at this; cases this
  refine wpAny_looks_onW (base := PySem.W.hideAll s1.heap (frs X.stack ++ [e, T])) (a0 := a0) (cls := .ref C) (by rw [I1.ok.frames, hst.1]) hst.2
    ⟨fun b o q => PySem.W.of_hideAll _ q, PySem.W.hideAll_none _ (List.mem_append_right _ (by simp)), fr, oe, vs, T, oT, ts, h1, h2, h3, h4, PySem.W.hideAll_none _ (List.mem_append_right _ (by simp)), h5, h6, h7, h8⟩ fun g4 held4 sm4 => ?_
  refine wpAny_landsW held4 fun g5 fly5 sm5 => ?_
  have hB : ∀ {g : Heap}, (PySem.W.hideAll s1.heap (frs X.stack ++ [e, T])).StaysIn g → ∀ b o, s1.heap.get? b = some o → b ∉ frs X.stack → b ∉ [e, T] → g.get? b = some o :=
    fun {g} k b o q n1 n2 => k b o (PySem.W.hideAll_get _ q fun z => (List.mem_append.mp z).elim n1 n2)
  have I5 : Inv X pins σ1 H1 { s1 with heap := g5 } := I1.land hex hcs hcp (hB fly5.1) (sm4.trans sm5)
  have K5 := I5.kIn
  refine wpAny_handleBy_cons (codeAny_handlers_test ?_) (by intro q; cases q)
  refine ld_glob (X := X.sub e) (I5.toSub (e := e)) hg hm ?_ hdb
  have ty5 : PySem.W.Looks (model X.prog X.w) g5 (typeOf (.ref e)) (.ref C) := by
    obtain ⟨o, p1, p2⟩ := fly5.there
    exact p2 ▸ (PySem.W.Looks.ld p1).andThen .now
  refine (PySem.W.exm_one K5 ty5 hx).here ?_
  refine codeAny_handlers_suite_as ?_
  refine lands_againW fly5 fun g6 fly6 sm6 => ?_
  have I6 : Inv X pins σ1 H1 { s1 with heap := g6 } := I1.land hex hcs hcp (hB fly6.1) ((sm4.trans sm5).trans sm6)
  have neL : e ≠ X.env.locals := fun z => by
    obtain ⟨m, ⟨o, _, _, ho, _⟩, _⟩ := I0.loc
    rw [← z, h9] at ho; cases ho
  have neC : ∀ x c, X.env.cells.lookup x = some c → c ≠ e := fun x c q z => by
    obtain ⟨v, o, ho, _⟩ := I0.cell x c q
    rw [z, h9] at ho; cases ho
  obtain ⟨o6, p6, q6⟩ := fly6.there
  have I7 : Inv X pins σ1 (upd H1 e (exO e C)) { s1 with heap := g6 } := I6.track h11 (hcs e (by simp)).2 hex neL neC (hcp e (by simp))
    ⟨⟨o6, p6, q6⟩, ⟨o6, p6⟩, fun a b ⟨o, z1, z2⟩ k => ⟨o, k o z1, z2⟩⟩
  refine store_ok (X := X) (v := .ref e) I7 hN hi (.inl hl) rfl (fun s8 I8 => ?_) (.inr hl)
  refine wpAny_mono (hs e pins s8 _ _ _ I8.toSub (hth e h11)) (fun f s9 q => ?_) fun _ _ z => False.elim z
  have hcls : (X.env.scope.kind == .class || (X.env.scope.kind == .module && X.env.locals != X.env.globals)) = false := by rw [I.ok.kind]; rfl
  have go : ∀ {σ9 : St} {H9 : Hp} {R : Shared → Prop}, Inv (X.sub e) pins σ9 H9 s9 → (∀ s', Inv X pins (σ9.set i none) H9 s' → R s') →
      wpAny (model X.prog X.w) X.A (do bindName X.env n .none; unbindBehindTheSuite X.env n hpos) (fun _ s3 => R s3) X.xe s9 := fun {σ9 H9 R} J k => by
    have J' : Inv X pins σ9 H9 s9 := Inv.ofSub (J := I) J
    obtain ⟨m, hm9, hl9⟩ := J'.loc
    exact wpAny_nameGoes_keeps (Q := fun _ s3 => R s3) hl hm9 hcls fun h' v a b => k _ (J'.forget hN hi hm9 hl9 a b)
  cases f with
  | next =>
    obtain ⟨σ9, H9, J, z⟩ := q
    exact go (R := fun s3 => SP X pins D .next s3) J fun s' J' => ⟨_, _, J', z⟩
  | brk =>
    obtain ⟨σ9, H9, J, z⟩ := q
    exact go (R := fun s3 => SP X pins D .brk s3) J fun s' J' => ⟨_, _, J', z⟩
  | cont =>
    obtain ⟨σ9, H9, J, z⟩ := q
    exact go (R := fun s3 => SP X pins D .cont s3) J fun s' J' => ⟨_, _, J', z⟩
  | ret u =>
    obtain ⟨v, σ9, H9, J, r, z⟩ := q
    exact go (R := fun s3 => SP X pins D (.ret u) s3) J fun s' J' => ⟨v, _, _, J', r, z⟩
end
end L2

namespace L2
open PySem PySem.Spec PyProof.Rows
/-! ### isinstance of an exception -/
def clsV : V → Option Value
  | .ty T => some (.type T)
  | .ref D => some (.ref D)
  | _ => none
abbrev cIsx (K : PySem.W.Frag) : RC := fun xs H Q => ∃ a C c cv b, xs = [.ref a, c] ∧ H a = some (exO a C) ∧ ExK K C ∧ clsV c = some cv ∧ PySem.W.kitOne K (.ref C) cv = some b ∧ Q (.bl b) H
abbrev cIsxT (K : PySem.W.Frag) : RC := fun xs H Q => ∃ a C p, ∃ cs : List Addr, ∃ b, xs = [.ref a, .ref p] ∧ H a = some (exO a C) ∧ ExK K C ∧ H p = some (.tup (cs.map V.ref)) ∧ PySem.W.kitAny K (.ref C) (cs.map Value.ref) = some b ∧ Q (.bl b) H
theorem vals_refs : ∀ {cs : List Addr} {us : List Value}, Vals (cs.map V.ref) us → us = cs.map Value.ref
  | [], _, .nil => rfl
  | c :: r, _, .cons h t => by rw [vals_refs t]; cases h; rfl
section
variable {X : Cx}
theorem exO_at {P : Program} {w : World} {H : Hp} {h : Heap} {a C : Addr} (k : HOk P w H h) (e : H a = some (exO a C)) : ∃ o, h.get? a = some o ∧ o.cls = .ref C := (k a _ e).1
theorem call_isx : CallR X (.builtin "isinstance") (cIsx X.K) := by
  intro pins s σ H xs us Q I r h
  obtain ⟨a, C, c, cv, b, rfl, ha, ek, hc, hk, q⟩ := h
  obtain ⟨u, w', rfl, r1, r2⟩ := vals2 r
  cases r1
  have e2 : w' = cv := by
    cases c <;> simp only [clsV, Option.some.injEq, reduceCtorEq] at hc
    · subst hc; exact r2
    · subst hc; exact r2
  subst e2
  exact PySem.W.kia_one (kitx_exc ek.toExC ek.has) I.kIn (exO_at I.hok ha) hk (fun z => nomatch z) fun tk => ⟨.bl b, H, I.tok _, rfl, q⟩
theorem call_isxT : CallR X (.builtin "isinstance") (cIsxT X.K) := by
  intro pins s σ H xs us Q I r h
  obtain ⟨a, C, p, cs, b, rfl, ha, ek, hp, hk, q⟩ := h
  obtain ⟨u, w', rfl, r1, r2⟩ := vals2 r
  cases r1
  cases r2
  obtain ⟨_, its, rv, o, o1, o2, n, o3⟩ := (show ObjOk X.prog X.w H s.heap p (.tup (cs.map V.ref)) from I.hok p _ hp)
  obtain rfl := vals_refs rv
  obtain ⟨oc, od, oda, osl⟩ := o
  obtain rfl : oc = .type "tuple" := o2
  obtain rfl : oda = .seq (cs.map Value.ref).toArray n := o3
  exact PySem.W.kia_tup (kitx_exc ek.toExC ek.has) I.kIn (exO_at I.hok ha) o1 hk (fun z => nomatch z) fun tk => ⟨.bl b, H, I.tok _, rfl, q⟩
end
/-! ### defs over CX1 -/
theorem pass10 {P : Program} {w : World} {X : Cx} : Passes (CX1 P w) X E0 := fun _ _ _ _ _ _ _ h => by
  obtain ⟨_, _, _, _, _, _, _, _, _, z⟩ := h
  exact z.elim
section
variable {P : Program} {w : World} {K : PySem.W.Frag} {mg : Str → Option Value} {base : Heap}
/-- a def that lets exceptions out -/
theorem Fun.ok1 {x qual : Str} {st : Stmt} {f : Addr} {fd : FuncData} {N ps : List Str} {k : Nat} {sp : Sp} (F : Fun K x qual st f fd) (S : FnScope N ps (defScope st)) (len : ∀ vs H Q E, sp vs H Q E → vs.length = ps.length)
    (hbody : ∀ (cdv : Value) (A : Around) (outer : List Env) (s : Shared) (H : Hp) (vs : List V) (Q : VK) (E : XK), Room k (A.deeper (envOfC qual (defScope st) s.heap.objs.size f cdv)) → sp vs H Q E →
      ∃ t, PSs (cxOf (CX1 P w) P w K mg base N qual (defScope st) f cdv A outer s H E) (defBody st) t ∧ t { nx := fun _ H' => Q .non H', rt := Q } (start N vs) H) : FnOk P w K mg base (CX1 P w) (k + 1) f fd ps sp := by
  obtain ⟨oc, od, kV, doc, pm, an, cdv, ct, osl, rfl, lk, hcd⟩ := F.ex
  exact fn_of lk hcd S len fun A outer s H vs Q E hr hsp => hbody cdv A outer s H vs Q E hr hsp
/-- a def out of which none comes -/
theorem Fun.ok0 {x qual : Str} {st : Stmt} {f : Addr} {fd : FuncData} {N ps : List Str} {k : Nat} {sp : Sp} (F : Fun K x qual st f fd) (S : FnScope N ps (defScope st)) (len : ∀ vs H Q E, sp vs H Q E → vs.length = ps.length)
    (hbody : ∀ (cdv : Value) (A : Around) (outer : List Env) (s : Shared) (H : Hp) (vs : List V) (Q : VK) (E : XK), Room k (A.deeper (envOfC qual (defScope st) s.heap.objs.size f cdv)) → sp vs H Q E →
      ∃ t, PSs (cxOf (CX1 P w) P w K mg base N qual (defScope st) f cdv A outer s H E).nox (defBody st) t ∧ t { nx := fun _ H' => Q .non H', rt := Q } (start N vs) H) : FnOk P w K mg base (CX1 P w) (k + 1) f fd ps sp :=
  F.ok1 S len fun cdv A outer s H vs Q E hr h => let ⟨t, a, b⟩ := hbody cdv A outer s H vs Q E hr h; ⟨t, a.nox, b⟩
end
theorem walk_ofX {l : PySem.W.OpenLaw} {n k : Nat} {q : Program} {loose : List Str} {XP : (Str → Option Value) → Heap → Prop} {YP : World → Heap → Prop} {d : DefRec} {K : Params → PySem.W.Frag} {sp : PySem.W.Frag → Sp} {x : Str}
    (hn : l.most = some n) (hn2 : n ≤ sizeLine) (hdf : d.params.defaults = []) (hr : Room k callerA)
    (hY : ∀ (w : World) (h : Heap), YP w h → (K w.params).In h)
    (F : ∀ (w : World) (mg : Str → Option Value) (fa : Addr) (h : Heap), (K w.params).In h → h.Ns mainGlobals mg → mg d.name = some (.ref fa) →
      ∃ fd : FuncData, (∀ (s : Shared) (u : Value), BindsTo s fd ⟨[u], []⟩ [(x, u)]) ∧
        ∀ base : Heap, (K w.params).In base → base.Ns mainGlobals mg → FnOk l.prog w (K w.params) mg base (CX1 l.prog w) k fa fd [x] (sp (K w.params)))
    (hsp : ∀ (K : PySem.W.Frag) (H : Hp) (a : Addr) (ns : List Int), ns.length ≤ n → Only H → SqL K H a (ns.map V.int) → sp K [.ref a] H (fun v _ => v = .bl true) fun _ _ _ => False) :
    PySem.W.WalkO q loose XP YP l.row.toRowW d [] (fun f vs => PySem.call f vs) :=
  walk_of (K := K) (CX := fun w => CX1 l.prog w) (sp := fun w => sp (K w.params)) hn hn2 hdf hr hY F (fun w H a ns h1 h2 h3 => hsp (K w.params) H a ns h1 h2 h3) fun _ _ _ _ _ z => by
    obtain ⟨_, _, _, _, _, _, _, _, _, y⟩ := z
    exact y
end L2

namespace L2
open PySem
/-! ### loops, as they stand behind the unfolding of their readings -/
section
variable {σ : St} {H : Hp} {nx : St → Hp → Prop} {B : V → St → Hp → (St → Hp → Prop) → Prop}
end
/-! ### texts as lists of codes -/
/-! ### numerals -/
open PySem.NumText in
section
def numS (w : Int) : Str := Str.ofString (toString w)
/-- the signs 0 to 9 -/
def inF (c : Nat) : Bool := !(Builtin.Str.occurrences "0123456789" ⟨#[c]⟩ 0 (Str.length "0123456789") 1).isEmpty
def isFig (x : Str) : Bool := !decide (x = "") && x.cps.toList.all inF
def inW (i : Int) : Bool := decide (-1000000000000000000000000000000 ≤ i ∧ i ≤ 1000000000000000000000000000000)
/-- the text without its minus -/
def fpart (x : Str) : Str := if (x.cps.toList.take 1 == [45]) = true then Txt.slice x (some 1) none else x
def valOf (x : Str) : Int := (intText? x).getD 0
def isNum (x : Str) : Bool := !(decide (31 < (fpart x).length) || !isFig (fpart x)) && (inW (valOf x) && decide (numS (valOf x) = x))
end
end L2

namespace L2
open PySem PySem.Spec PyProof.Rows
/-! ### more of texts -/
/-- where y lies in x -/
def findS (x y : Str) : Int := match Builtin.Str.occurrences x y 0 x.length 1 with | i :: _ => (i : Int) | [] => -1
abbrev r_mt_find : RM := fun x xs H Q => ∃ a b, x = .str a ∧ xs = [.str b] ∧ Q (.int (findS a b)) H
def joinS (sep : Str) : List Str → Str
  | [p] => p
  | l => Builtin.Str.glued sep l
def sumL (sep : Str) (ls : List Str) : Nat := ls.foldl (fun n p => n + p.length + sep.length) 0
abbrev r_mt_join (K : PySem.W.Frag) : RM := fun x xs H Q => ∃ sep a ls, x = .str sep ∧ xs = [.ref a] ∧ SqL K H a (ls.map V.str) ∧ sumL sep ls ≤ sizeLine ∧ Q (.str (joinS sep ls)) H
/-- x * n -/
def repS (x : Str) (n : Int) : Str := if n < 1 then Str.empty else if (n == 1 || x.length == 0) = true then x else ⟨(List.replicate n.toNat x.cps).foldl (· ++ ·) #[]⟩
abbrev rMulS : R2 := fun x y H Q => ∃ a n, x = .str a ∧ y = .int n ∧ (n < 1000000 ∧ -1000000 < n ∧ a.length * n.toNat ≤ 1000000) ∧ Q (.str (repS a n)) H
section
variable {X : Cx}
end
/-! ### signs that stay among the first 128 -/
end L2
namespace L2
open PySem PySem.Spec PyProof.Rows
/-! ### numerals, read sign by sign -/
section
open PySem.NumText
end
end L2

namespace L2
open PySem PySem.Spec PyProof.Rows
/-! ### floor division by any number but 0 -/
section
variable {X : Cx}
abbrev cIntB : RC := fun xs H Q => ∃ b : Bool, xs = [.bl b] ∧ Q (.int (if b then 1 else 0)) H
end
/-! ### == of lists and tuples of flat values -/
theorem hu64 {k : Nat} {A : Around} (r : Room k A) : A.units + 64 < cLine := by have := r.un; omega
def datV : V → PyData
  | .non => .none
  | .bl b => .bool b
  | .int i => .int i
  | .str x => .str x
  | _ => .none
def isFlat : V → Bool
  | .non => true
  | .bl _ => true
  | .int _ => true
  | .str x => PyData.strOk x
  | _ => false
/-- no truth beside a whole number -/
def mixV : V → V → Bool
  | .bl _, .int _ => false
  | .int _, .bl _ => false
  | _, _ => true
def mixAll : List V → List V → Bool
  | x :: xs, y :: ys => mixV x y && mixAll xs ys
  | _, _ => true
theorem carried_of : ∀ {xs : List V} {us : List Value}, xs.all isFlat = true → Vals xs us → CarriedAll us (xs.map datV)
  | [], _, _, .nil => .nil
  | x :: r, _, h, .cons rx t => by
    rw [List.all_cons, Bool.and_eq_true] at h
    refine .cons ?_ (carried_of h.2 t)
    cases x with
    | non => cases rx; exact .none
    | bl b => cases rx; exact .bool b
    | int i => obtain ⟨t, rfl⟩ := rx; exact .int i t
    | str x => obtain ⟨t, rfl⟩ := rx; exact .str x t
    | byt b => exact absurd h.1 (by simp [isFlat])
    | flt b => exact absurd h.1 (by simp [isFlat])
    | ref a => exact absurd h.1 (by simp [isFlat])
    | ty n => exact absurd h.1 (by simp [isFlat])
theorem same_dat {x y : V} (hx : isFlat x = true) (hy : isFlat y = true) : PySem.Spec.same (datV x) (datV y) = decide (x = y) := by
  cases x <;> cases y <;> simp_all [isFlat, datV, PySem.Spec.same] <;> (rename_i a b; by_cases e : a = b <;> simp [e])
theorem sameAll_dat : ∀ {xs ys : List V}, xs.all isFlat = true → ys.all isFlat = true → PySem.Spec.sameAll (xs.map datV) (ys.map datV) = decide (xs = ys)
  | [], [], _, _ => by simp [PySem.Spec.sameAll]
  | [], _ :: _, _, _ => by simp [PySem.Spec.sameAll]
  | _ :: _, [], _, _ => by simp [PySem.Spec.sameAll]
  | x :: r, y :: t, hx, hy => by
    rw [List.all_cons, Bool.and_eq_true] at hx hy
    rw [List.map_cons, List.map_cons, PySem.Spec.sameAll, same_dat hx.1 hy.1, sameAll_dat hx.2 hy.2]
    by_cases a : x = y <;> by_cases b : r = t <;> simp [a, b]
theorem noMix_dat {x y : V} (hx : isFlat x = true) (hy : isFlat y = true) (h : mixV x y = true) : SeqAt.noMix (datV x) (datV y) = true := by
  cases x <;> cases y <;> simp_all [isFlat, datV, SeqAt.noMix, mixV]
theorem noMixAll_dat : ∀ {xs ys : List V}, xs.all isFlat = true → ys.all isFlat = true → mixAll xs ys = true → SeqAt.noMixAll (xs.map datV) (ys.map datV) = true
  | [], [], _, _, _ => by simp [SeqAt.noMixAll]
  | [], _ :: _, _, _, _ => by simp [SeqAt.noMixAll]
  | _ :: _, [], _, _, _ => by simp [SeqAt.noMixAll]
  | x :: r, y :: t, hx, hy, h => by
    rw [List.all_cons, Bool.and_eq_true] at hx hy
    rw [mixAll, Bool.and_eq_true] at h
    rw [List.map_cons, List.map_cons, SeqAt.noMixAll, noMix_dat hx.1 hy.1 h.1, noMixAll_dat hx.2 hy.2 h.2]
    rfl
theorem shaped_dat {xs : List V} (h : xs.all isFlat = true) : SeqAt.shaped (.list (xs.map datV)) = true ∧ SeqAt.shaped (.tuple (xs.map datV)) = true := by
  have a : ∀ x, isFlat x = true → (datV x).canLay0 = true ∧ (datV x).depth = 0 := fun x => by cases x <;> simp [datV, PyData.canLay0, PyData.depth, isFlat]
  have l : ∀ ys : List V, ys.all isFlat = true → PyData.canLayAll0 (ys.map datV) = true ∧ PyData.depthAll (ys.map datV) = 0 := by
    intro ys
    induction ys with
    | nil => exact fun _ => ⟨rfl, rfl⟩
    | cons y r ih =>
      intro h
      rw [List.all_cons, Bool.and_eq_true] at h
      exact ⟨by rw [List.map_cons, PyData.canLayAll0, (a y h.1).1, (ih h.2).1]; rfl, by rw [List.map_cons, PyData.depthAll, (a y h.1).2, (ih h.2).2]; rfl⟩
  exact ⟨by simp [SeqAt.shaped, PyData.canLay0, PyData.depth, (l xs h).1, (l xs h).2], by simp [SeqAt.shaped, PyData.canLay0, PyData.depth, (l xs h).1, (l xs h).2]⟩
abbrev rEqL (K : PySem.W.Frag) (neg : Bool) : R2 := fun x y H Q => ∃ a b xs ys, x = .ref a ∧ y = .ref b ∧ SqL K H a xs ∧ SqL K H b ys ∧ (xs.all isFlat = true ∧ ys.all isFlat = true ∧ mixAll xs ys = true) ∧ Q (.bl (if neg then !decide (xs = ys) else decide (xs = ys))) H
section
variable {X : Cx}
theorem op_neL (hu : X.A.units + 64 < cLine) : OpR X (compareOp .NotEq) (rEqL X.K true) := by
  intro pins s σ H x y v u Q I rx ry h
  obtain ⟨a, b, xs, ys, rfl, rfl, ha, hb, ⟨f1, f2, f3⟩, q⟩ := h
  cases rx
  cases ry
  obtain ⟨us, r1, p1, _⟩ := I.list ha
  obtain ⟨ws, r2, p2, _⟩ := I.list hb
  refine ne_dataH_same (reads_newData p1.isList (carried_of f1 r1)) (reads_newData p2.isList (carried_of f2 r2)) (shaped_dat f1).1 (shaped_dat f2).1 hu (by rw [SeqAt.noMix]; exact noMixAll_dat f1 f2 f3) ?_
  rw [PySem.Spec.same, sameAll_dat f1 f2]
  exact ⟨.bl _, H, I, rfl, q⟩
abbrev rEqNil (K : PySem.W.Frag) : R2 := fun x y H Q => ∃ a b xs, x = .ref a ∧ y = .ref b ∧ SqL K H a xs ∧ SqL K H b [] ∧ Q (.bl (decide (xs = []))) H
end
end L2

namespace L2
open PySem PySem.Spec PyProof.Rows
abbrev r_mt_append : RM := rAppend
abbrev r_mt_pop : RM := rPop
/-! ### terms, told with their parts ahead of their word -/
def jw : List V := [.str "plus", .str "minus", .str "times", .str "over", .str "rest", .str "under", .str "same"]
def isJ (v : V) : Bool := inV v jw
inductive Er where
  | nought | great | stuck
  deriving DecidableEq
def comeV (w : Str) (a b : Int) : Int :=
  if w = "plus" then a + b else if w = "minus" then a - b else if w = "times" then a * b else if w = "under" then (if a < b then 1 else 0) else if w = "same" then (if a = b then 1 else 0) else if w = "over" then a.fdiv b else a.fmod b
def isDiv (w : Str) : Prop := ¬ w = "plus" ∧ ¬ w = "minus" ∧ ¬ w = "times" ∧ ¬ w = "under" ∧ ¬ w = "same"
instance (w : Str) : Decidable (isDiv w) := by unfold isDiv; infer_instance
def joinE (w : Str) (a b : Int) : Except Er Int := if isDiv w ∧ b = 0 then .error .nought else if inW (comeV w a b) = true then .ok (comeV w a b) else .error .great
def wrth (kvs : List (Key × V)) : V → Int
  | .int i => i
  | .str x => (match valV kvs (.inr x) with | some (.int i) => i | _ => 0)
  | _ => 0
def stepE (kvs : List (Key × V)) (st : List Int) (v : V) : Except Er (List Int) :=
  if isJ v = true then (match v, st.reverse with | .str w, b :: a :: r => (match joinE w a b with | .ok c => .ok (r.reverse ++ [c]) | .error e => .error e) | _, _ => .error .stuck) else .ok (st ++ [wrth kvs v])
def runE (kvs : List (Key × V)) : List V → List Int → Except Er (List Int)
  | [], st => .ok st
  | v :: r, st => match stepE kvs st v with | .ok st' => runE kvs r st' | .error e => .error e
section
variable {kvs : List (Key × V)}
def Good (kvs : List (Key × V)) (ps : List V) (r : Except Er Int) : Prop := (∀ st, runE kvs ps st = match r with | .ok i => .ok (st ++ [i]) | .error e => .error e) ∧ r ≠ .error .stuck
end
def okPart (v : V) : Prop := (∃ i, v = .int i ∧ inW i = true) ∨ ∃ x : Str, v = .str x ∧ x.length ≤ 1000
def SlotsOk (kvs : List (Key × V)) : Prop := ∀ k v, valV kvs k = some v → ∃ i, v = .int i ∧ inW i = true
theorem wrth_inW {kvs : List (Key × V)} (h : SlotsOk kvs) {v : V} (hv : okPart v) : inW (wrth kvs v) = true := by
  rcases hv with ⟨i, rfl, hi⟩ | ⟨x, rfl, _⟩
  · exact hi
  · show inW (match valV kvs (.inr x) with | some (.int i) => i | _ => 0) = true
    cases e : valV kvs (.inr x) with
    | none => rfl
    | some u =>
      obtain ⟨i, rfl, hi⟩ := h _ _ e
      exact hi
end L2

namespace L2
open PySem PySem.Spec PyProof.Rows
/-! ### for x in reversed(list) -/
def Itv (K : PySem.W.Frag) (a : Addr) (xs : List V) : It := ⟨fun i H => i < xs.length ∧ SqL K H a xs, fun i H x H' => H' = H ∧ xs[xs.length - 1 - i]? = some x, fun i _ => xs.length ≤ i⟩
def iRev (K : PySem.W.Frag) (ta : TA) : TI := fun σ H R => ta σ H fun vs H1 => ∃ a xs, vs = [.ref a] ∧ SqL K H1 a xs ∧ R (Itv K a xs) H1
section
variable {X : Cx} {tg : Expr}
end
section
variable {σ : St} {H : Hp} {nx : St → Hp → Prop} {B : V → St → Hp → (St → Hp → Prop) → Prop}
end
end L2

namespace L2
open PySem PySem.Spec PyProof.Rows
abbrev cLst (K : PySem.W.Frag) : RC := fun xs H Q => ∃ p ys, xs = [.ref p] ∧ (SqL K H p ys ∨ SqT K H p ys) ∧ ∀ l, H l = none → Q (.ref l) (upd H l (.lst ys))
abbrev cMin : RC := fun xs H Q => ∃ i j, xs = [.int i, .int j] ∧ Q (.int (if j < i then j else i)) H
/-! ### names -/
def inL (c : Nat) : Bool := !(Builtin.Str.occurrences "abcdefghijklmnopqrstuvwxyz" ⟨#[c]⟩ 0 (Str.length "abcdefghijklmnopqrstuvwxyz") 1).isEmpty
def wl : List V := [.str "take", .str "give", .str "let", .str "say", .str "off", .str "if", .str "else", .str "end", .str "as"]
def isName (x : Str) : Bool := !(decide (x = "") || decide (6 < x.length)) && !(inV (.str x) jw || inV (.str x) wl) && x.cps.toList.all inL
/-! ### terms read: words as trees -/
def partW (w : Str) : Option V := if isName w = true then some (.str w) else if isNum w = true then some (.int (valOf w)) else none
inductive Tw where
  | leaf (w : Str) | node (w : Str) (a b : Tw)
def pre : Tw → List Str
  | .leaf w => [w]
  | .node w a b => w :: (pre a ++ pre b)
def wfT : Tw → Prop
  | .leaf w => isJ (.str w) = false
  | .node w a b => isJ (.str w) = true ∧ wfT a ∧ wfT b
def okT : Tw → Bool
  | .leaf w => (partW w).isSome
  | .node _ a b => okT a && okT b
def pvw (w : Str) : V := (partW w).getD (.str w)
def pst : Tw → List V
  | .leaf w => [pvw w]
  | .node w a b => pst a ++ pst b ++ [.str w]
def scanE : List Str → Nat → Option Nat
  | _, 0 => some 0
  | [], _ + 1 => none
  | w :: r, d + 1 => (scanE r (if isJ (.str w) = true then d + 2 else d)).map (· + 1)
/-- walked from the end; error true: a word that is no part -/
def stepR (st : List (List V)) (w : Str) : Except Bool (List (List V)) :=
  if isJ (.str w) = true then (match st.reverse with | a :: b :: r => .ok (r.reverse ++ [a ++ b ++ [.str w]]) | _ => .error false) else (match partW w with | some v => .ok (st ++ [[v]]) | none => .error true)
def runR : List Str → List (List V) → Except Bool (List (List V))
  | [], st => .ok st
  | w :: r, st => match stepR st w with | .ok st' => runR r st' | .error e => .error e
theorem runR_app : ∀ (p q : List Str) (st : List (List V)), runR (p ++ q) st = match runR p st with | .ok st' => runR q st' | .error e => .error e
  | [], q, st => rfl
  | v :: r, q, st => by
    show (match stepR st v with | .ok st' => runR (r ++ q) st' | .error e => .error e) = match (match stepR st v with | .ok st' => runR r st' | .error e => .error e) with | .ok st' => runR q st' | .error e => .error e
    cases stepR st v with
    | error e => rfl
    | ok st' => exact runR_app r q st'
/-! ### a text among the items -/
end L2

namespace L2
open PySem PySem.Spec PyProof.Rows
/-! ### dict(d); d != e of alike dicts of whole numbers -/
abbrev cDct : RC := fun xs H Q => ∃ a kvs, xs = [.ref a] ∧ H a = some (.dK kvs) ∧ ∀ p, H p = none → Q (.ref p) (upd H p (.dK kvs))
abbrev rNeD : R2 := fun x y H Q => ∃ a b kvs, x = .ref a ∧ y = .ref b ∧ H a = some (.dK kvs) ∧ H b = some (.dK kvs) ∧ (∀ p ∈ kvs, ∃ i, p.2 = V.int i) ∧ Q (.bl false) H
section
variable {X : Cx}
end
/-! ### names: letters, one to six -/
end L2

namespace L2
open PySem PySem.Spec PyProof.Rows
/-! ### zip of two tuples -/
section
variable {P : Program} {w : World} {A : Around} {E : Value → Shared → Prop} {s : Shared}
end
section
variable {P : Program} {w : World} {A : Around} {E : Value → Shared → Prop} {s : Shared}
end
section
variable {P : Program} {w : World} {A : Around} {E : Value → Shared → Prop} {s : Shared}
end
/-- zip of two tuples of one length: each turn tells a new pair -/
def Itz (K : PySem.W.Frag) (p q : Addr) (xs ys : List V) : It := ⟨fun i H => i < xs.length ∧ SqT K H p xs ∧ SqT K H q ys, fun i H x H' => ∃ T u v, x = .ref T ∧ H T = none ∧ H' = upd H T (.tup [u, v]) ∧ xs[i]? = some u ∧ ys[i]? = some v, fun i H => xs.length ≤ i ∧ SqT K H p xs ∧ SqT K H q ys⟩
def iZip (K : PySem.W.Frag) (ta : TA) : TI := fun σ H R => ta σ H fun vs H1 => ∃ p q xs ys, vs = [.ref p, .ref q] ∧ SqT K H1 p xs ∧ SqT K H1 q ys ∧ xs.length = ys.length ∧ R (Itz K p q xs ys) H1
section
variable {X : Cx}
end
section
variable {σ : St} {H : Hp} {nx : St → Hp → Prop} {B : V → St → Hp → (St → Hp → Prop) → Prop}
end
abbrev cTup (K : PySem.W.Frag) : RC := fun xs H Q => ∃ p ys, xs = [.ref p] ∧ ((SqL K H p ys ∧ ∀ l, H l = none → Q (.ref l) (upd H l (.tup ys))) ∨ (SqT K H p ys ∧ Q (.ref p) H))
/-! ### terms written: what is read of a tree's words is the tree again -/
def stepA (st : List (List V)) (v : V) : Option (List (List V)) := if isJ v = true then (match st.reverse with | b :: a :: r => some (r.reverse ++ [v :: (a ++ b)]) | _ => none) else some (st ++ [[v]])
def runA : List V → List (List V) → Option (List (List V))
  | [], st => some st
  | v :: r, st => (stepA st v).bind (runA r)
theorem runA_app : ∀ (p q : List V) (st : List (List V)), runA (p ++ q) st = (runA p st).bind (runA q)
  | [], q, st => rfl
  | v :: r, q, st => by
    show (stepA st v).bind (runA (r ++ q)) = ((stepA st v).bind (runA r)).bind (runA q)
    cases stepA st v with
    | none => rfl
    | some st' => exact runA_app r q st'
end L2

namespace L2
open PySem PySem.W PyProof.Rows
/-! ### the sort's tree of questions, answered by a strict order -/
section
variable {α β : Type} {lt : Nat → Nat → Bool} {n : Nat}
def kOk (lt : Nat → Nat → Bool) (n : Nat) : KasT α → (α → Prop) → Prop
  | .ret a, R => R a
  | .ask i j k, R => i < n ∧ j < n ∧ i ≠ j ∧ kOk lt n (k (lt i j)) R
theorem kOk_bind : ∀ {t : KasT α} {f : α → KasT β} {R : β → Prop}, kOk lt n t (fun a => kOk lt n (f a) R) → kOk lt n (t.bind f) R
  | .ret _, _, _, h => h
  | .ask _ _ _, _, _, h => ⟨h.1, h.2.1, h.2.2.1, kOk_bind h.2.2.2⟩
theorem kOk_mono : ∀ {t : KasT α} {R R' : α → Prop}, kOk lt n t R → (∀ a, R a → R' a) → kOk lt n t R'
  | .ret _, _, _, h, m => m _ h
  | .ask _ _ _, _, _, h, m => ⟨h.1, h.2.1, h.2.2.1, kOk_mono h.2.2.2 m⟩
structure SO (lt : Nat → Nat → Bool) (n : Nat) : Prop where
  irr : ∀ i, i < n → lt i i = false
  trans : ∀ i j k, i < n → j < n → k < n → lt i j = true → lt j k = true → lt i k = true
  tot : ∀ i j, i < n → j < n → i ≠ j → lt i j = false → lt j i = true
def PP (n : Nat) (p : Array Nat) : Prop := p.Perm (List.range n).toArray
def gt (p : Array Nat) (k : Nat) : Nat := p.getD k 0
theorem gt_eq {p : Array Nat} {k : Nat} (h : k < p.size) : p[k]? = some (gt p k) := by
  unfold gt
  rw [Array.getD_eq_getD_getElem?, Array.getElem?_eq_getElem h]
  rfl
theorem PP.size {p : Array Nat} (h : PP n p) : p.size = n := by
  have := h.size_eq
  simpa using this
theorem PP.blt {p : Array Nat} (h : PP n p) {k : Nat} (hk : k < n) : gt p k < n := by
  have hs := h.size
  have m : gt p k ∈ p := Array.mem_of_getElem? (gt_eq (by omega))
  have m2 : gt p k ∈ (List.range n).toArray := (Array.Perm.mem_iff h).mp m
  simpa using m2
theorem PP.inj {p : Array Nat} (h : PP n p) {i j : Nat} (hi : i < n) (hj : j < n) (e : gt p i = gt p j) : i = j := by
  have hs := h.size
  have nd : p.toList.Nodup := by
    have : p.toList.Perm (List.range n) := by
      have := Array.perm_iff_toList_perm.mp h
      simpa using this
    exact this.nodup_iff.mpr List.nodup_range
  have e1 := gt_eq (p := p) (k := i) (by omega)
  have e2 := gt_eq (p := p) (k := j) (by omega)
  rw [← e] at e2
  have e1' : p.toList[i]? = some (gt p i) := by simpa using e1
  have e2' : p.toList[j]? = some (gt p i) := by simpa using e2
  obtain ⟨a1, b1⟩ := List.getElem?_eq_some_iff.mp e1'
  obtain ⟨a2, b2⟩ := List.getElem?_eq_some_iff.mp e2'
  exact (List.getElem_inj nd).mp (b1.trans b2.symm)
def Rise (lt : Nat → Nat → Bool) (p : Array Nat) (m : Nat) : Prop := ∀ i j, i < j → j < m → lt (gt p i) (gt p j) = true
def Fall (lt : Nat → Nat → Bool) (p : Array Nat) (m : Nat) : Prop := ∀ i j, i < j → j < m → lt (gt p j) (gt p i) = true
theorem asc_ok (S : SO lt n) {p : Array Nat} (hp : PP n p) : ∀ (f a : Nat), 1 ≤ a → a + f ≤ n → Rise lt p a → kOk lt n (kas_asc p f a) fun m => a ≤ m ∧ m ≤ a + f ∧ Rise lt p m ∧ (m < a + f → lt (gt p m) (gt p (m - 1)) = true)
  | 0, a, h1, h2, hr => ⟨Nat.le_refl _, Nat.le_refl _, hr, fun z => absurd z (Nat.lt_irrefl _)⟩
  | f + 1, a, h1, h2, hr => by
    refine ⟨hp.blt (by omega), hp.blt (by omega), (fun z => by have := hp.inj (by omega) (by omega) z; omega), ?_⟩
    show kOk lt n (if lt (gt p a) (gt p (a - 1)) = true then .ret a else kas_asc p f (a + 1)) _
    by_cases c : lt (gt p a) (gt p (a - 1)) = true
    · rw [if_pos c]
      exact ⟨Nat.le_refl _, by omega, hr, fun _ => c⟩
    · rw [if_neg c]
      have up : lt (gt p (a - 1)) (gt p a) = true := S.tot _ _ (hp.blt (by omega)) (hp.blt (by omega)) (fun z => by have := hp.inj (by omega) (by omega) z; omega) (Bool.eq_false_iff.mpr c)
      refine kOk_mono (asc_ok S hp f (a + 1) (by omega) (by omega) fun i j hij hj => ?_) fun m ⟨x1, x2, x3, x4⟩ => ⟨by omega, by omega, x3, fun z => x4 (by omega)⟩
      by_cases hja : j < a
      · exact hr i j hij hja
      · obtain rfl : j = a := by omega
        by_cases hi : i = j - 1
        · rw [hi]; exact up
        · exact S.trans _ _ _ (hp.blt (by omega)) (hp.blt (by omega)) (hp.blt (by omega)) (hr i (j - 1) (by omega) (by omega)) up
theorem desc_ok (S : SO lt n) {p : Array Nat} (hp : PP n p) : ∀ (f a : Nat), 1 ≤ a → a + f ≤ n → Fall lt p a → kOk lt n (kas_desc f p a 0) fun r => r.1 = p ∧ r.2.2 = 0 ∧ a ≤ r.2.1 ∧ r.2.1 ≤ a + f ∧ Fall lt p r.2.1
  | 0, a, h1, h2, hr => ⟨rfl, rfl, Nat.le_refl _, Nat.le_refl _, hr⟩
  | f + 1, a, h1, h2, hr => by
    refine ⟨hp.blt (by omega), hp.blt (by omega), (fun z => by have := hp.inj (by omega) (by omega) z; omega), ?_⟩
    show kOk lt n (if lt (gt p a) (gt p (a - 1)) = true then (if 0 > 0 then _ else kas_desc f p (a + 1) 0) else .ask (gt p (a - 1)) (gt p a) fun d => if d = true then .ret (p, a, 0) else kas_desc f p (a + 1) (0 + 1)) _
    by_cases c : lt (gt p a) (gt p (a - 1)) = true
    · rw [if_pos c, if_neg (by omega)]
      refine kOk_mono (desc_ok S hp f (a + 1) (by omega) (by omega) fun i j hij hj => ?_) fun m ⟨x1, x2, x3, x4, x5⟩ => ⟨x1, x2, by omega, by omega, x5⟩
      by_cases hja : j < a
      · exact hr i j hij hja
      · obtain rfl : j = a := by omega
        by_cases hi : i = j - 1
        · rw [hi]; exact c
        · exact S.trans _ _ _ (hp.blt (by omega)) (hp.blt (by omega)) (hp.blt (by omega)) c (hr i (j - 1) (by omega) (by omega))
    · rw [if_neg c]
      have up : lt (gt p (a - 1)) (gt p a) = true := S.tot _ _ (hp.blt (by omega)) (hp.blt (by omega)) (fun z => by have := hp.inj (by omega) (by omega) z; omega) (Bool.eq_false_iff.mpr c)
      refine ⟨hp.blt (by omega), hp.blt (by omega), (fun z => by have := hp.inj (by omega) (by omega) z; omega), ?_⟩
      show kOk lt n (if lt (gt p (a - 1)) (gt p a) = true then .ret (p, a, 0) else _) _
      rw [if_pos up]
      exact ⟨rfl, rfl, Nat.le_refl _, Nat.le_add_right _ _, hr⟩
theorem rev_gt {p : Array Nat} {m k : Nat} (hm : m ≤ p.size) (hk : k < m) : gt (kas_rev p 0 m) k = gt p (m - 1 - k) := by
  have e := getElem?_mirror_all (xs := p) (i := 0) (j := m) hm k
  rw [if_pos ⟨Nat.zero_le _, hk⟩] at e
  have e1 := gt_eq (p := kas_rev p 0 m) (k := k) (by unfold kas_rev; rw [mirror_size]; omega)
  have e2 := gt_eq (p := p) (k := m - 1 - k) (by omega)
  unfold kas_rev at e1 ⊢
  rw [e, show 0 + m - 1 - k = m - 1 - k by omega, e2] at e1
  exact (Option.some.inj e1).symm
theorem PP.rev {p : Array Nat} (h : PP n p) (m : Nat) : PP n (kas_rev p 0 m) := Array.Perm.trans (mirror_perm _ _ _ _) h
theorem tail_ok (S : SO lt n) {p : Array Nat} (hp : PP n p) {m : Nat} (h1 : 1 ≤ m) (h2 : m ≤ n) (hf : Fall lt p m) : kOk lt n (kas_tail3 m n p) fun r => PP n r.2 ∧ Rise lt r.2 r.1 ∧ 1 ≤ r.1 ∧ r.1 ≤ n := by
  refine kOk_bind (kOk_mono (asc_ok S (hp.rev m) (n - m) m h1 (by omega) fun i j hij hj => ?_) fun a ⟨x1, x2, x3, _⟩ => ⟨hp.rev m, x3, by omega, by omega⟩)
  have hs := hp.size
  rw [rev_gt (by omega) (by omega), rev_gt (by omega) hj]
  exact hf _ _ (by omega) (by omega)
theorem count_ok (S : SO lt n) {p : Array Nat} (hp : PP n p) (hn : 1 ≤ n) : kOk lt n (kas_count n p) fun r => PP n r.2 ∧ Rise lt r.2 r.1 ∧ 1 ≤ r.1 ∧ r.1 ≤ n := by
  refine kOk_bind (kOk_mono (asc_ok S hp (n - 1) 1 (Nat.le_refl _) (by omega) fun i j hij hj => by omega) fun m ⟨x1, x2, x3, x4⟩ => ?_)
  by_cases e : (m == n) = true
  · rw [if_pos e]
    exact ⟨hp, x3, x1, by omega⟩
  · rw [if_neg e]
    have ne : m ≠ n := by simpa using e
    by_cases h : m > 1
    · rw [if_pos h]
      refine ⟨hp.blt (by omega), hp.blt (by omega), (fun z => by have := hp.inj (by omega) (by omega) z; omega), ?_⟩
      show kOk lt n (if lt (gt p 0) (gt p (m - 1)) = true then .ret (m, p) else _) _
      rw [if_pos (x3 0 (m - 1) (by omega) (by omega))]
      exact ⟨hp, x3, x1, by omega⟩
    · rw [if_neg h]
      obtain rfl : m = 1 := by omega
      have c := x4 (by omega)
      refine kOk_bind (kOk_mono (desc_ok S hp (n - 2) 2 (by omega) (by omega) fun i j hij hj => ?_) fun r ⟨y1, y2, y3, y4, y5⟩ => ?_)
      · obtain rfl : j = 1 := by omega
        obtain rfl : i = 0 := by omega
        exact c
      · rw [if_neg (by omega), y1]
        exact tail_ok S hp (by omega) (by omega) y5
theorem place_ok (S : SO lt n) {p : Array Nat} (hp : PP n p) {k : Nat} (hk : k < n) (hr : Rise lt p k) : ∀ (f l r : Nat), l ≤ r → r ≤ k → r - l ≤ f → (∀ i, i < l → lt (gt p i) (gt p k) = true) → (∀ i, r ≤ i → i < k → lt (gt p k) (gt p i) = true) →
    kOk lt n (kas_place p k f l r) fun m => m ≤ k ∧ (∀ i, i < m → lt (gt p i) (gt p k) = true) ∧ ∀ i, m ≤ i → i < k → lt (gt p k) (gt p i) = true
  | 0, l, r, h1, h2, h3, h4, h5 => ⟨by omega, h4, fun i hi hik => h5 i (by omega) hik⟩
  | f + 1, l, r, h1, h2, h3, h4, h5 => by
    unfold kas_place
    by_cases c : l ≥ r
    · rw [if_pos c]
      exact ⟨by omega, h4, fun i hi hik => h5 i (by omega) hik⟩
    · rw [if_neg c]
      refine ⟨hp.blt (by omega), hp.blt (by omega), (fun z => by have := hp.inj (by omega) (by omega) z; omega), ?_⟩
      show kOk lt n (if lt (gt p k) (gt p ((l + r) / 2)) = true then _ else _) _
      by_cases d : lt (gt p k) (gt p ((l + r) / 2)) = true
      · rw [if_pos d]
        refine place_ok S hp hk hr f l ((l + r) / 2) (by omega) (by omega) (by omega) h4 fun i hi hik => ?_
        by_cases e : i = (l + r) / 2
        · rw [e]; exact d
        · exact S.trans _ _ _ (hp.blt (by omega)) (hp.blt (by omega)) (hp.blt (by omega)) d (hr _ i (by omega) hik)
      · rw [if_neg d]
        have up : lt (gt p ((l + r) / 2)) (gt p k) = true := S.tot _ _ (hp.blt (by omega)) (hp.blt (by omega)) (fun z => by have := hp.inj (by omega) (by omega) z; omega) (Bool.eq_false_iff.mpr d)
        refine place_ok S hp hk hr f ((l + r) / 2 + 1) r (by omega) (by omega) (by omega) (fun i hi => ?_) h5
        by_cases e : i = (l + r) / 2
        · rw [e]; exact up
        · exact S.trans _ _ _ (hp.blt (by omega)) (hp.blt (by omega)) (hp.blt (by omega)) (hr i _ (by omega) (by omega)) up
theorem bub_gt {p : Array Nat} {k d j : Nat} (hk : k < p.size) (hd : d ≤ k) (hj : j < p.size) : gt (bubble p k d) j = if j = k - d then gt p k else if k - d < j ∧ j ≤ k then gt p (j - 1) else gt p j := by
  have e := getElem?_bubble hk d hd j
  rw [gt_eq (p := bubble p k d) (k := j) (by rw [bubble_size]; exact hj)] at e
  by_cases h1 : j = k - d
  · rw [if_pos h1, gt_eq hk] at e
    rw [if_pos h1]; exact Option.some.inj e
  · rw [if_neg h1] at e ⊢
    by_cases h2 : k - d < j ∧ j ≤ k
    · rw [if_pos h2, gt_eq (by omega)] at e
      rw [if_pos h2]; exact Option.some.inj e
    · rw [if_neg h2, gt_eq hj] at e
      rw [if_neg h2]; exact Option.some.inj e
theorem bin_ok (S : SO lt n) : ∀ (f : Nat) {p : Array Nat} (k : Nat), PP n p → k + f = n → Rise lt p k → kOk lt n (kas_bin f p k) fun p' => PP n p' ∧ Rise lt p' n
  | 0, p, k, hp, hk, hr => ⟨hp, by rw [← hk]; exact hr⟩
  | f + 1, p, k, hp, hk, hr => by
    have hs := hp.size
    refine kOk_bind (kOk_mono (place_ok S hp (by omega) hr k 0 k (Nat.zero_le _) (Nat.le_refl _) (by omega) (fun i hi => by omega) (fun i h1 h2 => by omega)) fun l ⟨x1, x2, x3⟩ => ?_)
    refine bin_ok S f (k + 1) (Array.Perm.trans (bubble_perm _ _ _) hp) (by omega) fun i j hij hj => ?_
    rw [bub_gt (by omega) (by omega) (by omega), bub_gt (by omega) (by omega) (by omega)]
    have e : k - (k - l) = l := by omega
    rw [e]
    by_cases hi : i = l
    · rw [if_pos hi, if_neg (by omega), if_pos (by omega)]
      exact x3 _ (by omega) (by omega)
    · rw [if_neg hi]
      by_cases hi2 : l < i ∧ i ≤ k
      · rw [if_pos hi2, if_neg (by omega), if_pos (by omega)]
        exact hr _ _ (by omega) (by omega)
      · rw [if_neg hi2]
        by_cases hj1 : j = l
        · rw [if_pos hj1]
          exact x2 _ (by omega)
        · rw [if_neg hj1]
          by_cases hj2 : l < j ∧ j ≤ k
          · rw [if_pos hj2]
            by_cases hij2 : i < j - 1
            · exact hr _ _ hij2 (by omega)
            · omega
          · rw [if_neg hj2]
            exact hr _ _ hij (by omega)
theorem sort_ok (S : SO lt n) (hn : 1 ≤ n) : kOk lt n (kas_sort n) fun p => PP n p ∧ Rise lt p n := by
  refine kOk_bind (kOk_mono (count_ok S (p := List.toArray (List.range n)) (Array.Perm.refl _) hn) fun r ⟨x1, x2, x3, x4⟩ => ?_)
  by_cases h : r.1 < n
  · rw [if_pos h, Nat.max_eq_left x3]
    exact bin_ok S _ _ x1 (by omega) x2
  · rw [if_neg h]
    obtain e : r.1 = n := by omega
    exact ⟨x1, by rw [← e]; rw [e] at x2 ⊢; exact x2⟩
end
end L2

namespace L2
open PySem PySem.W PyProof.Rows
theorem kOk_at {α : Type} {lt : Nat → Nat → Bool} {n : Nat} {s : Shared} {cmp : Nat → Nat → (Bool → Shared → Prop) → Shared → Prop} (hc : ∀ i j C, i < n → j < n → i ≠ j → C (lt i j) s → cmp i j C s) : ∀ {t : KasT α} {R : α → Prop} {Q : α → Shared → Prop}, kOk lt n t R → (∀ a, R a → Q a s) → t.kasWp cmp Q s
  | .ret _, _, _, h, m => m _ h
  | .ask _ _ _, _, _, h, m => hc _ _ _ h.1 h.2.1 h.2.2.1 (kOk_at hc h.2.2.2 m)
def Kp (a : Addr) (h h' : Heap) : Prop := ∀ b o, b ≠ a → h.get? b = some o → h'.get? b = some o
def outOf (vs : List Value) (p : Array Nat) : List Value := p.toList.map fun i => vs.getD i Value.none
theorem outOf_range (vs : List Value) : outOf vs (List.toArray (List.range vs.length)) = vs := by
  unfold outOf
  apply List.ext_getElem?
  intro i
  simp only [List.getElem?_map]
  by_cases h : i < vs.length
  · rw [List.getElem?_eq_getElem (l := vs) h]
    simp [List.getElem?_range h, h]
  · rw [List.getElem?_eq_none (by omega : vs.length ≤ i)]
    simp
    omega
section
variable {P : Program} {w : World} {A : Around} {E : Value → Shared → Prop} {s : Shared}
theorem lsort_pure {a : Addr} {vs : List Value} {n : Nat} {κ : SortKind} {lt : Nat → Nat → Bool} {R : PySem.Fin → Shared → Prop} (ho : s.heap.get? a = some (seqObj "list" vs.toArray n)) (h64 : vs.length < 64)
    (hk : 2 ≤ vs.length → ∀ (h : Heap) (Q : SortKind → Shared → Prop), Kp a s.heap h → Q κ { s with heap := h } → wpAny (model P w) A (keyKind' vs.toArray) Q (fun _ _ => False) { s with heap := h })
    (hc : ∀ (h : Heap) i j C, Kp a s.heap h → i < vs.length → j < vs.length → i ≠ j → C (lt i j) { s with heap := h } → kas_ask P w A κ vs i j C { s with heap := h }) (S : SO lt vs.length)
    (fin : ∀ h p c, Kp a s.heap h → h.get? a = some (seqObj "list" (outOf vs p).toArray c) → PP vs.length p → Rise lt p vs.length → R (.done (.ret .none)) { s with heap := h }) :
    wpAny (model P w) A (Builtin.«list.sort» ⟨[.ref a], []⟩) R E s := by
  have ha : a < s.heap.objs.size := Heap.lt_size ho
  obtain ⟨e1, o1⟩ : ∃ e1, (s.heap.update a (Obj.mapSeq fun _ => (#[] : Array Value))).get? a = some (seqObj "list" #[] e1) := ⟨_, get?_update_seq ho fun _ => #[]⟩
  have k1 : Kp a s.heap (((s.heap.update a (Obj.mapSeq fun _ => (#[] : Array Value))).push (seqObj "tuple" vs.toArray 0)).push (seqObj "list" #[] 0)) := fun b o hb e =>
    Heap.get?_push_of_some _ (Heap.get?_push_of_some _ ((Heap.get?_update_other _ _ (Ne.symm hb)).trans e))
  have o3 : (((s.heap.update a (Obj.mapSeq fun _ => (#[] : Array Value))).push (seqObj "tuple" vs.toArray 0)).push (seqObj "list" #[] 0)).get? a = some (seqObj "list" #[] e1) := Heap.get?_push_of_some _ (Heap.get?_push_of_some _ o1)
  have last : ∀ out : List Value, out.length = vs.length → ∃ c, ((((s.heap.update a (Obj.mapSeq fun _ => (#[] : Array Value))).push (seqObj "tuple" vs.toArray 0)).push (seqObj "list" #[] 0)).update a (Obj.mapSeq fun _ => out.toArray)).get? a = some (seqObj "list" out.toArray c) := fun out _ => ⟨_, get?_update_seq o3 fun _ => out.toArray⟩
  have keep2 : ∀ out : List Value, Kp a s.heap ((((s.heap.update a (Obj.mapSeq fun _ => (#[] : Array Value))).push (seqObj "tuple" vs.toArray 0)).push (seqObj "list" #[] 0)).update a (Obj.mapSeq fun _ => out.toArray)) := fun out b o hb e =>
    (Heap.get?_update_other _ _ (Ne.symm hb)).trans (k1 b o hb e)
  rw [list_sort_plain]; refine wpAny_bind (listItems_at ho rfl ?_)
  refine wpAny_bind (listUpdate_at ho rfl ?_ (by rw [List.size_toArray, sizeLine_eq]; omega) (Nat.zero_le _)); refine wpAny_bind (seqEpoch_at o1 rfl ?_)
  refine wpAny_bind (wpAny_newTuple ?_ (by show vs.length ≤ _; rw [sizeLine_eq]; omega)); refine wpAny_bind (wpAny_newList ?_ (Nat.zero_le _)); refine wpAny_holding ?_
  show wpAny (model P w) A _ R E { s with heap := ((s.heap.update a (Obj.mapSeq fun _ => (#[] : Array Value))).push (seqObj "tuple" vs.toArray 0)).push (seqObj "list" #[] 0) }
  generalize hH : ((s.heap.update a (Obj.mapSeq fun _ => (#[] : Array Value))).push (seqObj "tuple" vs.toArray 0)).push (seqObj "list" #[] 0) = g at *
  dsimp only
  have up : ∀ out : List Value, out.length = vs.length → ∀ p, out = outOf vs p → PP vs.length p → Rise lt p vs.length → R (.done (.ret .none)) { s with heap := g.update a (Obj.mapSeq fun _ => out.toArray) } := fun out hl p e hp hr => by
    obtain ⟨c, hcc⟩ := last out hl
    refine fin _ p c (keep2 out) ?_ hp hr
    rw [← e]; exact hcc
  by_cases h2 : vs.toArray.size < 2
  · have hl2 : vs.length < 2 := by simpa using h2
    rw [if_pos h2, if_pos h2]; refine wpAny_bind (wpAny_pure ?_); rw [StateT.run_pure]; refine wpAny_bind (wpAny_pure ?_)
    dsimp only
    have ez : ((vs.toArray.zip vs.toArray).map (·.2)) = vs.toArray := by
      apply Array.toList_inj.mp
      rw [Array.toList_map, Array.toList_zip]
      simp [List.map_snd_zip]
    refine wpAny_bind (seqEpoch_at o3 rfl ?_)
    rw [show (arrOf (SortSt.mk' general' (vs.toArray.zip vs.toArray) #[] 7 none)) = vs.toArray.zip vs.toArray from rfl, ez]
    refine wpAny_bind (listUpdate_at o3 rfl ?_ (Nat.zero_le _) (by rw [List.size_toArray, sizeLine_eq]; omega))
    simp only [bne_self_eq_false, Bool.false_eq_true, if_false]
    exact wpAny_pure (up vs rfl _ (outOf_range vs).symm (Array.Perm.refl _) fun i j hij hj => by omega)
  · have hl2 : 2 ≤ vs.length := by simpa using h2
    rw [if_neg h2, if_neg h2]; refine wpAny_bind (wpAny_mono (hk hl2 g (fun κ' s' => κ' = κ ∧ s' = { s with heap := g }) k1 ⟨rfl, rfl⟩) (fun κ' s' hs => ?_) fun _ _ x => x.elim)
    obtain ⟨rfl, rfl⟩ := hs
    have run := kOk_at (s := { s with heap := g }) (cmp := kas_ask P w A κ' vs) (fun i j C hi hj hij hC => hc g i j C k1 hi hj hij hC) (sort_ok S (by omega)) (Q := fun p s' => s' = { s with heap := g } ∧ PP vs.length p ∧ Rise lt p vs.length) fun p hp => ⟨rfl, hp⟩
    refine wpAny_bind (wpAny_mono (kat_run (ks := vs) (Q := fun st s' => ∃ p : Array Nat, arrOf st = p.map (kas_item (vs.toArray.zip vs.toArray)) ∧ failedOf st = none ∧ s' = { s with heap := g } ∧ PP vs.length p ∧ Rise lt p vs.length) rfl hl2 h64 (fun p st s' _ a2 a3 a4 => ⟨p, a2, a3, a4⟩) run) ?_ fun _ _ e => e)
    rintro ⟨⟨⟩, st⟩ s' ⟨p, har, hf, rfl, hp, hr⟩
    dsimp only
    have out := kat_snds (ks := vs) rfl har
    have ol : (outOf vs p).length = vs.length := by unfold outOf; rw [List.length_map, Array.length_toList, hp.size]
    rw [out]; refine wpAny_bind (seqEpoch_at o3 rfl ?_)
    refine wpAny_bind (listUpdate_at o3 rfl ?_ (Nat.zero_le _) (by show (List.toArray (outOf vs p)).size ≤ _; rw [List.size_toArray, ol, sizeLine_eq]; omega)); rw [hf]
    simp only [bne_self_eq_false, Bool.false_eq_true, if_false]
    exact wpAny_pure (up (outOf vs p) ol p rfl hp hr)
/-- sorted(x), where x is collected as vs -/
theorem sorted_pure {l : Addr} {vs : List Value} {κ : SortKind} {lt : Nat → Nat → Bool} {Q : Value → Shared → Prop} (h64 : vs.length < 64) (S : SO lt vs.length)
    (coll : ∀ R : List Value → Shared → Prop, (∀ (h : Heap) (tk : Nat), (∀ b o, s.heap.get? b = some o → h.get? b = some o) → R vs { s with heap := h, toks := tk }) → wpAny (model P w) A.in1 (collect (.ref l)) R E s)
    (hk : 2 ≤ vs.length → ∀ (h : Heap) (tk : Nat) (Q : SortKind → Shared → Prop), (∀ b o, s.heap.get? b = some o → h.get? b = some o) → Q κ { s with heap := h, toks := tk } → wpAny (model P w) A.in1.in1 (keyKind' vs.toArray) Q (fun _ _ => False) { s with heap := h, toks := tk })
    (hc : ∀ (h : Heap) (tk : Nat) i j C, (∀ b o, s.heap.get? b = some o → h.get? b = some o) → i < vs.length → j < vs.length → i ≠ j → C (lt i j) { s with heap := h, toks := tk } → kas_ask P w A.in1.in1 κ vs i j C { s with heap := h, toks := tk })
    (fin : ∀ (h : Heap) (tk : Nat) (h' : Heap) (p : Array Nat) (c : Nat), (∀ b o, s.heap.get? b = some o → h.get? b = some o) → (∀ b o, h.get? b = some o → h'.get? b = some o) → h'.get? h.objs.size = some (seqObj "list" (outOf vs p).toArray c) → PP vs.length p → Rise lt p vs.length → Q (.ref h.objs.size) { s with heap := h', toks := tk }) :
    wpAny (model P w) A (call (.builtin "sorted") [.ref l]) Q E s := by
  refine Calls.call_function_entry kind_sorted plain_sorted entry_sorted (args_sorted1 _) ?_; unfold Builtin.«sorted»
  refine wpAny_bind (m := checkCount "sorted" 1 1 _) (wpAny_pure ?_); refine wpAny_bind (coll _ fun h tk hk1 => ?_)
  refine wpAny_bind (wpAny_newList ?_ (by rw [sizeLine_eq]; omega))
  have hoL : (h.push (seqObj "list" vs.toArray 0)).get? h.objs.size = some (seqObj "list" vs.toArray 0) := Heap.get?_push_size _ rfl
  have kept : ∀ h', Kp h.objs.size (h.push (seqObj "list" vs.toArray 0)) h' → ∀ b o, h.get? b = some o → h'.get? b = some o := fun h' k b o e => k b o (Nat.ne_of_lt (Heap.lt_size e)) (Heap.get?_push_of_some _ e)
  refine wpAny_bind (wpAny_holding (wpAny_call_entry slot_list_sort ⟨_, hoL, rfl⟩ entry_list_sort (lsort_pure (s := { s with heap := h.push (seqObj "list" vs.toArray 0), toks := tk }) hoL h64 (κ := κ) (lt := lt) (fun h2 h' Q' k q => ?_) (fun h' i j C k hi hj hij q => ?_) S fun h' p c k ho hp hr => ?_) (args_list_sort _)))
  · exact hk h2 h' tk Q' (fun b o e => kept h' k b o (hk1 b o e)) q
  · exact hc h' tk i j C (fun b o e => kept h' k b o (hk1 b o e)) hi hj hij q
  · exact ⟨_, rfl, wpAny_pure ⟨_, rfl, fin h tk h' p c hk1 (kept h' k) ho hp hr⟩⟩
end
end L2

namespace L2
open PySem PySem.W PyProof.Rows
def placeLt (a b : Str × Int) : Bool := if a.1 = b.1 then decide (a.2 < b.2) else decide (a.1.cps.toList < b.1.cps.toList)
/-- a place lies at an address -/
def PlAt (h : Heap) (v : Value) (q : Str × Int) : Prop := ∃ a o t u n, v = .ref a ∧ h.get? a = some o ∧ o.cls = .type "tuple" ∧ o.data = .seq #[.str q.1 t, .int q.2 u] n
section
variable {P : Program} {w : World} {A : Around} {E : Value → Shared → Prop} {s : Shared}
theorem lt1_str {a c : Str} {t u : Tok} {Q : Bool → Shared → Prop} (h : Q (decide (a.cps.toList < c.cps.toList)) s) : wpAny (model P w) A (oneLt' true (.str a t) (.str c u)) Q E s := by
  rw [← keyLt'_oneType]
  exact kas_lt_str h
theorem lt0_int {a c : Int} {t u : Tok} {Q : Bool → Shared → Prop} (h : Q (decide (a < c)) s) : wpAny (model P w) A (oneLt' false (.int a t) (.int c u)) Q E s :=
  kat_one _ _ (PyProof.Rows.lt_int (show PySem.W.BoolBack Q (.bool (decide (a < c))) s from h))
/-- the sort's question of two places -/
theorem ask_place {x y : Value} {a b : Str × Int} {Q : Bool → Shared → Prop} (hx : PlAt s.heap x a) (hy : PlAt s.heap y b) (h : Q (placeLt a b) s) (hn : a ≠ b) : wpAny (model P w) A (keyLt' (tuples' true) x y) Q E s := by
  obtain ⟨p, o, t, u, n, rfl, ho, hc, hd⟩ := hx
  obtain ⟨p2, o2, t2, u2, n2, rfl, ho2, hc2, hd2⟩ := hy
  refine kat_lt ho hd ho2 hd2 (kat_cons (wpAny_eqBool_str (kat_go (fun e => kat_yes (kat_cons (wpAny_eqBool_int (kat_go (fun e2 => ?_) fun e2 => kat_no ?_)))) fun e => kat_no ?_)))
  · exact absurd (Prod.ext (of_decide_eq_true e) (by simpa using e2)) hn
  · have e := of_decide_eq_true e
    unfold placeLt at h
    rw [if_pos e] at h
    exact lt0_int h
  · have e := of_decide_eq_false e
    unfold placeLt at h
    rw [if_neg e] at h
    exact lt1_str h
theorem kind_place {vs : List Value} {qs : List (Str × Int)} {Q : SortKind → Shared → Prop} (hl : vs.length = qs.length) (hv : ∀ (i : Nat) (v : Value) (q : Str × Int), vs[i]? = some v → qs[i]? = some q → PlAt s.heap v q) (h2 : 0 < vs.length) (h : Q (tuples' true) s) :
    wpAny (model P w) A (keyKind' vs.toArray) Q E s := by
  have T : ∀ (vs : List Value) (qs : List (Str × Int)), vs.length = qs.length → (∀ (i : Nat) (v : Value) (q : Str × Int), vs[i]? = some v → qs[i]? = some q → PlAt s.heap v q) → ∃ fs, KatTups s.heap vs fs ∧ fs.length = vs.length ∧ ∀ v ∈ fs, ∃ x t, v = Value.str x t := by
    intro vs
    induction vs with
    | nil => exact fun qs _ _ => ⟨[], trivial, rfl, fun _ z => nomatch z⟩
    | cons v r ih =>
      intro qs hl hv
      match qs, hl with
      | q :: qr, hl =>
        obtain ⟨fs, k, kl, kf⟩ := ih qr (by simpa using hl) fun i v' q' e1 e2 => hv (i + 1) v' q' (by simpa using e1) (by simpa using e2)
        obtain ⟨a, o, t, u, n, rfl, ho, hc, hd⟩ := hv 0 v q rfl rfl
        refine ⟨.str q.1 t :: fs, KatTups.cons ho hc hd rfl k, by simp [kl], fun z hz => ?_⟩
        rcases List.mem_cons.mp hz with rfl | hz
        · exact ⟨_, _, rfl⟩
        · exact kf z hz
  obtain ⟨fs, k, kl, kf⟩ := T vs qs hl hv
  refine kat_kind (T := .type "str") k (by omega) (fun v hv => ?_) (by decide) h
  obtain ⟨x, t, rfl⟩ := kf v hv
  exact Looks.of_pure rfl
end
theorem str_cps_inj {x y : Str} (h : x.cps.toList = y.cps.toList) : x = y := by
  obtain ⟨a⟩ := x
  obtain ⟨b⟩ := y
  have : a = b := Array.toList_inj.mp h
  rw [this]
theorem placeLt_so {qs : List (Str × Int)} (hn : qs.Nodup) : SO (fun i j => placeLt (qs.getD i ("", 0)) (qs.getD j ("", 0))) qs.length where
  irr := fun i _ => by
    unfold placeLt
    rw [if_pos rfl]
    exact decide_eq_false (by omega)
  trans := fun i j k _ _ _ h1 h2 => by
    generalize qs.getD i ("", 0) = a at *
    generalize qs.getD j ("", 0) = b at *
    generalize qs.getD k ("", 0) = c at *
    unfold placeLt at *
    by_cases e1 : a.1 = b.1
    · rw [if_pos e1] at h1
      by_cases e2 : b.1 = c.1
      · rw [if_pos e2] at h2
        rw [if_pos (e1.trans e2)]
        have h1 := of_decide_eq_true h1
        have h2 := of_decide_eq_true h2
        exact decide_eq_true (by omega)
      · rw [if_neg e2] at h2
        rw [if_neg (by rw [e1]; exact e2), e1]
        exact h2
    · rw [if_neg e1] at h1
      have h1 := of_decide_eq_true h1
      by_cases e2 : b.1 = c.1
      · rw [if_neg (by rw [← e2]; exact e1), ← e2]
        exact decide_eq_true h1
      · rw [if_neg e2] at h2
        have h2 := of_decide_eq_true h2
        have h3 := List.lt_trans h1 h2
        rw [if_neg (fun z => by rw [z] at h3; exact List.lt_irrefl _ h3)]
        exact decide_eq_true h3
  tot := fun i j hi hj hij h => by
    have ne : qs.getD i ("", 0) ≠ qs.getD j ("", 0) := fun z => hij (by
      rw [List.getD_eq_getElem?_getD, List.getD_eq_getElem?_getD, List.getElem?_eq_getElem hi, List.getElem?_eq_getElem hj] at z
      exact (List.getElem_inj hn).mp z)
    generalize qs.getD i ("", 0) = a at *
    generalize qs.getD j ("", 0) = b at *
    unfold placeLt at *
    by_cases e : a.1 = b.1
    · rw [if_pos e] at h
      rw [if_pos e.symm]
      have h := of_decide_eq_false h
      have : a.2 ≠ b.2 := fun z => ne (Prod.ext e z)
      exact decide_eq_true (by omega)
    · rw [if_neg e] at h
      rw [if_neg (fun z => e z.symm)]
      have h := of_decide_eq_false h
      refine decide_eq_true ?_
      rcases List.le_iff_lt_or_eq.mp (List.not_lt.mp h) with z | z
      · exact z
      · exact absurd (str_cps_inj z.symm) e
end L2

namespace L2
open PySem
/-! ### walking a dict's keys, whatever they are -/
def RawD (h : Heap) (d : Addr) (es : Array DictEntry) (ep : Nat) : Prop := ∃ o, h.get? d = some o ∧ o.ExactDict ∧ o.data = .dict es ep
section
variable {P : Program} {w : World} {A : Around} {E : Value → Shared → Prop} {s : Shared}
theorem RawD.type {d : Addr} {es : Array DictEntry} {ep : Nat} (x : RawD s.heap d es ep) : s.TypeIs (.ref d) "dict" := let ⟨o, ho, hc, _⟩ := x; ⟨o, ho, hc.1⟩
theorem RawD.at {h h' : Heap} {d : Addr} {es : Array DictEntry} {ep : Nat} (x : RawD h d es ep) (e : ∀ o, h.get? d = some o → h'.get? d = some o) : RawD h' d es ep := let ⟨o, ho, r⟩ := x; ⟨o, e _ ho, r⟩
theorem raw_iter {d : Addr} {es : Array DictEntry} {ep : Nat} {Q : Value → Shared → Prop} (lo : (d == sysModules) = false) (hm : RawD s.heap d es ep)
    (q : Q (.ref s.heap.objs.size) { s with heap := s.heap.push { cls := .type "dict_keyiterator", data := .fields #[.ref d, .int 0 0, .int es.size 0, .int ep 0] } }) : wpAny (model P w) A (pyIter (.ref d)) Q E s := by
  have T := hm.type
  obtain ⟨o, ho, hc, hd⟩ := id hm
  refine wpAny_pyIter_slot T F.slot_dict_iter (wpAny_call_entry F.slot_dict_iter T F.entry_dict_iter ?_ (F.args_dict_iter_1 _)); unfold Builtin.«dict.__iter__»
  refine wpAny_bind ?_; unfold Builtin.Dict.dictSlotNone; refine wpAny_bind (wpAny_notOrdered_dict T ?_)
  show wpAny _ _ (pure (Value.ref d)) _ _ s; refine wpAny_pure ?_
  show wpAny _ _ (Builtin.Dict.showsAll d >>= _) _ _ s; unfold Builtin.Dict.showsAll
  rw [if_neg (by rw [lo]; exact Bool.false_ne_true)]; refine wpAny_bind (wpAny_pure ?_)
  refine wpAny_bind (wpAny_dictEntries ho hd ?_); refine wpAny_bind (wpAny_dictEpoch ho hd ?_)
  refine wpAny_bind (wpAny_newObj_type (wpAny_pure ⟨_, rfl, "dict_keyiterator", _, ⟨_, Heap.get?_push_size _ rfl, rfl⟩, F.slot_dict_keyiterator_next.lookup, ?_⟩)); simpa [rawInt] using q
theorem raw_item {it d : Addr} {i ep : Nat} {es : Array DictEntry} {e : DictEntry} {Q : Option Value → Shared → Prop} (hit : s.heap.IsKeyIter it d i es.size ep) (hm : RawD s.heap d es ep) (hx : es[i]? = some e)
    (q : ∀ h, h.IsKeyIter it d (i + 1) es.size ep → Heap.SameBut it s.heap h → Q (some e.key) { s with heap := h }) : wpAny (model P w) A (pyNext (.ref it)) Q E s := by
  obtain ⟨o, ho, hc, hd⟩ := id hit
  obtain ⟨od, hod, hcd, hdd⟩ := id hm
  have lt : i < es.size := by
    rcases Nat.lt_or_ge i es.size with h | h
    · exact h
    · rw [Array.getElem?_eq_none h] at hx; cases hx
  unfold pyNext
  refine wpAny_bind (wpAny_attempt (wpAny_callSpecial?_slot (name := Str.ofString "__next__") hit.typeIs F.slot_dict_keyiterator_next (wpAny_call_entry F.slot_dict_keyiterator_next hit.typeIs F.entry_dict_keyiterator_next ?_ (F.args_dict_keyiterator_next_1 _))))
  refine wpAny_bind (wpAny_pure ?_); refine wpAny_bind ?_; refine wpAny_bind ?_
  first | (refine wpAny_bind (wpAny_typeNameOfWhole_keyiter hit.typeIs (wpAny_pure ?_))) | (refine wpAny_bind (wpAny_typeNameOf_keyiter hit.typeIs (wpAny_pure ?_)))
  refine wpAny_bind (wpAny_fieldsOf ho hd ?_); have own : Builtin.Dict_items.ownsTuple "dict_keyiterator" = false := by decide
  simp only [own, Bool.false_eq_true, if_false]; show wpAny _ _ (if (Value.ref d == Value.none) = true then _ else _) _ _ s
  rw [if_neg (show ¬ ((Value.ref d == Value.none) = true) from Bool.false_ne_true)]; refine wpAny_bind (wpAny_pure ?_); refine wpAny_bind (wpAny_dictEntries hod hdd ?_)
  rw [if_neg (by simp)]; refine wpAny_bind (wpAny_pure ?_); refine wpAny_bind (wpAny_dictEpoch hod hdd ?_); rw [if_neg (by simp)]; refine wpAny_pure ?_
  simp only [show ¬ ((i : Int) < 0) from by omega, if_false, Int.toNat_natCast, hx]
  refine wpAny_bind ?_
  first | (refine wpAny_bind (wpAny_typeNameOfWhole_keyiter hit.typeIs (wpAny_pure ?_))) | (refine wpAny_bind (wpAny_typeNameOf_keyiter hit.typeIs (wpAny_pure ?_)))
  refine wpAny_bind (wpAny_isOneOf_keyiter hit.typeIs ?_); show wpAny _ _ (setField (.ref it) 1 (rawInt ((i : Int) + 1)) >>= _) _ _ s
  refine wpAny_bind (wpAny_setField ho hd (by simp) ?_)
  have next : (s.heap.update it (Obj.mapFields (·.setIfInBounds 1 (rawInt ((i : Int) + 1))))).IsKeyIter it d (i + 1) es.size ep := by
    refine ⟨_, Heap.get?_update_self _ ho (Obj.isFreed_of_fields (Obj.data_mapFields hd _)), (Obj.cls_mapFields ..).trans hc, ?_⟩; rw [Obj.data_mapFields hd]; simp [rawInt]
  refine wpAny_bind (wpAny_holding ?_)
  refine wpAny_bind (wpAny_isOneOf_keyiter (s := { s with heap := s.heap.update it (Obj.mapFields (·.setIfInBounds 1 (rawInt ((i : Int) + 1)))) }) next.typeIs ?_); show wpAny _ _ (pure e.key) _ _ _
  exact wpAny_pure (wpAny_pure ⟨_, rfl, wpAny_pure (q _ next (Heap.SameBut.update ..))⟩)
theorem raw_end {it d : Addr} {i ep : Nat} {es : Array DictEntry} {Q : Option Value → Shared → Prop} (hh : A.handled = none) (hit : s.heap.IsKeyIter it d i es.size ep) (hm : RawD s.heap d es ep) (hx : es.size ≤ i)
    (q : ∀ h, Heap.ExtBut it s.heap h → Q none { s with heap := h }) : wpAny (model P w) A (pyNext (.ref it)) Q E s := by
  obtain ⟨o, ho, hc, hd⟩ := id hit
  obtain ⟨od, hod, hcd, hdd⟩ := id hm
  unfold pyNext
  refine wpAny_bind (wpAny_attempt (wpAny_callSpecial?_slot (name := Str.ofString "__next__") hit.typeIs F.slot_dict_keyiterator_next (wpAny_call_entry F.slot_dict_keyiterator_next hit.typeIs F.entry_dict_keyiterator_next ?_ (F.args_dict_keyiterator_next_1 _))))
  refine wpAny_bind (wpAny_pure ?_); refine wpAny_bind ?_; refine wpAny_bind ?_
  first | (refine wpAny_bind (wpAny_typeNameOfWhole_keyiter hit.typeIs (wpAny_pure ?_))) | (refine wpAny_bind (wpAny_typeNameOf_keyiter hit.typeIs (wpAny_pure ?_)))
  refine wpAny_bind (wpAny_fieldsOf ho hd ?_); have own : Builtin.Dict_items.ownsTuple "dict_keyiterator" = false := by decide
  simp only [own, Bool.false_eq_true, if_false]; show wpAny _ _ (if (Value.ref d == Value.none) = true then _ else _) _ _ s
  rw [if_neg (show ¬ ((Value.ref d == Value.none) = true) from Bool.false_ne_true)]; refine wpAny_bind (wpAny_pure ?_); refine wpAny_bind (wpAny_dictEntries hod hdd ?_)
  rw [if_neg (by simp)]; refine wpAny_bind (wpAny_pure ?_); refine wpAny_bind (wpAny_dictEpoch hod hdd ?_); rw [if_neg (by simp)]; refine wpAny_pure ?_
  simp only [show ¬ ((i : Int) < 0) from by omega, if_false, Int.toNat_natCast, Array.getElem?_eq_none hx]
  refine wpAny_bind ?_
  first | (refine wpAny_bind (wpAny_typeNameOfWhole_keyiter hit.typeIs (wpAny_pure ?_))) | (refine wpAny_bind (wpAny_typeNameOf_keyiter hit.typeIs (wpAny_pure ?_)))
  show wpAny _ _ (setField (.ref it) 0 .none >>= _) _ _ s; refine wpAny_bind (wpAny_setField ho hd (by simp) ?_)
  show wpAny _ _ (newExc (.type "StopIteration") [] >>= _) _ _ _; refine wpAny_bind ?_; simp only [newExc, newTuple]
  refine wpAny_bind (wpAny_newObj_type ?_ (by size_fits)); refine wpAny_bind (m := firstArgMember _ _) (wpAny_of_eq (a := Value.none) (by first | rfl | (simp only [firstArgMember]; rfl)) ?_)
  refine wpAny_newObj_type ?_ (by size_fits); simp only [raiseNew]
  refine wpAny_bind (wpAny_handled ?_); rw [show A.in1.handled = none from hh]; refine wpAny_bind (wpAny_pure (wpAny_throw ?_))
  exact wpAny_bind (wpAny_isInstance (T := "StopIteration") (b := true) ⟨_, Heap.get?_push_size _ rfl, rfl⟩ isSubtype_stop (wpAny_pure (q _ (((Heap.SameBut.update ..).extBut.push _).push _))))
theorem raw_walks (hh : A.handled = none) (I d : Addr) (hne : d ≠ I) (es : Array DictEntry) (ep : Nat) :
    Walks P w A I [I, d] [I] es.size (fun i v => ∃ e, es[i]? = some e ∧ v = e.key) (fun i h => h.IsKeyIter I d i es.size ep ∧ RawD h d es ep) where
  sub := fun b hb => by simp at hb; simp [hb]
  frame := fun _ _ _ st hk => ⟨st.1.at fun o e => hk I (by simp) o e, st.2.at fun o e => hk d (by simp) o e⟩
  item := fun i s Q E hi st hQ => by
    refine raw_item st.1 st.2 (Array.getElem?_eq_getElem hi) fun h' hit' hs' => ?_
    exact hQ _ h' s.toks ⟨_, Array.getElem?_eq_getElem hi, rfl⟩ ⟨hit', st.2.at fun o e => hs'.extBut d o hne e⟩ fun b o hb e => hs'.extBut b o (fun h => hb (by simp [h])) e
  done := fun s Q E st hQ => raw_end hh st.1 st.2 (Nat.le_refl _) fun h' he' => hQ h' s.toks fun b o hb e => he' b o (fun h => hb (by simp [h])) e
  self := fun _ _ _ _ st hQ => wpAny_pyIter_keyiter st.1 hQ
end
end L2

namespace L2
open PySem PySem.Spec PyProof.Rows
section
open PySem.SeqAt
open PySem.AutoSeq1 (wpAny_loadPart')
open PySem.MeetsSeq PySem.MeetsSeq2 PySem.MeetsSeq3
end
end L2

namespace L2
open PySem PySem.Spec PyProof.Rows
section
variable {P : Program} {w : World} {A : Around} {E : Value → Shared → Prop} {s : Shared}
theorem RawD.lt {h : Heap} {d : Addr} {es : Array DictEntry} {ep : Nat} (x : RawD h d es ep) : d < h.objs.size := let ⟨_, ho, _⟩ := x; Heap.lt_size ho
theorem raw_src {d : Addr} {es : Array DictEntry} {ep : Nat} (lo : (d == sysModules) = false) : PySem.W.KdlSrc P w "dict" d d es.size (fun i v => ∃ e, es[i]? = some e ∧ v = e.key) (fun h => RawD h d es ep) where
  type := fun _ hm => hm.type
  there := fun _ hm => ⟨hm.lt, hm.lt⟩
  keep := fun _ _ hm hk => hm.at fun o e => hk d (.inl rfl) o e
  notList := by decide
  notTuple := by decide
  hint := fun _ _ _ _ hm hq => PySem.W.kdl_hint_dict hm.type hq
  iter := fun _ _ hh hm => ⟨_, _, (fun _ _ hq => raw_iter lo hm hq), raw_walks hh _ d (Nat.ne_of_lt hm.lt) es ep, ⟨⟨_, Heap.get?_push_size _ rfl, rfl, rfl⟩, hm.at fun o e => Heap.get?_push_of_some _ e⟩⟩
theorem collect_src {T : String} {r d : Addr} {n : Nat} {G : Nat → Value → Prop} {OK : Heap → Prop} {R : List Value → Shared → Prop} (K : PySem.W.KdlSrc P w T r d n G OK) (hh : A.handled = none) (hok : OK s.heap) (hn : n ≤ sizeLine)
    (h : ∀ (h' : Heap) (tk : Nat) (vs : List Value), (∀ b o, s.heap.get? b = some o → h'.get? b = some o) → vs.length = n → (∀ j v, vs[j]? = some v → G j v) → R vs { s with heap := h', toks := tk }) :
    wpAny (model P w) A (collect (.ref r)) R E s := by
  obtain ⟨lr, ld⟩ := K.there _ hok
  unfold collect
  refine wpAny_bind (wpAny_runValue (codeAny_builtin entry_proto_collect' ?_)); rw [Around.under_plainId PySem.F.plain_proto_collect _]
  show wpAny _ A.in1 (newList [] >>= fun l => again (.builtin "list.__iadd__" ⟨[l, .ref r], []⟩)) _ _ s; refine wpAny_bind (wpAny_newObj_type ?_)
  refine wpAny_pure ⟨plainId_quiet PySem.F.plain_list_iadd _, codeAny_builtin entry_list_iadd' ?_⟩; rw [Around.under_plainId PySem.F.plain_list_iadd _]
  have hS : (s.heap.push { cls := .type "list", data := .seq ([] : List Value).toArray }).get? s.heap.objs.size = some { cls := .type "list", data := .seq #[] } := Heap.get?_push_size _ rfl
  show wpAny _ A.in1 (Builtin.List.listExtendWith (.ref s.heap.objs.size) (.ref r) (.ref s.heap.objs.size)) _ _ _
  have key := PySem.W.kdl_extend (A := A) (s := { s with heap := s.heap.push { cls := .type "list", data := .seq ([] : List Value).toArray } }) (R := fun (q : Result) (s' : Shared) => ∃ (h' : Heap) (tk : Nat) (acc : Array Value) (c : Nat), q = .ok (.ret (.ref s.heap.objs.size)) ∧ s' = { s with heap := h', toks := tk } ∧
      (∀ b o, s.heap.get? b = some o → h'.get? b = some o) ∧ h'.get? s.heap.objs.size = some { cls := .type "list", dict := none, data := .seq acc c, slots := #[] } ∧ ItemsOf G acc n) K hh (K.keep _ _ hok fun b _ o e => Heap.get?_push_of_some _ e) s.heap.objs.size (Nat.ne_of_gt lr) (Nat.ne_of_gt ld) (.ref s.heap.objs.size) 0 hS
    (fun h' tk acc c hk hS' hacc => ⟨h', tk, acc, c, rfl, rfl, fun b o e => hk b o (Nat.ne_of_lt (Heap.lt_size e)) (Heap.get?_push_of_some _ e), hS', hacc⟩) hn
  refine wpAny_mono key (fun fin s' x => ?_) fun e s' x => ?_
  · cases fin with
    | done f =>
      obtain ⟨h', tk, acc, c, e, rfl, hk, hS', hacc⟩ := x
      cases e
      show wpAny _ A (load s.heap.objs.size >>= _) _ _ _; refine wpAny_bind (wpAny_load hS' ?_)
      exact wpAny_pure (h h' tk acc.toList hk (by rw [Array.length_toList]; exact hacc.1) fun j v e => hacc.2 j v (by rw [← Array.getElem?_toList]; exact e))
    | again c =>
      refine ⟨x.1, codeAny_mono x.2 fun q s' x => ?_⟩
      obtain ⟨h', tk, acc, c, rfl, rfl, hk, hS', hacc⟩ := x
      show wpAny _ A (load s.heap.objs.size >>= _) _ _ _; refine wpAny_bind (wpAny_load hS' ?_)
      exact wpAny_pure (h h' tk acc.toList hk (by rw [Array.length_toList]; exact hacc.1) fun j v e => hacc.2 j v (by rw [← Array.getElem?_toList]; exact e))
  · obtain ⟨h', tk, acc, c, e', _⟩ := x
    cases e'
end
end L2

namespace L2
open PySem PySem.Spec PyProof.Rows
def plKey (q : Str × Int) : List Key := [.inr q.1, .inl q.2]
abbrev cSrtD : RC := fun xs H Q => ∃ (a : Addr) (kvs : List (List Key × V)) (qs : List (Str × Int)), xs = [.ref a] ∧ H a = some (.dT kvs) ∧ kvs.map (·.1) = qs.map plKey ∧ kvs.length < 64 ∧
  ∀ (l : Addr) (ps : List (Addr × (Str × Int))), H l = none → (ps.map (·.2)).Perm qs → (ps.map (·.2)).Pairwise (fun a b => placeLt a b = true) → (∀ n ∈ ps, H n.1 = some (.tup [.str n.2.1, .int n.2.2])) → Q (.ref l) (upd H l (.lst (ps.map fun n => V.ref n.1)))
theorem paired_get {α β : Type} {F : α → β → Prop} : ∀ {l₁ : List α} {l₂ : List β}, Paired F l₁ l₂ → ∀ {i : Nat} {a : α} {b : β}, l₁[i]? = some a → l₂[i]? = some b → F a b
  | _, _, .nil, i, a, b, h, _ => by simp at h
  | _, _, .cons x r, 0, a, b, h1, h2 => by
    simp only [List.getElem?_cons_zero, Option.some.injEq] at h1 h2
    subst h1 h2
    exact x
  | _, _, .cons x r, i + 1, a, b, h1, h2 => paired_get r (by simpa using h1) (by simpa using h2)
theorem PlAt.keep {h h' : Heap} {v : Value} {q : Str × Int} (x : PlAt h v q) (k : ∀ b o, h.get? b = some o → h'.get? b = some o) : PlAt h' v q := by
  obtain ⟨a, o, t, u, n, e, ho, r⟩ := x
  exact ⟨a, o, t, u, n, e, k _ _ ho, r⟩
section
variable {X : Cx}
theorem place_at {pins : List (Addr × Obj)} {σ : St} {H : Hp} {s : Shared} {a : Addr} {q : Str × Int} (I : Inv X pins σ H s) (h : H a = some (.tup [.str q.1, .int q.2])) : PlAt s.heap (.ref a) q := by
  obtain ⟨its, rv, ⟨o, ho, hc, n, hd⟩, _⟩ := I.tuple (SqT.of h)
  cases rv with
  | cons r1 rr =>
    cases rr with
    | cons r2 rn =>
      cases rn
      obtain ⟨t, rfl⟩ := r1
      obtain ⟨u, rfl⟩ := r2
      exact ⟨a, o, t, u, n, rfl, ho, hc, hd⟩
theorem nodup_map_inj {α β : Type} {f : α → β} : ∀ {l : List α}, (l.map f).Nodup → l.Nodup
  | [], _ => List.nodup_nil
  | a :: r, h => by
    rw [List.map_cons, List.nodup_cons] at h
    exact List.nodup_cons.mpr ⟨fun z => h.1 (List.mem_map_of_mem z), nodup_map_inj h.2⟩
theorem call_sortedD (hc : X.calm = true) : CallR X (.builtin "sorted") cSrtD := by
  intro pins s σ H xs us Q I r h
  obtain ⟨a, kvs, qs, rfl, ha, hk, h64, q⟩ := h
  obtain ⟨u, rfl, ru⟩ := vals1 r
  cases ru
  obtain ⟨hz, lo, xs, rel, o, es, ep, ho, hx, hd, he, hn⟩ := (show ObjOk X.prog X.w H s.heap a (.dT kvs) from I.hok a _ ha)
  have hh : X.A.handled = none := I.ok.hd hc
  have lk : kvs.length = qs.length := by have := congrArg List.length hk; simpa using this
  have lx : kvs.length = xs.length := Paired.length rel
  have les : es.size = xs.length := by rw [← Array.length_toList, he, List.length_map]
  -- the keys in their order
  have key : ∀ (i : Nat) (x : List Key × Addr × Value), xs[i]? = some x → ∃ q, qs[i]? = some q ∧ x.1 = plKey q ∧ H x.2.1 = some (.tup [.str q.1, .int q.2]) := fun i x hx => by
    have hi := (List.getElem?_eq_some_iff.mp hx).1
    obtain ⟨kv, hkv⟩ : ∃ kv, kvs[i]? = some kv := ⟨_, List.getElem?_eq_getElem (by omega)⟩
    obtain ⟨q, hq⟩ : ∃ q, qs[i]? = some q := ⟨_, List.getElem?_eq_getElem (by omega)⟩
    have rl := paired_get rel hkv hx
    have e1 : kv.1 = plKey q := by
      have e1 : (kvs.map (·.1))[i]? = some kv.1 := by rw [List.getElem?_map, hkv]; rfl
      have e2 : (qs.map plKey)[i]? = some (plKey q) := by rw [List.getElem?_map, hq]; rfl
      rw [hk, e2] at e1
      exact (Option.some.inj e1).symm
    refine ⟨q, hq, by rw [← rl.1, e1], ?_⟩
    have := rl.2.1
    rw [e1] at this
    exact this
  have nq : qs.Nodup := by
    refine nodup_map_inj (f := plKey) ?_
    have e : xs.map (·.1) = qs.map plKey := by
      rw [← hk]
      apply List.ext_getElem?
      intro i
      rw [List.getElem?_map, List.getElem?_map]
      cases hx : xs[i]? with
      | none =>
        have : xs.length ≤ i := by simpa using hx
        rw [List.getElem?_eq_none (by omega : kvs.length ≤ i)]
        rfl
      | some x =>
        have hi := (List.getElem?_eq_some_iff.mp hx).1
        have hkv : kvs[i]? = some kvs[i] := List.getElem?_eq_getElem (by omega)
        rw [hkv]
        have := (paired_get rel hkv hx).1
        simp [this]
    rw [← e]; exact hn
  have vv : ∀ (i : Nat) (v : Value) (q : Str × Int), (xs.map fun x => Value.ref x.2.1)[i]? = some v → qs[i]? = some q → PlAt s.heap v q := fun i v q hv hq => by
    rw [List.getElem?_map] at hv
    obtain ⟨x, hx, rfl⟩ := Option.map_eq_some_iff.mp hv
    obtain ⟨q', hq', _, hH⟩ := key i x hx
    rw [hq] at hq'
    cases hq'
    exact place_at I hH
  have lv : (xs.map fun x => Value.ref x.2.1).length = qs.length := by rw [List.length_map]; omega
  have vat : ∀ i, i < qs.length → PlAt s.heap ((xs.map fun x => Value.ref x.2.1).getD i Value.none) (qs.getD i ("", 0)) := fun i hi => by
    refine vv i _ _ ?_ ?_
    · rw [List.getD_eq_getElem?_getD, List.getElem?_eq_getElem (by rw [lv]; exact hi)]; rfl
    · rw [List.getD_eq_getElem?_getD, List.getElem?_eq_getElem hi]; rfl
  have S := placeLt_so nq
  rw [← lv] at S
  refine sorted_pure (vs := xs.map fun x => Value.ref x.2.1) (κ := tuples' true) (by rw [List.length_map]; omega) S (fun R hR => ?_) (fun h2 h tk Q' kp q' => ?_) (fun h tk i j C kp hi hj hij q' => ?_) fun h tk h' p c k1 k2 hD hp hr => ?_
  · refine collect_src (raw_src (ep := ep) (es := es) lo) hh ⟨o, ho, hx, hd⟩ (by rw [les]; omega) fun h' tk vs kp hl hG => ?_
    have ev : vs = xs.map fun x => Value.ref x.2.1 := by
      apply List.ext_getElem?
      intro i
      by_cases hi : i < vs.length
      · obtain ⟨e, hes, ek⟩ := hG i vs[i] (List.getElem?_eq_getElem hi)
        have e2 : es.toList[i]? = some e := by rw [Array.getElem?_toList]; exact hes
        rw [he, List.getElem?_map] at e2
        obtain ⟨x, hxx, ex⟩ := Option.map_eq_some_iff.mp e2
        rw [List.getElem?_eq_getElem hi, ek, List.getElem?_map, hxx, ← ex]
        rfl
      · rw [List.getElem?_eq_none (by omega), List.getElem?_eq_none (by rw [List.length_map]; omega)]
    rw [ev]
    exact hR h' tk kp
  · exact kind_place (s := { s with heap := h, toks := tk }) lv (fun i v q hv hq => (vv i v q hv hq).keep kp) (by omega) q'
  · rw [lv] at hi hj
    refine ask_place (s := { s with heap := h, toks := tk }) ((vat i hi).keep kp) ((vat j hj).keep kp) q' fun z => hij ?_
    rw [List.getD_eq_getElem?_getD, List.getD_eq_getElem?_getD, List.getElem?_eq_getElem hi, List.getElem?_eq_getElem hj] at z
    exact (List.getElem_inj nq).mp z
  · have I1 : Inv X pins σ H { s with heap := h, toks := tk } := I.kept k1
    have ps : ∃ ps : List (Addr × (Str × Int)), ps.map (fun n => Value.ref n.1) = outOf (xs.map fun x => Value.ref x.2.1) p ∧ ps.map (·.2) = p.toList.map (fun i => qs.getD i ("", 0)) ∧ ∀ n ∈ ps, H n.1 = some (.tup [.str n.2.1, .int n.2.2]) := by
      have pl : ∀ i ∈ p.toList, i < xs.length := fun i hi => by
        have : i ∈ p := by simpa using hi
        have := (Array.Perm.mem_iff hp).mp this
        rw [List.length_map] at this
        simpa using this
      refine ⟨p.toList.map fun i => ((xs.getD i ([], 0, .none)).2.1, qs.getD i ("", 0)), ?_, by rw [List.map_map]; rfl, fun n hn => ?_⟩
      · unfold outOf
        rw [List.map_map]
        refine List.map_congr_left fun i hi => ?_
        have := pl i hi
        simp [List.getD_eq_getElem?_getD, List.getElem?_map, List.getElem?_eq_getElem this]
      · obtain ⟨i, hi, rfl⟩ := List.mem_map.mp hn
        have hl := pl i hi
        obtain ⟨q, hq, _, hH⟩ := key i xs[i] (List.getElem?_eq_getElem hl)
        have e1 : xs.getD i ([], 0, .none) = xs[i] := by rw [List.getD_eq_getElem?_getD, List.getElem?_eq_getElem hl]; rfl
        have e2 : qs.getD i ("", 0) = q := by rw [List.getD_eq_getElem?_getD, hq]; rfl
        show H (xs.getD i ([], 0, .none)).2.1 = some (.tup [.str (qs.getD i ("", 0)).1, .int (qs.getD i ("", 0)).2])
        rw [e1, e2]
        exact hH
    obtain ⟨ps, e1, e2, hps⟩ := ps
    have vr : Vals (ps.map fun n => V.ref n.1) (ps.map fun n => Value.ref n.1) := by
      clear e1 e2 hps
      induction ps with
      | nil => exact .nil
      | cons n r ih => exact .cons rfl ih
    have psz : p.size = xs.length := by have := hp.size; rw [List.length_map] at this; exact this
    have pln : ps.length = xs.length := by have := congrArg List.length e1; unfold outOf at this; simpa [psz] using this
    have I2 : Inv X pins σ (upd H h.objs.size (.lst (ps.map fun n => V.ref n.1))) { s with heap := h', toks := tk } := I1.laid (s := { s with heap := h, toks := tk }) (a := h.objs.size) (o := .lst (ps.map fun n => V.ref n.1)) (t' := tk) k2 (Nat.le_refl _)
      ⟨by rw [List.length_map]; omega, ps.map fun n => Value.ref n.1, c, vr, by rw [e1]; exact hD⟩
    refine ⟨.ref h.objs.size, _, I2, rfl, q _ ps (I1.hok.fresh (Nat.le_refl _)) ?_ ?_ hps⟩
    · rw [e2]
      have pr : p.toList.Perm (List.range qs.length) := by
        have := Array.perm_iff_toList_perm.mp hp
        rw [lv] at this
        simpa using this
      refine (pr.map _).trans ?_
      have : (List.range qs.length).map (fun i => qs.getD i ("", 0)) = qs := by
        apply List.ext_getElem?
        intro i
        rw [List.getElem?_map]
        by_cases hi : i < qs.length
        · rw [List.getElem?_range hi, List.getElem?_eq_getElem hi]
          simp [List.getD_eq_getElem?_getD, List.getElem?_eq_getElem hi]
        · rw [List.getElem?_eq_none (by simpa using hi), List.getElem?_eq_none (by omega)]
          rfl
      rw [this]
    · rw [e2, List.pairwise_map, List.pairwise_iff_getElem]
      intro i j hi hj hij
      rw [Array.length_toList] at hi hj
      have g1 := gt_eq hi
      have g2 := gt_eq hj
      have r := hr i j hij (by rw [List.length_map]; omega)
      have x1 : p.toList[i] = gt p i := by
        rw [Array.getElem?_eq_getElem hi] at g1
        simpa using g1
      have x2 : p.toList[j] = gt p j := by
        rw [Array.getElem?_eq_getElem hj] at g2
        simpa using g2
      rw [x1, x2]
      exact r
end
end L2

namespace L2
open PySem PySem.Spec PyProof.Rows
/-! ### walking the keys of a dict of tuples: the dict is frozen while the loop walks it -/
def Itd (a : Addr) (o : Obj) (kvs : List (List Key × V)) : It :=
  ⟨fun i H => H a = some (.frz o (.dT kvs)) ∧ i < kvs.length, fun i H x H' => H' = H ∧ ∃ k v p, kvs[i]? = some (k, v) ∧ x = .ref p ∧ H p = some (.tup (k.map kV)), fun i H => H a = some (.frz o (.dT kvs)) ∧ kvs.length ≤ i⟩
section
variable {X : Cx}
def iDT (tl : TE) : TI := fun σ H R => tl σ H fun x H1 => ∃ a o kvs, x = .ref a ∧ H1 a = some (.frz o (.dT kvs)) ∧ R (Itd a o kvs) H1
/-! ### frozen and thawed -/
def Plain : HO → Prop
  | .tup _ => False
  | .own _ => False
  | .tbl _ => False
  | _ => True
theorem Inv.relab {pins : List (Addr × Obj)} {σ : St} {H : Hp} {s : Shared} {a : Addr} {u u' : HO} (I : Inv X pins σ H s) (ha : H a = some u) (hp : Plain u) (hf : ∀ o z, X.H₀ a ≠ some (.frz o z)) (ho : ObjOk X.prog X.w (upd H a u') s.heap a u') : Inv X pins σ (upd H a u') s := by
  have nn : ∀ b, H b = none → b ≠ a := fun b n z => by subst z; rw [n] at ha; cases ha
  have ntup : ∀ b xs, H b = some (.tup xs) → b ≠ a := fun b xs q z => by subst z; rw [ha] at q; cases q; exact hp
  have nown : ∀ b y, H b = some (.own y) → b ≠ a := fun b y q z => by subst z; rw [ha] at q; cases q; exact hp
  have ntbl : ∀ b y, H b = some (.tbl y) → b ≠ a := fun b y q z => by subst z; rw [ha] at q; cases q; exact hp
  refine ⟨I.ok, I.os, I.bare, ⟨I.base.keep, I.base.slot, fun b o q n hb => ?_, I.base.there, fun b xs q => ?_, fun b o z q => ?_, fun b ps q => ?_⟩, I.loc, I.cell, ?_, fun x c e => ?_, fun p hp => ?_, fun b v q => ?_, I.len⟩
  · have := I.base.free b o q n hb
    rw [upd_ne (nn b this)]; exact this
  · have := I.base.tups b xs q
    rw [upd_ne (ntup b xs this)]; exact this
  · have := I.base.frzs b o z q
    rw [upd_ne (fun e => hf o z (by rw [← e]; exact q))]; exact this
  · obtain ⟨m, e⟩ := I.base.tbls b ps q
    exact ⟨m, by rw [upd_ne (ntbl b _ e)]; exact e⟩
  · rw [upd_ne (nn _ I.free)]; exact I.free
  · have := I.freeC x c e
    rw [upd_ne (nn _ this)]; exact this
  · obtain ⟨h1, h2, h3⟩ := I.pin p hp
    exact ⟨h1, by rw [upd_ne (nn _ h2)]; exact h2, h3⟩
  · by_cases hb : b = a
    · subst hb
      rw [upd_same] at q; cases q; exact ho
    · rw [upd_ne hb] at q
      exact (I.hok b v q).stay (fun _ _ _ r => r) (fun c r => by rw [upd_ne (nown c b r)]; exact r) fun c xs r => by rw [upd_ne (ntup c xs r)]; exact r
end
section
variable {σ : St} {H : Hp} {nx : St → Hp → Prop} {B : V → St → Hp → (St → Hp → Prop) → Prop}
end
end L2

namespace L2
open PySem PySem.Spec PyProof.Rows
/-! ### values that hold others: what they are all through -/
mutual
inductive Dat (K : PySem.W.Frag) (H : Hp) : V → PyData → Prop
  | non : Dat K H .non .none
  | bl (b : Bool) : Dat K H (.bl b) (.bool b)
  | int (i : Int) : Dat K H (.int i) (.int i)
  | str (x : Str) : Dat K H (.str x) (.str x)
  | lst {a : Addr} {xs : List V} {ds : List PyData} : SqL K H a xs → DatAll K H xs ds → Dat K H (.ref a) (.list ds)
  | tup {a : Addr} {xs : List V} {ds : List PyData} : SqT K H a xs → DatAll K H xs ds → Dat K H (.ref a) (.tuple ds)
inductive DatAll (K : PySem.W.Frag) (H : Hp) : List V → List PyData → Prop
  | nil : DatAll K H [] []
  | cons {x : V} {d : PyData} {xs : List V} {ds : List PyData} : Dat K H x d → DatAll K H xs ds → DatAll K H (x :: xs) (d :: ds)
end
section
variable {X : Cx} {pins : List (Addr × Obj)} {σ : St} {H : Hp} {s : Shared}
mutual
theorem Dat.reads (I : Inv X pins σ H s) : ∀ {x : V} {d : PyData} {u : Value}, Dat X.K H x d → RelV x u → ∃ as, Reads s.heap u d as
  | _, _, _, .non, r => by cases r; exact ⟨_, .none⟩
  | _, _, _, .bl b, r => by cases r; exact ⟨_, .bool b⟩
  | _, _, _, .int i, r => by obtain ⟨t, rfl⟩ := r; exact ⟨_, .int i t⟩
  | _, _, _, .str x, r => by obtain ⟨t, rfl⟩ := r; exact ⟨_, .str x t⟩
  | _, _, _, .lst hq ha, r => by
    cases r
    obtain ⟨its, rv, ⟨o, n, e, c, _, d⟩, _⟩ := I.list hq
    obtain ⟨as, ra⟩ := DatAll.reads I ha rv
    exact ⟨_, .list e c d (by simpa using ra)⟩
  | _, _, _, .tup hq ha, r => by
    cases r
    obtain ⟨its, rv, ⟨o, e, c, n, d⟩, _⟩ := I.tuple hq
    obtain ⟨as, ra⟩ := DatAll.reads I ha rv
    exact ⟨_, .tuple e c d (by simpa using ra)⟩
theorem DatAll.reads (I : Inv X pins σ H s) : ∀ {xs : List V} {ds : List PyData} {us : List Value}, DatAll X.K H xs ds → Vals xs us → ∃ as, ReadsAll s.heap us ds as
  | _, _, _, .nil, r => by cases r; exact ⟨_, .nil⟩
  | _, _, _, .cons hx ht, r => by
    cases r with
    | cons r1 rr =>
      obtain ⟨as, ra⟩ := Dat.reads I hx r1
      obtain ⟨bs, rb⟩ := DatAll.reads I ht rr
      exact ⟨_, .cons ra rb⟩
end
end
section
variable {K : PySem.W.Frag} {H H' : Hp}
end
section
variable {X : Cx} {pins : List (Addr × Obj)} {σ : St} {H : Hp} {s : Shared}
end
mutual
def plainD : PyData → Bool
  | .none => true
  | .int _ => true
  | .str x => PyData.strOk x
  | .list xs => plainDs xs
  | .tuple xs => plainDs xs
  | .bool _ => false
  | .dict _ => false
def plainDs : List PyData → Bool
  | [] => true
  | x :: xs => plainD x && plainDs xs
end
mutual
theorem plain_lay : ∀ {d : PyData}, plainD d = true → d.canLay0 = true
  | .none, _ => by simp [PyData.canLay0]
  | .int _, _ => by simp [PyData.canLay0]
  | .str x, h => by simpa [PyData.canLay0, plainD] using h
  | .list xs, h => by rw [PyData.canLay0]; exact plains_lay (by simpa [plainD] using h)
  | .tuple xs, h => by rw [PyData.canLay0]; exact plains_lay (by simpa [plainD] using h)
  | .bool _, h => by simp [plainD] at h
  | .dict _, h => by simp [plainD] at h
theorem plains_lay : ∀ {ds : List PyData}, plainDs ds = true → PyData.canLayAll0 ds = true
  | [], _ => by simp [PyData.canLayAll0]
  | x :: xs, h => by
    rw [plainDs, Bool.and_eq_true] at h
    rw [PyData.canLayAll0, plain_lay h.1, plains_lay h.2]; rfl
end
mutual
theorem plain_eqv : ∀ {d e : PyData}, plainD d = true → plainD e = true → (PyData.eqv d e = true ↔ d = e)
  | .list xs, .list ys, h, h' => by
    rw [PyData.eqv, plains_eqv (by simpa [plainD] using h) (by simpa [plainD] using h'), PyData.list.injEq]
  | .tuple xs, .tuple ys, h, h' => by
    rw [PyData.eqv, plains_eqv (by simpa [plainD] using h) (by simpa [plainD] using h'), PyData.tuple.injEq]
  | .bool _, _, h, _ => by simp [plainD] at h
  | .dict _, _, h, _ => by simp [plainD] at h
  | .none, .bool _, _, h => by simp [plainD] at h
  | .int _, .bool _, _, h => by simp [plainD] at h
  | .str _, .bool _, _, h => by simp [plainD] at h
  | .list _, .bool _, _, h => by simp [plainD] at h
  | .tuple _, .bool _, _, h => by simp [plainD] at h
  | .none, .dict _, _, h => by simp [plainD] at h
  | .int _, .dict _, _, h => by simp [plainD] at h
  | .str _, .dict _, _, h => by simp [plainD] at h
  | .list _, .dict _, _, h => by simp [plainD] at h
  | .tuple _, .dict _, _, h => by simp [plainD] at h
  | .none, .none, _, _ | .none, .int _, _, _ | .none, .str _, _, _ | .none, .list _, _, _ | .none, .tuple _, _, _ => by simp [PyData.eqv]
  | .int _, .none, _, _ | .int _, .int _, _, _ | .int _, .str _, _, _ | .int _, .list _, _, _ | .int _, .tuple _, _, _ => by simp [PyData.eqv]
  | .str _, .none, _, _ | .str _, .int _, _, _ | .str _, .str _, _, _ | .str _, .list _, _, _ | .str _, .tuple _, _, _ => by simp [PyData.eqv]
  | .list _, .none, _, _ | .list _, .int _, _, _ | .list _, .str _, _, _ | .list _, .tuple _, _, _ => by simp [PyData.eqv]
  | .tuple _, .none, _, _ | .tuple _, .int _, _, _ | .tuple _, .str _, _, _ | .tuple _, .list _, _, _ => by simp [PyData.eqv]
theorem plains_eqv : ∀ {xs ys : List PyData}, plainDs xs = true → plainDs ys = true → (PyData.eqvAll xs ys = true ↔ xs = ys)
  | [], [], _, _ => by simp [PyData.eqvAll]
  | [], _ :: _, _, _ => by simp [PyData.eqvAll]
  | _ :: _, [], _, _ => by simp [PyData.eqvAll]
  | x :: xs, y :: ys, h, h' => by
    rw [plainDs, Bool.and_eq_true] at h h'
    rw [PyData.eqvAll, Bool.and_eq_true, plain_eqv h.1 h'.1, plains_eqv h.2 h'.2, List.cons.injEq]
end
/-- both read whole: ne tells whether they differ -/
abbrev rEqD (K : PySem.W.Frag) (neg : Bool) : R2 := fun x y H Q => ∃ d e, Dat K H x d ∧ Dat K H y e ∧ (plainD d = true ∧ plainD e = true ∧ d.depth ≤ 64 ∧ e.depth ≤ 64) ∧ ∀ b : Bool, (b = true ↔ d = e) → Q (.bl (if neg then !b else b)) H
section
variable {X : Cx}
theorem shaped_plain {d : PyData} (h : plainD d = true) (h' : d.depth ≤ 64) : SeqAt.shaped d = true := by
  unfold SeqAt.shaped
  rw [plain_lay h, decide_eq_true h']; rfl
theorem op_eqAll (hu : X.A.units + 64 < cLine) : OpR X (compareOp .Eq) (rEqD X.K false) := by
  intro pins s σ H x y v u Q I rx ry h
  obtain ⟨d, e, hd, he, ⟨p1, p2, l1, l2⟩, q⟩ := h
  obtain ⟨as, ra⟩ := hd.reads I rx
  obtain ⟨bs, rb⟩ := he.reads I ry
  exact eq_dataH ra rb (shaped_plain p1 l1) (shaped_plain p2 l2) hu ⟨.bl _, H, I, rfl, q _ (plain_eqv p1 p2)⟩
end
end L2

namespace L2
open PySem PySem.Spec PyProof.Rows
abbrev rGtS : R2 := fun x y H Q => ∃ i j, x = .str i ∧ y = .str j ∧ Q (.bl (decide (j.cps.toList < i.cps.toList))) H
abbrev rInD (neg : Bool) : R2 := fun x y H Q => ∃ a o, y = .ref a ∧ DGet H a x o ∧ Q (.bl (if neg then !o.isSome else o.isSome)) H
section
variable {X : Cx}
theorem op_in_d (hu : X.A.units + 1 < cLine) : OpR X (compareOp .In) (rInD false) := by
  intro pins s σ H x y v u Q I rx ry h
  obtain ⟨a, o, rfl, g, q⟩ := h
  cases ry
  exact d_in hu I g rx fun s' I' => ⟨.bl _, H, I', rfl, q⟩
theorem op_notin_d (hu : X.A.units + 1 < cLine) : OpR X (compareOp .NotIn) (rInD true) := by
  intro pins s σ H x y v u Q I rx ry h
  obtain ⟨a, o, rfl, g, q⟩ := h
  cases ry
  exact d_notIn hu I g rx fun s' I' => ⟨.bl _, H, I', rfl, q⟩
end
end L2

namespace L2
open PySem
/-! ### tables: what the last row of each place tells -/
abbrev Pl := Str × Int
abbrev Row := Pl × Int
def lastW : List Row → Pl → Option Int
  | [], _ => none
  | r :: t, p => (lastW t p).or (if r.1 = p then some r.2 else none)
def dStep (kvs : List (List Key × V)) (q : Row) : List (List Key × V) := putK kvs (plKey q.1) (.int q.2)
def dOf (rows : List Row) : List (List Key × V) := rows.foldl dStep []
theorem dOf_snoc (rows : List Row) (q : Row) : dOf (rows ++ [q]) = putK (dOf rows) (plKey q.1) (.int q.2) := by
  unfold dOf
  rw [List.foldl_append]; rfl
def OkKv (kvs : List (List Key × V)) : Prop := (kvs.map (·.1)).Nodup ∧ ∀ kv ∈ kvs, ∃ (p : Pl) (w : Int), kv = (plKey p, .int w)
theorem OkKv.put {kvs : List (List Key × V)} (h : OkKv kvs) (p : Pl) (w : Int) : OkKv (putK kvs (plKey p) (.int w)) := by
  cases e : valV kvs (plKey p) with
  | none =>
    refine ⟨nd_putK _ h.1 e, fun kv hk => ?_⟩
    rw [putK_new _ e] at hk
    rcases List.mem_append.mp hk with hk | hk
    · exact h.2 kv hk
    · exact ⟨p, w, List.mem_singleton.mp hk⟩
  | some v =>
    have q : (kvs.any fun kv => decide (kv.1 = plKey p)) = true := by rw [valV_any, e]; rfl
    unfold putK
    rw [if_pos q]
    constructor
    · rw [List.map_map]
      have : ((fun x : List Key × V => x.1) ∘ fun kv : List Key × V => if kv.1 = plKey p then (kv.1, V.int w) else kv) = fun x => x.1 := by
        funext kv
        show (if kv.1 = plKey p then (kv.1, V.int w) else kv).1 = kv.1
        split <;> rfl
      rw [this]; exact h.1
    · intro kv hk
      obtain ⟨z, hz, rfl⟩ := List.mem_map.mp hk
      by_cases e : z.1 = plKey p
      · exact ⟨p, w, by rw [if_pos e, e]⟩
      · rw [if_neg e]; exact h.2 z hz
theorem len_put (kvs : List (List Key × V)) (k : List Key) (v : V) : (putK kvs k v).length ≤ kvs.length + 1 := by
  unfold putK
  split
  · rw [List.length_map]; omega
  · rw [List.length_append]; simp
theorem len_fold : ∀ (rows : List Row) (kvs : List (List Key × V)), (rows.foldl dStep kvs).length ≤ kvs.length + rows.length
  | [], _ => by simp
  | r :: t, kvs => by
    have := len_fold t (dStep kvs r)
    have := len_put kvs (plKey r.1) (.int r.2)
    rw [List.foldl_cons, List.length_cons]
    unfold dStep at *
    omega
theorem len_dOf (rows : List Row) : (dOf rows).length ≤ rows.length := by have := len_fold rows []; simpa [dOf] using this
/-- strictly rising by place -/
def Rising (l : List Row) : Prop := l.Pairwise fun a b => placeLt a.1 b.1 = true
def IsTab (rows out : List Row) : Prop := Rising out ∧ ∀ p w, (p, w) ∈ out ↔ lastW rows p = some w ∧ w ≠ 0
theorem last_none {p : Pl} : ∀ {l : List Row}, (∀ r ∈ l, r.1 ≠ p) → lastW l p = none
  | [], _ => rfl
  | r :: t, h => by
    rw [lastW, last_none fun r hr => h r (List.mem_cons_of_mem _ hr), if_neg (h r List.mem_cons_self)]; rfl
end L2

namespace L2
open PySem PySem.Spec PyProof.Rows
/-! ### zip of two lists -/
def Itzl (K : PySem.W.Frag) (p q : Addr) (xs ys : List V) : It := ⟨fun i H => i < xs.length ∧ SqL K H p xs ∧ SqL K H q ys, fun i H x H' => ∃ T u v, x = .ref T ∧ H T = none ∧ H' = upd H T (.tup [u, v]) ∧ xs[i]? = some u ∧ ys[i]? = some v, fun i H => xs.length ≤ i ∧ SqL K H p xs ∧ SqL K H q ys⟩
def iZipL (K : PySem.W.Frag) (ta : TA) : TI := fun σ H R => ta σ H fun vs H1 => ∃ p q xs ys, vs = [.ref p, .ref q] ∧ SqL K H1 p xs ∧ SqL K H1 q ys ∧ xs.length = ys.length ∧ R (Itzl K p q xs ys) H1
section
variable {X : Cx}
end
section
variable {σ : St} {H : Hp} {nx : St → Hp → Prop} {B : V → St → Hp → (St → Hp → Prop) → Prop}
end
end L2

namespace L2
open PySem PySem.Spec PyProof.Rows
/-! ### dict(list of pairs), the keys places -/
theorem plain_dul : plainId "dict.update.loop" = true := by decide +kernel
theorem entry_dul : entryFor table "dict.update.loop" = some Builtin.«dict.update.loop» := entryFor_of_fast (by kernel_rfl)
section
variable {X : Cx} {A : Around} {R : Result → Shared → Prop}
/-- a row of the list -/
def PrAt (H : Hp) (v : V) (q : Row) : Prop := ∃ r p, v = .ref r ∧ H r = some (.tup [.ref p, .int q.2]) ∧ H p = some (.tup [.str q.1.1, .int q.1.2])
theorem dul_store {pins : List (Addr × Obj)} {σ : St} {H : Hp} {s : Shared} {d b : Addr} {kvs : List (List Key × V)} {k : List Key} {v : V} {u : Value} {E : Value → Shared → Prop} {Q : Unit → Shared → Prop} (hu : A.units + 1 < cLine) (I : Inv X pins σ H s) (e : H d = some (.dT kvs)) (eb : H b = some (.tup (k.map kV))) (l : kvs.length < sizeLine) (rv : RelV v u)
    (h : ∀ h' tk, Inv X pins σ (upd H d (.dT (putK kvs k v))) { s with heap := h', toks := tk } → Heap.SameBut d s.heap h' → Q () { s with heap := h', toks := tk }) : wpAny (model X.prog X.w) A.in1 (dictSet d (.ref b) u) Q E s := by
  obtain ⟨z, hd, xs, rel, dd⟩ := dt_of I.hok e
  have hz : xs.length ≤ sizeLine := by rw [← Paired.length rel]; exact z
  have hl : (putK kvs k v).length ≤ sizeLine := by have := length_putK kvs k v; omega
  refine wpAny_dictSet_heap (hsz := hz) (tupleKind_room_in1 hu) (key_of I.hok eb) dd fun h' dd' hs => h _ _ ?_ hs
  obtain ⟨q, es, ep, hq, h2, h3, h4, _, h5⟩ := dd'
  refine d_write I (by rw [e]; exact True.intro) hs ⟨q, hq⟩ ⟨hl, hd, _, (rel.put k eb rv).keeps fun c ys ec => ?_, q, es, ep, hq, h2, h3, h4, h5⟩
  rw [upd_ne (ne_of ec e (fun z => nomatch z))]
  exact ec
theorem dul_loop {pins : List (Addr × Obj)} {σ : St} {H : Hp} {d it l : Addr} {xs : List V} {rows : List Row} {res : Value} (hu : A.units + 1 < cLine) (hh : A.handled = none) (hd : H d = none) (hl : H l = some (.lst xs)) (hr : Paired (PrAt H) xs rows) (h63 : rows.length ≤ 1000) (dit : it ≠ d) (lit : l ≠ it) :
    ∀ (k i : Nat) (s : Shared), rows.length - i = k → i ≤ rows.length → Inv X pins σ (upd H d (.dT (dOf (rows.take i)))) s → s.heap.IsListIter it l i → (∀ u, FpOk X pins (upd H d u) it) →
    (∀ s', Inv X pins σ (upd H d (.dT (dOf rows))) s' → R (.ok (.ret res)) s') →
    codeAny (model X.prog X.w) A (.builtin "dict.update.loop" ⟨[.ref d, .ref it, rawInt i, res], []⟩) R s := by
  have lx : xs.length = rows.length := Paired.length hr
  have S : ∀ u : HO, Same H (upd H d u) := fun u => isV (o := u) d hd
  intro k
  induction k with
  | zero =>
    intro i s hk hi I st hf fin
    have e : i = rows.length := by omega
    subst e
    refine codeAny_builtin entry_dul ?_
    rw [Around.under_plainId plain_dul _]
    show wpAny _ A.in1 (pyNext (.ref it) >>= _) _ _ s
    obtain ⟨its, rv, p, hz⟩ := I.list (SqL.of (S _ _ _ hl))
    obtain ⟨f0, f1, f2, f3, f4, f5⟩ := hf (.dT (dOf (rows.take rows.length)))
    have hl2 := rv.length
    refine wpAny_bind (wpAny_pyNext_list_end hh st p.isList (by simp; omega) fun h' eb => ?_)
    have I1 := I.turned (t' := s.toks) (fun b o hb e => eb b o hb e) f0 f1 f3 f4 f5
    rw [List.take_length] at I1
    show wpAny _ A.in1 (Builtin.Dict.addKeywords d [] >>= _) _ _ _
    exact wpAny_bind (wpAny_pure (wpAny_pure (fin _ I1)))
  | succ k ih =>
    intro i s hk hi I st hf fin
    have hlt : i < rows.length := by omega
    refine codeAny_builtin entry_dul ?_
    rw [Around.under_plainId plain_dul _]
    show wpAny _ A.in1 (pyNext (.ref it) >>= _) _ _ s
    obtain ⟨its, rv, p, hz⟩ := I.list (SqL.of (S _ _ _ hl))
    obtain ⟨f0, f1, f2, f3, f4, f5⟩ := hf (.dT (dOf (rows.take i)))
    have hx : xs[i]? = some xs[i] := List.getElem?_eq_getElem (by omega)
    have hq : rows[i]? = some rows[i] := List.getElem?_eq_getElem hlt
    obtain ⟨r, pl, e1, t1, u1⟩ := paired_get hr hx hq
    obtain ⟨u, hu', ru⟩ := rv.get hx
    rw [e1] at ru
    cases ru
    refine wpAny_bind (wpAny_pyNext_list_item st p.isList (x := .ref r) (by simpa using hu') fun h' st' sb => ?_)
    have I1 := I.turned (t' := s.toks) (fun b o hb e => (sb.2 b hb).trans e) f0 f1 f3 f4 f5
    obtain ⟨tis, tv, ⟨o, ho, hc, n, hdt⟩, _⟩ := I1.tuple (SqT.of (S _ _ _ t1))
    cases tv with
    | cons r1 rr =>
      cases rr with
      | cons r2 rn =>
        cases rn
        cases r1
        obtain ⟨tk, rfl⟩ := r2
        refine wpAny_bind (wpAny_holding ?_)
        have T : ({ s with heap := h' } : Shared).TypeIs (.ref r) "tuple" := ⟨o, ho, hc⟩
        refine wpAny_bind (wpAny_tryCatch ?_)
        unfold Builtin.Dict.pairItems
        refine wpAny_bind (wpAny_typeOf T ?_)
        rw [if_pos (by decide)]
        refine wpAny_bind ?_
        unfold seqItems?
        refine wpAny_bind (wpAny_load ho ?_)
        rw [hdt]
        refine wpAny_pure (wpAny_pure ?_)
        show wpAny _ _ (holding [.ref pl, .int rows[i].2 tk] (dictSet d (.ref pl) (.int rows[i].2 tk))) _ _ _
        refine wpAny_holding ?_
        have tk2 : dOf (rows.take (i + 1)) = putK (dOf (rows.take i)) (plKey rows[i].1) (.int rows[i].2) := by rw [List.take_add_one, hq, ← dOf_snoc]; rfl
        have l2 : (dOf (rows.take i)).length < sizeLine := by
          have h1 := len_dOf (rows.take i)
          have h2 := List.length_take_le' i rows
          exact Nat.lt_of_le_of_lt (by omega : _ ≤ 1000) (by decide)
        refine dul_store (k := plKey rows[i].1) (v := .int rows[i].2) hu I1 upd_same (S _ _ _ u1) l2 ⟨tk, rfl⟩ fun h2 tk3 I2 sb2 => ?_
        rw [upd_upd, ← tk2] at I2
        refine wpAny_pure ⟨plainId_quiet plain_dul _, ih (i + 1) _ (by omega) hlt I2 (st'.at fun o e => (sb2.2 it dit).trans e) hf fin⟩
end
end L2

namespace L2
open PySem PySem.Spec PyProof.Rows
theorem lk_list_keys : typeLookup (.type "list") "keys" = pure none := by rw [typeLookup_type, builtinLookup_eq_fast]; kernel_rfl
section
variable {prog : Program} {w : World} {A : Around} {E : Value → Shared → Prop} {s : Shared} {a : Addr} {o : Obj} {xs : Array Value} {k : Nat}
theorem keys_none_list {Q : Option Value → Shared → Prop} (hx : s.heap.get? a = some o) (hc : o.cls = .type "list") (hdat : o.data = .seq xs k) (hd : o.dict = none) (hA : A.handled = none)
    (h : ∀ h' tk, (∀ b ob, s.heap.get? b = some ob → h'.get? b = some ob) → Q none { s with heap := h', toks := tk }) : wpAny (model prog w) A (getAttr? (.ref a) "keys") Q E s := by
  obtain ⟨c, dct, dat, sl⟩ := o; simp only at hc hdat hd; subst hc hdat hd
  obtain ⟨hp, g, d, tk, os⟩ := s; have hT : ∀ tk', (⟨hp, g, d, tk', os⟩ : Shared).TypeIs (.ref a) "list" := fun _ => ⟨_, hx, rfl⟩
  have f1 := sub_AttributeError; have f3 := F.slot_list_getattribute.lookup; have f4 := F.slot_list_getattribute.bind (.ref a); have f5 := am_list_getattr_none
  unfold getAttr? getAttrBy? getAttrBy
  repeat (any_goals (first | assumption | exact hT _ | ((with_reducible show wpAny _ _ (call (Value.builtin "list.__getattribute__") _ _) _ _ _); refine call_meets F.slot_list_getattribute (hT _) am_entry_list_getattribute (F.args_list_getattribute_2 _ _) (meets_getattribute_miss_list a xs k sl "keys" _ lk_list_keys (by decide +kernel) (by decide +kernel)) ⟨hx, hA, fun h' tk' e hx' => ?_⟩) | wp_step))
  obtain ⟨t', u', he⟩ := hx'.there; have kp := hx'.keeps
  show wpAny _ _ (getattributeRaised _ _ _ _ _ _ _) _ _ _; unfold getattributeRaised
  repeat (any_goals (first | assumption | wp_step))
  all_goals exact h _ _ fun b ob e => kp b ob e
end
theorem hu3 {k : Nat} {A : Around} (r : Room k A) : A.units + 3 < cLine := by have := hu64 r; omega
abbrev cDctP : RC := fun vs H Q => ∃ (a : Addr) (xs : List V) (rows : List Row), vs = [.ref a] ∧ H a = some (.lst xs) ∧ Paired (PrAt H) xs rows ∧ rows.length ≤ 1000 ∧ ∀ p, H p = none → Q (.ref p) (upd H p (.dT (dOf rows)))
section
variable {X : Cx}
theorem call_dict_pairs (hc : X.calm = true) (hu : X.A.units + 3 < cLine) : CallR X (.type "dict") cDctP := by
  intro pins s σ H vs us Q I r h
  obtain ⟨a, xs, rows, rfl, ha, hr, hl, q⟩ := h
  obtain ⟨u, rfl, ru⟩ := vals1 r
  cases ru
  have hh : X.A.handled = none := I.ok.hd hc
  refine callType_codes (Q₁ := fun obj s₁ => obj = .ref s.heap.objs.size ∧ s₁ = { s with heap := s.heap.push { cls := .type "dict", data := .dict #[] } }) F.kt_called_dict (F.kt_typeCall_dict_1 _) F.entry_dict_init (kt_code_dict_new _ ⟨rfl, rfl⟩) ?_; rintro obj s₁ ⟨rfl, rfl⟩
  have T0 : ({ s with heap := s.heap.push { cls := .type "dict", data := .dict #[] } } : Shared).TypeIs (.ref s.heap.objs.size) "dict" := ⟨_, Heap.get?_push_size _ rfl, rfl⟩
  refine ⟨T0, F.args_dict_init_2 _ _, ?_⟩; unfold Builtin.«dict.__init__»; refine wpAny_bind ?_; unfold Builtin.Dict.selfAndRest
  refine wpAny_bind (wpAny_notOrdered_dict T0 ?_); show wpAny _ _ (pure (s.heap.objs.size, [Value.ref a])) _ _ _; refine wpAny_pure ?_
  show wpAny _ _ (Builtin.Dict.updateFrom "dict.__init__" s.heap.objs.size (.ref a) [] .none) _ _ _; unfold Builtin.Dict.updateFrom
  have hn : H s.heap.objs.size = none := I.hok.fresh (Nat.le_refl _)
  have S : ∀ u : HO, Same H (upd H s.heap.objs.size u) := fun u => isV (o := u) _ hn
  have I1 : Inv X pins σ (upd H s.heap.objs.size (.dT [])) { s with heap := s.heap.push { cls := .type "dict", data := .dict #[] } } :=
    I.laid (a := s.heap.objs.size) (o := .dT []) (t' := s.toks) (fun b o z => Heap.get?_push_of_some _ z) (Nat.le_refl _) (dt_empty s.heap I.big)
  obtain ⟨its, rv, pl, _⟩ := I1.list (SqL.of (S _ _ _ ha))
  obtain ⟨o, n, ho, oc, od, odat⟩ := id pl
  have T1 : ({ s with heap := s.heap.push { cls := .type "dict", data := .dict #[] } } : Shared).TypeIs (.ref a) "list" := ⟨o, ho, oc⟩
  refine wpAny_bind (wpAny_typeOf T1 ?_); rw [if_pos (by decide)]
  refine wpAny_bind (keys_none_list ho oc odat od (by exact hh) fun h2 tk2 k2 => ?_); rw [if_pos (show (none : Option Value).isNone = true from rfl)]
  refine wpAny_bind (wpAny_rule ?_)
  have I2 : Inv X pins σ (upd H s.heap.objs.size (.dT [])) { s with heap := h2, toks := tk2 } := I1.kept k2
  obtain ⟨its2, rv2, pl2, _⟩ := I2.list (SqL.of (S _ _ _ ha))
  refine wpAny_bind (wpAny_pyIter_list pl2.isList ?_)
  have I3 : Inv X pins σ (upd H s.heap.objs.size (.dT (dOf (rows.take 0)))) { s with heap := h2.push { cls := .type "list_iterator", data := .fields #[.ref a, .int 0 0] }, toks := tk2 } := I2.kept (t' := tk2) fun b o e => Heap.get?_push_of_some _ e
  refine wpAny_pure ⟨plainId_quiet plain_dul _, ?_⟩
  have lt : s.heap.objs.size < h2.objs.size := Heap.lt_size (k2 s.heap.objs.size _ (Heap.get?_push_size _ rfl))
  have la : a < h2.objs.size := by obtain ⟨_, _, z, _⟩ := pl2; exact Heap.lt_size z
  refine dul_loop (A := X.A.in1) (H := H) (d := s.heap.objs.size) (it := h2.objs.size) (l := a) (xs := xs) (rows := rows) (res := .none) ?_ hh hn ha hr hl (Nat.ne_of_gt lt) (Nat.ne_of_lt la) rows.length 0 _ (by omega) (Nat.zero_le _) I3 ⟨_, Heap.get?_push_size _ rfl, rfl, rfl⟩ (fun u => ?_) fun s' I' => ⟨rfl, .ref s.heap.objs.size, _, I', rfl, q _ hn⟩
  · have e : X.A.in1.units = X.A.units + 1 := rfl
    omega
  · refine I2.fpOk (Nat.le_refl _) ?_
    rw [upd_ne (Nat.ne_of_gt lt)]
    have := I2.hok.fresh (Nat.le_refl h2.objs.size)
    rw [upd_ne (Nat.ne_of_gt lt)] at this
    exact this
end
end L2

namespace L2
open PySem PySem.Spec PyProof.Rows
/-! ### a method of an instance that may raise, within a try -/
section
variable {X : Cx} {k : Nat} {f C : Addr} {fd : FuncData} {ps : List Str} {sp : Sp} {m : Str} {pos apos : Pos} {e o : Expr} {es : List Expr} {ta : TE} {t : TA}
def tMethX (C : Addr) (m : Str) (sp : Sp) (ta : TE) (t : TA) (EX : EXK) : TE := fun σ H Q => ta σ H fun x H1 => ∃ a dx fs, x = .ref a ∧ H1 a = some (.ins C dx fs) ∧ fs.lookup m = none ∧
  t σ H1 fun vs H2 => sp (x :: (vs ++ [])) H2 Q fun cls _ H3 => EX cls σ H3
theorem pex_meth {pl : Sem Bool} (he : PE X.nox o ta) (c : Cls X.K C) (hm : Meth X.K C m f) (F : FnOk X.prog X.w X.K X.mg X.base (CX1 X.prog X.w) k f fd ps sp) (hr : Room k X.A) (hb : Binds X.K fd ps []) (ha : PA X.nox (e :: es) t)
    (hst : starEach (e :: es) X.env = (false, eval e X.env) :: starEach es X.env := by rfl) (hpl : (backTo pos (starEach es X.env)).any (·.1) = false := by rfl)
    (ht : eval (.Call (.Attribute o m apos) (e :: es) [] pos) X.env = (do
      let ov ← eval o X.env
      standAt apos.atName
      let (f, first) ← holding [ov] (getMethod ov m pl)
      callWith pos f first (backTo pos (starEach (e :: es) X.env)) (backToKw pos (keywordEach [] X.env))) := by rfl) :
    PEX X (.Call (.Attribute o m apos) (e :: es) [] pos) (tMethX C m sp ta t) := by
  intro pins s σ H Q EX I h
  refine PySem.W.methodCall_KW (pl := pl) (wpAny_mono (he pins s σ H _ (I.wish _) h) (fun u s1 ⟨x, H1, I1', rx, a, dx, fs, ex, ea, l, q⟩ => ?_) fun _ _ z => False.elim z) ht
  subst ex
  obtain rfl : u = Value.ref a := rx
  have I1 := I1'.unwish
  refine getmeth_ok I1 ea c hm l ?_
  refine PySem.W.callWith_K (first := [.ref a]) (h₀ := X.base) I.ok.mod.kin hm.kp (wpAny_mono (ha pos pins s1 σ H1 _ (I1.wish _) q) (fun us s2 ⟨vs, H2, I2', r, q2⟩ => ⟨I2'.kIn, ?_⟩) fun _ _ z => False.elim z) hst hpl
  have I2 := I2'.unwish
  have r2 : Vals (V.ref a :: (vs ++ [])) (Value.ref a :: (us ++ [])) := .cons rfl (r.append .nil)
  have hl : ((Value.ref a :: us) ++ []).length = ps.length := by
    have e := r2.length
    rw [F.len _ _ _ _ q2] at e
    exact e.symm
  refine wpAny_call (codeAny_mono (F.run X.A X.stack s2 H2 ⟨.ref a :: us, []⟩ ((.ref a :: us) ++ []) (.ref a :: (vs ++ [])) _ _ hr I2.env0 (hb s2 (.ref a :: us) I2.kIn hl) r2 q2) fun r s' hq => ?_)
  cases r with
  | error ev =>
    obtain ⟨e, cls, H', rfl, os, bare, un, hok, xf, hE⟩ := hq
    exact ⟨e, cls, σ, s2, H2, H', rfl, I2, I2.call' (ch := []) os un hok bare (fun b z => nomatch z), xf, hE⟩
  | ok fl =>
    cases fl with
    | ret u => exact I2.after hq
    | next => exact False.elim hq
    | brk => exact False.elim hq
    | cont => exact False.elim hq
end
/-! ### try, except C: .. except D: .., without names -/
def tTryN (K : PySem.W.Frag) (tb : EXK → TS) (C1 : Addr) (th1 : TS) : TS := fun D σ H => tb (fun cls σ1 H1 => ∃ C, cls = .ref C ∧ PySem.W.exmOne K (.ref C) (.ref C1) = some true ∧ th1 D σ1 H1) D σ H
def tTryNN (K : PySem.W.Frag) (tb : EXK → TS) (C1 : Addr) (th1 : TS) (C2 : Addr) (th2 : TS) : TS := fun D σ H => tb (fun cls σ1 H1 => ∃ C, cls = .ref C ∧
  ((PySem.W.exmOne K (.ref C) (.ref C1) = some true ∧ th1 D σ1 H1) ∨ (PySem.W.exmOne K (.ref C) (.ref C1) = some false ∧ PySem.W.exmOne K (.ref C) (.ref C2) = some true ∧ th2 D σ1 H1))) D σ H
section
variable {X : Cx} {st b₀ b₁ : Stmt} {suite suite1 : List Stmt} {tb : EXK → TS} {th1 th2 : TS} {c1 c2 : Str} {C1 C2 : Addr} {np hpos np2 hpos2 pos : Pos}
end
/-! ### a def that is called within an except suite -/
section
variable {X : Cx} {k : Nat} {f : Addr} {fd : FuncData} {ps : List Str} {sp : Sp} {x : Str} {p pos : Pos} {e : Expr} {es : List Expr} {t : TA}
end
end L2

namespace L2
open PySem
/-! ### dealings done: their rows, and what becomes of them -/
def rk (kvs : List (Key × V)) (ps : List V) : Except Er Int := match runE kvs ps [] with
  | .ok [i] => .ok i
  | .ok _ => .error .stuck
  | .error e => .error e
theorem step_inW {kvs : List (Key × V)} (hs : SlotsOk kvs) {v : V} (hv : okPart v) {st st' : List Int} (h : ∀ x ∈ st, inW x = true) (e : stepE kvs st v = .ok st') : ∀ x ∈ st', inW x = true := by
  unfold stepE at e
  split at e
  · split at e
    · rename_i w b a r hr hj
      unfold joinE at e
      by_cases c1 : isDiv w ∧ b = 0
      · rw [if_pos c1] at e; cases e
      · rw [if_neg c1] at e
        by_cases c2 : inW (comeV w a b) = true
        · rw [if_pos c2] at e
          cases e
          intro x hx
          rcases List.mem_append.mp hx with hx | hx
          · refine h x (List.mem_reverse.mp ?_)
            rw [hr]
            exact List.mem_cons_of_mem _ (List.mem_cons_of_mem _ (List.mem_reverse.mp hx))
          · rw [List.mem_singleton.mp hx]; exact c2
        · rw [if_neg c2] at e; cases e
    · cases e
  · cases e
    intro x hx
    rcases List.mem_append.mp hx with hx | hx
    · exact h x hx
    · rw [List.mem_singleton.mp hx]; exact wrth_inW hs hv
theorem run_inW {kvs : List (Key × V)} (hs : SlotsOk kvs) : ∀ {ps : List V} {st st' : List Int}, (∀ v ∈ ps, okPart v) → (∀ x ∈ st, inW x = true) → runE kvs ps st = .ok st' → ∀ x ∈ st', inW x = true
  | [], st, st', _, h, e => by cases e; exact h
  | v :: r, st, st', hp, h, e => by
    unfold runE at e
    split at e
    · rename_i st1 e1
      exact run_inW hs (fun v hv => hp v (List.mem_cons_of_mem _ hv)) (step_inW hs (hp v List.mem_cons_self) h e1) e
    · cases e
/-- a term that comes to something, whatever the slots hold -/
def TermOk (e : List V) : Prop := (∀ kvs, ∃ r, Good kvs e r) ∧ (∀ v ∈ e, okPart v) ∧ e.length ≤ 1000
mutual
inductive Rw where
  | take (sh : Str) (e : List V) (sl : Str)
  | give (sh : Str) (e f : List V)
  | lt (sl : Str) (e : List V)
  | say (e : List V)
  | off (e : List V)
  | iff (e : List V) (a b : Rws)
inductive Rws where
  | nil
  | cons (r : Rw) (rs : Rws)
end
set_option genSizeOf false in
set_option genInjectivity false in
structure Sta where
  sl : List (Key × V)
  wo : List Row
  sa : List Int
inductive Res where
  | go (s : Sta)
  | off
  | er (e : Er)
mutual
def goR : Rw → Sta → Res
  | .take sh e sl, s => match rk s.sl e with
    | .ok n => .go { s with sl := putK s.sl (.inr sl) (.int ((lastW s.wo (sh, n)).getD 0)) }
    | .error x => .er x
  | .give sh e f, s => match rk s.sl e with
    | .ok n => (match rk s.sl f with
      | .ok w => .go { s with wo := s.wo ++ [((sh, n), w)] }
      | .error x => .er x)
    | .error x => .er x
  | .lt sl e, s => match rk s.sl e with
    | .ok n => .go { s with sl := putK s.sl (.inr sl) (.int n) }
    | .error x => .er x
  | .say e, s => match rk s.sl e with
    | .ok n => .go { s with sa := s.sa ++ [n] }
    | .error x => .er x
  | .off e, s => match rk s.sl e with
    | .ok n => if n = 0 then .go s else .off
    | .error x => .er x
  | .iff e a b, s => match rk s.sl e with
    | .ok n => if n = 0 then goRs b s else goRs a s
    | .error x => .er x
def goRs : Rws → Sta → Res
  | .nil, s => .go s
  | .cons r rs, s => match goR r s with
    | .go s' => goRs rs s'
    | x => x
end
mutual
/-- a row as it stands in the heap, all its things at addresses with F -/
def RwAt (F : Addr → Prop) (H : Hp) (v : V) : Rw → Prop
  | .take sh e sl => ∃ r te, v = .ref r ∧ F r ∧ F te ∧ H r = some (.tup [.str "take", .str sh, .ref te, .str sl]) ∧ H te = some (.tup e)
  | .give sh e f => ∃ r te tf, v = .ref r ∧ F r ∧ F te ∧ F tf ∧ H r = some (.tup [.str "give", .str sh, .ref te, .ref tf]) ∧ H te = some (.tup e) ∧ H tf = some (.tup f)
  | .lt sl e => ∃ r te, v = .ref r ∧ F r ∧ F te ∧ H r = some (.tup [.str "let", .str sl, .ref te]) ∧ H te = some (.tup e)
  | .say e => ∃ r te, v = .ref r ∧ F r ∧ F te ∧ H r = some (.tup [.str "say", .ref te]) ∧ H te = some (.tup e)
  | .off e => ∃ r te, v = .ref r ∧ F r ∧ F te ∧ H r = some (.tup [.str "off", .ref te]) ∧ H te = some (.tup e)
  | .iff e a b => ∃ r te la lb xs ys, v = .ref r ∧ F r ∧ F te ∧ F la ∧ F lb ∧ H r = some (.tup [.str "if", .ref te, .ref la, .ref lb]) ∧ H te = some (.tup e) ∧ H la = some (.lst xs) ∧ RwsAt F H xs a ∧ H lb = some (.lst ys) ∧ RwsAt F H ys b
def RwsAt (F : Addr → Prop) (H : Hp) (vs : List V) : Rws → Prop
  | .nil => vs = []
  | .cons r rs => ∃ v ws, vs = v :: ws ∧ RwAt F H v r ∧ RwsAt F H ws rs
end
mutual
def RwOk : Rw → Prop
  | .take _ e _ => TermOk e
  | .give _ e f => TermOk e ∧ TermOk f
  | .lt _ e => TermOk e
  | .say e => TermOk e
  | .off e => TermOk e
  | .iff e a b => TermOk e ∧ RwsOk a ∧ RwsOk b
def RwsOk : Rws → Prop
  | .nil => True
  | .cons r rs => RwOk r ∧ RwsOk rs
end
mutual
def Rw.deep : Rw → Nat
  | .iff _ a b => max a.deep b.deep + 1
  | _ => 0
def Rws.deep : Rws → Nat
  | .nil => 0
  | .cons r rs => max r.deep rs.deep
end
mutual
def Rw.cnt : Rw → Nat
  | .iff _ a b => max a.cnt b.cnt + 1
  | _ => 1
def Rws.cnt : Rws → Nat
  | .nil => 0
  | .cons r rs => r.cnt + rs.cnt
end
end L2

namespace L2
open PySem
/-! ### walking a dict's pairs, whatever the keys are -/
section
variable {P : Program} {w : World} {A : Around} {E : Value → Shared → Prop} {s : Shared}
end
end L2

namespace L2
open PySem PySem.Spec PyProof.Rows
/-! ### d.items(), and list of it -/
def viewO (r d : Addr) : HO := .ext fun h => h.IsItemsView r d
def tItems (td : TE) : TE := fun σ H Q => td σ H fun x H1 => ∃ d kvs, x = .ref d ∧ H1 d = some (.dT kvs) ∧ ∀ r, H1 r = none → Q (.ref r) (upd H1 r (viewO r d))
section
variable {X : Cx} {o : Expr} {apos cpos : Pos} {td : TE}
end
/-- a pair of the list that is made -/
def KvAt (H : Hp) (v : V) (kv : List Key × V) : Prop := ∃ r p, v = .ref r ∧ H r = some (.tup [.ref p, kv.2]) ∧ H p = some (.tup (kv.1.map kV))
section
variable {X : Cx} {A : Around} {R : Result → Shared → Prop}
end
end L2

namespace L2
open PySem PySem.Spec PyProof.Rows
abbrev cLstI : RC := fun vs H Q => ∃ r d kvs, vs = [.ref r] ∧ H r = some (viewO r d) ∧ H d = some (.dT kvs) ∧ kvs.length ≤ 1000 ∧ ∀ l ys H', Same H H' → H l = none → H' l = some (.lst ys) → Paired (KvAt H') ys kvs → Q (.ref l) H'
theorem rel_get {H : Hp} : ∀ {kvs : List (List Key × V)} {xs : List (List Key × Addr × Value)}, Paired (fun (p : List Key × V) (q : List Key × Addr × Value) => p.1 = q.1 ∧ H q.2.1 = some (.tup (p.1.map kV)) ∧ RelV p.2 q.2.2) kvs xs → ∀ {i : Nat} {kv : List Key × V} {x : List Key × Addr × Value}, kvs[i]? = some kv → xs[i]? = some x → H x.2.1 = some (.tup (kv.1.map kV)) ∧ RelV kv.2 x.2.2 :=
  fun {_ _} h {_ _ _} e1 e2 => (paired_get h e1 e2).2
section
variable {X : Cx}
/-- what the pairs of a dict are -/
theorem raw_of {pins : List (Addr × Obj)} {σ : St} {H : Hp} {s : Shared} {d : Addr} {kvs : List (List Key × V)} (I : Inv X pins σ H s) (e : H d = some (.dT kvs)) : ∃ es ep, RawD s.heap d es ep ∧ es.size = kvs.length ∧
    ∀ (i : Nat) (en : DictEntry) (kv : List Key × V), es[i]? = some en → kvs[i]? = some kv → ∃ p, en.key = .ref p ∧ H p = some (.tup (kv.1.map kV)) ∧ RelV kv.2 en.val := by
  obtain ⟨z, hd, xs, rel, o, es, ep, h1, h2, h3, h4, _⟩ := (show ObjOk X.prog X.w H s.heap d (.dT kvs) from I.hok d _ e)
  have l1 : es.size = xs.length := by rw [← Array.length_toList, h4, List.length_map]
  refine ⟨es, ep, ⟨o, h1, h2, h3⟩, by rw [l1, ← Paired.length rel], fun i en kv e1 e2 => ?_⟩
  have e3 : es.toList[i]? = some en := by rw [Array.getElem?_toList]; exact e1
  rw [h4, List.getElem?_map] at e3
  obtain ⟨x, hx, rfl⟩ := Option.map_eq_some_iff.mp e3
  obtain ⟨g1, g2⟩ := rel_get rel e2 hx
  exact ⟨x.2.1, rfl, g1, g2⟩
end
end L2

namespace L2
open PySem PySem.Spec PyProof.Rows PySem.W
/-! ### sorted(d.items()) -/
section
variable {X : Cx}
end
section
variable {P : Program} {w : World} {A : Around} {E : Value → Shared → Prop} {s : Shared}
end
end L2

namespace L2
open PySem PySem.Spec PyProof.Rows PySem.W
abbrev cSrtI : RC := fun vs H Q => ∃ r d rows, vs = [.ref r] ∧ H r = some (viewO r d) ∧ H d = some (.dT (dOf rows)) ∧ (dOf rows).length < 64 ∧
  ∀ l ys srt H', Same H H' → H l = none → H' l = some (.lst ys) → Paired (PrAt H') ys srt → Rising srt → (∀ p w, (p, w) ∈ srt ↔ lastW rows p = some w) → Q (.ref l) H'
section
variable {X : Cx}
end
end L2

namespace L2
open PySem PySem.Spec PyProof.Rows
/-! ### range(i, j, c), c above 0 -/
def Itr3 (lo c : Int) (n : Nat) : It := ⟨fun i _ => i < n, fun i H x H' => H' = H ∧ x = .int (lo + i * c), fun i _ => n ≤ i⟩
def cntR (i j c : Int) : Nat := if i < j then ((j - i - 1) / c + 1).toNat else 0
def iRng3 (ta : TA) : TI := fun σ H R => ta σ H fun vs H1 => ∃ i j c : Int, vs = [.int i, .int j, .int c] ∧ (0 ≤ i ∧ i < 1073741824 ∧ 0 ≤ j ∧ j < 1073741824 ∧ 0 < c ∧ c < 1073741824) ∧ R (Itr3 i c (cntR i j c)) H1
section
variable {X : Cx} {tg : Expr}
end
end L2

namespace L2
open PySem
/-! ### dealings done: what stays true, and what comes out -/
structure StOk (n : Nat) (s : Sta) : Prop where
  so : SlotsOk s.sl
  wo : ∀ r ∈ s.wo, inW r.2 = true
  l1 : s.sl.length ≤ n
  l2 : s.wo.length ≤ n
  l3 : s.sa.length ≤ n
theorem StOk.mono {n m : Nat} {s : Sta} (h : StOk n s) (l : n ≤ m) : StOk m s := ⟨h.so, h.wo, Nat.le_trans h.l1 l, Nat.le_trans h.l2 l, Nat.le_trans h.l3 l⟩
theorem last_in {P : Row → Prop} {p : Pl} {w : Int} : ∀ {l : List Row}, (∀ r ∈ l, P r) → lastW l p = some w → P (p, w)
  | [], _, h => by cases h
  | r :: t, hp, h => by
    rw [lastW] at h
    cases e : lastW t p with
    | some w' =>
      rw [e] at h
      have : w' = w := by simpa using h
      subst this
      exact last_in (fun r hr => hp r (List.mem_cons_of_mem _ hr)) e
    | none =>
      rw [e] at h
      by_cases c : r.1 = p
      · rw [if_pos c] at h
        have : r.2 = w := by simpa using h
        rw [← c, ← this]; exact hp r List.mem_cons_self
      · rw [if_neg c] at h; cases h
/-! a place that a dealing may give to -/
mutual
def RwIn (P : Pl → Prop) : Rw → Prop
  | .give sh e _ => ∀ kvs n, rk kvs e = .ok n → P (sh, n)
  | .iff _ a b => RwsIn P a ∧ RwsIn P b
  | _ => True
def RwsIn (P : Pl → Prop) : Rws → Prop
  | .nil => True
  | .cons r rs => RwIn P r ∧ RwsIn P rs
end
inductive Oc where
  | done (sa : List Int)
  | off (why : Str)
def whyOf : Er → Str
  | .great => "great"
  | _ => "nought"
def AloneR (rws : Rws) (tab : List Row) (oc : Oc) (out : List Row) : Prop := match goRs rws ⟨[], tab, []⟩ with
  | .go s => oc = .done s.sa ∧ IsTab s.wo out
  | .off => oc = .off "told" ∧ out = tab
  | .er e => oc = .off (whyOf e) ∧ out = tab
inductive SeqR : List Rws → List Row → List Oc → List Row → Prop
  | nil {tab : List Row} : SeqR [] tab [] tab
  | cons {d : Rws} {ds : List Rws} {tab mid out : List Row} {oc : Oc} {ocs : List Oc} : AloneR d tab oc mid → SeqR ds mid ocs out → SeqR (d :: ds) tab (oc :: ocs) out
/-! ### rows as data -/
def partD : V → PyData
  | .int i => .int i
  | .str x => .str x
  | _ => .none
def plV (v : V) : Prop := (∃ i, v = .int i) ∨ ∃ x, v = .str x ∧ PyData.strOk x = true
def termD (e : List V) : PyData := .tuple (e.map partD)
mutual
def rwD : Rw → PyData
  | .take sh e sl => .tuple [.str "take", .str sh, termD e, .str sl]
  | .give sh e f => .tuple [.str "give", .str sh, termD e, termD f]
  | .lt sl e => .tuple [.str "let", .str sl, termD e]
  | .say e => .tuple [.str "say", termD e]
  | .off e => .tuple [.str "off", termD e]
  | .iff e a b => .tuple [.str "if", termD e, .list (rwsD a), .list (rwsD b)]
def rwsD : Rws → List PyData
  | .nil => []
  | .cons r rs => rwD r :: rwsD rs
end
def tmP (e : List V) : Prop := ∀ v ∈ e, plV v
mutual
def RwPl : Rw → Prop
  | .take sh e sl => PyData.strOk sh = true ∧ tmP e ∧ PyData.strOk sl = true
  | .give sh e f => PyData.strOk sh = true ∧ tmP e ∧ tmP f
  | .lt sl e => PyData.strOk sl = true ∧ tmP e
  | .say e => tmP e
  | .off e => tmP e
  | .iff e a b => tmP e ∧ RwsPl a ∧ RwsPl b
def RwsPl : Rws → Prop
  | .nil => True
  | .cons r rs => RwPl r ∧ RwsPl rs
end
section
variable {K : PySem.W.Frag} {H : Hp} {F : Addr → Prop}
theorem part_dat {v : V} (h : plV v) : Dat K H v (partD v) := by
  rcases h with ⟨i, rfl⟩ | ⟨x, rfl, _⟩
  · exact .int i
  · exact .str x
theorem parts_dat : ∀ {e : List V}, tmP e → DatAll K H e (e.map partD)
  | [], _ => .nil
  | v :: r, h => .cons (part_dat (h v List.mem_cons_self)) (parts_dat fun u hu => h u (List.mem_cons_of_mem _ hu))
end
theorem parts_plain : ∀ {e : List V}, tmP e → plainDs (e.map partD) = true
  | [], _ => by simp [plainDs]
  | v :: r, h => by
    rw [List.map_cons, plainDs, parts_plain fun u hu => h u (List.mem_cons_of_mem _ hu), Bool.and_true]
    rcases h v List.mem_cons_self with ⟨i, rfl⟩ | ⟨x, rfl, hx⟩
    · rw [partD, plainD]
    · rw [partD, plainD]; exact hx
theorem parts_deep : ∀ (e : List V), PyData.depthAll (e.map partD) = 0
  | [] => by simp [PyData.depthAll]
  | v :: r => by
    rw [List.map_cons, PyData.depthAll, parts_deep r]
    cases v <;> simp [partD, PyData.depth]
/-! ### rows, one more behind -/
def Rws.snoc : Rws → Rw → Rws
  | .nil, x => .cons x .nil
  | .cons r rs, x => .cons r (rs.snoc x)
def Rws.app : Rws → Rws → Rws
  | .nil, x => x
  | .cons r rs, x => .cons r (rs.app x)
/-! ### terms of one part, and of two -/
/-! ### pairs of lists -/
end L2

namespace L2
open PySem PySem.Spec PyProof.Rows
/-! ### split -/
abbrev r_mt_split : RM := fun x xs H Q => ∃ a b, x = .str a ∧ xs = [.str b] ∧ (b.length == 0) = false ∧ a.length ≤ 100000 ∧ (Txt.split a b).length ≤ 100000 ∧ ∀ l, H l = none → Q (.ref l) (upd H l (.lst ((Txt.split a b).map V.str)))
section
variable {X : Cx}
end
/-! ### enumerate of a list -/
def Itel (K : PySem.W.Frag) (p : Addr) (xs : List V) : It := ⟨fun i H => i < xs.length ∧ SqL K H p xs, fun i H x H' => ∃ T u, x = .ref T ∧ H T = none ∧ H' = upd H T (.tup [.int i, u]) ∧ xs[i]? = some u, fun i H => xs.length ≤ i ∧ SqL K H p xs⟩
def iEnm (K : PySem.W.Frag) (ta : TA) : TI := fun σ H R => ta σ H fun vs H1 => ∃ p xs, vs = [.ref p] ∧ SqL K H1 p xs ∧ R (Itel K p xs) H1
section
variable {X : Cx}
end
section
variable {σ : St} {H : Hp} {nx : St → Hp → Prop} {B : V → St → Hp → (St → Hp → Prop) → Prop}
end
end L2

namespace L2
open PySem PySem.Spec PyProof.Rows
/-! ### parts put together and parted again -/
theorem cut_eq {c : Nat} : ∀ {a b r s : List Nat}, c ∉ a → c ∉ b → a ++ c :: r = b ++ c :: s → a = b ∧ r = s
  | [], [], r, s, _, _, h => by simpa using h
  | [], y :: b, r, s, _, hb, h => by
    simp only [List.nil_append, List.cons_append, List.cons.injEq] at h
    exact absurd h.1 (fun z => hb (by rw [z]; exact List.mem_cons_self))
  | x :: a, [], r, s, ha, _, h => by
    simp only [List.nil_append, List.cons_append, List.cons.injEq] at h
    exact absurd h.1.symm (fun z => ha (by rw [z]; exact List.mem_cons_self))
  | x :: a, y :: b, r, s, ha, hb, h => by
    simp only [List.cons_append, List.cons.injEq] at h
    obtain ⟨e1, e2⟩ := cut_eq (fun z => ha (List.mem_cons_of_mem _ z)) (fun z => hb (List.mem_cons_of_mem _ z)) h.2
    exact ⟨by rw [h.1, e1], e2⟩
end L2

namespace L2
open PySem PySem.Spec PyProof.Rows
/-! ### isinstance(x, (T, U)) of built-in types -/
abbrev cIsiT (K : PySem.W.Frag) : RC := fun xs H Q => ∃ (x : V) (p : Addr) (t : Value) (Ts : List String) (b : Bool), xs = [x, .ref p] ∧ TyOf K H x t ∧ H p = some (.tup (Ts.map V.ty)) ∧ PySem.W.kitAny K t (Ts.map Value.type) = some b ∧ Q (.bl b) H
section
variable {X : Cx}
end
/-! ### l[-k] = v -/
section
variable {prog : Program} {w : World} {A : Around} {E : Value → Shared → Prop} {s : Shared}
end
def sLPut (td ty tv : TE) : TS := fun D σ H => tv σ H fun v H1 => td σ H1 fun x H2 => ty σ H2 fun y H3 => ∃ a xs i j, x = .ref a ∧ y = .int i ∧ H3 a = some (.lst xs) ∧ ixN xs.length i = some j ∧ (-1000 ≤ i ∧ i ≤ 1000) ∧ D.nx σ (upd H3 a (.lst (xs.set j v)))
section
variable {X : Cx} {o i value : Expr} {pos pos' : Pos} {td ty tv : TE}
end
/-! ### a try whose body lets nothing out -/
section
variable {X : Cx} {st : Stmt} {hs : List ExceptHandler} {pos : Pos} {tb : TS}
end
end L2

namespace L2
open PySem PySem.Spec PyProof.Rows
/-! ### zip of two lists, or of two tuples -/
def iZipB (K : PySem.W.Frag) (ta : TA) : TI := fun σ H R => ta σ H fun vs H1 => ∃ p q xs ys, vs = [.ref p, .ref q] ∧ xs.length = ys.length ∧ ((SqL K H1 p xs ∧ SqL K H1 q ys ∧ R (Itzl K p q xs ys) H1) ∨ (SqT K H1 p xs ∧ SqT K H1 q ys ∧ R (Itz K p q xs ys) H1))
section
variable {X : Cx}
/-! ### l != [] -/
abbrev rNeNil (K : PySem.W.Frag) : R2 := fun x y H Q => ∃ a b xs, x = .ref a ∧ y = .ref b ∧ SqL K H a xs ∧ SqL K H b [] ∧ Q (.bl (!decide (xs = []))) H
theorem op_neNil (hu : X.A.units + 64 < cLine) : OpR X (compareOp .NotEq) (rNeNil X.K) := by
  intro pins s σ H x y v u Q I rx ry h
  obtain ⟨a, b, xs, rfl, rfl, ha, hb, q⟩ := h
  by_cases e : xs = []
  · subst e
    exact op_neL hu pins s σ H _ _ v u Q I rx ry ⟨a, b, [], [], rfl, rfl, ha, hb, ⟨rfl, rfl, rfl⟩, q⟩
  · cases rx
    cases ry
    obtain ⟨us, r1, p1, _⟩ := I.list ha
    obtain ⟨ws, r2, p2, _⟩ := I.list hb
    cases r2
    have e1 := r1.length
    have e2 : xs.length ≠ 0 := fun z => e (List.eq_nil_of_length_eq_zero z)
    rw [decide_eq_false e] at q
    exact PySem.SeqAt.RcNeAt.lists_lengths p1.isList p2.isList (by simp; intro z; rw [z] at e1; exact e2 e1) (by omega) X.prog X.w X.xe _ ⟨.bl true, H, I, rfl, q⟩
end
/-! ### values in the heap, all through -/
mutual
inductive DatS (H : Hp) : V → PyData → Prop
  | int (i : Int) : DatS H (.int i) (.int i)
  | str (x : Str) : DatS H (.str x) (.str x)
  | lst {a : Addr} {xs : List V} {ds : List PyData} : H a = some (.lst xs) → DatSs H xs ds → DatS H (.ref a) (.list ds)
  | tup {a : Addr} {xs : List V} {ds : List PyData} : H a = some (.tup xs) → DatSs H xs ds → DatS H (.ref a) (.tuple ds)
inductive DatSs (H : Hp) : List V → List PyData → Prop
  | nil : DatSs H [] []
  | cons {x : V} {d : PyData} {xs : List V} {ds : List PyData} : DatS H x d → DatSs H xs ds → DatSs H (x :: xs) (d :: ds)
end
end L2

namespace L2
open PySem
end L2

namespace L2
open PySem
abbrev r_mt_extend : RM := rExtend
end L2

namespace L2
open PySem PySem.Spec PyProof.Rows
abbrev r_mt_clear : RM := rClear
abbrev cSumL (K : PySem.W.Frag) : RC := fun xs H Q => ∃ a, ∃ ns : List Int, xs = [.ref a] ∧ SqL K H a (ns.map V.int) ∧ Q (.int ns.sum) H
abbrev cMaxL (K : PySem.W.Frag) : RC := fun xs H Q => ∃ a, ∃ ns : List Int, xs = [.ref a] ∧ SqL K H a (ns.map V.int) ∧ 0 < ns.length ∧ ∀ M, M ∈ ns → (∀ x ∈ ns, x ≤ M) → Q (.int M) H
section
variable {X : Cx}
theorem call_sumL (hc : X.calm = true) : CallR X (.builtin "sum") (cSumL X.K) := by
  intro pins s σ H xs us Q I r h
  obtain ⟨a, ns, rfl, hq, q⟩ := h
  obtain ⟨u, rfl, r1⟩ := vals1 r
  cases r1
  obtain ⟨its, rv, p, hz⟩ := I.list hq
  have hi : IntsAre its ns := intsAre_of rv
  obtain ⟨ys, hx⟩ := hi.allInts.items
  have hl' : s.heap.IsList a (intItems ys) := hx ▸ p.isList
  refine sum_intListG (I.ok.hd hc) hl' fun h' tk t' hk => ?_
  have e1 : ns = ys.toList.map (·.1) := by
    rw [← nums_intItems, ← hx]
    exact (show numsOf its.toArray.toList = ns from hi.numsOf).symm
  have e2 : preSum (numAt ys) ys.size = ns.sum := by
    rw [preSum_eq, List.take_of_length_le (by simp), e1]
  rw [e2]
  exact ⟨.int ns.sum, H, I.kept hk, ⟨_, rfl⟩, q⟩
end
end L2

namespace L2
open PySem PySem.Spec PyProof.Rows
abbrev cMax2 : RC := fun xs H Q => ∃ i j, xs = [.int i, .int j] ∧ Q (.int (if j > i then j else i)) H
/-! ### in, not in, of things that hold others -/
/-- x among the items of a list or a tuple, all read whole -/
abbrev rInA (K : PySem.W.Frag) (neg : Bool) : R2 := fun x y H Q => ∃ (p : Addr) (xs : List V) (d : PyData) (ds : List PyData), y = .ref p ∧ (SqL K H p xs ∨ SqT K H p xs) ∧ Dat K H x d ∧ DatAll K H xs ds ∧ (plainD d = true ∧ d.depth ≤ 50 ∧ ∀ e ∈ ds, plainD e = true) ∧
  ∀ b : Bool, (b = true ↔ d ∈ ds) → Q (.bl (if neg then !b else b)) H
section
variable {X : Cx}
open Classical in
/-- whether a value is read as d -/
noncomputable def hitD (K : PySem.W.Frag) (H : Hp) (d : PyData) (u : Value) : Bool := decide (∃ x, RelV x u ∧ Dat K H x d)
open Classical in
end
/-! ### sorted(list of rows) -/
abbrev cSrtL (K : PySem.W.Frag) : RC := fun vs H Q => ∃ r xs its, vs = [.ref r] ∧ SqL K H r xs ∧ Paired (PrAt H) xs its ∧ (its.map (·.1)).Nodup ∧ its.length < 64 ∧
  ∀ l ys srt H', Same H H' → H l = none → H' l = some (.lst ys) → Paired (PrAt H') ys srt → Rising srt → srt.Perm its → Q (.ref l) H'
section
variable {X : Cx}
end
/-! ### numbers of the script: how large they may be -/
def Cb (i : Int) : Prop := Builtin.Int.intBits i ≤ 1048576
section
variable {X : Cx}
end
open Att PySem.W PySem.Calls in
/-- as walk_of; the law is told besides how large the script's numbers may be -/
theorem walk_ofB {l : PySem.W.OpenLaw} {n k : Nat} {q : Program} {loose : List Str} {XP : (Str → Option Value) → Heap → Prop} {YP : World → Heap → Prop} {d : DefRec} {K : Params → PySem.W.Frag} {CX : World → CXT} {sp : World → Sp} {x : Str}
    (hn : l.most = some n) (hn2 : n ≤ sizeLine) (hdf : d.params.defaults = []) (hr : Room k callerA) (hY : ∀ (w : World) (h : Heap), YP w h → (K w.params).In h)
    (F : ∀ (w : World) (mg : Str → Option Value) (fa : Addr) (h : Heap), (K w.params).In h → h.Ns mainGlobals mg → mg d.name = some (.ref fa) →
      ∃ fd : FuncData, (∀ (s : Shared) (u : Value), BindsTo s fd ⟨[u], []⟩ [(x, u)]) ∧
        ∀ base : Heap, (K w.params).In base → base.Ns mainGlobals mg → FnOk l.prog w (K w.params) mg base (CX w) k fa fd [x] (sp w))
    (hsp : ∀ (w : World) (H : Hp) (a : Addr) (ns : List Int), ns.length ≤ n → (∀ i ∈ ns, Cb i) → Only H → SqL (K w.params) H a (ns.map V.int) → sp w [.ref a] H (fun v _ => v = .bl true) fun _ _ _ => False)
    (hCX : ∀ (w : World) (H : Hp) (s : Shared) (e : Value) (s' : Shared), CX w [] H s (fun _ _ _ => False) e s' → False) :
    PySem.W.WalkO q loose XP YP l.row.toRowW d [] (fun f vs => PySem.call f vs) := by
  intro w s₀ s₁ mg mb G Y fa o pm cd doc dV kV ho hd hcd hD hmg hg args vals as hpre hlay hrd hwl hlo
  obtain rfl : dV = .none := Dflts.none hD hdf
  obtain rfl : kV = .none := Dflts.noKw hD
  obtain ⟨a, vs, ns, rfl, rfl, hobj, hints, hlen⟩ := script_of hn hpre hwl
  have hb : ∀ i ∈ ns, Cb i := fun i hi => intBits_le_of_layable (layable_of_mem (lay0_int (layableW_item (layableW_arg hlay _ List.mem_cons_self) _ (List.mem_map.mpr ⟨i, hi, rfl⟩))) List.mem_cons_self)
  have KX := hY w _ Y
  obtain ⟨fd, hbd, hF⟩ := F w mg fa _ KX G.T.g hmg
  refine enter_call (codeAny_mono (law_call KX G.T.g G.T.b G.T.builtins G.T.nolimit hg hobj hints (Nat.le_trans hlen hn2) hr hF hbd (fun H hO hS => hsp w H a ns hlen hb hO hS) fun H e s' => hCX w H s₁ e s') fun r s' hq => ?_)
  obtain ⟨rfl, h2, h3, h4⟩ := hq
  exact ⟨.inl ⟨.bool true, .bool true, [], rfl, fun _ => rfl, .bool true, post_true l _, fun _ => ⟨List.Pairwise.nil, fun _ hm => (nomatch hm)⟩⟩, h2, h3, h4⟩
/-- .. where exceptions may fly within -/
theorem walk_ofXB {l : PySem.W.OpenLaw} {n k : Nat} {q : Program} {loose : List Str} {XP : (Str → Option Value) → Heap → Prop} {YP : World → Heap → Prop} {d : DefRec} {K : Params → PySem.W.Frag} {sp : PySem.W.Frag → Sp} {x : Str}
    (hn : l.most = some n) (hn2 : n ≤ sizeLine) (hdf : d.params.defaults = []) (hr : Room k callerA) (hY : ∀ (w : World) (h : Heap), YP w h → (K w.params).In h)
    (F : ∀ (w : World) (mg : Str → Option Value) (fa : Addr) (h : Heap), (K w.params).In h → h.Ns mainGlobals mg → mg d.name = some (.ref fa) →
      ∃ fd : FuncData, (∀ (s : Shared) (u : Value), BindsTo s fd ⟨[u], []⟩ [(x, u)]) ∧
        ∀ base : Heap, (K w.params).In base → base.Ns mainGlobals mg → FnOk l.prog w (K w.params) mg base (CX1 l.prog w) k fa fd [x] (sp (K w.params)))
    (hsp : ∀ (K : PySem.W.Frag) (H : Hp) (a : Addr) (ns : List Int), ns.length ≤ n → (∀ i ∈ ns, Cb i) → Only H → SqL K H a (ns.map V.int) → sp K [.ref a] H (fun v _ => v = .bl true) fun _ _ _ => False) :
    PySem.W.WalkO q loose XP YP l.row.toRowW d [] (fun f vs => PySem.call f vs) :=
  walk_ofB (K := K) (CX := fun w => CX1 l.prog w) (sp := fun w => sp (K w.params)) hn hn2 hdf hr hY F (fun w H a ns h1 hb h2 h3 => hsp (K w.params) H a ns h1 hb h2 h3) fun _ _ _ _ _ z => by
    obtain ⟨_, _, _, _, _, _, _, _, _, y⟩ := z
    exact y
end L2

namespace L2
open PySem PySem.Spec PyProof.Rows
/-! ### walking the keys of a dict of numbers or texts -/
def Itk (a : Addr) (o : Obj) (kvs : List (Key × V)) : It :=
  ⟨fun i H => H a = some (.frz o (.dK kvs)) ∧ i < kvs.length, fun i H x H' => H' = H ∧ ∃ k v, kvs[i]? = some (k, v) ∧ x = kV k, fun i H => H a = some (.frz o (.dK kvs)) ∧ kvs.length ≤ i⟩
theorem keyIs_rel {k : Key} {u : Value} (h : keyIs k u) : RelV (kV k) u := by
  rcases keyIs_shape h with ⟨i, t, rfl, rfl⟩ | ⟨x, t, rfl, rfl⟩
  · exact ⟨t, rfl⟩
  · exact ⟨t, rfl⟩
section
variable {X : Cx}
theorem pairs_get {P : Program} {w : World} : ∀ {es : List DictEntry} {vs : List (Key × Value)} {i : Nat} {e : DictEntry}, Pairs (mixKind P w) es vs → es[i]? = some e → ∃ k u, vs[i]? = some (k, u) ∧ keyIs k e.key = true
  | _, _, i, _, .nil, h => by simp at h
  | _, _, 0, _, .cons h1 _ _, h => by
    simp only [List.getElem?_cons_zero, Option.some.injEq] at h
    subst h
    exact ⟨_, _, rfl, h1⟩
  | _, _, i + 1, _, .cons _ _ t, h => by
    obtain ⟨k, u, a, b⟩ := pairs_get (i := i) t (by simpa using h)
    exact ⟨k, u, by simpa using a, b⟩
theorem frz_rawK {pins : List (Addr × Obj)} {σ : St} {H : Hp} {s : Shared} {a : Addr} {o : Obj} {kvs : List (Key × V)} (I : Inv X pins σ H s) (ha : H a = some (.frz o (.dK kvs))) :
    (a == sysModules) = false ∧ ∃ (es : Array DictEntry) (ep : Nat), o.data = .dict es ep ∧ RawD s.heap a es ep ∧ es.size = kvs.length ∧ ∀ (i : Nat) (e : DictEntry), es[i]? = some e → ∃ (k : Key) (v : V), kvs[i]? = some (k, v) ∧ RelV (kV k) e.key := by
  obtain ⟨hg, hz, lo, vs, kv, o', es, ep, ho, hx, hd, hk, pr, hn⟩ := (show ObjOk X.prog X.w H s.heap a (.frz o (.dK kvs)) from I.hok a _ ha)
  rw [hg] at ho
  cases ho
  have lx : kvs.length = vs.length := Paired.length kv
  have ls := pr.length
  rw [Array.length_toList] at ls
  refine ⟨lo, es, ep, hd, ⟨o, hg, hx, hd⟩, by omega, fun i e hi => ?_⟩
  obtain ⟨k, u, h1, h2⟩ := pairs_get pr (by rw [Array.getElem?_toList]; exact hi)
  have hl := (List.getElem?_eq_some_iff.mp h1).1
  have hk' : kvs[i]? = some kvs[i] := List.getElem?_eq_getElem (by omega)
  have rl := paired_get kv hk' h1
  refine ⟨kvs[i].1, kvs[i].2, hk', ?_⟩
  rw [rl.1]
  exact keyIs_rel h2
theorem turn_dictK {P : Program} {w : World} {K : PySem.W.Frag} {tg : Expr} {a it : Addr} {o : Obj} {kvs : List (Key × V)} {es : Array DictEntry} {ep : Nat} (hd : o.data = .dict es ep) :
    Turn P w K tg (Itk a o kvs) [it] it (fun i h => h.IsKeyIter it a i es.size ep) where
  mem := by simp
  obj := fun i h st b hb => by
    have e : b = it := by simpa using hb
    subst e
    obtain ⟨o, e, c, d⟩ := st
    exact ⟨o, e, fun v z => by rw [d] at z; cases z⟩
  keep := fun i h h' st k => st.at fun o e => k it (by simp) o e
  item := by
    intro X hP hw hK hc i pins s σ H E I hf st hg
    subst hP hw hK
    obtain ⟨ha, hi⟩ := hg
    obtain ⟨lo, es', ep', hd', raw, hs, key⟩ := frz_rawK I ha
    rw [hd] at hd'
    cases hd'
    obtain ⟨f0, f1, f2, f3, f4, f5⟩ := hf it (by simp)
    have hx : es[i]? = some es[i] := Array.getElem?_eq_getElem (by omega)
    obtain ⟨k, v, hk, rk⟩ := key i _ hx
    refine raw_item st raw hx fun h' st' sb => ?_
    have I1 : Inv X pins σ H { s with heap := h' } := I.turned (t' := s.toks) (fun b o hb e => (sb.2 b hb).trans e) f0 f1 f3 f4 f5
    obtain ⟨o', e, c, d⟩ := id st'
    exact ⟨_, rfl, go_of (s := { s with heap := h' }) e c d (by decide) ⟨kV k, H, I1, rk, ⟨rfl, k, v, hk, rfl⟩, st', fun b hb => (hf b hb).1⟩⟩
  done := by
    intro X hP hw hK hc i pins s σ H E I hf st hg
    subst hP hw hK
    obtain ⟨ha, hi⟩ := hg
    obtain ⟨lo, es', ep', hd', raw, hs, key⟩ := frz_rawK I ha
    rw [hd] at hd'
    cases hd'
    obtain ⟨f0, f1, f2, f3, f4, f5⟩ := hf it (by simp)
    exact raw_end (I.ok.hd hc) st raw (by omega) fun h' eb => ⟨rfl, I.turned (t' := s.toks) (fun b o hb e => eb b o hb e) f0 f1 f3 f4 f5⟩
  self := fun _ _ _ _ _ st h => wpAny_pyIter_keyiter st h
def iDK (tl : TE) : TI := fun σ H R => tl σ H fun x H1 => ∃ a o kvs, x = .ref a ∧ H1 a = some (.frz o (.dK kvs)) ∧ R (Itk a o kvs) H1
theorem pi_dictK {tg l : Expr} {tl : TE} (hl : PE X l tl) : PI X tg l (iDK tl) := by
  intro pins s σ H R I h
  refine thn (hl pins s σ H _ I h) fun v s1 ⟨x, H1, I1, r1, q1⟩ => ?_
  obtain ⟨a, o, kvs, e, ha, q⟩ := q1
  subst e
  cases r1
  obtain ⟨lo, es, ep, hd, raw, hs, key⟩ := frz_rawK I1 ha
  refine raw_iter lo raw ?_
  refine ⟨s1.heap.objs.size, [s1.heap.objs.size], _, _, H1, rfl, I1.kept (t' := s1.toks) fun b o e => Heap.get?_push_of_some _ e, turn_dictK hd, ⟨_, Heap.get?_push_size _ rfl, rfl, rfl⟩, fun b hb => ?_, q⟩
  have e : b = s1.heap.objs.size := by simpa using hb
  subst e
  exact I1.fpOk (Nat.le_refl _) (I1.hok.fresh (Nat.le_refl _))
/-- the object at a is known while t runs -/
def tFrzK (t : TS) : TS := fun D σ H => ∃ a u0 kvs, H a = some u0 ∧ (u0 = .dK kvs ∨ ∃ o, u0 = .frz o (.dK kvs)) ∧ ∀ o, t
  ⟨fun σ' H' => H' a = some (.frz o (.dK kvs)) ∧ D.nx σ' (upd H' a u0), fun v H' => H' a = some (.frz o (.dK kvs)) ∧ D.rt v (upd H' a u0), fun σ' H' => H' a = some (.frz o (.dK kvs)) ∧ D.bk σ' (upd H' a u0), fun σ' H' => H' a = some (.frz o (.dK kvs)) ∧ D.ct σ' (upd H' a u0)⟩ σ (upd H a (.frz o (.dK kvs)))
theorem ObjOk.upd_dK {P : Program} {w : World} {H : Hp} {h : Heap} {a : Addr} {kvs : List (Key × V)} {u u' : HO} (ha : H a = some u) (hp : Plain u) (x : ObjOk P w H h a (.dK kvs)) : ObjOk P w (upd H a u') h a (.dK kvs) := by
  refine x.stay (fun _ _ _ r => r) (fun c r => ?_) fun c xs r => ?_
  · rw [upd_ne fun z => by subst z; rw [ha] at r; cases r; exact hp]; exact r
  · rw [upd_ne fun z => by subst z; rw [ha] at r; cases r; exact hp]; exact r
theorem ps_frzK {st : Stmt} {t : TS} (hst : PS X st t) : PS X st (tFrzK t) := by
  rintro pins s σ H D I ⟨a, u0, kvs, ha, hu, h⟩
  have pl : Plain u0 := by rcases hu with rfl | ⟨o, rfl⟩ <;> trivial
  -- the object as it stands
  have ob : ∃ o, s.heap.get? a = some o ∧ (u0 = .dK kvs ∨ u0 = .frz o (.dK kvs)) := by
    rcases hu with rfl | ⟨o, rfl⟩
    · obtain ⟨hz, lo, xs, rel, o, es, ep, ho, _⟩ := (show ObjOk X.prog X.w H s.heap a (.dK kvs) from I.hok a _ ha)
      exact ⟨o, ho, .inl rfl⟩
    · exact ⟨o, (show ObjOk X.prog X.w H s.heap a (.frz o (.dK kvs)) from I.hok a _ ha).1, .inr rfl⟩
  obtain ⟨o, ho, hu⟩ := ob
  have I1 : Inv X pins σ (upd H a (.frz o (.dK kvs))) s := by
    rcases hu with rfl | rfl
    · refine I.relab ha trivial (fun o' z q => ?_) ⟨ho, ObjOk.upd_dK ha trivial (I.hok a _ ha)⟩
      have := I.base.frzs a o' z q
      rw [ha] at this; cases this
    · have e : upd H a (.frz o (.dK kvs)) = H := by
        funext b; unfold upd; split
        · next z => rw [z]; exact ha.symm
        · rfl
      rw [e]; exact I
  have back : ∀ {σ' : St} {H' : Hp} {s' : Shared}, Inv X pins σ' H' s' → H' a = some (.frz o (.dK kvs)) → Inv X pins σ' (upd H' a u0) s' := fun {σ' H' s'} I' ha' => by
    rcases hu with rfl | rfl
    · refine I'.relab ha' trivial (fun o' z q => ?_) (ObjOk.upd_dK ha' trivial (show ObjOk X.prog X.w H' s'.heap a (.frz o (.dK kvs)) from I'.hok a _ ha').2)
      have := I.base.frzs a o' z q
      rw [ha] at this; cases this
    · have e : upd H' a (.frz o (.dK kvs)) = H' := by
        funext b; unfold upd; split
        · next z => rw [z]; exact ha'.symm
        · rfl
      rw [e]; exact I'
  refine thn (hst pins s σ _ _ I1 (h o)) fun f s' q => ?_
  cases f with
  | next => obtain ⟨σ', H', I', ha', q⟩ := q; exact ⟨σ', _, back I' ha', q⟩
  | brk => obtain ⟨σ', H', I', ha', q⟩ := q; exact ⟨σ', _, back I' ha', q⟩
  | cont => obtain ⟨σ', H', I', ha', q⟩ := q; exact ⟨σ', _, back I' ha', q⟩
  | ret v => obtain ⟨x, σ', H', I', r, ha', q⟩ := q; exact ⟨x, σ', _, back I' ha', r, q⟩
end
section
variable {σ : St} {H : Hp} {nx : St → Hp → Prop} {B : V → St → Hp → (St → Hp → Prop) → Prop}
end
end L2

namespace L2
open PySem PySem.Spec PyProof.Rows
/-! ### sorted(list of places) -/
def PcAt (H : Hp) (v : V) (q : Pl) : Prop := ∃ p, v = .ref p ∧ H p = some (.tup [.str q.1, .int q.2])
abbrev cSrtP (K : PySem.W.Frag) : RC := fun vs H Q => ∃ r xs its, vs = [.ref r] ∧ SqL K H r xs ∧ Paired (PcAt H) xs its ∧ its.Nodup ∧ its.length < 64 ∧
  ∀ l ys srt H', Same H H' → H l = none → H' l = some (.lst ys) → Paired (PcAt H') ys srt → srt.Pairwise (fun a b => placeLt a b = true) → srt.Perm its → Q (.ref l) H'
section
variable {X : Cx}
end
end L2

namespace L2
open PySem PySem.Spec PyProof.Rows
/-! dicts by tuples: pop, setdefault, len, list -/
section
variable {K : Type} [DecidableEq K]
def dropH (xs : List (K × Addr × Value)) (k : K) : List (K × Addr × Value) := xs.filter fun x => decide (x.1 ≠ k)
theorem dropH_none : ∀ {xs : List (K × Addr × Value)} {k : K}, k ∉ xs.map (·.1) → dropH xs k = xs := fun {xs k} h => List.filter_eq_self.mpr fun x hx => decide_eq_true fun e => h (List.mem_map.mpr ⟨x, hx, e⟩)
theorem eraseH : ∀ {xs : List (K × Addr × Value)} {j : Nat} {k : K} {p : Addr × Value}, (xs.map (·.1)).Nodup → xs[j]? = some (k, p) → xs.eraseIdx j = dropH xs k
  | [], j, k, p, _, h => by simp at h
  | x :: r, 0, k, p, n, h => by
    rw [List.map_cons, List.nodup_cons] at n
    simp only [List.getElem?_cons_zero, Option.some.injEq] at h
    subst h
    show r = List.filter _ ((k, p) :: r)
    rw [List.filter_cons_of_neg (by simp)]
    exact (dropH_none n.1).symm
  | x :: r, j + 1, k, p, n, h => by
    rw [List.map_cons, List.nodup_cons] at n
    simp only [List.getElem?_cons_succ] at h
    have m : k ∈ r.map (·.1) := List.mem_map.mpr ⟨(k, p), List.mem_of_getElem? h, rfl⟩
    have ne : x.1 ≠ k := fun e => n.1 (e ▸ m)
    show x :: r.eraseIdx j = List.filter _ (x :: r)
    rw [List.filter_cons_of_pos (by simp [ne]), eraseH n.2 h]
    rfl
end
theorem erase_map {α β : Type} (f : α → β) : ∀ (l : List α) (j : Nat), (l.map f).eraseIdx j = (l.eraseIdx j).map f
  | [], _ => rfl
  | _ :: _, 0 => rfl
  | a :: l, j + 1 => by rw [List.map_cons, List.eraseIdx_cons_succ, List.eraseIdx_cons_succ, List.map_cons, erase_map f l j]
theorem KT.dropT {H : Hp} {kvs : List (List Key × V)} {xs : List (List Key × Addr × Value)} (r : KT H kvs xs) (k : List Key) : KT H (dropK kvs k) (dropH xs k) := by
  induction r with
  | nil => exact .nil
  | @cons p q ps qs h t ih =>
    unfold dropK dropH
    by_cases e : p.1 = k
    · rw [List.filter_cons_of_neg (by simp [e]), List.filter_cons_of_neg (by simp [← h.1, e])]
      exact ih
    · rw [List.filter_cons_of_pos (by simp [e]), List.filter_cons_of_pos (by simp [← h.1, e])]
      exact .cons h ih
section
variable {prog : Program} {w : World} {K : Type} [DecidableEq K] {knd : HeapKind prog w K} {A : Around} {E : Value → Shared → Prop} {s : Shared} {d a : Addr} {xs : List (K × Addr × Value)} {k : K}
theorem takeOut_heap {p : Addr × Value} {Q : Option DictEntry → Shared → Prop} (hu : knd.room A) (hkey : knd.is s.heap k a) (hm : s.heap.DictOfH knd d xs) (hp : atKey xs k = some p)
    (hsome : ∀ e : DictEntry, e.val = p.2 → ∀ h', h'.DictOfH knd d (dropH xs k) → Heap.SameBut d s.heap h' → Q (some e) { s with heap := h', toks := s.toks + knd.draws k }) (hsz : xs.length ≤ sizeLine) :
    wpAny (model prog w) A (Builtin.Dict.takeOut d (.ref a)) Q E s := by
  obtain ⟨o, es, ep, ho, hc, hd, he, his, hn⟩ := hm
  have hes : es.size = xs.length := size_of_entries he
  unfold Builtin.Dict.takeOut
  try with_reducible refine wpAny_holding ?_
  refine wpAny_bind (knd.pyHash hu hkey ?_)
  refine wpAny_bind (wpAny_dictFind_heap (s := { s with toks := s.toks + knd.draws k }) hu hkey ho hd he his hn ?_ ?_)
  · intro hno
    rw [atKey_none_of_get hno] at hp
    cases hp
  · intro j q hj
    have e1 := atKey_of_get hn hj
    rw [hp] at e1
    cases e1
    refine wpAny_bind (wpAny_dictEntries (s := { s with toks := s.toks + knd.draws k }) ho hd ?_)
    rw [entry_at he j, hj]
    refine wpAny_bind (wpAny_updateDictKeys (hz := by omega) (s := { s with toks := s.toks + knd.draws k }) ho hd (wpAny_pure (hsome (entryOfKey knd (k, p)) rfl _ ⟨_, _, ep + 1, Heap.get?_update_self _ ho (Obj.isFreed_of_dict (Obj.data_mapDictKeys hd _)), hc.mapDictKeys _, Obj.data_mapDictKeys hd _, ?_, ?_, ?_⟩ (Heap.SameBut.update ..))))
    · rw [← eraseH hn hj, ← erase_map, ← he]
      obtain ⟨l⟩ := es
      simp
    · intro x hx
      exact knd.keeps (his x (List.mem_filter.mp hx).1) ho hd (Heap.SameBut.update ..)
    · exact List.Nodup.sublist (List.Sublist.map _ List.filter_sublist) hn
theorem meetsH_pop {d a : Addr} : MeetsIn prog w (Builtin.«dict.pop» ⟨[.ref d, .ref a], []⟩) (fun A R s => knd.room A.in1 ∧ ∃ k xs p, knd.is s.heap k a ∧ s.heap.DictOfH knd d xs ∧ xs.length ≤ sizeLine ∧ atKey xs k = some p ∧
      ∀ h', h'.DictOfH knd d (dropH xs k) → Heap.SameBut d s.heap h' → R (.ok (.ret p.2)) { s with heap := h', toks := s.toks + knd.draws k }) :=
  .of_wp fun A R s ⟨hu, k, xs, p, hkey, hm, hz, hp, h⟩ => by
    unfold Builtin.«dict.pop»
    refine wpAny_bind ?_
    unfold Builtin.Dict.keyAndDefault
    refine wpAny_bind (wpAny_notOrdered_dict hm.typeIs ?_)
    show wpAny _ _ (pure (d, Value.ref a, none)) _ _ s
    refine wpAny_pure ?_
    have kp : (keyPart (Value.ref a)).isSome = false := rfl
    simp only [kp, Bool.false_eq_true, if_false]
    obtain ⟨o, es, ep, ho, hc, hd, he, his, hn⟩ := id hm
    refine wpAny_bind (wpAny_dictEntries ho hd ?_)
    refine wpAny_bind (wpAny_pure ?_)
    have ne : es.isEmpty = false := by
      have l1 := size_of_entries he
      cases xs with
      | nil => simp [atKey] at hp
      | cons x r =>
        rw [Array.isEmpty_eq_false_iff]
        intro z
        rw [z] at l1
        simp at l1
    simp only [ne, Bool.false_eq_true, if_false]
    refine wpAny_bind (takeOut_heap hu hkey hm hp (fun e ev h' hm' hs' => ?_) hz)
    simp only [Option.isNone_some, Bool.false_eq_true, if_false]
    exact wpAny_bind (wpAny_letGo (wpAny_pure ⟨e.val, rfl, by rw [ev]; exact h h' hm' hs'⟩))
end
section
variable {X : Cx} {pins : List (Addr × Obj)} {σ : St} {H : Hp} {s : Shared} {a b : Addr} {kvs : List (List Key × V)} {k : List Key} {A : Around} {E : Value → Shared → Prop}
theorem d_popT {v : V} {Q : Value → Shared → Prop} (hu : A.units + 1 < cLine) (I : Inv X pins σ H s) (e : H a = some (.dT kvs)) (eb : H b = some (.tup (k.map kV))) (l : valV kvs k = some v)
    (h : ∀ w' s', Inv X pins σ (upd H a (.dT (dropK kvs k))) s' → RelV v w' → Q w' s') : wpAny (model X.prog X.w) A (call (.builtin "dict.pop") [.ref a, .ref b]) Q E s := by
  obtain ⟨z, hd, xs, rel, dd⟩ := dt_of I.hok e
  have hz : xs.length ≤ sizeLine := by rw [← Paired.length rel]; exact z
  have rv := rel.val k
  rw [l] at rv
  obtain ⟨w', hw, rw'⟩ := RelO.some_of rv
  obtain ⟨p, hp, rfl⟩ := Option.map_eq_some_iff.mp hw
  refine call_meetsIn PySem.F.slot_dict_pop dd.typeIs PySem.F.entry_dict_pop (PySem.F.args_dict_pop_2 _ _) (meetsH_pop (knd := tupleKind (mixKind X.prog X.w))) ⟨tupleKind_room_in1 hu, k, xs, p, key_of I.hok eb, dd, hz, hp, fun h' dd' hs => h _ _ ?_ rw'⟩
  obtain ⟨q, es, ep, hq, h2, h3, h4, _, h5⟩ := dd'
  refine d_write I (by rw [e]; exact True.intro) hs ⟨q, hq⟩ ⟨Nat.le_trans (dropK_le kvs k) z, hd, _, (rel.dropT k).keeps fun c ys ec => ?_, q, es, ep, hq, h2, h3, h4, h5⟩
  rw [upd_ne (ne_of ec e (fun z => nomatch z))]
  exact ec
end
def tDPopT (td ty : TE) : TE := fun σ H Q => td σ H fun x H1 => ∃ a, x = .ref a ∧ IsD H1 a ∧ ty σ H1 fun y H2 => ∃ kvs k b v, H2 a = some (.dT kvs) ∧ y = .ref b ∧ H2 b = some (.tup (k.map kV)) ∧ valV kvs k = some v ∧ Q v (upd H2 a (.dT (dropK kvs k)))
def tDSetD (td ty tx : TE) : TE := fun σ H Q => td σ H fun x H1 => ∃ a, x = .ref a ∧ IsD H1 a ∧ ty σ H1 fun y H2 => tx σ H2 fun z H3 => ∃ kvs k b, H3 a = some (.dT kvs) ∧ y = .ref b ∧ H3 b = some (.tup (k.map kV)) ∧ kvs.length < sizeLine ∧
  (∀ v, valV kvs k = some v → Q v H3) ∧ (valV kvs k = none → Q z (upd H3 a (.dT (putK kvs k z))))
section
variable {X : Cx} {o e f : Expr} {apos cpos : Pos} {td ty tx : TE}
theorem pe_dpopT (hu : X.A.units + 1 < cLine) (ho : PE X o td) (he : PE X e ty) (m : M1 X o "pop" apos e cpos) : PE X (.Call (.Attribute o "pop" apos) [e] [] cpos) (tDPopT td ty) := by
  intro pins s σ H Q I h
  refine wpAny_Call_method m.base m.few m.line PySem.F.plainAttrs_dict PySem.F.slot_dict_pop PySem.F.type_dict_pop (thn (ho pins s σ H _ I h) fun u s1 ⟨x, H1, I1, rx, a, ex, d, q1⟩ => ?_)
  subst ex; obtain rfl : u = Value.ref a := rx
  obtain ⟨t1, t2, _⟩ := isD_at I1 d
  refine ⟨t1, t2, ?_⟩; rw [m.trees]
  refine Calls.callWith_builtin rfl (Calls.evalArgs_plain (Calls.spliced_cons (thn (he pins s1 σ H1 _ I1 q1) fun iv s2 ⟨y, H2, I2, ry, kvs, k, b, v, ea, ey, eb, l, q2⟩ => Calls.spliced_nil ?_)))
  subst ey
  cases (show iv = Value.ref b from ry)
  exact d_popT hu I2 ea eb l fun w' s3 I3 rw' => ⟨v, _, I3, rw', q2⟩
end
/-! list.insert, list.remove -/
abbrev r_mt_insert : RM := fun x vs H Q => ∃ (l : Addr) (xs : List V) (k : Nat) (y : V), x = .ref l ∧ vs = [.int k, y] ∧ H l = some (.lst xs) ∧ k ≤ xs.length ∧ xs.length < 1000000 ∧ Q .non (upd H l (.lst (xs.take k ++ y :: xs.drop k)))
abbrev r_mt_remove : RM := fun x vs H Q => ∃ (l : Addr) (ns : List Int) (i : Int), x = .ref l ∧ vs = [.int i] ∧ H l = some (.lst (ns.map V.int)) ∧ i ∈ ns ∧ Q .non (upd H l (.lst ((ns.erase i).map V.int)))
theorem Vals.takeV : ∀ (k : Nat) {xs : List V} {us : List Value}, Vals xs us → Vals (xs.take k) (us.take k)
  | 0, _, _, _ => by rw [List.take_zero, List.take_zero]; exact .nil
  | _ + 1, _, _, .nil => .nil
  | k + 1, _, _, .cons h r => .cons h (Vals.takeV k r)
theorem Vals.dropV : ∀ (k : Nat) {xs : List V} {us : List Value}, Vals xs us → Vals (xs.drop k) (us.drop k)
  | 0, _, _, h => h
  | _ + 1, _, _, .nil => .nil
  | k + 1, _, _, .cons _ r => Vals.dropV k r
section
variable {X : Cx}
theorem mt_insert : MtM X "list.insert" r_mt_insert := by
  intro pins s σ H x vs v us Q I rx rv h
  obtain ⟨l, xs, k, y, rfl, rfl, hH, hk, hz, q⟩ := h
  cases rx
  cases rv with
  | cons r1 rr =>
    obtain ⟨u, rfl, ru⟩ := (show Vals [y] _ from rr).one
    obtain ⟨t, rfl⟩ := r1
    obtain ⟨z, its, n, r, hl, e⟩ := I.lstM hH
    have h1 : (1000000 : Nat) < sizeLine := by rw [sizeLine_eq]; decide
    obtain ⟨i, hi⟩ : ∃ i : Int, i = k := ⟨_, rfl⟩
    rw [← hi]
    have hc : ¬ (!Builtin.List.listFitsIndex i) = true := by rw [fitsIndex_both (by omega) (by omega)]; exact Bool.false_ne_true
    have hs : its.toArray.size ≤ sizeLine := by rw [List.size_toArray]; omega
    have M := AutoSeq1.list_insert_list_int_val_1 l its.toArray n i t u hc hs
    refine call_meets F.slot_list_insert ⟨_, e, rfl⟩ F.entry_list_insert (F.args_list_insert_3 _ _ _) M ⟨e, ?_⟩
    refine ⟨.non, _, I.lset (its' := its.take k ++ u :: its.drop k) hH e ?_ ((r.takeV k).append (.cons ru (r.dropV k))) ?_, rfl, q⟩
    · have hk2 : k ≤ its.length := by omega
      subst hi
      have hn : ¬ ((k : Int) < 0) := by omega
      simp [Nat.min_eq_left hk2, hn]
      rw [List.take_of_length_le (by rw [List.length_drop]; omega)]
    · rw [List.length_append, List.length_cons, List.length_take, List.length_drop]; omega
theorem ints_at : ∀ {ns : List Int} {its : List Value}, Vals (ns.map V.int) its → ∀ (m : Nat) (v : Value), its[m]? = some v → ∃ i t, ns[m]? = some i ∧ v = .int i t
  | [], _, .nil, m, v, h => by simp at h
  | i :: ns, _, .cons h r, 0, v, e => by
    simp only [List.getElem?_cons_zero, Option.some.injEq] at e
    subst e
    obtain ⟨t, rfl⟩ := h
    exact ⟨i, t, rfl, rfl⟩
  | i :: ns, _, .cons h r, m + 1, v, e => by simpa using ints_at r m v (by simpa using e)
def isI (k : Int) : Value → Bool
  | .int a _ => a == k
  | _ => false
theorem mt_remove : MtM X "list.remove" r_mt_remove := by
  intro pins s σ H x vs v us Q I rx rv h
  obtain ⟨l, ns, i, rfl, rfl, hH, hi, q⟩ := h
  cases rx
  obtain ⟨u, rfl, ru⟩ := rv.one
  obtain ⟨t, rfl⟩ := ru
  obtain ⟨z, its, n, r, hl, e⟩ := I.lstM hH
  rw [List.length_map] at hl z
  have hj : ns.idxOf i < ns.length := List.idxOf_lt_length_iff.mpr hi
  have gt : ∀ m (hm : m < its.toArray.size), ∃ (h2 : m < ns.length) (t' : Tok), its.toArray[m] = .int ns[m] t' := fun m hm => by
    rw [List.size_toArray] at hm
    obtain ⟨i', t', h1, h2⟩ := ints_at r m its[m] (List.getElem?_eq_getElem hm)
    have h3 : m < ns.length := by omega
    rw [List.getElem?_eq_getElem h3] at h1
    refine ⟨h3, t', ?_⟩
    rw [Option.some.inj h1, ← h2]
    simp
  refine call_meets F.slot_list_remove ⟨_, e, rfl⟩ F.entry_list_remove (F.args_list_remove_2 _ _)
    (MeetsSeq.list_remove l its.toArray n (.int i t) (isI i) (fun y hy => ?_) (ns.idxOf i) (by rw [List.size_toArray]; omega) ?_ (fun m hm hlt => ?_) (by rw [List.size_toArray]; omega)) ⟨e, ?_⟩
  · obtain ⟨m, hm, rfl⟩ := Array.mem_iff_getElem.mp hy
    obtain ⟨h2, t', e2⟩ := gt m hm
    rw [e2]
    exact MeetsSeq.EqGives.int _ _ _ _
  · obtain ⟨h2, t', e2⟩ := gt (ns.idxOf i) (by rw [List.size_toArray]; omega)
    rw [e2]
    show (ns[ns.idxOf i] == i) = true
    rw [List.getElem_idxOf hj]
    exact beq_self_eq_true i
  · obtain ⟨h2, t', e2⟩ := gt m hm
    rw [e2]
    show (ns[m] == i) = false
    exact List.not_of_lt_findIdx (p := fun y => y == i) (xs := ns) (i := m) hlt
  · have ee : ns.erase i = ns.eraseIdx (ns.idxOf i) := List.erase_eq_eraseIdx_of_idxOf rfl
    rw [ee] at q
    refine ⟨.non, _, I.lset (its' := its.eraseIdx (ns.idxOf i)) hH e ?_ (by rw [← erase_map]; exact r.eraseIdx _) ?_, rfl, q⟩
    · show its.toArray.eraseIdxIfInBounds _ = _
      rw [List.eraseIdxIfInBounds_toArray]
    · rw [List.length_map]
      have := len_erase ns (ns.idxOf i)
      omega
end
/-! list(d), len(d) of dicts by tuples -/
def KyAt (H : Hp) (y : V) (kv : List Key × V) : Prop := ∃ p, y = .ref p ∧ H p = some (.tup (kv.1.map kV))
abbrev cLstD : RC := fun vs H Q => ∃ a kvs, vs = [.ref a] ∧ H a = some (.dT kvs) ∧ ∀ l ys, H l = none → Paired (KyAt H) ys kvs → Q (.ref l) (upd H l (.lst ys))
abbrev cLenT : RC := fun vs H Q => ∃ a kvs, vs = [.ref a] ∧ H a = some (.dT kvs) ∧ Q (.int (kvs.length : Nat)) H
section
variable {X : Cx}
theorem keys_paired {H : Hp} {es : Array DictEntry} : ∀ (kvs : List (List Key × V)) (vs : List Value) (j : Nat), vs.length = kvs.length → (∀ i v, vs[i]? = some v → ∃ e, es[j + i]? = some e ∧ v = e.key) →
    (∀ (i : Nat) (en : DictEntry) (kv : List Key × V), es[j + i]? = some en → kvs[i]? = some kv → ∃ p, en.key = .ref p ∧ H p = some (.tup (kv.1.map kV))) → ∃ ys, Vals ys vs ∧ Paired (KyAt H) ys kvs
  | [], [], _, _, _, _ => ⟨[], .nil, .nil⟩
  | [], v :: vs, _, hl, _, _ => by simp at hl
  | kv :: kvs, [], _, hl, _, _ => by simp at hl
  | kv :: kvs, v :: vs, j, hl, h1, h2 => by
    obtain ⟨e, he, rfl⟩ := h1 0 v rfl
    obtain ⟨p, hp, hH⟩ := h2 0 e kv he rfl
    obtain ⟨ys, r1, r2⟩ := keys_paired (es := es) kvs vs (j + 1) (by simpa using hl) (fun i u hu => by rw [Nat.add_assoc, Nat.add_comm 1 i]; exact h1 (i + 1) u (by simpa using hu)) (fun i en kv' he' hk => h2 (i + 1) en kv' (by rw [← Nat.add_assoc, Nat.add_right_comm]; exact he') (by simpa using hk))
    exact ⟨.ref p :: ys, .cons hp r1, .cons ⟨p, rfl, hH⟩ r2⟩
theorem call_list_dict (hc : X.calm = true) : CallR X (.type "list") cLstD := by
  intro pins s σ H vs us Q I r0 h
  obtain ⟨a, kvs, rfl, ha, q⟩ := h
  obtain ⟨u, rfl, ru⟩ := vals1 r0
  cases ru
  have hh : X.A.handled = none := I.ok.hd hc
  obtain ⟨z, lo, _⟩ := dt_of I.hok ha
  obtain ⟨es, ep, rd, hes, hen⟩ := raw_of I ha
  refine PySem.W.kdl_call (raw_src (ep := ep) (es := es) lo) hh rd (by rw [hes]; exact z) fun h' tk acc c hk hD hi => ?_
  obtain ⟨ys, r1, r2⟩ := keys_paired (H := H) (es := es) kvs acc.toList 0 (by rw [Array.length_toList, hi.1, hes]) (fun i v hv => by
      rw [Nat.zero_add]
      obtain ⟨e, h1, h2⟩ := hi.2 i v (by rw [← Array.getElem?_toList]; exact hv)
      exact ⟨e, h1, h2⟩) (fun i en kv he hk => by
      rw [Nat.zero_add] at he
      obtain ⟨p, g1, g2, _⟩ := hen i en kv he hk
      exact ⟨p, g1, g2⟩)
  have I2 : Inv X pins σ (upd H s.heap.objs.size (.lst ys)) { s with heap := h', toks := tk } := I.laid (a := s.heap.objs.size) (o := .lst ys) (t' := tk) hk (Nat.le_refl _)
    ⟨by have := Paired.length r2; omega, acc.toList, c, r1, by rw [Array.toArray_toList]; exact hD⟩
  exact ⟨.ref s.heap.objs.size, _, I2, rfl, q _ ys (I.hok.fresh (Nat.le_refl _)) r2⟩
end
end L2

namespace L2
open PySem PySem.Spec PyProof.Rows
section
variable {X : Cx} {c : Expr} {s₁ s₂ : Stmt} {tc : TT} {t1 t2 : EXK → TS} {pos : Pos}
end
section
variable {X : Cx} {e : Expr} {te : TE} {a b : Str} {j k : Nat} {p1 p2 p3 p4 : Pos}
/-- f'.. {e} ..' of a number -/
def tMsgI (te : TE) : TE := fun σ H Q => te σ H fun v H1 => ∃ i : Int, v = .int i ∧ i.natAbs.log2 < 1920 ∧ ∀ y : Str, Q (.str y) H1
end
end L2

namespace L2
open PySem PySem.Spec PyProof.Rows
/-! a def with defaults -/
structure FunD (K : PySem.W.Frag) (x qual : Str) (st : Stmt) (f : Addr) (fd : FuncData) : Prop where
  ex : ∃ (oc : Value) (od : Option Addr) (dV kV doc pm : Value) (an : Option Addr) (cdv ct : Value) (osl : Array (Option Value)), fd = PySem.W.fnOf x qual (defArgs st) (defBody st) (defScope st) dV kV doc pm an cdv ct ∧ K.lookup f = some ⟨oc, od, .func fd, osl⟩ ∧ PySem.W.codeIn K cdv qual = true
  kp : PySem.W.keepIn K (.ref f) = true
section
variable {P : Program} {w : World} {K : PySem.W.Frag} {mg : Str → Option Value} {base : Heap} {x qual : Str} {st : Stmt} {f : Addr} {fd : FuncData} {N ps : List Str} {k : Nat} {sp : Sp}
theorem FunD.ok1 (F : FunD K x qual st f fd) (S : FnScope N ps (defScope st)) (len : ∀ vs H Q E, sp vs H Q E → vs.length = ps.length)
    (hbody : ∀ (cdv : Value) (A : Around) (outer : List Env) (s : Shared) (H : Hp) (vs : List V) (Q : VK) (E : XK), Room k (A.deeper (envOfC qual (defScope st) s.heap.objs.size f cdv)) → sp vs H Q E → ∃ t, PSs (cxOf (CX1 P w) P w K mg base N qual (defScope st) f cdv A outer s H E) (defBody st) t ∧ t { nx := fun _ H' => Q .non H', rt := Q } (start N vs) H) : FnOk P w K mg base (CX1 P w) (k + 1) f fd ps sp := by
  obtain ⟨oc, od, dV, kV, doc, pm, an, cdv, ct, osl, rfl, lk, hcd⟩ := F.ex
  exact fn_of lk hcd S len fun A outer s H vs Q E hr hsp => hbody cdv A outer s H vs Q E hr hsp
theorem FunD.ok0 (F : FunD K x qual st f fd) (S : FnScope N ps (defScope st)) (len : ∀ vs H Q E, sp vs H Q E → vs.length = ps.length)
    (hbody : ∀ (cdv : Value) (A : Around) (outer : List Env) (s : Shared) (H : Hp) (vs : List V) (Q : VK) (E : XK), Room k (A.deeper (envOfC qual (defScope st) s.heap.objs.size f cdv)) → sp vs H Q E → ∃ t, PSs (cxOf (CX1 P w) P w K mg base N qual (defScope st) f cdv A outer s H E).nox (defBody st) t ∧ t { nx := fun _ H' => Q .non H', rt := Q } (start N vs) H) : FnOk P w K mg base (CX1 P w) (k + 1) f fd ps sp :=
  F.ok1 S len fun cdv A outer s H vs Q E hr h => let ⟨t, a, b⟩ := hbody cdv A outer s H vs Q E hr h; ⟨t, a.nox, b⟩
theorem fun_mkD {oc : Value} {od an : Option Addr} {osl : Array (Option Value)} {dV kV doc pm cdv ct : Value} (l : K.lookup f = some ⟨oc, od, .func (PySem.W.fnOf x qual (defArgs st) (defBody st) (defScope st) dV kV doc pm an cdv ct), osl⟩)
    (c : PySem.W.codeIn K cdv qual = true) (k : PySem.W.keepIn K (.ref f) = true) : FunD K x qual st f (PySem.W.fnOf x qual (defArgs st) (defBody st) (defScope st) dV kV doc pm an cdv ct) := ⟨⟨oc, od, dV, kV, doc, pm, an, cdv, ct, osl, rfl, l, c⟩, k⟩
end
/-! a field set in a try -/
section
variable {X : Cx} {o value : Expr} {f : Str} {pos pos' : Pos} {ta : TE} {tx : EXK → TE}
def sFldX (K : PySem.W.Frag) (ta : TE) (tx : EXK → TE) (f : Str) (EX : EXK) : TS := sFld K ta (tx EX) f
end
/-! try, except (C, D): .., without a name -/
def tTryT (K : PySem.W.Frag) (tb : EXK → TS) (C1 C2 : Addr) (th : TS) : TS := fun D σ H => tb (fun cls σ1 H1 => ∃ C, cls = .ref C ∧ PySem.W.exmAny K (.ref C) [.ref C1, .ref C2] = some true ∧ th D σ1 H1) D σ H
section
variable {X : Cx} {st b₀ : Stmt} {suite : List Stmt} {tb : EXK → TS} {th : TS} {c1 c2 : Str} {C1 C2 : Addr} {np np2 hpos tpos pos : Pos} {x1 : Nat}
end
/-! a method whose defaults are left out -/
section
variable {X : Cx} {CX : CXT} {k : Nat} {f C : Addr} {fd : FuncData} {ps : List Str} {sp : Sp} {dvs : List V} {E : XK} {m : Str} {pos apos : Pos} {o : Expr} {ta : TE}
theorem pe_meth0D {pl : Sem Bool} (he : PE X o ta) (c : Cls X.K C) (hm : Meth X.K C m f) (F : FnOk X.prog X.w X.K X.mg X.base CX k f fd ps sp) (hr : Room k X.A) (hb : ∃ ds, Vals dvs ds ∧ Binds X.K fd ps ds) (hx : Passes CX X E)
    (ht : eval (.Call (.Attribute o m apos) [] [] pos) X.env = (do
      let ov ← eval o X.env
      standAt apos.atName
      let (f, first) ← holding [ov] (getMethod ov m pl)
      callWith pos f first (backTo pos (starEach [] X.env)) (backToKw pos (keywordEach [] X.env))) := by rfl) :
    PE X (.Call (.Attribute o m apos) [] [] pos) (tMeth C m sp dvs E ta tNil) := by
  obtain ⟨ds, hd, hb⟩ := hb
  exact pe_meth0 he c hm F hr hb hd hx ht
end
end L2

namespace L2
open PySem PySem.Spec PyProof.Rows
/-! < of places -/
abbrev rLtP : R2 := fun x y H Q => ∃ a b p r, x = .ref a ∧ y = .ref b ∧ H a = some (.tup [.str p.1, .int p.2]) ∧ H b = some (.tup [.str r.1, .int r.2]) ∧ Q (.bl (placeLt p r)) H
section
variable {X : Cx}
open PySem.SeqAt
open PySem.AutoSeq1 (wpAny_loadPart')
open PySem.MeetsSeq PySem.MeetsSeq2 PySem.MeetsSeq3
end
end L2

namespace L2
open PySem PySem.Spec PyProof.Rows
/-! a class without an __init__ of its own is made -/
structure MkO (K : PySem.W.Frag) (C : Addr) : Prop where
  makes : PySem.W.makesIn K C = true
  init : PySem.W.findIn K (.ref C) "__init__" = some (some (.builtin "object.__init__"))
  kp : PySem.W.keepIn K (.ref C) = true
def tMakeO (C : Addr) : TE := fun _ H Q => ∀ x dx, H x = none → H dx = none → dx ≠ x → Q (.ref x) (upd (upd H dx (.own x)) x (.ins C dx []))
section
variable {X : Cx} {C : Addr} {x : Str} {p pos : Pos}
theorem run_makeO {pins : List (Addr × Obj)} {σ : St} {H : Hp} {s : Shared} {Q : VK} (M : MkO X.K C) (I : Inv X pins σ H s) (h : ∀ x dx, H x = none → H dx = none → dx ≠ x → Q (.ref x) (upd (upd H dx (.own x)) x (.ins C dx []))) :
    wpAny (model X.prog X.w) X.A (call (.ref C) []) (EP X pins σ Q) X.xe s := by
  have hq := h (s.heap.objs.size + 1) s.heap.objs.size (I.hok.fresh (Nat.le_succ _)) (I.hok.fresh (Nat.le_refl _)) (Nat.ne_of_lt (Nat.lt_succ_self _))
  have I2 := Inv.made (C := C) I
  refine wpAny_call (make_map0 I.kIn M.makes M.init (fun self => PySem.W.Looks.of_pure (PySem.W.oi_bind self)) ?_)
  have Y := PySem.W.makes_of (M := model X.prog X.w) I.kIn M.makes
  have g1 : PySem.W.Looks (model X.prog X.w) ((s.heap.push PySem.W.emptyDict).push (PySem.W.instObj C s.heap.objs.size)) (typeOf (.ref (s.heap.objs.size + 1))) (.ref C) := by
    have := Heap.get?_push_size (s.heap.push PySem.W.emptyDict) (o := PySem.W.instObj C s.heap.objs.size) rfl
    rw [Heap.size_push] at this
    exact (PySem.W.Looks.ld this).andThen .now
  have g2 : PySem.W.Looks (model X.prog X.w) ((s.heap.push PySem.W.emptyDict).push (PySem.W.instObj C s.heap.objs.size)) (isInstance (.ref (s.heap.objs.size + 1)) (.type "object")) true := g1.andThen (Y.top.keeps fun b o e => Heap.get?_push_of_some (PySem.W.instObj C s.heap.objs.size) (Heap.get?_push_of_some PySem.W.emptyDict e))
  refine codeAny_call_builtin PySem.W.oi_plain PySem.W.entry_oi (PySem.W.check_slot (rest := []) (kw := []) PySem.W.oi_kind PySem.W.oi_split g2 (PySem.W.oi_args _) ?_)
  rw [PySem.W.oi_run]
  exact wpAny_pure ⟨rfl, V.ref (s.heap.objs.size + 1), _, I2, rfl, hq⟩
theorem pe_makeO (M : MkO X.K C) (hg : Gl X x) (hm : X.mg x = some (.ref C)) (hdb : (x == ("__debug__" : Str)) = false := by decide) : PE X (.Call (.Name x p) [] [] pos) (tMakeO C) := by
  intro pins s σ H Q I h
  refine wpAny_Call_Name_kw (ld_glob I hg hm ?_ hdb)
  exact PySem.W.callWith_K0 I.kIn M.kp (run_makeO M I h)
end
/-! o.m(..) where o is of one of some classes -/
def tMethU (L : List (Addr × Sp)) (m : Str) (E : XK) (ta : TE) (t : TA) : TE := fun σ H Q => ta σ H fun x H1 => ∃ a dx fs C sp, x = .ref a ∧ H1 a = some (.ins C dx fs) ∧ fs.lookup m = none ∧ (C, sp) ∈ L ∧ t σ H1 fun vs H2 => sp (x :: vs) H2 Q E
section
variable {X : Cx} {CX : CXT} {E : XK} {m : Str} {pos apos : Pos} {e o : Expr} {es : List Expr} {ta : TE} {t : TA} {L : List (Addr × Sp)} {C : Addr} {sp : Sp}
end
/-! isinstance of an instance of a class of the text, and such a class -/
structure InsK (K : PySem.W.Frag) (C : Addr) : Prop where
  cl : Cls K C
  ha : PySem.W.findIn K (.ref C) "__class__" = some (some (.builtin "object.__class__"))
  hn : PySem.W.specialIn K (.builtin "object.__class__") "__get__" = some (some (.builtin "getset_descriptor.__get__"))
  tk : PySem.W.takesIn K (.builtin "object.__class__") = some true
  hm : PySem.W.mroIn K C (.type "object") = some true
abbrev cIsn (K : PySem.W.Frag) : RC := fun xs H Q => ∃ a C dx fs D b, xs = [.ref a, .ref D] ∧ H a = some (.ins C dx fs) ∧ InsK K C ∧ PySem.W.kitOne K (.ref C) (.ref D) = some b ∧ Q (.bl b) H
section
variable {X : Cx}
end
end L2

namespace L2
open PySem PySem.Spec PyProof.Rows
/-! any of a list of truths -/
abbrev cAny (K : PySem.W.Frag) : RC := fun xs H Q => ∃ (a : Addr) (bs : List Bool), xs = [.ref a] ∧ SqL K H a (bs.map V.bl) ∧ Q (.bl (bs.any id)) H
section
variable {X : Cx}
end
/-! s[::-1] of a text -/
def tSRev (te ts : TE) : TE := fun σ H Q => te σ H fun x H1 => ts σ H1 fun k H2 => ∃ z y, x = .str z ∧ k = .int (-1) ∧ z.length ≤ sizeLine ∧ (∀ u, Txt.sliceBy z none none (-1, u) = y) ∧ Q (.str y) H2
section
variable {X : Cx} {e st : Expr} {p2 pos : Pos} {te ts : TE}
end
/-! list(reversed(l)) -/
section
variable {P : Program} {w : World} {A : Around} {E : Value → Shared → Prop} {s : Shared}
end
def tLRev (K : PySem.W.Frag) (ta : TA) : TE := fun σ H Q => ta σ H fun vs H1 => ∃ a xs, vs = [.ref a] ∧ SqL K H1 a xs ∧ ∀ l, H1 l = none → Q (.ref l) (upd H1 l (.lst xs.reverse))
section
variable {X : Cx} {a : Expr} {ta : TA} {p p2 pos pos2 : Pos}
end
end L2

namespace L2
open PySem PySem.Spec PyProof.Rows
/-! len of a dict by numbers or texts -/
abbrev cLenK : RC := fun vs H Q => ∃ a kvs, vs = [.ref a] ∧ H a = some (.dK kvs) ∧ Q (.int (kvs.length : Nat)) H
section
variable {X : Cx}
end
end L2

namespace L2
open PySem PySem.Spec PyProof.Rows
/-! a class made with its defaults left out -/
section
variable {X : Cx} {CX : CXT} {k : Nat} {f C : Addr} {fd : FuncData} {ps : List Str} {sp : Sp} {dvs : List V} {E : XK} {x : Str} {p pos : Pos} {e : Expr} {es : List Expr} {t : TA}
theorem pe_makeD (M : Mk X.K C f) (F : FnOk X.prog X.w X.K X.mg X.base CX k f fd ps sp) (hr : Room (k + 1) X.A) (hg : Gl X x) (hm : X.mg x = some (.ref C)) (hb : ∃ ds, Vals dvs ds ∧ Binds X.K fd ps ds) (hx : Passes CX X E)
    (ha : PA X (e :: es) t) (hdb : (x == ("__debug__" : Str)) = false := by decide) (he : starEach (e :: es) X.env = (false, eval e X.env) :: starEach es X.env := by rfl) (hpl : (backTo pos (starEach es X.env)).any (·.1) = false := by rfl) :
    PE X (.Call (.Name x p) (e :: es) [] pos) (tMake C sp dvs E t) := by
  obtain ⟨ds, hd, hb⟩ := hb
  exact pe_make M F hr hg hm hb hd hx ha hdb he hpl
end
section
variable {X : Cx} {e : Expr} {te : TE} {a : Str} {j : Nat} {p1 p2 p3 : Pos}
/-- f'.. {e}' of a number -/
theorem pe_msgJ (he : PE X e te) (hl : a.length ≤ 1000 := by decide +kernel) : PE X (.JoinedStr [.Constant (.str a) j p1, .FormattedValue e (-1) none p2] p3) (tMsgI te) := by
  intro pins s σ H Q I h
  have hs : sizeLine = 16777216 := sizeLine_eq
  refine wpAny_JoinedStr ?_
  show wpAny _ _ (eval (.Constant (.str a) j p1) X.env) _ _ s
  have e0 : (Str.empty ++ a).length = a.length := by rw [Str.length_append]; simp [Str.empty, Str.length]
  refine Calls.Constant_str ⟨a, _, rfl, by rw [e0]; exact small_size (by omega), ?_⟩
  show wpAny _ _ (eval (.FormattedValue e (-1) none p2) X.env) _ _ _
  refine wpAny_FormattedValue_plain (thn (he pins _ σ H _ (I.tok _) h) fun v s1 ⟨x, H1, I1, r1, i, ex, hz, q⟩ => ?_)
  subst ex
  obtain ⟨t, rfl⟩ := r1
  have le : (Str.ofString (toString i)).length ≤ 2000 := by
    have e := int_text_length_le (k := 1920) (by decide) hz
    rw [PySem.ofString_length]; omega
  have hz2 : (Str.empty ++ a ++ Str.ofString (toString i)).length ≤ sizeLine := by rw [Str.length_append, e0]; omega
  exact wpAny_formatField_int hz ⟨Str.ofString (toString i), _, rfl, hz2, hz2, .str _, H1, I1.tok _, ⟨_, rfl⟩, q _⟩
end
section
variable {X : Cx} {st b₀ : Stmt} {suite : List Stmt} {tb : EXK → TS} {th1 : TS} {c1 : Str} {C1 : Addr} {np hpos pos : Pos}
theorem ps_tryN (hst : X.stack = X.env :: X.outer ∧ X.env.frame = some X.env.locals) (hex : X.ex = []) (hb : PSX X st tb) (hg1 : Gl X c1) (hm1 : X.mg c1 = some (.ref C1))
    (hs1 : ∀ e, PSs (X.sub e) (b₀ :: suite) th1) (hdb1 : (c1 == ("__debug__" : Str)) = false := by decide) :
    PS X (.Try [st] [.ExceptHandler (some (.Name c1 np)) none (b₀ :: suite) hpos] [] [] pos) (tTryN X.K tb C1 th1) := by
  intro pins s σ H D I h
  refine wpAny_Try_except (wpAny_execs_cons (wpAny_mono (hb pins s σ H D _ I h) (fun f s1 q => ?_) fun ev s1 q => ?_))
  · cases f with
    | next => exact wpAny_execs_nil (wpAny_execs_nil q)
    | ret v => exact q
    | brk => exact q
    | cont => exact q
  obtain ⟨e, cls, σ1, s0, H0, H1, rfl, I0, I1, xf, C, rfl, hx, ht⟩ := q
  obtain ⟨oe, vs, a0, T, oT, ts, h1, h2, h3, h4, h5, h6, h7, h8, h9, h10, h11, h12⟩ := xf
  have fr : s1.heap.FunFrames (PySem.W.hideAll s1.heap (frs X.stack ++ [e, T])) (X.env :: X.outer) := by
    have q := PySem.W.funFrames_hide (as := frs X.stack ++ [e, T]) I1.stack fun env he a ha => List.mem_append_left _ (List.mem_filterMap.mpr ⟨env, he, ha⟩)
    rw [hst.1] at q ⊢
    exact q
  have two : ∀ b ∈ [e, T], s0.heap.get? b = none ∧ H1 b = none := fun b z => by
    have z' : b = e ∨ b = T := by simpa using z
    rcases z' with rfl | rfl
    · exact ⟨h9, h11⟩
    · exact ⟨h10, h12⟩
  have hcs : ∀ b ∈ [e, T], H1 b = none ∧ X.s₀.heap.get? b = none := fun b z => ⟨(two b z).2, none_back (I0.there0 hex) (two b z).1⟩
  have hcp : ∀ b ∈ [e, T], ∀ p ∈ X.pn ++ pins, p.1 ≠ b := fun b z p hp q => by
    have := (I0.pin p hp).1
    rw [q, (two b z).1] at this; cases this
  refine wpAny_looks_onW (base := PySem.W.hideAll s1.heap (frs X.stack ++ [e, T])) (a0 := a0) (cls := .ref C) (by rw [I1.ok.frames, hst.1]) hst.2
    ⟨fun b o q => PySem.W.of_hideAll _ q, PySem.W.hideAll_none _ (List.mem_append_right _ (by simp)), fr, oe, vs, T, oT, ts, h1, h2, h3, h4, PySem.W.hideAll_none _ (List.mem_append_right _ (by simp)), h5, h6, h7, h8⟩ fun g4 held4 sm4 => ?_
  refine wpAny_landsW held4 fun g5 fly5 sm5 => ?_
  have hB : ∀ {g : Heap}, (PySem.W.hideAll s1.heap (frs X.stack ++ [e, T])).StaysIn g → ∀ b o, s1.heap.get? b = some o → b ∉ frs X.stack → b ∉ [e, T] → g.get? b = some o :=
    fun {g} k b o q n1 n2 => k b o (PySem.W.hideAll_get _ q fun z => (List.mem_append.mp z).elim n1 n2)
  have I5 : Inv X pins σ1 H1 { s1 with heap := g5 } := I1.land hex hcs hcp (hB fly5.1) (sm4.trans sm5)
  have K5 := I5.kIn
  have ty5 : PySem.W.Looks (model X.prog X.w) g5 (typeOf (.ref e)) (.ref C) := by
    obtain ⟨o, p1, p2⟩ := fly5.there
    exact p2 ▸ (PySem.W.Looks.ld p1).andThen .now
  have run : ∀ {b₂ : Stmt} {su : List Stmt} {th : TS} {hp : Pos} {R : Result → Shared → Prop}, (∀ e, PSs (X.sub e) (b₂ :: su) th) → th D σ1 H1 → (∀ f s', SP X pins D f s' → R (.ok f) s') →
      codeAny (model X.prog X.w) (X.A.mark (some (.ref e))) (.handlers (.ref e) [.ExceptHandler none none (b₂ :: su) hp] X.env) R { s1 with heap := g5 } := fun {b₂ su th hp R} hs hth hR => by
    refine codeAny_handlers_suite (lands_againW fly5 fun g6 fly6 sm6 => ?_)
    have I6 : Inv X pins σ1 H1 { s1 with heap := g6 } := I1.land hex hcs hcp (hB fly6.1) ((sm4.trans sm5).trans sm6)
    refine wpAny_mono (hs e pins _ σ1 H1 D I6.toSub hth) (fun f s9 q => hR f s9 ?_) fun _ _ z => False.elim z
    cases f with
    | next => obtain ⟨σ9, H9, J, z⟩ := q; exact ⟨σ9, H9, Inv.ofSub (J := I) J, z⟩
    | brk => obtain ⟨σ9, H9, J, z⟩ := q; exact ⟨σ9, H9, Inv.ofSub (J := I) J, z⟩
    | cont => obtain ⟨σ9, H9, J, z⟩ := q; exact ⟨σ9, H9, Inv.ofSub (J := I) J, z⟩
    | ret u => obtain ⟨v, σ9, H9, J, r, z⟩ := q; exact ⟨v, σ9, H9, Inv.ofSub (J := I) J, r, z⟩
  refine wpAny_handleBy_cons (codeAny_handlers_test ?_) (by intro q; cases q)
  refine ld_glob (X := X.sub e) (I5.toSub (e := e)) hg1 hm1 ?_ hdb1
  refine (PySem.W.exm_one K5 ty5 hx).here ?_
  exact run hs1 ht fun f s' q => q
end
end L2

namespace K42
open PySem L2
def top (i : Nat) : Stmt := PySem.Challenge.pw_forerun_k42_no_hand.main.body.getD i (.Pass ⟨0, 0, 0, 0⟩)
abbrev s_Makes_init : Stmt := inClass (top 19) 0
abbrev s_Jobs_init : Stmt := inClass (top 21) 0
abbrev s_Desk_init : Stmt := inClass (top 33) 0
abbrev s_Desk_next_rank : Stmt := inClass (top 33) 9
abbrev s_Desk_add : Stmt := inClass (top 33) 1
abbrev s_Run_over : Stmt := inClass (top 31) 1
abbrev s_Run_asks : Stmt := inClass (top 31) 2
abbrev s_Makes_seen : Stmt := inClass (top 19) 1
abbrev s_Run_step : Stmt := inClass (top 31) 3
abbrev s_Desk_settled : Stmt := inClass (top 33) 4
abbrev s_Jobs_changed_note : Stmt := inClass (top 21) 4
abbrev s_Jobs_lowest_changed : Stmt := inClass (top 21) 5
abbrev s_Jobs_take_off : Stmt := inClass (top 21) 2
abbrev s_Way_chosen : Stmt := inClass (top 35) 0
abbrev s_Run_init : Stmt := inClass (top 31) 0
abbrev s_Desk_taken_up : Stmt := inClass (top 33) 11
abbrev s_many_below : Stmt := top 16
abbrev s_Desk_moved_free : Stmt := inClass (top 33) 10
abbrev s_Jobs_lay_down : Stmt := inClass (top 21) 1
abbrev s_Run_paper : Stmt := inClass (top 31) 4
abbrev s_Desk_move : Stmt := inClass (top 33) 2
abbrev s__law_refused : Stmt := top 39
abbrev s__law_cell_at : Stmt := top 37
abbrev s_Makes_kept : Stmt := inClass (top 19) 5
abbrev s_Desk_kept : Stmt := inClass (top 33) 8
abbrev s_Desk_papers : Stmt := inClass (top 33) 5
abbrev s_Makes_heed_fold : Stmt := inClass (top 19) 8
abbrev s_table_of : Stmt := top 14
abbrev s_Makes_table_for : Stmt := inClass (top 19) 3
abbrev s_Desk_table : Stmt := inClass (top 33) 6
abbrev s__law_alike : Stmt := top 38
abbrev s__law_refused_by_any : Stmt := top 40
abbrev s_law : Stmt := top 41
theorem sc_Makes_init : FnScope ["self", "table"] ["self", "table"] (defScope s_Makes_init) := ⟨rfl, rfl, rfl, by decide +kernel, rfl, by decide +kernel, by decide +kernel⟩
theorem sc_Jobs_init : FnScope ["self", "makes"] ["self", "makes"] (defScope s_Jobs_init) := ⟨rfl, rfl, rfl, by decide +kernel, rfl, by decide +kernel, by decide +kernel⟩
theorem sc_Desk_init : FnScope ["self", "table", "hands", "way", "first"] ["self", "table", "hands", "way", "first"] (defScope s_Desk_init) := ⟨rfl, rfl, rfl, by decide +kernel, rfl, by decide +kernel, by decide +kernel⟩
theorem sc_Desk_next_rank : FnScope ["self"] ["self"] (defScope s_Desk_next_rank) := ⟨rfl, rfl, rfl, by decide +kernel, rfl, by decide +kernel, by decide +kernel⟩
theorem sc_Desk_add : FnScope ["self", "code", "rank"] ["self", "code"] (defScope s_Desk_add) := ⟨rfl, rfl, rfl, by decide +kernel, rfl, by decide +kernel, by decide +kernel⟩
theorem sc_Desk_settled : FnScope ["self"] ["self"] (defScope s_Desk_settled) := ⟨rfl, rfl, rfl, by decide +kernel, rfl, by decide +kernel, by decide +kernel⟩
theorem sc_Jobs_lowest_changed : FnScope ["self", "ranks", "rank", "note"] ["self"] (defScope s_Jobs_lowest_changed) := ⟨rfl, rfl, rfl, by decide +kernel, rfl, by decide +kernel, by decide +kernel⟩
theorem sc_Way_chosen : FnScope ["self", "ranks"] ["self", "ranks"] (defScope s_Way_chosen) := ⟨rfl, rfl, rfl, by decide +kernel, rfl, by decide +kernel, by decide +kernel⟩
theorem sc_Run_init : FnScope ["self", "code"] ["self", "code"] (defScope s_Run_init) := ⟨rfl, rfl, rfl, by decide +kernel, rfl, by decide +kernel, by decide +kernel⟩
theorem sc_Desk_taken_up : FnScope ["self", "hand", "rank"] ["self", "hand"] (defScope s_Desk_taken_up) := ⟨rfl, rfl, rfl, by decide +kernel, rfl, by decide +kernel, by decide +kernel⟩
theorem sc_Desk_moved_free : FnScope ["self", "hand", "lowest", "changed"] ["self", "hand"] (defScope s_Desk_moved_free) := ⟨rfl, rfl, rfl, by decide +kernel, rfl, by decide +kernel, by decide +kernel⟩
theorem sc_Desk_move : FnScope ["self", "hand", "rank", "run", "place", "worth"] ["self", "hand"] (defScope s_Desk_move) := ⟨rfl, rfl, rfl, by decide +kernel, rfl, by decide +kernel, by decide +kernel⟩
theorem sc__law_refused : FnScope ["desk", "hand", "right", "other", "another", "e"] ["desk", "hand"] (defScope s__law_refused) := ⟨rfl, rfl, rfl, by decide +kernel, rfl, by decide +kernel, by decide +kernel⟩
theorem sc__law_cell_at : FnScope ["script", "k"] ["script", "k"] (defScope s__law_cell_at) := ⟨rfl, rfl, rfl, by decide +kernel, rfl, by decide +kernel, by decide +kernel⟩
theorem sc_Makes_kept : FnScope ["self"] ["self"] (defScope s_Makes_kept) := ⟨rfl, rfl, rfl, by decide +kernel, rfl, by decide +kernel, by decide +kernel⟩
theorem sc_Desk_kept : FnScope ["self"] ["self"] (defScope s_Desk_kept) := ⟨rfl, rfl, rfl, by decide +kernel, rfl, by decide +kernel, by decide +kernel⟩
theorem sc_Desk_papers : FnScope ["self"] ["self"] (defScope s_Desk_papers) := ⟨rfl, rfl, rfl, by decide +kernel, rfl, by decide +kernel, by decide +kernel⟩
theorem sc_Makes_heed_fold : FnScope ["self", "rank"] ["self", "rank"] (defScope s_Makes_heed_fold) := ⟨rfl, rfl, rfl, by decide +kernel, rfl, by decide +kernel, by decide +kernel⟩
theorem sc_table_of : FnScope ["rows", "worths"] ["rows"] (defScope s_table_of) := ⟨rfl, rfl, rfl, by decide +kernel, rfl, by decide +kernel, by decide +kernel⟩
theorem sc_Makes_table_for : FnScope ["self", "rank", "places"] ["self", "rank"] (defScope s_Makes_table_for) := ⟨rfl, rfl, rfl, by decide +kernel, rfl, by decide +kernel, by decide +kernel⟩
theorem sc_Desk_table : FnScope ["self"] ["self"] (defScope s_Desk_table) := ⟨rfl, rfl, rfl, by decide +kernel, rfl, by decide +kernel, by decide +kernel⟩
theorem sc__law_alike : FnScope ["found", "due", "number"] ["found", "due"] (defScope s__law_alike) := ⟨rfl, rfl, rfl, by decide +kernel, rfl, by decide +kernel, by decide +kernel⟩
theorem sc__law_refused_by_any : FnScope ["desk", "hand", "refused"] ["desk", "hand"] (defScope s__law_refused_by_any) := ⟨rfl, rfl, rfl, by decide +kernel, rfl, by decide +kernel, by decide +kernel⟩
theorem sc_law : FnScope ["script", "hands", "many", "first", "desk", "k", "bad", "cell", "hand", "due"] ["script"] (defScope s_law) := ⟨rfl, rfl, rfl, by decide +kernel, rfl, by decide +kernel, by decide +kernel⟩
set_option genSizeOf false in
set_option genInjectivity false in
structure Adr where
  a_Makes_init : Addr
  d_Makes_init : FuncData
  a_Jobs_init : Addr
  d_Jobs_init : FuncData
  a_Desk_init : Addr
  d_Desk_init : FuncData
  a_Desk_next_rank : Addr
  d_Desk_next_rank : FuncData
  a_Desk_add : Addr
  d_Desk_add : FuncData
  a_Run_over : Addr
  d_Run_over : FuncData
  a_Run_asks : Addr
  d_Run_asks : FuncData
  a_Makes_seen : Addr
  d_Makes_seen : FuncData
  a_Run_step : Addr
  d_Run_step : FuncData
  a_Desk_settled : Addr
  d_Desk_settled : FuncData
  a_Jobs_changed_note : Addr
  d_Jobs_changed_note : FuncData
  a_Jobs_lowest_changed : Addr
  d_Jobs_lowest_changed : FuncData
  a_Jobs_take_off : Addr
  d_Jobs_take_off : FuncData
  a_Way_chosen : Addr
  d_Way_chosen : FuncData
  a_Run_init : Addr
  d_Run_init : FuncData
  a_Desk_taken_up : Addr
  d_Desk_taken_up : FuncData
  a_many_below : Addr
  d_many_below : FuncData
  a_Desk_moved_free : Addr
  d_Desk_moved_free : FuncData
  a_Jobs_lay_down : Addr
  d_Jobs_lay_down : FuncData
  a_Run_paper : Addr
  d_Run_paper : FuncData
  a_Desk_move : Addr
  d_Desk_move : FuncData
  a__law_refused : Addr
  d__law_refused : FuncData
  a__law_cell_at : Addr
  d__law_cell_at : FuncData
  a_Makes_kept : Addr
  d_Makes_kept : FuncData
  a_Desk_kept : Addr
  d_Desk_kept : FuncData
  a_Desk_papers : Addr
  d_Desk_papers : FuncData
  a_Makes_heed_fold : Addr
  d_Makes_heed_fold : FuncData
  a_table_of : Addr
  d_table_of : FuncData
  a_Makes_table_for : Addr
  d_Makes_table_for : FuncData
  a_Desk_table : Addr
  d_Desk_table : FuncData
  a__law_alike : Addr
  d__law_alike : FuncData
  a__law_refused_by_any : Addr
  d__law_refused_by_any : FuncData
  a_law : Addr
  d_law : FuncData
  c_Desk : Addr
  c_Folded : Addr
  c_ForerunError : Addr
  c_Great : Addr
  c_Jobs : Addr
  c_Makes : Addr
  c_NoDealing : Addr
  c_NoHand : Addr
  c_NoLine : Addr
  c_NoLog : Addr
  c_NoNumber : Addr
  c_NoOrder : Addr
  c_NoTerm : Addr
  c_Nought : Addr
  c_Run : Addr
  c_Way : Addr
structure Txt (K : PySem.W.Frag) (mg : Str → Option Value) (t : Adr) : Prop where
  f_Makes_init : Fun K "__init__" "Makes.__init__" s_Makes_init t.a_Makes_init t.d_Makes_init
  b_Makes_init : Binds K t.d_Makes_init ["self", "table"] []
  f_Jobs_init : Fun K "__init__" "Jobs.__init__" s_Jobs_init t.a_Jobs_init t.d_Jobs_init
  b_Jobs_init : Binds K t.d_Jobs_init ["self", "makes"] []
  f_Desk_init : FunD K "__init__" "Desk.__init__" s_Desk_init t.a_Desk_init t.d_Desk_init
  b_Desk_init : Binds K t.d_Desk_init ["self", "table", "hands", "way", "first"] []
  bd_Desk_init : ∃ ds, Vals [.int 0] ds ∧ Binds K t.d_Desk_init ["self", "table", "hands", "way", "first"] ds
  f_Desk_next_rank : Fun K "next_rank" "Desk.next_rank" s_Desk_next_rank t.a_Desk_next_rank t.d_Desk_next_rank
  b_Desk_next_rank : Binds K t.d_Desk_next_rank ["self"] []
  me_Desk_next_rank : Meth K t.c_Desk "next_rank" t.a_Desk_next_rank
  f_Desk_add : Fun K "add" "Desk.add" s_Desk_add t.a_Desk_add t.d_Desk_add
  b_Desk_add : Binds K t.d_Desk_add ["self", "code"] []
  me_Desk_add : Meth K t.c_Desk "add" t.a_Desk_add
  f_Run_over : Fun K "over" "Run.over" s_Run_over t.a_Run_over t.d_Run_over
  b_Run_over : Binds K t.d_Run_over ["self"] []
  me_Run_over : Meth K t.c_Run "over" t.a_Run_over
  f_Run_asks : Fun K "asks" "Run.asks" s_Run_asks t.a_Run_asks t.d_Run_asks
  b_Run_asks : Binds K t.d_Run_asks ["self"] []
  me_Run_asks : Meth K t.c_Run "asks" t.a_Run_asks
  f_Makes_seen : Fun K "seen" "Makes.seen" s_Makes_seen t.a_Makes_seen t.d_Makes_seen
  b_Makes_seen : Binds K t.d_Makes_seen ["self", "place", "rank"] []
  me_Makes_seen : Meth K t.c_Makes "seen" t.a_Makes_seen
  f_Run_step : FunD K "step" "Run.step" s_Run_step t.a_Run_step t.d_Run_step
  b_Run_step : Binds K t.d_Run_step ["self", "worth"] []
  bd_Run_step : ∃ ds, Vals [.int 0] ds ∧ Binds K t.d_Run_step ["self", "worth"] ds
  me_Run_step : Meth K t.c_Run "step" t.a_Run_step
  f_Desk_settled : Fun K "settled" "Desk.settled" s_Desk_settled t.a_Desk_settled t.d_Desk_settled
  b_Desk_settled : Binds K t.d_Desk_settled ["self"] []
  me_Desk_settled : Meth K t.c_Desk "settled" t.a_Desk_settled
  f_Jobs_changed_note : Fun K "changed_note" "Jobs.changed_note" s_Jobs_changed_note t.a_Jobs_changed_note t.d_Jobs_changed_note
  b_Jobs_changed_note : Binds K t.d_Jobs_changed_note ["self", "rank"] []
  me_Jobs_changed_note : Meth K t.c_Jobs "changed_note" t.a_Jobs_changed_note
  f_Jobs_lowest_changed : Fun K "lowest_changed" "Jobs.lowest_changed" s_Jobs_lowest_changed t.a_Jobs_lowest_changed t.d_Jobs_lowest_changed
  b_Jobs_lowest_changed : Binds K t.d_Jobs_lowest_changed ["self"] []
  me_Jobs_lowest_changed : Meth K t.c_Jobs "lowest_changed" t.a_Jobs_lowest_changed
  f_Jobs_take_off : Fun K "take_off" "Jobs.take_off" s_Jobs_take_off t.a_Jobs_take_off t.d_Jobs_take_off
  b_Jobs_take_off : Binds K t.d_Jobs_take_off ["self", "rank"] []
  me_Jobs_take_off : Meth K t.c_Jobs "take_off" t.a_Jobs_take_off
  f_Way_chosen : Fun K "chosen" "Way.chosen" s_Way_chosen t.a_Way_chosen t.d_Way_chosen
  b_Way_chosen : Binds K t.d_Way_chosen ["self", "ranks"] []
  me_Way_chosen : Meth K t.c_Way "chosen" t.a_Way_chosen
  f_Run_init : Fun K "__init__" "Run.__init__" s_Run_init t.a_Run_init t.d_Run_init
  b_Run_init : Binds K t.d_Run_init ["self", "code"] []
  f_Desk_taken_up : Fun K "taken_up" "Desk.taken_up" s_Desk_taken_up t.a_Desk_taken_up t.d_Desk_taken_up
  b_Desk_taken_up : Binds K t.d_Desk_taken_up ["self", "hand"] []
  me_Desk_taken_up : Meth K t.c_Desk "taken_up" t.a_Desk_taken_up
  f_many_below : Fun K "many_below" "many_below" s_many_below t.a_many_below t.d_many_below
  b_many_below : Binds K t.d_many_below ["ranks", "rank"] []
  m_many_below : mg "many_below" = some (.ref t.a_many_below)
  f_Desk_moved_free : Fun K "moved_free" "Desk.moved_free" s_Desk_moved_free t.a_Desk_moved_free t.d_Desk_moved_free
  b_Desk_moved_free : Binds K t.d_Desk_moved_free ["self", "hand"] []
  me_Desk_moved_free : Meth K t.c_Desk "moved_free" t.a_Desk_moved_free
  f_Jobs_lay_down : Fun K "lay_down" "Jobs.lay_down" s_Jobs_lay_down t.a_Jobs_lay_down t.d_Jobs_lay_down
  b_Jobs_lay_down : Binds K t.d_Jobs_lay_down ["self", "rank", "paper"] []
  me_Jobs_lay_down : Meth K t.c_Jobs "lay_down" t.a_Jobs_lay_down
  f_Run_paper : Fun K "paper" "Run.paper" s_Run_paper t.a_Run_paper t.d_Run_paper
  b_Run_paper : Binds K t.d_Run_paper ["self"] []
  me_Run_paper : Meth K t.c_Run "paper" t.a_Run_paper
  f_Desk_move : Fun K "move" "Desk.move" s_Desk_move t.a_Desk_move t.d_Desk_move
  b_Desk_move : Binds K t.d_Desk_move ["self", "hand"] []
  me_Desk_move : Meth K t.c_Desk "move" t.a_Desk_move
  f__law_refused : Fun K "_law_refused" "_law_refused" s__law_refused t.a__law_refused t.d__law_refused
  b__law_refused : Binds K t.d__law_refused ["desk", "hand"] []
  m__law_refused : mg "_law_refused" = some (.ref t.a__law_refused)
  f__law_cell_at : Fun K "_law_cell_at" "_law_cell_at" s__law_cell_at t.a__law_cell_at t.d__law_cell_at
  b__law_cell_at : Binds K t.d__law_cell_at ["script", "k"] []
  m__law_cell_at : mg "_law_cell_at" = some (.ref t.a__law_cell_at)
  f_Makes_kept : Fun K "kept" "Makes.kept" s_Makes_kept t.a_Makes_kept t.d_Makes_kept
  b_Makes_kept : Binds K t.d_Makes_kept ["self"] []
  me_Makes_kept : Meth K t.c_Makes "kept" t.a_Makes_kept
  f_Desk_kept : Fun K "kept" "Desk.kept" s_Desk_kept t.a_Desk_kept t.d_Desk_kept
  b_Desk_kept : Binds K t.d_Desk_kept ["self"] []
  me_Desk_kept : Meth K t.c_Desk "kept" t.a_Desk_kept
  f_Desk_papers : Fun K "papers" "Desk.papers" s_Desk_papers t.a_Desk_papers t.d_Desk_papers
  b_Desk_papers : Binds K t.d_Desk_papers ["self"] []
  me_Desk_papers : Meth K t.c_Desk "papers" t.a_Desk_papers
  f_Makes_heed_fold : Fun K "heed_fold" "Makes.heed_fold" s_Makes_heed_fold t.a_Makes_heed_fold t.d_Makes_heed_fold
  b_Makes_heed_fold : Binds K t.d_Makes_heed_fold ["self", "rank"] []
  me_Makes_heed_fold : Meth K t.c_Makes "heed_fold" t.a_Makes_heed_fold
  f_table_of : Fun K "table_of" "table_of" s_table_of t.a_table_of t.d_table_of
  b_table_of : Binds K t.d_table_of ["rows"] []
  m_table_of : mg "table_of" = some (.ref t.a_table_of)
  f_Makes_table_for : Fun K "table_for" "Makes.table_for" s_Makes_table_for t.a_Makes_table_for t.d_Makes_table_for
  b_Makes_table_for : Binds K t.d_Makes_table_for ["self", "rank"] []
  me_Makes_table_for : Meth K t.c_Makes "table_for" t.a_Makes_table_for
  f_Desk_table : Fun K "table" "Desk.table" s_Desk_table t.a_Desk_table t.d_Desk_table
  b_Desk_table : Binds K t.d_Desk_table ["self"] []
  me_Desk_table : Meth K t.c_Desk "table" t.a_Desk_table
  f__law_alike : Fun K "_law_alike" "_law_alike" s__law_alike t.a__law_alike t.d__law_alike
  b__law_alike : Binds K t.d__law_alike ["found", "due"] []
  m__law_alike : mg "_law_alike" = some (.ref t.a__law_alike)
  f__law_refused_by_any : Fun K "_law_refused_by_any" "_law_refused_by_any" s__law_refused_by_any t.a__law_refused_by_any t.d__law_refused_by_any
  b__law_refused_by_any : Binds K t.d__law_refused_by_any ["desk", "hand"] []
  m__law_refused_by_any : mg "_law_refused_by_any" = some (.ref t.a__law_refused_by_any)
  f_law : Fun K "law" "law" s_law t.a_law t.d_law
  b_law : Binds K t.d_law ["script"] []
  m_law : mg "law" = some (.ref t.a_law)
  w_law : ∀ (s : Shared) (v : Value), BindsTo s t.d_law ⟨[v], []⟩ [("script", v)]
  b_ValueError : mg "ValueError" = none
  b_bool : mg "bool" = none
  b_dict : mg "dict" = none
  b_int : mg "int" = none
  b_isinstance : mg "isinstance" = none
  b_len : mg "len" = none
  b_list : mg "list" = none
  b_range : mg "range" = none
  b_sorted : mg "sorted" = none
  b_str : mg "str" = none
  b_sum : mg "sum" = none
  b_tuple : mg "tuple" = none
  g_Desk : mg "Desk" = some (.ref t.c_Desk)
  g_Folded : mg "Folded" = some (.ref t.c_Folded)
  g_ForerunError : mg "ForerunError" = some (.ref t.c_ForerunError)
  g_Great : mg "Great" = some (.ref t.c_Great)
  g_Jobs : mg "Jobs" = some (.ref t.c_Jobs)
  g_Makes : mg "Makes" = some (.ref t.c_Makes)
  g_NoDealing : mg "NoDealing" = some (.ref t.c_NoDealing)
  g_NoHand : mg "NoHand" = some (.ref t.c_NoHand)
  g_NoLine : mg "NoLine" = some (.ref t.c_NoLine)
  g_NoLog : mg "NoLog" = some (.ref t.c_NoLog)
  g_NoNumber : mg "NoNumber" = some (.ref t.c_NoNumber)
  g_NoOrder : mg "NoOrder" = some (.ref t.c_NoOrder)
  g_NoTerm : mg "NoTerm" = some (.ref t.c_NoTerm)
  g_Nought : mg "Nought" = some (.ref t.c_Nought)
  g_Run : mg "Run" = some (.ref t.c_Run)
  g_Way : mg "Way" = some (.ref t.c_Way)
  cl_Desk : Cls K t.c_Desk
  mk_Desk : Mk K t.c_Desk t.a_Desk_init
  na_Desk_codes : NoAttr K t.c_Desk "codes"
  na_Desk_ended : NoAttr K t.c_Desk "ended"
  na_Desk_first : NoAttr K t.c_Desk "first"
  na_Desk_hands : NoAttr K t.c_Desk "hands"
  na_Desk_held : NoAttr K t.c_Desk "held"
  na_Desk_jobs : NoAttr K t.c_Desk "jobs"
  na_Desk_makes : NoAttr K t.c_Desk "makes"
  na_Desk_waiting : NoAttr K t.c_Desk "waiting"
  na_Desk_way : NoAttr K t.c_Desk "way"
  cl_Jobs : Cls K t.c_Jobs
  mk_Jobs : Mk K t.c_Jobs t.a_Jobs_init
  na_Jobs_doubted : NoAttr K t.c_Jobs "doubted"
  na_Jobs_laid : NoAttr K t.c_Jobs "laid"
  na_Jobs_makes : NoAttr K t.c_Jobs "makes"
  na_Jobs_readers : NoAttr K t.c_Jobs "readers"
  cl_Makes : Cls K t.c_Makes
  mk_Makes : Mk K t.c_Makes t.a_Makes_init
  na_Makes_folded : NoAttr K t.c_Makes "folded"
  na_Makes_ground : NoAttr K t.c_Makes "ground"
  na_Makes_ranks : NoAttr K t.c_Makes "ranks"
  na_Makes_worths : NoAttr K t.c_Makes "worths"
  cl_Run : Cls K t.c_Run
  mk_Run : Mk K t.c_Run t.a_Run_init
  na_Run_at : NoAttr K t.c_Run "at"
  na_Run_code : NoAttr K t.c_Run "code"
  na_Run_gifts : NoAttr K t.c_Run "gifts"
  na_Run_notes : NoAttr K t.c_Run "notes"
  na_Run_sayings : NoAttr K t.c_Run "sayings"
  na_Run_slots : NoAttr K t.c_Run "slots"
  na_Run_why : NoAttr K t.c_Run "why"
  cl_Way : Cls K t.c_Way
  mo_Way : MkO K t.c_Way
  x_NoHand : PySem.W.excIn K t.c_NoHand bmVal newVal = true
  y_NoHand : ExK K t.c_NoHand
  e_NoHand_NoHand : PySem.W.exmOne K (.ref t.c_NoHand) (.ref t.c_NoHand) = some true
  e_NoHand_ForerunError : PySem.W.exmOne K (.ref t.c_NoHand) (.ref t.c_ForerunError) = some true
  i_NoHand_ValueError : PySem.W.kitOne K (.ref t.c_NoHand) (.type "ValueError") = some true
  i_NoHand_ForerunError : PySem.W.kitOne K (.ref t.c_NoHand) (.ref t.c_ForerunError) = some true
  j_NoHand_0 : PySem.W.kitAny K (.ref t.c_NoHand) [.ref t.c_NoNumber, .ref t.c_NoTerm, .ref t.c_NoDealing, .ref t.c_Nought, .ref t.c_Great] = some false
  j_NoHand_1 : PySem.W.kitAny K (.ref t.c_NoHand) [.ref t.c_Folded, .ref t.c_NoOrder, .ref t.c_NoLine, .ref t.c_NoLog] = some false
theorem txt_mk {K : PySem.W.Frag} {h : Heap} {mg : Str → Option Value} (X : K.In h) (G : h.Ns mainGlobals mg)
    {f0 : Addr} {od0 an0 : Option Addr} {sl0 : Array (Option Value)} {oc0 kV0 dc0 pm0 cd0 ct0 : Value}
    {f1 : Addr} {od1 an1 : Option Addr} {sl1 : Array (Option Value)} {oc1 kV1 dc1 pm1 cd1 ct1 : Value}
    {f2 : Addr} {od2 an2 : Option Addr} {sl2 : Array (Option Value)} {oc2 kV2 dc2 pm2 cd2 ct2 : Value} {dA2 : Addr} {dn2 : Nat} {dt2_0 : Tok}
    {f3 : Addr} {od3 an3 : Option Addr} {sl3 : Array (Option Value)} {oc3 kV3 dc3 pm3 cd3 ct3 : Value}
    {f4 : Addr} {od4 an4 : Option Addr} {sl4 : Array (Option Value)} {oc4 kV4 dc4 pm4 cd4 ct4 : Value}
    {f5 : Addr} {od5 an5 : Option Addr} {sl5 : Array (Option Value)} {oc5 kV5 dc5 pm5 cd5 ct5 : Value}
    {f6 : Addr} {od6 an6 : Option Addr} {sl6 : Array (Option Value)} {oc6 kV6 dc6 pm6 cd6 ct6 : Value}
    {f7 : Addr} {od7 an7 : Option Addr} {sl7 : Array (Option Value)} {oc7 kV7 dc7 pm7 cd7 ct7 : Value}
    {f8 : Addr} {od8 an8 : Option Addr} {sl8 : Array (Option Value)} {oc8 kV8 dc8 pm8 cd8 ct8 : Value} {dA8 : Addr} {dn8 : Nat} {dt8_0 : Tok}
    {f9 : Addr} {od9 an9 : Option Addr} {sl9 : Array (Option Value)} {oc9 kV9 dc9 pm9 cd9 ct9 : Value}
    {f10 : Addr} {od10 an10 : Option Addr} {sl10 : Array (Option Value)} {oc10 kV10 dc10 pm10 cd10 ct10 : Value}
    {f11 : Addr} {od11 an11 : Option Addr} {sl11 : Array (Option Value)} {oc11 kV11 dc11 pm11 cd11 ct11 : Value}
    {f12 : Addr} {od12 an12 : Option Addr} {sl12 : Array (Option Value)} {oc12 kV12 dc12 pm12 cd12 ct12 : Value}
    {f13 : Addr} {od13 an13 : Option Addr} {sl13 : Array (Option Value)} {oc13 kV13 dc13 pm13 cd13 ct13 : Value}
    {f14 : Addr} {od14 an14 : Option Addr} {sl14 : Array (Option Value)} {oc14 kV14 dc14 pm14 cd14 ct14 : Value}
    {f15 : Addr} {od15 an15 : Option Addr} {sl15 : Array (Option Value)} {oc15 kV15 dc15 pm15 cd15 ct15 : Value}
    {f16 : Addr} {od16 an16 : Option Addr} {sl16 : Array (Option Value)} {oc16 kV16 dc16 pm16 cd16 ct16 : Value}
    {f17 : Addr} {od17 an17 : Option Addr} {sl17 : Array (Option Value)} {oc17 kV17 dc17 pm17 cd17 ct17 : Value}
    {f18 : Addr} {od18 an18 : Option Addr} {sl18 : Array (Option Value)} {oc18 kV18 dc18 pm18 cd18 ct18 : Value}
    {f19 : Addr} {od19 an19 : Option Addr} {sl19 : Array (Option Value)} {oc19 kV19 dc19 pm19 cd19 ct19 : Value}
    {f20 : Addr} {od20 an20 : Option Addr} {sl20 : Array (Option Value)} {oc20 kV20 dc20 pm20 cd20 ct20 : Value}
    {f21 : Addr} {od21 an21 : Option Addr} {sl21 : Array (Option Value)} {oc21 kV21 dc21 pm21 cd21 ct21 : Value}
    {f22 : Addr} {od22 an22 : Option Addr} {sl22 : Array (Option Value)} {oc22 kV22 dc22 pm22 cd22 ct22 : Value}
    {f23 : Addr} {od23 an23 : Option Addr} {sl23 : Array (Option Value)} {oc23 kV23 dc23 pm23 cd23 ct23 : Value}
    {f24 : Addr} {od24 an24 : Option Addr} {sl24 : Array (Option Value)} {oc24 kV24 dc24 pm24 cd24 ct24 : Value}
    {f25 : Addr} {od25 an25 : Option Addr} {sl25 : Array (Option Value)} {oc25 kV25 dc25 pm25 cd25 ct25 : Value}
    {f26 : Addr} {od26 an26 : Option Addr} {sl26 : Array (Option Value)} {oc26 kV26 dc26 pm26 cd26 ct26 : Value}
    {f27 : Addr} {od27 an27 : Option Addr} {sl27 : Array (Option Value)} {oc27 kV27 dc27 pm27 cd27 ct27 : Value}
    {f28 : Addr} {od28 an28 : Option Addr} {sl28 : Array (Option Value)} {oc28 kV28 dc28 pm28 cd28 ct28 : Value}
    {f29 : Addr} {od29 an29 : Option Addr} {sl29 : Array (Option Value)} {oc29 kV29 dc29 pm29 cd29 ct29 : Value}
    {f30 : Addr} {od30 an30 : Option Addr} {sl30 : Array (Option Value)} {oc30 kV30 dc30 pm30 cd30 ct30 : Value}
    {f31 : Addr} {od31 an31 : Option Addr} {sl31 : Array (Option Value)} {oc31 kV31 dc31 pm31 cd31 ct31 : Value}
    {f32 : Addr} {od32 an32 : Option Addr} {sl32 : Array (Option Value)} {oc32 kV32 dc32 pm32 cd32 ct32 : Value}
    {ca0 : Addr}
    {ca1 : Addr}
    {ca2 : Addr}
    {ca3 : Addr}
    {ca4 : Addr}
    {ca5 : Addr}
    {ca6 : Addr}
    {ca7 : Addr}
    {ca8 : Addr}
    {ca9 : Addr}
    {ca10 : Addr}
    {ca11 : Addr}
    {ca12 : Addr}
    {ca13 : Addr}
    {ca14 : Addr}
    {ca15 : Addr}
    {cl0 : ClassData}
    (qa0 : PySem.W.findIn K (.ref ca5) "__init__" = some (some (.ref f0))) (qi0 : PySem.W.isFn K (.ref f0) = true) (ql0 : K.lookup f0 = some ⟨oc0, od0, .func (PySem.W.fnOf "__init__" "Makes.__init__" (defArgs s_Makes_init) (defBody s_Makes_init) (defScope s_Makes_init) .none kV0 dc0 pm0 an0 cd0 ct0), sl0⟩) (qc0 : PySem.W.codeIn K cd0 "Makes.__init__" = true) (qk0 : PySem.W.keepIn K (.ref f0) = true)
    (qa1 : PySem.W.findIn K (.ref ca4) "__init__" = some (some (.ref f1))) (qi1 : PySem.W.isFn K (.ref f1) = true) (ql1 : K.lookup f1 = some ⟨oc1, od1, .func (PySem.W.fnOf "__init__" "Jobs.__init__" (defArgs s_Jobs_init) (defBody s_Jobs_init) (defScope s_Jobs_init) .none kV1 dc1 pm1 an1 cd1 ct1), sl1⟩) (qc1 : PySem.W.codeIn K cd1 "Jobs.__init__" = true) (qk1 : PySem.W.keepIn K (.ref f1) = true)
    (qa2 : PySem.W.findIn K (.ref ca0) "__init__" = some (some (.ref f2))) (qi2 : PySem.W.isFn K (.ref f2) = true) (ql2 : K.lookup f2 = some ⟨oc2, od2, .func (PySem.W.fnOf "__init__" "Desk.__init__" (defArgs s_Desk_init) (defBody s_Desk_init) (defScope s_Desk_init) (.ref dA2) kV2 dc2 pm2 an2 cd2 ct2), sl2⟩) (qc2 : PySem.W.codeIn K cd2 "Desk.__init__" = true) (qk2 : PySem.W.keepIn K (.ref f2) = true) (qd2 : K.lookup dA2 = some ⟨.type "tuple", none, .seq #[.int 0 dt2_0] dn2, #[]⟩)
    (qa3 : PySem.W.findIn K (.ref ca0) "next_rank" = some (some (.ref f3))) (qi3 : PySem.W.isFn K (.ref f3) = true) (ql3 : K.lookup f3 = some ⟨oc3, od3, .func (PySem.W.fnOf "next_rank" "Desk.next_rank" (defArgs s_Desk_next_rank) (defBody s_Desk_next_rank) (defScope s_Desk_next_rank) .none kV3 dc3 pm3 an3 cd3 ct3), sl3⟩) (qc3 : PySem.W.codeIn K cd3 "Desk.next_rank" = true) (qk3 : PySem.W.keepIn K (.ref f3) = true)
    (qa4 : PySem.W.findIn K (.ref ca0) "add" = some (some (.ref f4))) (qi4 : PySem.W.isFn K (.ref f4) = true) (ql4 : K.lookup f4 = some ⟨oc4, od4, .func (PySem.W.fnOf "add" "Desk.add" (defArgs s_Desk_add) (defBody s_Desk_add) (defScope s_Desk_add) .none kV4 dc4 pm4 an4 cd4 ct4), sl4⟩) (qc4 : PySem.W.codeIn K cd4 "Desk.add" = true) (qk4 : PySem.W.keepIn K (.ref f4) = true)
    (qa5 : PySem.W.findIn K (.ref ca14) "over" = some (some (.ref f5))) (qi5 : PySem.W.isFn K (.ref f5) = true) (ql5 : K.lookup f5 = some ⟨oc5, od5, .func (PySem.W.fnOf "over" "Run.over" (defArgs s_Run_over) (defBody s_Run_over) (defScope s_Run_over) .none kV5 dc5 pm5 an5 cd5 ct5), sl5⟩) (qc5 : PySem.W.codeIn K cd5 "Run.over" = true) (qk5 : PySem.W.keepIn K (.ref f5) = true)
    (qa6 : PySem.W.findIn K (.ref ca14) "asks" = some (some (.ref f6))) (qi6 : PySem.W.isFn K (.ref f6) = true) (ql6 : K.lookup f6 = some ⟨oc6, od6, .func (PySem.W.fnOf "asks" "Run.asks" (defArgs s_Run_asks) (defBody s_Run_asks) (defScope s_Run_asks) .none kV6 dc6 pm6 an6 cd6 ct6), sl6⟩) (qc6 : PySem.W.codeIn K cd6 "Run.asks" = true) (qk6 : PySem.W.keepIn K (.ref f6) = true)
    (qa7 : PySem.W.findIn K (.ref ca5) "seen" = some (some (.ref f7))) (qi7 : PySem.W.isFn K (.ref f7) = true) (ql7 : K.lookup f7 = some ⟨oc7, od7, .func (PySem.W.fnOf "seen" "Makes.seen" (defArgs s_Makes_seen) (defBody s_Makes_seen) (defScope s_Makes_seen) .none kV7 dc7 pm7 an7 cd7 ct7), sl7⟩) (qc7 : PySem.W.codeIn K cd7 "Makes.seen" = true) (qk7 : PySem.W.keepIn K (.ref f7) = true)
    (qa8 : PySem.W.findIn K (.ref ca14) "step" = some (some (.ref f8))) (qi8 : PySem.W.isFn K (.ref f8) = true) (ql8 : K.lookup f8 = some ⟨oc8, od8, .func (PySem.W.fnOf "step" "Run.step" (defArgs s_Run_step) (defBody s_Run_step) (defScope s_Run_step) (.ref dA8) kV8 dc8 pm8 an8 cd8 ct8), sl8⟩) (qc8 : PySem.W.codeIn K cd8 "Run.step" = true) (qk8 : PySem.W.keepIn K (.ref f8) = true) (qd8 : K.lookup dA8 = some ⟨.type "tuple", none, .seq #[.int 0 dt8_0] dn8, #[]⟩)
    (qa9 : PySem.W.findIn K (.ref ca0) "settled" = some (some (.ref f9))) (qi9 : PySem.W.isFn K (.ref f9) = true) (ql9 : K.lookup f9 = some ⟨oc9, od9, .func (PySem.W.fnOf "settled" "Desk.settled" (defArgs s_Desk_settled) (defBody s_Desk_settled) (defScope s_Desk_settled) .none kV9 dc9 pm9 an9 cd9 ct9), sl9⟩) (qc9 : PySem.W.codeIn K cd9 "Desk.settled" = true) (qk9 : PySem.W.keepIn K (.ref f9) = true)
    (qa10 : PySem.W.findIn K (.ref ca4) "changed_note" = some (some (.ref f10))) (qi10 : PySem.W.isFn K (.ref f10) = true) (ql10 : K.lookup f10 = some ⟨oc10, od10, .func (PySem.W.fnOf "changed_note" "Jobs.changed_note" (defArgs s_Jobs_changed_note) (defBody s_Jobs_changed_note) (defScope s_Jobs_changed_note) .none kV10 dc10 pm10 an10 cd10 ct10), sl10⟩) (qc10 : PySem.W.codeIn K cd10 "Jobs.changed_note" = true) (qk10 : PySem.W.keepIn K (.ref f10) = true)
    (qa11 : PySem.W.findIn K (.ref ca4) "lowest_changed" = some (some (.ref f11))) (qi11 : PySem.W.isFn K (.ref f11) = true) (ql11 : K.lookup f11 = some ⟨oc11, od11, .func (PySem.W.fnOf "lowest_changed" "Jobs.lowest_changed" (defArgs s_Jobs_lowest_changed) (defBody s_Jobs_lowest_changed) (defScope s_Jobs_lowest_changed) .none kV11 dc11 pm11 an11 cd11 ct11), sl11⟩) (qc11 : PySem.W.codeIn K cd11 "Jobs.lowest_changed" = true) (qk11 : PySem.W.keepIn K (.ref f11) = true)
    (qa12 : PySem.W.findIn K (.ref ca4) "take_off" = some (some (.ref f12))) (qi12 : PySem.W.isFn K (.ref f12) = true) (ql12 : K.lookup f12 = some ⟨oc12, od12, .func (PySem.W.fnOf "take_off" "Jobs.take_off" (defArgs s_Jobs_take_off) (defBody s_Jobs_take_off) (defScope s_Jobs_take_off) .none kV12 dc12 pm12 an12 cd12 ct12), sl12⟩) (qc12 : PySem.W.codeIn K cd12 "Jobs.take_off" = true) (qk12 : PySem.W.keepIn K (.ref f12) = true)
    (qa13 : PySem.W.findIn K (.ref ca15) "chosen" = some (some (.ref f13))) (qi13 : PySem.W.isFn K (.ref f13) = true) (ql13 : K.lookup f13 = some ⟨oc13, od13, .func (PySem.W.fnOf "chosen" "Way.chosen" (defArgs s_Way_chosen) (defBody s_Way_chosen) (defScope s_Way_chosen) .none kV13 dc13 pm13 an13 cd13 ct13), sl13⟩) (qc13 : PySem.W.codeIn K cd13 "Way.chosen" = true) (qk13 : PySem.W.keepIn K (.ref f13) = true)
    (qa14 : PySem.W.findIn K (.ref ca14) "__init__" = some (some (.ref f14))) (qi14 : PySem.W.isFn K (.ref f14) = true) (ql14 : K.lookup f14 = some ⟨oc14, od14, .func (PySem.W.fnOf "__init__" "Run.__init__" (defArgs s_Run_init) (defBody s_Run_init) (defScope s_Run_init) .none kV14 dc14 pm14 an14 cd14 ct14), sl14⟩) (qc14 : PySem.W.codeIn K cd14 "Run.__init__" = true) (qk14 : PySem.W.keepIn K (.ref f14) = true)
    (qa15 : PySem.W.findIn K (.ref ca0) "taken_up" = some (some (.ref f15))) (qi15 : PySem.W.isFn K (.ref f15) = true) (ql15 : K.lookup f15 = some ⟨oc15, od15, .func (PySem.W.fnOf "taken_up" "Desk.taken_up" (defArgs s_Desk_taken_up) (defBody s_Desk_taken_up) (defScope s_Desk_taken_up) .none kV15 dc15 pm15 an15 cd15 ct15), sl15⟩) (qc15 : PySem.W.codeIn K cd15 "Desk.taken_up" = true) (qk15 : PySem.W.keepIn K (.ref f15) = true)
    (qa16 : PySem.W.nsIn K mainGlobals "many_below" = some (some (.ref f16))) (ql16 : K.lookup f16 = some ⟨oc16, od16, .func (PySem.W.fnOf "many_below" "many_below" (defArgs s_many_below) (defBody s_many_below) (defScope s_many_below) .none kV16 dc16 pm16 an16 cd16 ct16), sl16⟩) (qc16 : PySem.W.codeIn K cd16 "many_below" = true) (qk16 : PySem.W.keepIn K (.ref f16) = true)
    (qa17 : PySem.W.findIn K (.ref ca0) "moved_free" = some (some (.ref f17))) (qi17 : PySem.W.isFn K (.ref f17) = true) (ql17 : K.lookup f17 = some ⟨oc17, od17, .func (PySem.W.fnOf "moved_free" "Desk.moved_free" (defArgs s_Desk_moved_free) (defBody s_Desk_moved_free) (defScope s_Desk_moved_free) .none kV17 dc17 pm17 an17 cd17 ct17), sl17⟩) (qc17 : PySem.W.codeIn K cd17 "Desk.moved_free" = true) (qk17 : PySem.W.keepIn K (.ref f17) = true)
    (qa18 : PySem.W.findIn K (.ref ca4) "lay_down" = some (some (.ref f18))) (qi18 : PySem.W.isFn K (.ref f18) = true) (ql18 : K.lookup f18 = some ⟨oc18, od18, .func (PySem.W.fnOf "lay_down" "Jobs.lay_down" (defArgs s_Jobs_lay_down) (defBody s_Jobs_lay_down) (defScope s_Jobs_lay_down) .none kV18 dc18 pm18 an18 cd18 ct18), sl18⟩) (qc18 : PySem.W.codeIn K cd18 "Jobs.lay_down" = true) (qk18 : PySem.W.keepIn K (.ref f18) = true)
    (qa19 : PySem.W.findIn K (.ref ca14) "paper" = some (some (.ref f19))) (qi19 : PySem.W.isFn K (.ref f19) = true) (ql19 : K.lookup f19 = some ⟨oc19, od19, .func (PySem.W.fnOf "paper" "Run.paper" (defArgs s_Run_paper) (defBody s_Run_paper) (defScope s_Run_paper) .none kV19 dc19 pm19 an19 cd19 ct19), sl19⟩) (qc19 : PySem.W.codeIn K cd19 "Run.paper" = true) (qk19 : PySem.W.keepIn K (.ref f19) = true)
    (qa20 : PySem.W.findIn K (.ref ca0) "move" = some (some (.ref f20))) (qi20 : PySem.W.isFn K (.ref f20) = true) (ql20 : K.lookup f20 = some ⟨oc20, od20, .func (PySem.W.fnOf "move" "Desk.move" (defArgs s_Desk_move) (defBody s_Desk_move) (defScope s_Desk_move) .none kV20 dc20 pm20 an20 cd20 ct20), sl20⟩) (qc20 : PySem.W.codeIn K cd20 "Desk.move" = true) (qk20 : PySem.W.keepIn K (.ref f20) = true)
    (qa21 : PySem.W.nsIn K mainGlobals "_law_refused" = some (some (.ref f21))) (ql21 : K.lookup f21 = some ⟨oc21, od21, .func (PySem.W.fnOf "_law_refused" "_law_refused" (defArgs s__law_refused) (defBody s__law_refused) (defScope s__law_refused) .none kV21 dc21 pm21 an21 cd21 ct21), sl21⟩) (qc21 : PySem.W.codeIn K cd21 "_law_refused" = true) (qk21 : PySem.W.keepIn K (.ref f21) = true)
    (qa22 : PySem.W.nsIn K mainGlobals "_law_cell_at" = some (some (.ref f22))) (ql22 : K.lookup f22 = some ⟨oc22, od22, .func (PySem.W.fnOf "_law_cell_at" "_law_cell_at" (defArgs s__law_cell_at) (defBody s__law_cell_at) (defScope s__law_cell_at) .none kV22 dc22 pm22 an22 cd22 ct22), sl22⟩) (qc22 : PySem.W.codeIn K cd22 "_law_cell_at" = true) (qk22 : PySem.W.keepIn K (.ref f22) = true)
    (qa23 : PySem.W.findIn K (.ref ca5) "kept" = some (some (.ref f23))) (qi23 : PySem.W.isFn K (.ref f23) = true) (ql23 : K.lookup f23 = some ⟨oc23, od23, .func (PySem.W.fnOf "kept" "Makes.kept" (defArgs s_Makes_kept) (defBody s_Makes_kept) (defScope s_Makes_kept) .none kV23 dc23 pm23 an23 cd23 ct23), sl23⟩) (qc23 : PySem.W.codeIn K cd23 "Makes.kept" = true) (qk23 : PySem.W.keepIn K (.ref f23) = true)
    (qa24 : PySem.W.findIn K (.ref ca0) "kept" = some (some (.ref f24))) (qi24 : PySem.W.isFn K (.ref f24) = true) (ql24 : K.lookup f24 = some ⟨oc24, od24, .func (PySem.W.fnOf "kept" "Desk.kept" (defArgs s_Desk_kept) (defBody s_Desk_kept) (defScope s_Desk_kept) .none kV24 dc24 pm24 an24 cd24 ct24), sl24⟩) (qc24 : PySem.W.codeIn K cd24 "Desk.kept" = true) (qk24 : PySem.W.keepIn K (.ref f24) = true)
    (qa25 : PySem.W.findIn K (.ref ca0) "papers" = some (some (.ref f25))) (qi25 : PySem.W.isFn K (.ref f25) = true) (ql25 : K.lookup f25 = some ⟨oc25, od25, .func (PySem.W.fnOf "papers" "Desk.papers" (defArgs s_Desk_papers) (defBody s_Desk_papers) (defScope s_Desk_papers) .none kV25 dc25 pm25 an25 cd25 ct25), sl25⟩) (qc25 : PySem.W.codeIn K cd25 "Desk.papers" = true) (qk25 : PySem.W.keepIn K (.ref f25) = true)
    (qa26 : PySem.W.findIn K (.ref ca5) "heed_fold" = some (some (.ref f26))) (qi26 : PySem.W.isFn K (.ref f26) = true) (ql26 : K.lookup f26 = some ⟨oc26, od26, .func (PySem.W.fnOf "heed_fold" "Makes.heed_fold" (defArgs s_Makes_heed_fold) (defBody s_Makes_heed_fold) (defScope s_Makes_heed_fold) .none kV26 dc26 pm26 an26 cd26 ct26), sl26⟩) (qc26 : PySem.W.codeIn K cd26 "Makes.heed_fold" = true) (qk26 : PySem.W.keepIn K (.ref f26) = true)
    (qa27 : PySem.W.nsIn K mainGlobals "table_of" = some (some (.ref f27))) (ql27 : K.lookup f27 = some ⟨oc27, od27, .func (PySem.W.fnOf "table_of" "table_of" (defArgs s_table_of) (defBody s_table_of) (defScope s_table_of) .none kV27 dc27 pm27 an27 cd27 ct27), sl27⟩) (qc27 : PySem.W.codeIn K cd27 "table_of" = true) (qk27 : PySem.W.keepIn K (.ref f27) = true)
    (qa28 : PySem.W.findIn K (.ref ca5) "table_for" = some (some (.ref f28))) (qi28 : PySem.W.isFn K (.ref f28) = true) (ql28 : K.lookup f28 = some ⟨oc28, od28, .func (PySem.W.fnOf "table_for" "Makes.table_for" (defArgs s_Makes_table_for) (defBody s_Makes_table_for) (defScope s_Makes_table_for) .none kV28 dc28 pm28 an28 cd28 ct28), sl28⟩) (qc28 : PySem.W.codeIn K cd28 "Makes.table_for" = true) (qk28 : PySem.W.keepIn K (.ref f28) = true)
    (qa29 : PySem.W.findIn K (.ref ca0) "table" = some (some (.ref f29))) (qi29 : PySem.W.isFn K (.ref f29) = true) (ql29 : K.lookup f29 = some ⟨oc29, od29, .func (PySem.W.fnOf "table" "Desk.table" (defArgs s_Desk_table) (defBody s_Desk_table) (defScope s_Desk_table) .none kV29 dc29 pm29 an29 cd29 ct29), sl29⟩) (qc29 : PySem.W.codeIn K cd29 "Desk.table" = true) (qk29 : PySem.W.keepIn K (.ref f29) = true)
    (qa30 : PySem.W.nsIn K mainGlobals "_law_alike" = some (some (.ref f30))) (ql30 : K.lookup f30 = some ⟨oc30, od30, .func (PySem.W.fnOf "_law_alike" "_law_alike" (defArgs s__law_alike) (defBody s__law_alike) (defScope s__law_alike) .none kV30 dc30 pm30 an30 cd30 ct30), sl30⟩) (qc30 : PySem.W.codeIn K cd30 "_law_alike" = true) (qk30 : PySem.W.keepIn K (.ref f30) = true)
    (qa31 : PySem.W.nsIn K mainGlobals "_law_refused_by_any" = some (some (.ref f31))) (ql31 : K.lookup f31 = some ⟨oc31, od31, .func (PySem.W.fnOf "_law_refused_by_any" "_law_refused_by_any" (defArgs s__law_refused_by_any) (defBody s__law_refused_by_any) (defScope s__law_refused_by_any) .none kV31 dc31 pm31 an31 cd31 ct31), sl31⟩) (qc31 : PySem.W.codeIn K cd31 "_law_refused_by_any" = true) (qk31 : PySem.W.keepIn K (.ref f31) = true)
    (qa32 : PySem.W.nsIn K mainGlobals "law" = some (some (.ref f32))) (ql32 : K.lookup f32 = some ⟨oc32, od32, .func (PySem.W.fnOf "law" "law" (defArgs s_law) (defBody s_law) (defScope s_law) .none kV32 dc32 pm32 an32 cd32 ct32), sl32⟩) (qc32 : PySem.W.codeIn K cd32 "law" = true) (qk32 : PySem.W.keepIn K (.ref f32) = true)
    (qz0 : PySem.W.nsIn K mainGlobals "ValueError" = some none)
    (qz1 : PySem.W.nsIn K mainGlobals "bool" = some none)
    (qz2 : PySem.W.nsIn K mainGlobals "dict" = some none)
    (qz3 : PySem.W.nsIn K mainGlobals "int" = some none)
    (qz4 : PySem.W.nsIn K mainGlobals "isinstance" = some none)
    (qz5 : PySem.W.nsIn K mainGlobals "len" = some none)
    (qz6 : PySem.W.nsIn K mainGlobals "list" = some none)
    (qz7 : PySem.W.nsIn K mainGlobals "range" = some none)
    (qz8 : PySem.W.nsIn K mainGlobals "sorted" = some none)
    (qz9 : PySem.W.nsIn K mainGlobals "str" = some none)
    (qz10 : PySem.W.nsIn K mainGlobals "sum" = some none)
    (qz11 : PySem.W.nsIn K mainGlobals "tuple" = some none)
    (qv0 : PySem.W.nsIn K mainGlobals "Desk" = some (some (.ref ca0)))
    (qv1 : PySem.W.nsIn K mainGlobals "Folded" = some (some (.ref ca1)))
    (qv2 : PySem.W.nsIn K mainGlobals "ForerunError" = some (some (.ref ca2)))
    (qv3 : PySem.W.nsIn K mainGlobals "Great" = some (some (.ref ca3)))
    (qv4 : PySem.W.nsIn K mainGlobals "Jobs" = some (some (.ref ca4)))
    (qv5 : PySem.W.nsIn K mainGlobals "Makes" = some (some (.ref ca5)))
    (qv6 : PySem.W.nsIn K mainGlobals "NoDealing" = some (some (.ref ca6)))
    (qv7 : PySem.W.nsIn K mainGlobals "NoHand" = some (some (.ref ca7)))
    (qv8 : PySem.W.nsIn K mainGlobals "NoLine" = some (some (.ref ca8)))
    (qv9 : PySem.W.nsIn K mainGlobals "NoLog" = some (some (.ref ca9)))
    (qv10 : PySem.W.nsIn K mainGlobals "NoNumber" = some (some (.ref ca10)))
    (qv11 : PySem.W.nsIn K mainGlobals "NoOrder" = some (some (.ref ca11)))
    (qv12 : PySem.W.nsIn K mainGlobals "NoTerm" = some (some (.ref ca12)))
    (qv13 : PySem.W.nsIn K mainGlobals "Nought" = some (some (.ref ca13)))
    (qv14 : PySem.W.nsIn K mainGlobals "Run" = some (some (.ref ca14)))
    (qv15 : PySem.W.nsIn K mainGlobals "Way" = some (some (.ref ca15)))
    (pg0 : PySem.W.plainGet K ca0 Str.empty = true) (pd0 : PySem.W.hasDictIn K ca0 = true) (po0 : PySem.W.plainOver K ca0 = true) (pe0 : PySem.W.findIn K (.ref ca0) "__setattr__" = some (some (.builtin "object.__setattr__"))) (pm0_ : PySem.W.makesIn K ca0 = true) (pk0 : PySem.W.keepIn K (.ref ca0) = true)
    (pn0_0 : PySem.W.findIn K (.ref ca0) "codes" = some none)
    (pn0_1 : PySem.W.findIn K (.ref ca0) "ended" = some none)
    (pn0_2 : PySem.W.findIn K (.ref ca0) "first" = some none)
    (pn0_3 : PySem.W.findIn K (.ref ca0) "hands" = some none)
    (pn0_4 : PySem.W.findIn K (.ref ca0) "held" = some none)
    (pn0_5 : PySem.W.findIn K (.ref ca0) "jobs" = some none)
    (pn0_6 : PySem.W.findIn K (.ref ca0) "makes" = some none)
    (pn0_7 : PySem.W.findIn K (.ref ca0) "waiting" = some none)
    (pn0_8 : PySem.W.findIn K (.ref ca0) "way" = some none)
    (pg4 : PySem.W.plainGet K ca4 Str.empty = true) (pd4 : PySem.W.hasDictIn K ca4 = true) (po4 : PySem.W.plainOver K ca4 = true) (pe4 : PySem.W.findIn K (.ref ca4) "__setattr__" = some (some (.builtin "object.__setattr__"))) (pm4_ : PySem.W.makesIn K ca4 = true) (pk4 : PySem.W.keepIn K (.ref ca4) = true)
    (pn4_0 : PySem.W.findIn K (.ref ca4) "doubted" = some none)
    (pn4_1 : PySem.W.findIn K (.ref ca4) "laid" = some none)
    (pn4_2 : PySem.W.findIn K (.ref ca4) "makes" = some none)
    (pn4_3 : PySem.W.findIn K (.ref ca4) "readers" = some none)
    (pg5 : PySem.W.plainGet K ca5 Str.empty = true) (pd5 : PySem.W.hasDictIn K ca5 = true) (po5 : PySem.W.plainOver K ca5 = true) (pe5 : PySem.W.findIn K (.ref ca5) "__setattr__" = some (some (.builtin "object.__setattr__"))) (pm5_ : PySem.W.makesIn K ca5 = true) (pk5 : PySem.W.keepIn K (.ref ca5) = true)
    (pn5_0 : PySem.W.findIn K (.ref ca5) "folded" = some none)
    (pn5_1 : PySem.W.findIn K (.ref ca5) "ground" = some none)
    (pn5_2 : PySem.W.findIn K (.ref ca5) "ranks" = some none)
    (pn5_3 : PySem.W.findIn K (.ref ca5) "worths" = some none)
    (pg14 : PySem.W.plainGet K ca14 Str.empty = true) (pd14 : PySem.W.hasDictIn K ca14 = true) (po14 : PySem.W.plainOver K ca14 = true) (pe14 : PySem.W.findIn K (.ref ca14) "__setattr__" = some (some (.builtin "object.__setattr__"))) (pm14_ : PySem.W.makesIn K ca14 = true) (pk14 : PySem.W.keepIn K (.ref ca14) = true)
    (pn14_0 : PySem.W.findIn K (.ref ca14) "at" = some none)
    (pn14_1 : PySem.W.findIn K (.ref ca14) "code" = some none)
    (pn14_2 : PySem.W.findIn K (.ref ca14) "gifts" = some none)
    (pn14_3 : PySem.W.findIn K (.ref ca14) "notes" = some none)
    (pn14_4 : PySem.W.findIn K (.ref ca14) "sayings" = some none)
    (pn14_5 : PySem.W.findIn K (.ref ca14) "slots" = some none)
    (pn14_6 : PySem.W.findIn K (.ref ca14) "why" = some none)
    (pi15 : PySem.W.findIn K (.ref ca15) "__init__" = some (some (.builtin "object.__init__")))
    (pg15 : PySem.W.plainGet K ca15 Str.empty = true) (pd15 : PySem.W.hasDictIn K ca15 = true) (po15 : PySem.W.plainOver K ca15 = true) (pe15 : PySem.W.findIn K (.ref ca15) "__setattr__" = some (some (.builtin "object.__setattr__"))) (pm15_ : PySem.W.makesIn K ca15 = true) (pk15 : PySem.W.keepIn K (.ref ca15) = true)
    (rx0 : PySem.W.excIn K ca7 bmVal newVal = true)
    (ry0_0 : PySem.W.findIn K (.ref ca7) "__getattribute__" = some (some (.builtin "BaseException.__getattribute__")))
    (ry0_1 : PySem.W.findIn K (.ref ca7) "__getattr__" = some none)
    (ry0_2 : PySem.W.findIn K (.ref ca7) "__class__" = some (some (.builtin "object.__class__")))
    (ry0_3 : PySem.W.mroIn K ca7 (.type "object") = some true)
    (ry0_4 : PySem.W.mroIn K ca7 (.type "BaseException") = some true)
    (ry0_5 : PySem.W.specialIn K (.builtin "object.__class__") "__get__" = some (some (.builtin "getset_descriptor.__get__")))
    (ry0_6 : PySem.W.takesIn K (.builtin "object.__class__") = some true)
    (ry0_7 : PySem.W.clsIn K ca7 = some cl0)
    (re0_0 : PySem.W.exmOne K (.ref ca7) (.ref ca7) = some true)
    (re0_1 : PySem.W.exmOne K (.ref ca7) (.ref ca2) = some true)
    (ri0_0 : PySem.W.kitOne K (.ref ca7) (.type "ValueError") = some true)
    (ri0_1 : PySem.W.kitOne K (.ref ca7) (.ref ca2) = some true)
    (rj0_0 : PySem.W.kitAny K (.ref ca7) [(.ref ca10), (.ref ca12), (.ref ca6), (.ref ca13), (.ref ca3)] = some false)
    (rj0_1 : PySem.W.kitAny K (.ref ca7) [(.ref ca1), (.ref ca11), (.ref ca8), (.ref ca9)] = some false) : ∃ t, Txt K mg t := by
  have F0 := fun_mk (st := s_Makes_init) ql0 qc0 qk0
  have F1 := fun_mk (st := s_Jobs_init) ql1 qc1 qk1
  have F2 := fun_mkD (st := s_Desk_init) ql2 qc2 qk2
  have F3 := fun_mk (st := s_Desk_next_rank) ql3 qc3 qk3
  have F4 := fun_mk (st := s_Desk_add) ql4 qc4 qk4
  have F5 := fun_mk (st := s_Run_over) ql5 qc5 qk5
  have F6 := fun_mk (st := s_Run_asks) ql6 qc6 qk6
  have F7 := fun_mk (st := s_Makes_seen) ql7 qc7 qk7
  have F8 := fun_mkD (st := s_Run_step) ql8 qc8 qk8
  have F9 := fun_mk (st := s_Desk_settled) ql9 qc9 qk9
  have F10 := fun_mk (st := s_Jobs_changed_note) ql10 qc10 qk10
  have F11 := fun_mk (st := s_Jobs_lowest_changed) ql11 qc11 qk11
  have F12 := fun_mk (st := s_Jobs_take_off) ql12 qc12 qk12
  have F13 := fun_mk (st := s_Way_chosen) ql13 qc13 qk13
  have F14 := fun_mk (st := s_Run_init) ql14 qc14 qk14
  have F15 := fun_mk (st := s_Desk_taken_up) ql15 qc15 qk15
  have F16 := fun_mk (st := s_many_below) ql16 qc16 qk16
  have F17 := fun_mk (st := s_Desk_moved_free) ql17 qc17 qk17
  have F18 := fun_mk (st := s_Jobs_lay_down) ql18 qc18 qk18
  have F19 := fun_mk (st := s_Run_paper) ql19 qc19 qk19
  have F20 := fun_mk (st := s_Desk_move) ql20 qc20 qk20
  have F21 := fun_mk (st := s__law_refused) ql21 qc21 qk21
  have F22 := fun_mk (st := s__law_cell_at) ql22 qc22 qk22
  have F23 := fun_mk (st := s_Makes_kept) ql23 qc23 qk23
  have F24 := fun_mk (st := s_Desk_kept) ql24 qc24 qk24
  have F25 := fun_mk (st := s_Desk_papers) ql25 qc25 qk25
  have F26 := fun_mk (st := s_Makes_heed_fold) ql26 qc26 qk26
  have F27 := fun_mk (st := s_table_of) ql27 qc27 qk27
  have F28 := fun_mk (st := s_Makes_table_for) ql28 qc28 qk28
  have F29 := fun_mk (st := s_Desk_table) ql29 qc29 qk29
  have F30 := fun_mk (st := s__law_alike) ql30 qc30 qk30
  have F31 := fun_mk (st := s__law_refused_by_any) ql31 qc31 qk31
  have F32 := fun_mk (st := s_law) ql32 qc32 qk32
  exact ⟨⟨f0, _, f1, _, f2, _, f3, _, f4, _, f5, _, f6, _, f7, _, f8, _, f9, _, f10, _, f11, _, f12, _, f13, _, f14, _, f15, _, f16, _, f17, _, f18, _, f19, _, f20, _, f21, _, f22, _, f23, _, f24, _, f25, _, f26, _, f27, _, f28, _, f29, _, f30, _, f31, _, f32, _, ca0, ca1, ca2, ca3, ca4, ca5, ca6, ca7, ca8, ca9, ca10, ca11, ca12, ca13, ca14, ca15⟩, ⟨F0, F0.binds (ps := ["self", "table"]) (fun _ _ _ _ _ _ us hl => match us, hl with | [_, _], _ => rfl),
    F1, F1.binds (ps := ["self", "makes"]) (fun _ _ _ _ _ _ us hl => match us, hl with | [_, _], _ => rfl),
    F2, (fun s us hK hl => match us, (show us.length = 5 by simpa using hl) with | [_, _, _, _, _], _ => .of_defaults (T := dA2) rfl (hK _ _ qd2) rfl rfl rfl), ⟨[.int 0 dt2_0], (.cons ⟨_, rfl⟩ .nil), (fun s us hK hl => match us, (show us.length = 4 by simpa using hl) with | [_, _, _, _], _ => .of_defaults (T := dA2) rfl (hK _ _ qd2) rfl rfl rfl)⟩,
    F3, F3.binds (ps := ["self"]) (fun _ _ _ _ _ _ us hl => match us, hl with | [_], _ => rfl), ⟨qa3, qi3, qk3⟩,
    F4, F4.binds (ps := ["self", "code"]) (fun _ _ _ _ _ _ us hl => match us, hl with | [_, _], _ => rfl), ⟨qa4, qi4, qk4⟩,
    F5, F5.binds (ps := ["self"]) (fun _ _ _ _ _ _ us hl => match us, hl with | [_], _ => rfl), ⟨qa5, qi5, qk5⟩,
    F6, F6.binds (ps := ["self"]) (fun _ _ _ _ _ _ us hl => match us, hl with | [_], _ => rfl), ⟨qa6, qi6, qk6⟩,
    F7, F7.binds (ps := ["self", "place", "rank"]) (fun _ _ _ _ _ _ us hl => match us, hl with | [_, _, _], _ => rfl), ⟨qa7, qi7, qk7⟩,
    F8, (fun s us hK hl => match us, (show us.length = 2 by simpa using hl) with | [_, _], _ => .of_defaults (T := dA8) rfl (hK _ _ qd8) rfl rfl rfl), ⟨[.int 0 dt8_0], (.cons ⟨_, rfl⟩ .nil), (fun s us hK hl => match us, (show us.length = 1 by simpa using hl) with | [_], _ => .of_defaults (T := dA8) rfl (hK _ _ qd8) rfl rfl rfl)⟩, ⟨qa8, qi8, qk8⟩,
    F9, F9.binds (ps := ["self"]) (fun _ _ _ _ _ _ us hl => match us, hl with | [_], _ => rfl), ⟨qa9, qi9, qk9⟩,
    F10, F10.binds (ps := ["self", "rank"]) (fun _ _ _ _ _ _ us hl => match us, hl with | [_, _], _ => rfl), ⟨qa10, qi10, qk10⟩,
    F11, F11.binds (ps := ["self"]) (fun _ _ _ _ _ _ us hl => match us, hl with | [_], _ => rfl), ⟨qa11, qi11, qk11⟩,
    F12, F12.binds (ps := ["self", "rank"]) (fun _ _ _ _ _ _ us hl => match us, hl with | [_, _], _ => rfl), ⟨qa12, qi12, qk12⟩,
    F13, F13.binds (ps := ["self", "ranks"]) (fun _ _ _ _ _ _ us hl => match us, hl with | [_, _], _ => rfl), ⟨qa13, qi13, qk13⟩,
    F14, F14.binds (ps := ["self", "code"]) (fun _ _ _ _ _ _ us hl => match us, hl with | [_, _], _ => rfl),
    F15, F15.binds (ps := ["self", "hand"]) (fun _ _ _ _ _ _ us hl => match us, hl with | [_, _], _ => rfl), ⟨qa15, qi15, qk15⟩,
    F16, F16.binds (ps := ["ranks", "rank"]) (fun _ _ _ _ _ _ us hl => match us, hl with | [_, _], _ => rfl), PySem.W.mg_of X G qa16,
    F17, F17.binds (ps := ["self", "hand"]) (fun _ _ _ _ _ _ us hl => match us, hl with | [_, _], _ => rfl), ⟨qa17, qi17, qk17⟩,
    F18, F18.binds (ps := ["self", "rank", "paper"]) (fun _ _ _ _ _ _ us hl => match us, hl with | [_, _, _], _ => rfl), ⟨qa18, qi18, qk18⟩,
    F19, F19.binds (ps := ["self"]) (fun _ _ _ _ _ _ us hl => match us, hl with | [_], _ => rfl), ⟨qa19, qi19, qk19⟩,
    F20, F20.binds (ps := ["self", "hand"]) (fun _ _ _ _ _ _ us hl => match us, hl with | [_, _], _ => rfl), ⟨qa20, qi20, qk20⟩,
    F21, F21.binds (ps := ["desk", "hand"]) (fun _ _ _ _ _ _ us hl => match us, hl with | [_, _], _ => rfl), PySem.W.mg_of X G qa21,
    F22, F22.binds (ps := ["script", "k"]) (fun _ _ _ _ _ _ us hl => match us, hl with | [_, _], _ => rfl), PySem.W.mg_of X G qa22,
    F23, F23.binds (ps := ["self"]) (fun _ _ _ _ _ _ us hl => match us, hl with | [_], _ => rfl), ⟨qa23, qi23, qk23⟩,
    F24, F24.binds (ps := ["self"]) (fun _ _ _ _ _ _ us hl => match us, hl with | [_], _ => rfl), ⟨qa24, qi24, qk24⟩,
    F25, F25.binds (ps := ["self"]) (fun _ _ _ _ _ _ us hl => match us, hl with | [_], _ => rfl), ⟨qa25, qi25, qk25⟩,
    F26, F26.binds (ps := ["self", "rank"]) (fun _ _ _ _ _ _ us hl => match us, hl with | [_, _], _ => rfl), ⟨qa26, qi26, qk26⟩,
    F27, F27.binds (ps := ["rows"]) (fun _ _ _ _ _ _ us hl => match us, hl with | [_], _ => rfl), PySem.W.mg_of X G qa27,
    F28, F28.binds (ps := ["self", "rank"]) (fun _ _ _ _ _ _ us hl => match us, hl with | [_, _], _ => rfl), ⟨qa28, qi28, qk28⟩,
    F29, F29.binds (ps := ["self"]) (fun _ _ _ _ _ _ us hl => match us, hl with | [_], _ => rfl), ⟨qa29, qi29, qk29⟩,
    F30, F30.binds (ps := ["found", "due"]) (fun _ _ _ _ _ _ us hl => match us, hl with | [_, _], _ => rfl), PySem.W.mg_of X G qa30,
    F31, F31.binds (ps := ["desk", "hand"]) (fun _ _ _ _ _ _ us hl => match us, hl with | [_, _], _ => rfl), PySem.W.mg_of X G qa31,
    F32, F32.binds (ps := ["script"]) (fun _ _ _ _ _ _ us hl => match us, hl with | [_], _ => rfl), PySem.W.mg_of X G qa32,
    fun s v => .of_eq rfl,
    PySem.W.mg_none_of X G qz0,
    PySem.W.mg_none_of X G qz1,
    PySem.W.mg_none_of X G qz2,
    PySem.W.mg_none_of X G qz3,
    PySem.W.mg_none_of X G qz4,
    PySem.W.mg_none_of X G qz5,
    PySem.W.mg_none_of X G qz6,
    PySem.W.mg_none_of X G qz7,
    PySem.W.mg_none_of X G qz8,
    PySem.W.mg_none_of X G qz9,
    PySem.W.mg_none_of X G qz10,
    PySem.W.mg_none_of X G qz11,
    PySem.W.mg_of X G qv0,
    PySem.W.mg_of X G qv1,
    PySem.W.mg_of X G qv2,
    PySem.W.mg_of X G qv3,
    PySem.W.mg_of X G qv4,
    PySem.W.mg_of X G qv5,
    PySem.W.mg_of X G qv6,
    PySem.W.mg_of X G qv7,
    PySem.W.mg_of X G qv8,
    PySem.W.mg_of X G qv9,
    PySem.W.mg_of X G qv10,
    PySem.W.mg_of X G qv11,
    PySem.W.mg_of X G qv12,
    PySem.W.mg_of X G qv13,
    PySem.W.mg_of X G qv14,
    PySem.W.mg_of X G qv15,
    ⟨pg0, pd0, po0, pe0⟩,
    ⟨pm0_, qa2, qi2, pk0⟩,
    pn0_0,
    pn0_1,
    pn0_2,
    pn0_3,
    pn0_4,
    pn0_5,
    pn0_6,
    pn0_7,
    pn0_8,
    ⟨pg4, pd4, po4, pe4⟩,
    ⟨pm4_, qa1, qi1, pk4⟩,
    pn4_0,
    pn4_1,
    pn4_2,
    pn4_3,
    ⟨pg5, pd5, po5, pe5⟩,
    ⟨pm5_, qa0, qi0, pk5⟩,
    pn5_0,
    pn5_1,
    pn5_2,
    pn5_3,
    ⟨pg14, pd14, po14, pe14⟩,
    ⟨pm14_, qa14, qi14, pk14⟩,
    pn14_0,
    pn14_1,
    pn14_2,
    pn14_3,
    pn14_4,
    pn14_5,
    pn14_6,
    ⟨pg15, pd15, po15, pe15⟩,
    ⟨pm15_, pi15, pk15⟩,
    rx0,
    ⟨⟨ry0_0, ry0_1, ry0_2, ry0_3, ry0_4, ry0_5, ry0_6⟩, by rw [ry0_7]; rfl⟩,
    re0_0,
    re0_1,
    ri0_0,
    ri0_1,
    rj0_0,
    rj0_1⟩⟩
structure KF (K : PySem.W.Frag) : Prop where
  i_b : PySem.W.kitOne K (.type "int") (.type "bool") = some false
  s_s : PySem.W.kitOne K (.type "str") (.type "str") = some true
/-- where a desk's parts lie -/
structure DAd where
  dx : Addr
  wy : Addr
  dw : Addr
  cl : Addr
  wl : Addr
  hd : Addr
  mks : Addr
  dm : Addr
  jb : Addr
  dj : Addr
  en : Addr
  gr : Addr
  wo : Addr
  rk : Addr
  la : Addr
  re : Addr
  db : Addr
def dkFs (a : DAd) (n : Int) (f : Int) : List (Str × V) := [(Str.ofString "hands", .int n), (Str.ofString "way", .ref a.wy), (Str.ofString "first", .int f), (Str.ofString "codes", .ref a.cl), (Str.ofString "waiting", .ref a.wl), (Str.ofString "held", .ref a.hd), (Str.ofString "makes", .ref a.mks), (Str.ofString "jobs", .ref a.jb), (Str.ofString "ended", .ref a.en)]
/-- what never changes of a desk whose hands only take -/
structure DkB (t : Adr) (H : Hp) (d : Addr) (a : DAd) (n f : Int) : Prop where
  id : H d = some (.ins t.c_Desk a.dx (dkFs a n f))
  iw : H a.wy = some (.ins t.c_Way a.dw [])
  im : H a.mks = some (.ins t.c_Makes a.dm [(Str.ofString "ground", .ref a.gr), (Str.ofString "folded", .int 0), (Str.ofString "worths", .ref a.wo), (Str.ofString "ranks", .ref a.rk)])
  ij : H a.jb = some (.ins t.c_Jobs a.dj [(Str.ofString "makes", .ref a.mks), (Str.ofString "laid", .ref a.la), (Str.ofString "readers", .ref a.re), (Str.ofString "doubted", .ref a.db)])
  he : H a.en = some (.lst [])
  hg : H a.gr = some (.dT [])
  hw : H a.wo = some (.dK [])
  hr : H a.rk = some (.dT [])
  hl : H a.la = some (.dK [])
  hd : H a.db = some (.dT [])
/-- codes, waiting ranks, held -/
structure DkS (H : Hp) (a : DAd) (cs : List Addr) (ws : List Int) (kv : List (Key × V)) : Prop where
  hc : H a.cl = some (.lst (cs.map V.ref))
  hw : H a.wl = some (.lst (ws.map V.int))
  hh : H a.hd = some (.dK kv)
  cw : a.cl ≠ a.wl
  ce : a.cl ≠ a.en
  we : a.wl ≠ a.en
  ho : a.hd ≠ a.wo
  hl : a.hd ≠ a.la
  ok : ∀ c ∈ cs, c ≠ a.cl ∧ c ≠ a.wl ∧ ∃ xs, H c = some (.lst xs)
structure DkF (K : PySem.W.Frag) (t : Adr) : Prop where
  cD : Cls K t.c_Desk
  cM : Cls K t.c_Makes
  cJ : Cls K t.c_Jobs
  d1 : NoAttr K t.c_Desk "hands"
  d2 : NoAttr K t.c_Desk "way"
  d3 : NoAttr K t.c_Desk "first"
  d4 : NoAttr K t.c_Desk "codes"
  d5 : NoAttr K t.c_Desk "waiting"
  d6 : NoAttr K t.c_Desk "held"
  d7 : NoAttr K t.c_Desk "makes"
  d8 : NoAttr K t.c_Desk "jobs"
  d9 : NoAttr K t.c_Desk "ended"
  m1 : NoAttr K t.c_Makes "ground"
  m2 : NoAttr K t.c_Makes "folded"
  m3 : NoAttr K t.c_Makes "worths"
  m4 : NoAttr K t.c_Makes "ranks"
  j1 : NoAttr K t.c_Jobs "makes"
  j2 : NoAttr K t.c_Jobs "laid"
  j3 : NoAttr K t.c_Jobs "readers"
  j4 : NoAttr K t.c_Jobs "doubted"
  cR : Cls K t.c_Run
  r1 : NoAttr K t.c_Run "code"
  r2 : NoAttr K t.c_Run "at"
  r3 : NoAttr K t.c_Run "why"
  r4 : NoAttr K t.c_Run "slots"
  r5 : NoAttr K t.c_Run "gifts"
  r6 : NoAttr K t.c_Run "notes"
  r7 : NoAttr K t.c_Run "sayings"
/-- what a desk's moves change -/
def OwD (a : DAd) (b : Addr) : Prop := b = a.cl ∨ b = a.wl ∨ b = a.hd
def KpD (a : DAd) (H H' : Hp) : Prop := ∀ b o, ¬ OwD a b → H b = some o → H' b = some o
def SameX (x : Addr) (H H' : Hp) : Prop := ∀ b o, b ≠ x → H b = some o → H' b = some o
def mkFs0 (gr wo rk : Addr) : List (Str × V) := [(Str.ofString "ground", .ref gr), (Str.ofString "folded", .int 0), (Str.ofString "worths", .ref wo), (Str.ofString "ranks", .ref rk)]
def sp_Makes_init (t : Adr) : Sp := fun vs H Q _ => ∃ (x l dx : Addr), vs = [.ref x, .ref l] ∧ H x = some (.ins t.c_Makes dx []) ∧ H l = some (.lst []) ∧ ∀ H' gr wo rk, SameX x H H' → H' x = some (.ins t.c_Makes dx (mkFs0 gr wo rk)) → H' gr = some (.dT []) → H' wo = some (.dK []) → H' rk = some (.dT []) → H wo = none → Q .non H'
def sp_Jobs_init (t : Adr) : Sp := fun vs H Q _ => ∃ (x m dx : Addr), vs = [.ref x, .ref m] ∧ H x = some (.ins t.c_Jobs dx []) ∧ ∀ H' la re db, SameX x H H' → H' x = some (.ins t.c_Jobs dx [(Str.ofString "makes", .ref m), (Str.ofString "laid", .ref la), (Str.ofString "readers", .ref re), (Str.ofString "doubted", .ref db)]) → H' la = some (.dK []) → H' db = some (.dT []) → H la = none → Q .non H'
def sp_Desk_init (t : Adr) : Sp := fun vs H Q _ => ∃ (x l w dx dw : Addr) (n f : Int), vs = [.ref x, .ref l, .int n, .ref w, .int f] ∧ H x = some (.ins t.c_Desk dx []) ∧ H l = some (.lst []) ∧ H w = some (.ins t.c_Way dw []) ∧ w ≠ x ∧ ∀ H' a, SameX x H H' → DkB t H' x a n f → DkS H' a [] [] [] → (∀ b, OwD a b → H b = none) → Q .non H'
def sp_Desk_next_rank (t : Adr) : Sp := fun vs H Q _ => ∃ (d : Addr) (a : DAd) (n f : Int) (cs : List Addr) (ws : List Int) (kv : List (Key × V)), vs = [.ref d] ∧ DkB t H d a n f ∧ DkS H a cs ws kv ∧ Q (.int (f + cs.length)) H
def sp_Desk_add (t : Adr) : Sp := fun vs H Q _ => ∃ (d c : Addr) (xs : List V) (a : DAd) (n f : Int) (cs : List Addr) (ws : List Int) (kv : List (Key × V)), vs = [.ref d, .ref c] ∧ H c = some (.lst xs) ∧ DkB t H d a n f ∧ DkS H a cs ws kv ∧ cs.length ≤ 10 ∧ ws.length ≤ 10 ∧ ∀ H' c', KpD a H H' → H c' = none → DkS H' a (cs ++ [c']) (ws ++ [f + cs.length]) kv → Q (.int (f + cs.length)) H'
def sp_Run_over : Sp := fun _ _ _ _ => False
def sp_Run_asks : Sp := fun _ _ _ _ => False
def sp_Run_step : Sp := fun _ _ _ _ => False
def sp_Run_paper : Sp := fun _ _ _ _ => False
def sp_Makes_seen : Sp := fun _ _ _ _ => False
def sp_Jobs_changed_note : Sp := fun _ _ _ _ => False
def sp_Jobs_take_off : Sp := fun _ _ _ _ => False
def sp_Jobs_lay_down : Sp := fun _ _ _ _ => False
def sp_many_below : Sp := fun _ _ _ _ => False
def sp_Desk_settled (t : Adr) : Sp := fun vs H Q _ => ∃ (d : Addr) (a : DAd) (n f : Int), vs = [.ref d] ∧ DkB t H d a n f ∧ Q (.int f) H
def sp_Jobs_lowest_changed (t : Adr) : Sp := fun vs H Q _ => ∃ (d : Addr) (a : DAd) (n f : Int), vs = [.ref a.jb] ∧ DkB t H d a n f ∧ ∀ H', Same H H' → Q .non H'
def sp_Way_chosen : Sp := fun vs H Q _ => ∃ (x l : Addr) (w : Int) (ws : List Int), vs = [.ref x, .ref l] ∧ H l = some (.lst ((w :: ws).map V.int)) ∧ Q (.int w) H
def sp_Run_init (t : Adr) : Sp := fun vs H Q _ => ∃ (x l dx : Addr) (xs : List V), vs = [.ref x, .ref l] ∧ H x = some (.ins t.c_Run dx []) ∧ H l = some (.lst xs) ∧ ∀ H', SameX x H H' → Q .non H'
def sp_Desk_taken_up (t : Adr) : Sp := fun vs H Q _ => ∃ (d : Addr) (h : Int) (a : DAd) (n f : Int) (cs : List Addr) (w : Int) (ws : List Int) (kv : List (Key × V)), vs = [.ref d, .int h] ∧ DkB t H d a n f ∧ DkS H a cs (w :: ws) kv ∧ f ≤ w ∧ w - f < cs.length ∧ (w :: ws).Pairwise (· < ·) ∧ cs.length ≤ 10 ∧ ws.length ≤ 10 ∧ kv.length ≤ 10 ∧ ∀ H' v r, KpD a H H' → DkS H' a cs ws (putK kv (.inl h) v) → H' r = some (.tup [.str "take", .int h, .int w]) → Q (.ref r) H'
/-- ranks that wait -/
structure WtOk (f : Int) (cs : List Addr) (ws : List Int) (kv : List (Key × V)) : Prop where
  up : ws.Pairwise (· < ·)
  lo : ∀ w ∈ ws, f ≤ w ∧ w - f < cs.length
  lc : cs.length ≤ 10
  lw : ws.length ≤ 10
  lk : kv.length ≤ 10
def MvAt (a : DAd) (H : Hp) (cs : List Addr) (ws : List Int) (kv : List (Key × V)) (h : Int) (Q : VK) : Prop := (ws = [] → ∀ H' r, KpD a H H' → DkS H' a cs ws kv → H' r = some (.tup [.str "rest", .int h]) → Q (.ref r) H') ∧ ∀ w ws', ws = w :: ws' → ∀ H' v r, KpD a H H' → DkS H' a cs ws' (putK kv (.inl h) v) → H' r = some (.tup [.str "take", .int h, .int w]) → Q (.ref r) H'
def sp_Desk_moved_free (t : Adr) : Sp := fun vs H Q _ => ∃ (d : Addr) (h : Int) (a : DAd) (n f : Int) (cs : List Addr) (ws : List Int) (kv : List (Key × V)), vs = [.ref d, .int h] ∧ DkB t H d a n f ∧ DkS H a cs ws kv ∧ WtOk f cs ws kv ∧ MvAt a H cs ws kv h Q
def hB (h : Int) : Prop := -10000000000000000000000000000000000000000000000000000000000000 < h ∧ h < 10000000000000000000000000000000000000000000000000000000000000
def sp_Desk_move (t : Adr) : Sp := fun vs H Q E => ∃ (d : Addr) (h : Int) (a : DAd) (n f : Int) (cs : List Addr) (ws : List Int) (kv : List (Key × V)), vs = [.ref d, .int h] ∧ DkB t H d a n f ∧ DkS H a cs ws kv ∧ WtOk f cs ws kv ∧ hB h ∧ (h < 0 ∨ n ≤ h → ∀ H', Same H H' → E (.ref t.c_NoHand) none H') ∧ (0 ≤ h → h < n → valV kv (.inl h) = none ∧ MvAt a H cs ws kv h Q)
def sp__law_cell_at (K : PySem.W.Frag) : Sp := fun vs H Q _ => ∃ (a : Addr) (ns : List Int) (k : Nat), vs = [.ref a, .int k] ∧ SqL K H a (ns.map V.int) ∧ ns.length ≤ 63 ∧ ∀ c H', Same H H' → Q (.int c) H'
def sp__law_refused (t : Adr) : Sp := fun vs H Q _ => ∃ (d : Addr) (h : Int) (a : DAd) (n f : Int) (cs : List Addr) (ws : List Int) (kv : List (Key × V)), vs = [.ref d, .int h] ∧ DkB t H d a n f ∧ DkS H a cs ws kv ∧ WtOk f cs ws kv ∧ hB h ∧ (h < 0 ∨ n ≤ h) ∧ ∀ H', Same H H' → Q (.bl true) H'
def sp__law_refused_by_any (t : Adr) : Sp := fun vs H Q _ => ∃ (d : Addr) (h : Int) (a : DAd) (n f : Int) (cs : List Addr) (ws : List Int) (kv : List (Key × V)), vs = [.ref d, .int h] ∧ DkB t H d a n f ∧ DkS H a cs ws kv ∧ WtOk f cs ws kv ∧ hB h ∧ (h < 0 ∨ n ≤ h) ∧ ∀ H', Same H H' → Q (.bl true) H'
def sp_Makes_kept (t : Adr) : Sp := fun vs H Q _ => ∃ (d : Addr) (a : DAd) (n f : Int), vs = [.ref a.mks] ∧ DkB t H d a n f ∧ ∀ H', Same H H' → Q (.int 0) H'
def sp_Desk_kept (t : Adr) : Sp := fun vs H Q _ => ∃ (d : Addr) (a : DAd) (n f : Int), vs = [.ref d] ∧ DkB t H d a n f ∧ ∀ H', Same H H' → Q (.int 0) H'
def sp_Desk_papers (t : Adr) : Sp := fun vs H Q _ => ∃ (d : Addr) (a : DAd) (n f : Int), vs = [.ref d] ∧ DkB t H d a n f ∧ ∀ l H', Same H H' → H' l = some (.lst []) → Q (.ref l) H'
def sp_Makes_heed_fold (t : Adr) : Sp := fun vs H Q _ => ∃ (d : Addr) (a : DAd) (n f rank : Int), vs = [.ref a.mks, .int rank] ∧ DkB t H d a n f ∧ 0 ≤ rank ∧ Q .non H
def sp_table_of : Sp := fun vs H Q _ => ∃ (l : Addr), vs = [.ref l] ∧ H l = some (.lst []) ∧ ∀ l2 H', Same H H' → H' l2 = some (.lst []) → Q (.ref l2) H'
def sp_Makes_table_for (t : Adr) : Sp := fun vs H Q _ => ∃ (d : Addr) (a : DAd) (n f rank : Int), vs = [.ref a.mks, .int rank] ∧ DkB t H d a n f ∧ 0 ≤ rank ∧ ∀ l2 H', Same H H' → H' l2 = some (.lst []) → Q (.ref l2) H'
def sp_Desk_table (t : Adr) : Sp := fun vs H Q _ => ∃ (d : Addr) (a : DAd) (n f : Int), vs = [.ref d] ∧ DkB t H d a n f ∧ 0 ≤ f ∧ ∀ l2 H', Same H H' → H' l2 = some (.lst []) → Q (.ref l2) H'
def sp__law_alike : Sp := fun vs H Q _ => ∃ (r s : Addr) (x : Str) (ns : List Int), vs = [.ref r, .ref s] ∧ H r = some (.tup (.str x :: ns.map V.int)) ∧ H s = some (.tup (.str x :: ns.map V.int)) ∧ 0 < ns.length ∧ ns.length ≤ 5 ∧ PyData.strOk x = true ∧ ∀ H', Same H H' → Q (.bl true) H'
def sp_law (K : PySem.W.Frag) : Sp := fun vs H Q _ => ∃ (a : Addr) (ns : List Int), vs = [.ref a] ∧ SqL K H a (ns.map V.int) ∧ ns.length ≤ 63 ∧ ∀ H', Q (.bl true) H'

def rd_Makes_init (K : PySem.W.Frag) (t : Adr) : TS := (tSeq (sFld K (tVar 0) (tCB cDctP (tCons (tVar 1) tNil)) "ground")
    (tSeq (sFld K (tVar 0) (tC (.int 0)) "folded")
    (tSeq (sFld K (tVar 0) tDNewK "worths")
    (sFld K (tVar 0) tDNewT "ranks"))))
def rd_Jobs_init (K : PySem.W.Frag) (t : Adr) : TS := (tSeq (sFld K (tVar 0) (tVar 1) "makes")
    (tSeq (sFld K (tVar 0) tDNewK "laid")
    (tSeq (sFld K (tVar 0) tDNewT "readers")
    (sFld K (tVar 0) tDNewT "doubted"))))
def rd_Desk_init (K : PySem.W.Frag) (t : Adr) : TS := (tSeq (sFld K (tVar 0) (tVar 2) "hands")
    (tSeq (sFld K (tVar 0) (tVar 3) "way")
    (tSeq (sFld K (tVar 0) (tVar 4) "first")
    (tSeq (sFld K (tVar 0) (tLst tNil) "codes")
    (tSeq (sFld K (tVar 0) (tLst tNil) "waiting")
    (tSeq (sFld K (tVar 0) tDNewK "held")
    (tSeq (sFld K (tVar 0) (tMake t.c_Makes (sp_Makes_init t) [] E0 (tCons (tVar 1) tNil)) "makes")
    (tSeq (sFld K (tVar 0) (tMake t.c_Jobs (sp_Jobs_init t) [] E0 (tCons (tFld K (tVar 0) "makes") tNil)) "jobs")
    (sFld K (tVar 0) (tLst tNil) "ended")))))))))
def rd_Desk_next_rank (K : PySem.W.Frag) (t : Adr) : TS := (tRet (tOp (rI0 fun i j => .int (i + j)) (tFld K (tVar 0) "first") (tCB (cLen K) (tCons (tFld K (tVar 0) "codes") tNil))))
def rd_Desk_add (K : PySem.W.Frag) (t : Adr) : TS := (tSeq (tAsg (tMeth t.c_Desk "next_rank" (sp_Desk_next_rank t) [] E0 (tVar 0) tNil) (gName 2))
    (tSeq (tDrop (tBM K "list" r_mt_append (tFld K (tVar 0) "codes") (tCons (tCB (cLst K) (tCons (tVar 1) tNil)) tNil)))
    (tSeq (tDrop (tBM K "list" r_mt_append (tFld K (tVar 0) "waiting") (tCons (tVar 2) tNil)))
    (tRet (tVar 2)))))
def rd_Desk_settled (K : PySem.W.Frag) (t : Adr) : TS := (tRet (tOp (rI0 fun i j => .int (i + j)) (tFld K (tVar 0) "first") (tCB (cLen K) (tCons (tFld K (tVar 0) "ended") tNil))))
def rd_Jobs_lowest_changed (K : PySem.W.Frag) (t : Adr) : TS := (tSeq (tAsg (tCB cSrtD (tCons (tFld K (tVar 0) "doubted") tNil)) (gName 1))
    (tSeq (tFor (iList K (tVar 1)) (gName 2)
      (tSeq (tAsg (tMeth t.c_Jobs "changed_note" sp_Jobs_changed_note [] E0 (tVar 0) (tCons (tVar 2) tNil)) (gName 3))
    (tSeq (tIfS (tTest (tOp rNotN (tVar 3) (tC .non)))
      (tRet (tOp (rCatT K) (tTup (tCons (tVar 2) tNil)) (tVar 3)))
      tNext)
    (tDrop (tDPopT (tFld K (tVar 0) "doubted") (tVar 2))))))
    (tRet (tC .non))))
def rd_Way_chosen (K : PySem.W.Frag) (t : Adr) : TS := (tRet (tOp (rIxL K) (tVar 1) (tC (.int 0))))
def rd_Run_init (K : PySem.W.Frag) (t : Adr) : TS := (tSeq (sFld K (tVar 0) (tCB (cLst K) (tCons (tVar 1) tNil)) "code")
    (tSeq (sFld K (tVar 0) (tC (.int 0)) "at")
    (tSeq (sFld K (tVar 0) (tC .non) "why")
    (tSeq (sFld K (tVar 0) tDNewK "slots")
    (tSeq (sFld K (tVar 0) tDNewK "gifts")
    (tSeq (sFld K (tVar 0) tDNewK "notes")
    (sFld K (tVar 0) (tLst tNil) "sayings")))))))
def rd_Desk_taken_up (K : PySem.W.Frag) (t : Adr) : TS := (tSeq (tAsg (tMeth t.c_Way "chosen" sp_Way_chosen [] E0 (tFld K (tVar 0) "way") (tCons (tCB (cLst K) (tCons (tFld K (tVar 0) "waiting") tNil)) tNil)) (gName 2))
    (tSeq (tDrop (tBM K "list" r_mt_remove (tFld K (tVar 0) "waiting") (tCons (tVar 2) tNil)))
    (tSeq (sDPut (tFld K (tVar 0) "held") (tVar 1) (tTup (tCons (tVar 2) (tCons (tMake t.c_Run (sp_Run_init t) [] E0 (tCons (tOp (rIxL K) (tFld K (tVar 0) "codes") (tOp (rI0 fun i j => .int (i - j)) (tVar 2) (tFld K (tVar 0) "first"))) tNil)) tNil))))
    (tRet (tTup (tCons (tC (.str "take")) (tCons (tVar 1) (tCons (tVar 2) tNil))))))))
def rd_Desk_moved_free_3 (K : PySem.W.Frag) (t : Adr) : TS := (tSeq (tIfS (tTest (tOp rNotN (tVar 3) (tC .non)))
      (tSeq (tDrop (tMeth t.c_Jobs "take_off" sp_Jobs_take_off [] E0 (tFld K (tVar 0) "jobs") (tCons (tOp (rIxT K) (tVar 3) (tC (.int 0))) tNil)))
    (tSeq (tDrop (tBM K "list" r_mt_insert (tFld K (tVar 0) "waiting") (tCons (tCall sp_many_below [] E0 (tCons (tFld K (tVar 0) "waiting") (tCons (tOp (rIxT K) (tVar 3) (tC (.int 0))) tNil))) (tCons (tOp (rIxT K) (tVar 3) (tC (.int 0))) tNil))))
    (tRet (tOp (rCatT K) (tTup (tCons (tC (.str "again")) (tCons (tVar 1) tNil))) (tVar 3)))))
      tNext)
    (tSeq (tIfS (tTest (tOp (rNeNil K) (tFld K (tVar 0) "waiting") (tLst tNil)))
      (tRet (tMeth t.c_Desk "taken_up" (sp_Desk_taken_up t) [] E0 (tVar 0) (tCons (tVar 1) tNil)))
      tNext)
    (tRet (tTup (tCons (tC (.str "rest")) (tCons (tVar 1) tNil))))))
def rd_Desk_moved_free_2 (K : PySem.W.Frag) (t : Adr) : TS := (tSeq (tIfS (tAnd (tTest (tOp (rInD false) (tVar 2) (tFld K (tFld K (tVar 0) "jobs") "laid"))) (tOr (tTest (tOp rIsN (tVar 3) (tC .non))) (tTest (tOp rNe (tOp (rIxT K) (tVar 3) (tC (.int 0))) (tVar 2)))))
      (tSeq (tDrop (tBM K "list" r_mt_append (tFld K (tVar 0) "ended") (tCons (tMeth t.c_Jobs "take_off" sp_Jobs_take_off [] E0 (tFld K (tVar 0) "jobs") (tCons (tVar 2) tNil)) tNil)))
    (tRet (tTup (tCons (tC (.str "settle")) (tCons (tVar 1) (tCons (tVar 2) tNil))))))
      tNext)
    (rd_Desk_moved_free_3 K t))
def rd_Desk_moved_free (K : PySem.W.Frag) (t : Adr) : TS := (tSeq (tAsg (tMeth t.c_Desk "settled" (sp_Desk_settled t) [] E0 (tVar 0) tNil) (gName 2))
    (tSeq (tAsg (tMeth t.c_Jobs "lowest_changed" (sp_Jobs_lowest_changed t) [] E0 (tFld K (tVar 0) "jobs") tNil) (gName 3))
    (rd_Desk_moved_free_2 K t)))
def rd_Desk_move_2 (K : PySem.W.Frag) (t : Adr) (E : XK) : TS := (tSeq (tAsg (tOp (rIxT K) (tDGet (tFld K (tVar 0) "held") (tVar 1)) (tC (.int 0))) (gName 2))
    (tSeq (tAsg (tOp (rIxT K) (tDGet (tFld K (tVar 0) "held") (tVar 1)) (tC (.int 1))) (gName 3))
    (tSeq (tIfS (tB (tMeth t.c_Run "over" sp_Run_over [] E (tVar 3) tNil))
      (tSeq (tDrop (tDPopT (tFld K (tVar 0) "held") (tVar 1)))
    (tSeq (tDrop (tMeth t.c_Jobs "lay_down" sp_Jobs_lay_down [] E (tFld K (tVar 0) "jobs") (tCons (tVar 2) (tCons (tMeth t.c_Run "paper" sp_Run_paper [] E (tVar 3) tNil) tNil))))
    (tRet (tTup (tCons (tC (.str "lay")) (tCons (tVar 1) (tCons (tVar 2) tNil)))))))
      tNext)
    (tSeq (tAsg (tMeth t.c_Run "asks" sp_Run_asks [] E (tVar 3) tNil) (gName 4))
    (tSeq (tIfS (tTest (tOp rIsN (tVar 4) (tC .non)))
      (tSeq (tDrop (tMeth t.c_Run "step" sp_Run_step [.int 0] E (tVar 3) tNil))
    (tRet (tTup (tCons (tC (.str "step")) (tCons (tVar 1) (tCons (tVar 2) tNil))))))
      tNext)
    (tSeq (tAsg (tMeth t.c_Makes "seen" sp_Makes_seen [] E (tFld K (tVar 0) "makes") (tCons (tVar 4) (tCons (tVar 2) tNil))) (gName 5))
    (tSeq (tDrop (tMeth t.c_Run "step" sp_Run_step [] E (tVar 3) (tCons (tVar 5) tNil)))
    (tRet (tTup (tCons (tC (.str "read")) (tCons (tVar 1) (tCons (tVar 2) (tCons (tVar 4) (tCons (tVar 5) tNil))))))))))))))
def rd_Desk_move_1 (K : PySem.W.Frag) (t : Adr) (E : XK) : TS := (tSeq (tIfS (tTest (tOp (rInD true) (tVar 1) (tFld K (tVar 0) "held")))
      (tRet (tMeth t.c_Desk "moved_free" (sp_Desk_moved_free t) [] E (tVar 0) (tCons (tVar 1) tNil)))
      tNext)
    (rd_Desk_move_2 K t E))
def rd_Desk_move (K : PySem.W.Frag) (t : Adr) (E : XK) : TS := (tSeq (tIfS (tOr (tTest (tOp (rI0 fun i j => .bl (decide (i < j))) (tVar 1) (tC (.int 0)))) (tTest (tOp (rI0 fun i j => .bl (decide (j ≤ i))) (tVar 1) (tFld K (tVar 0) "hands"))))
      (tRaise t.c_NoHand (tCons (tC (.str "no hand of this desk")) tNil) E)
      tNext)
    (rd_Desk_move_1 K t E))
def rd__law_refused_4 (K : PySem.W.Frag) (t : Adr) : TS := (tRet (tAndV (tVar 2) (tAndV (tNotV (tVar 3)) (tNotV (tVar 4)))))
def rd__law_refused (K : PySem.W.Frag) (t : Adr) : TS := (tSeq (tAsg (tC (.bl false)) (gName 2))
    (tSeq (tAsg (tC (.bl false)) (gName 3))
    (tSeq (tAsg (tC (.bl false)) (gName 4))
    (tSeq (tTry K (tDropX (tMethX t.c_Desk "move" (sp_Desk_move t) (tVar 0) (tCons (tVar 1) tNil))) t.c_NoHand 5 (tSeq (tAsg (tAndV (tCB (cIsx K) (tCons (tVar 5) (tCons (tC (.ref t.c_ForerunError)) tNil))) (tCB (cIsx K) (tCons (tVar 5) (tCons (tC (.ty "ValueError")) tNil)))) (gName 2))
    (tSeq (tAsg (tCB (cIsxT K) (tCons (tVar 5) (tCons (tTup (tCons (tC (.ref t.c_NoNumber)) (tCons (tC (.ref t.c_NoTerm)) (tCons (tC (.ref t.c_NoDealing)) (tCons (tC (.ref t.c_Nought)) (tCons (tC (.ref t.c_Great)) tNil)))))) tNil))) (gName 3))
    (tAsg (tCB (cIsxT K) (tCons (tVar 5) (tCons (tTup (tCons (tC (.ref t.c_Folded)) (tCons (tC (.ref t.c_NoOrder)) (tCons (tC (.ref t.c_NoLine)) (tCons (tC (.ref t.c_NoLog)) tNil))))) tNil))) (gName 4)))))
    (rd__law_refused_4 K t)))))
def rd__law_cell_at (K : PySem.W.Frag) (t : Adr) : TS := (tSeq (tIfS (tTest (tOp (rI0 fun i j => .bl (decide (i < j))) (tVar 1) (tCB (cLen K) (tCons (tVar 0) tNil))))
      (tRet (tOp (rIxL K) (tVar 0) (tVar 1)))
      tNext)
    (tRet (tC (.int 0))))
def rd_Makes_kept (K : PySem.W.Frag) (t : Adr) : TS := (tFrzK (tRet (tCB (cSumL K) (tCons (tComp (iDK (tFld K (tVar 0) "worths")) (gName 0) tYes (tCB (cLen K) (tCons (tOp (rIxL K) (tFld K (tVar 1) "worths") (tVar 0)) tNil)) 1 [0]) tNil))))
def rd_Desk_kept (K : PySem.W.Frag) (t : Adr) : TS := (tRet (tMeth t.c_Makes "kept" (sp_Makes_kept t) [] E0 (tFld K (tVar 0) "makes") tNil))
def rd_Desk_papers (K : PySem.W.Frag) (t : Adr) : TS := (tRet (tComp (iList K (tFld K (tVar 0) "ended")) (gName 0) tYes (tTup (tCons (tOp (rIxT K) (tVar 0) (tC (.int 0))) (tCons (tCB (cLst K) (tCons (tOp (rIxT K) (tVar 0) (tC (.int 1))) tNil)) (tCons (tCB (cLst K) (tCons (tOp (rIxT K) (tVar 0) (tC (.int 2))) tNil)) tNil)))) 1 []))
def rd_Makes_heed_fold (K : PySem.W.Frag) (t : Adr) : TS := (tIfS (tTest (tOp (rI0 fun i j => .bl (decide (i < j))) (tVar 1) (tFld K (tVar 0) "folded")))
      tNever
      tNext)
def rd_table_of (K : PySem.W.Frag) (t : Adr) : TS := (tSeq (tAsg (tCB cDctP (tCons (tVar 0) tNil)) (gName 1))
    (tRet (tComp (iList K (tCB cSrtD (tCons (tVar 1) tNil))) (gName 0) (tTest (tOp rNe (tDGet (tVar 1) (tVar 0)) (tC (.int 0)))) (tTup (tCons (tVar 0) (tCons (tDGet (tVar 1) (tVar 0)) tNil))) 1 [1])))
def rd_Makes_table_for (K : PySem.W.Frag) (t : Adr) : TS := (tSeq (tDrop (tMeth t.c_Makes "heed_fold" (sp_Makes_heed_fold t) [] E0 (tVar 0) (tCons (tVar 1) tNil)))
    (tSeq (tAsg (tOp rCat (tCB cLstD (tCons (tFld K (tVar 0) "ground") tNil)) (tCB cLstD (tCons (tFld K (tVar 0) "ranks") tNil))) (gName 2))
    (tRet (tCall sp_table_of [] E0 (tCons (tComp (iList K (tVar 2)) (gName 0) tYes (tTup (tCons (tVar 0) (tCons (tMeth t.c_Makes "seen" sp_Makes_seen [] E0 (tVar 1) (tCons (tVar 0) (tCons (tVar 2) tNil))) tNil))) 1 [0, 1]) tNil)))))
def rd_Desk_table (K : PySem.W.Frag) (t : Adr) : TS := (tRet (tMeth t.c_Makes "table_for" (sp_Makes_table_for t) [] E0 (tFld K (tVar 0) "makes") (tCons (tMeth t.c_Desk "settled" (sp_Desk_settled t) [] E0 (tVar 0) tNil) tNil)))
def rd__law_alike (K : PySem.W.Frag) (t : Adr) : TS := (tSeq (tIfS (tOr (tNot (tB (tCB (cIsi K) (tCons (tVar 0) (tCons (tC (.ty "tuple")) tNil))))) (tOr (tTest (tOp rNe (tCB (cLen K) (tCons (tVar 0) tNil)) (tCB (cLen K) (tCons (tVar 1) tNil)))) (tNot (tB (tCB (cIsi K) (tCons (tOp (rIxT K) (tVar 0) (tC (.int 0))) (tCons (tC (.ty "str")) tNil)))))))
      (tRet (tC (.bl false)))
      tNext)
    (tSeq (tFor (iTup K (tSl (rSlT K) (tVar 0) (tPart (tC (.int 1))) tNoPart)) (gName 2)
      (tIfS (tOr (tNot (tB (tCB (cIsi K) (tCons (tVar 2) (tCons (tC (.ty "int")) tNil))))) (tB (tCB (cIsi K) (tCons (tVar 2) (tCons (tC (.ty "bool")) tNil)))))
      (tRet (tC (.bl false)))
      tNext))
    (tRet (tOp (rEqD K false) (tVar 0) (tVar 1)))))
def rd__law_refused_by_any (K : PySem.W.Frag) (t : Adr) : TS := (tSeq (tAsg (tC (.bl false)) (gName 2))
    (tSeq (tTryN K (tDropX (tMethX t.c_Desk "move" (sp_Desk_move t) (tVar 0) (tCons (tVar 1) tNil))) t.c_ForerunError (tAsg (tC (.bl true)) (gName 2)))
    (tRet (tVar 2))))
def rd_law_10 (K : PySem.W.Frag) (t : Adr) : TS := (tSeq (tFor (iRng1 (tCons (tVar 1) tNil)) (gName 5)
      (tSeq (tAsg (tOp (rI0 fun i j => .int (i - j)) (tOp (rI0 fun i j => .int (i - j)) (tVar 1) (tC (.int 1))) (tVar 5)) (gName 8))
    (tSeq (tAsg (tTup (tCons (tC (.str "rest")) (tCons (tVar 8) tNil))) (gName 9))
    (tSeq (tIfS (tTest (tOp (rI0 fun i j => .bl (decide (i < j))) (tVar 5) (tVar 2)))
      (tAsg (tTup (tCons (tC (.str "take")) (tCons (tVar 8) (tCons (tOp (rI0 fun i j => .int (i + j)) (tVar 3) (tVar 5)) tNil)))) (gName 9))
      tNext)
    (tIfS (tNot (tB (tCall sp__law_alike [] E0 (tCons (tMeth t.c_Desk "move" (sp_Desk_move t) [] E0 (tVar 4) (tCons (tVar 8) tNil)) (tCons (tVar 9) tNil)))))
      (tRet (tC (.bl false)))
      tNext)))))
    (tRet (tAndV (tCall (sp__law_refused t) [] E0 (tCons (tVar 4) (tCons (tOp (rIxL K) (tVar 6) (tC (.int 0))) tNil))) (tCall (sp__law_refused t) [] E0 (tCons (tVar 4) (tCons (tOp (rIxL K) (tVar 6) (tUn (rU fun i => .int (-i)) (tC (.int 1)))) tNil))))))
def rd_law_9 (K : PySem.W.Frag) (t : Adr) : TS := (tSeq (tIfS (tOr (tTest (tOp rNe (tMeth t.c_Desk "kept" (sp_Desk_kept t) [] E0 (tVar 4) tNil) (tC (.int 0)))) (tOr (tTest (tOp rNe (tMeth t.c_Desk "settled" (sp_Desk_settled t) [] E0 (tVar 4) tNil) (tVar 3))) (tOr (tTest (tOp (rNeNil K) (tMeth t.c_Desk "papers" (sp_Desk_papers t) [] E0 (tVar 4) tNil) (tLst tNil))) (tTest (tOp (rNeNil K) (tMeth t.c_Desk "table" (sp_Desk_table t) [] E0 (tVar 4) tNil) (tLst tNil))))))
      (tRet (tC (.bl false)))
      tNext)
    (rd_law_10 K t))
def rd_law_8 (K : PySem.W.Frag) (t : Adr) : TS := (tSeq (tFor (iList K (tVar 6)) (gName 8)
      (tIfS (tOr (tNot (tB (tCall (sp__law_refused t) [] E0 (tCons (tVar 4) (tCons (tVar 8) tNil))))) (tNot (tB (tCall (sp__law_refused_by_any t) [] E0 (tCons (tVar 4) (tCons (tVar 8) tNil))))))
      (tRet (tC (.bl false)))
      tNext))
    (rd_law_9 K t))
def rd_law_6 (K : PySem.W.Frag) (t : Adr) : TS := (tSeq (tAsg (tLst (tCons (tUn (rU fun i => .int (-i)) (tC (.int 1))) (tCons (tVar 1) tNil))) (gName 6))
    (tSeq (tFor (iList K (tVar 0)) (gName 7)
      (tSeq (tDrop (tBM K "list" r_mt_append (tVar 6) (tCons (tOp (rI0 fun i j => .int (i - j)) (tUn (rU fun i => .int (-i)) (tC (.int 1))) (tOp (rI (fun _ j => 0 < j) fun i j => .int (i % j)) (tOp (rI CDivB fun i j => .int (i / j)) (tVar 7) (tC (.int 2))) (tOp (rI CPow fun i j => .int (i ^ j.toNat)) (tC (.int 10)) (tC (.int 60))))) tNil)))
    (tSeq (tDrop (tBM K "list" r_mt_append (tVar 6) (tCons (tOp (rI0 fun i j => .int (i + j)) (tVar 1) (tOp (rI (fun _ j => 0 < j) fun i j => .int (i % j)) (tVar 7) (tOp (rI0 fun i j => .int (i + j)) (tVar 1) (tC (.int 2))))) tNil)))
    (tDrop (tBM K "list" r_mt_append (tVar 6) (tCons (tOp (rI0 fun i j => .int (i + j)) (tVar 1) (tOp (rI (fun _ j => 0 < j) fun i j => .int (i % j)) (tOp (rI CDivB fun i j => .int (i / j)) (tVar 7) (tC (.int 2))) (tOp (rI CPow fun i j => .int (i ^ j.toNat)) (tC (.int 10)) (tC (.int 60))))) tNil))))))
    (rd_law_8 K t)))
def rd_law_5 (K : PySem.W.Frag) (t : Adr) : TS := (tSeq (tFor (iRng1 (tCons (tVar 2) tNil)) (gName 5)
      (tDrop (tMeth t.c_Desk "add" (sp_Desk_add t) [] E0 (tVar 4) (tCons (tLst (tCons (tTup (tCons (tC (.str "say")) (tCons (tTup (tCons (tVar 5) tNil)) tNil))) tNil)) tNil))))
    (rd_law_6 K t))
def rd_law_4 (K : PySem.W.Frag) (t : Adr) : TS := (tSeq (tIfS (tTest (tOp rEq (tOp (rI (fun _ j => 0 < j) fun i j => .int (i % j)) (tOp (rI CDivB fun i j => .int (i / j)) (tCall (sp__law_cell_at K) [] E0 (tCons (tVar 0) (tCons (tC (.int 0)) tNil))) (tC (.int 24))) (tC (.int 2))) (tC (.int 1))))
      (tSeq (tAsg (tOp (rI (fun _ j => 0 < j) fun i j => .int (i % j)) (tCall (sp__law_cell_at K) [] E0 (tCons (tVar 0) (tCons (tC (.int 1)) tNil))) (tOp (rI0 fun i j => .int (i - j)) (tOp (rI CPow fun i j => .int (i ^ j.toNat)) (tC (.int 10)) (tC (.int 29))) (tC (.int 300)))) (gName 3))
    (tAsg (tMake t.c_Desk (sp_Desk_init t) [] E0 (tCons (tLst tNil) (tCons (tVar 1) (tCons (tMakeO t.c_Way) (tCons (tVar 3) tNil))))) (gName 4)))
      tNext)
    (rd_law_5 K t))
def rd_law_3 (K : PySem.W.Frag) (t : Adr) : TS := (tSeq (tAsg (tMake t.c_Desk (sp_Desk_init t) [.int 0] E0 (tCons (tLst tNil) (tCons (tVar 1) (tCons (tMakeO t.c_Way) tNil)))) (gName 4))
    (rd_law_4 K t))
def rd_law (K : PySem.W.Frag) (t : Adr) : TS := (tSeq (tAsg (tOp (rI0 fun i j => .int (i + j)) (tC (.int 1)) (tOp (rI (fun _ j => 0 < j) fun i j => .int (i % j)) (tCall (sp__law_cell_at K) [] E0 (tCons (tVar 0) (tCons (tC (.int 0)) tNil))) (tC (.int 8)))) (gName 1))
    (tSeq (tAsg (tOp (rI (fun _ j => 0 < j) fun i j => .int (i % j)) (tOp (rI CDivB fun i j => .int (i / j)) (tCall (sp__law_cell_at K) [] E0 (tCons (tVar 0) (tCons (tC (.int 0)) tNil))) (tC (.int 8))) (tC (.int 3))) (gName 2))
    (tSeq (tAsg (tC (.int 0)) (gName 3))
    (rd_law_3 K t))))
section
variable {K : PySem.W.Frag} {t : Adr} {H : Hp} {Q : VK}
theorem kit_same (T : String) : PySem.W.kitOne K (.type T) (.type T) = some true := by
  unfold PySem.W.kitOne
  rw [if_pos (by simp)]
theorem kf (K : PySem.W.Frag) : KF K := ⟨by with_unfolding_all rfl, kit_same _⟩
theorem at_lt {α : Type} {xs : List α} {i : Int} (h0 : 0 ≤ i) (h1 : i < xs.length) : ∃ x, atI xs i = some x ∧ x ∈ xs := by
  obtain ⟨n, rfl⟩ : ∃ n : Nat, i = (n : Int) := ⟨i.toNat, by omega⟩
  have hn : n < xs.length := by omega
  refine ⟨xs[n], ?_, List.getElem_mem hn⟩
  unfold atI ixN
  rw [if_pos h0, if_pos h1]
  simp [hn]
theorem rdp__law_cell_at {a : Addr} {ns : List Int} {k : Nat} (hS : SqL K H a (ns.map V.int)) (hl : ns.length ≤ 63) (q : ∀ c H', Same H H' → Q (.int c) H') :
    rd__law_cell_at K t { nx := fun _ H' => Q .non H', rt := Q } (L2.start ["script", "k"] [.ref a, .int k]) H := by
  simp only [rd__law_cell_at, L2.start, tSeq, tRet, tNext, tOp, tVar, tC, tCons, tNil, tIfS, tTest, tCB, LenV, rIxL, rI0, cLen, List.map, List.replicate, List.length, List.append, List.cons_append, List.nil_append, List.append_nil, List.getElem?_cons_zero, List.getElem?_cons_succ, Option.some.injEq, exists_eq_left', exists_eq_left, V.int.injEq, V.ref.injEq, V.str.injEq, V.bl.injEq, V.ty.injEq, List.cons.injEq, and_true, true_and, and_assoc, exists_and_left, List.set_cons_zero, List.set_cons_succ, Nat.reduceSub, Nat.reduceAdd, decide_eq_true_eq, Bool.not_eq_true', decide_eq_false_iff_not, Int.reduceToNat, Int.reducePow, Int.reduceNeg, Int.reduceMul, Int.reduceAdd, if_true, ite_true, Bool.false_eq_true, ite_false, if_false]
  refine ⟨_, .inl ⟨_, hS, rfl⟩, ite2 (fun c => ?_) fun _ => q _ _ (Same.refl H)⟩
  obtain ⟨v, hv, hm⟩ := at_lt (xs := ns.map V.int) (i := (k : Int)) (by omega) c
  obtain ⟨i, _, rfl⟩ := List.mem_map.mp hm
  exact ⟨_, hS, _, hv, q _ _ (Same.refl H)⟩
/-! places and their last worths -/
theorem dkF {P : Str → Option Value} (T : Txt K P t) : DkF K t := ⟨T.cl_Desk, T.cl_Makes, T.cl_Jobs, T.na_Desk_hands, T.na_Desk_way, T.na_Desk_first, T.na_Desk_codes, T.na_Desk_waiting, T.na_Desk_held, T.na_Desk_makes, T.na_Desk_jobs, T.na_Desk_ended, T.na_Makes_ground, T.na_Makes_folded, T.na_Makes_worths, T.na_Makes_ranks, T.na_Jobs_makes, T.na_Jobs_laid, T.na_Jobs_readers, T.na_Jobs_doubted, T.cl_Run, T.na_Run_code, T.na_Run_at, T.na_Run_why, T.na_Run_slots, T.na_Run_gifts, T.na_Run_notes, T.na_Run_sayings⟩
section
variable {d : Addr} {a : DAd} {n f : Int} {cs : List Addr} {ws : List Int} {kv : List (Key × V)}
theorem DkB.same {H' : Hp} (h : DkB t H d a n f) (s : Same H H') : DkB t H' d a n f := ⟨s _ _ h.id, s _ _ h.iw, s _ _ h.im, s _ _ h.ij, s _ _ h.he, s _ _ h.hg, s _ _ h.hw, s _ _ h.hr, s _ _ h.hl, s _ _ h.hd⟩
theorem DkS.same {H' : Hp} (h : DkS H a cs ws kv) (s : Same H H') : DkS H' a cs ws kv := ⟨s _ _ h.hc, s _ _ h.hw, s _ _ h.hh, h.cw, h.ce, h.we, h.ho, h.hl, fun c hc => let ⟨a1, a2, xs, a3⟩ := h.ok c hc; ⟨a1, a2, xs, s _ _ a3⟩⟩
theorem DkB.kp {H' : Hp} (h : DkB t H d a n f) (S : DkS H a cs ws kv) (k : KpD a H H') : DkB t H' d a n f := by
  have go : ∀ {b : Addr} {o : HO}, H b = some o → b ≠ a.cl → b ≠ a.wl → b ≠ a.hd → H' b = some o := fun e n1 n2 n3 => k _ _ (fun z => z.elim n1 fun z => z.elim n2 n3) e
  exact ⟨go h.id (ne_of h.id S.hc (fun z => nomatch z)) (ne_of h.id S.hw (fun z => nomatch z)) (ne_of h.id S.hh (fun z => nomatch z)),
    go h.iw (ne_of h.iw S.hc (fun z => nomatch z)) (ne_of h.iw S.hw (fun z => nomatch z)) (ne_of h.iw S.hh (fun z => nomatch z)),
    go h.im (ne_of h.im S.hc (fun z => nomatch z)) (ne_of h.im S.hw (fun z => nomatch z)) (ne_of h.im S.hh (fun z => nomatch z)),
    go h.ij (ne_of h.ij S.hc (fun z => nomatch z)) (ne_of h.ij S.hw (fun z => nomatch z)) (ne_of h.ij S.hh (fun z => nomatch z)),
    go h.he (Ne.symm S.ce) (Ne.symm S.we) (ne_of h.he S.hh (fun z => nomatch z)),
    go h.hg (ne_of h.hg S.hc (fun z => nomatch z)) (ne_of h.hg S.hw (fun z => nomatch z)) (ne_of h.hg S.hh (fun z => nomatch z)),
    go h.hw (ne_of h.hw S.hc (fun z => nomatch z)) (ne_of h.hw S.hw (fun z => nomatch z)) (Ne.symm S.ho),
    go h.hr (ne_of h.hr S.hc (fun z => nomatch z)) (ne_of h.hr S.hw (fun z => nomatch z)) (ne_of h.hr S.hh (fun z => nomatch z)),
    go h.hl (ne_of h.hl S.hc (fun z => nomatch z)) (ne_of h.hl S.hw (fun z => nomatch z)) (Ne.symm S.hl),
    go h.hd (ne_of h.hd S.hc (fun z => nomatch z)) (ne_of h.hd S.hw (fun z => nomatch z)) (ne_of h.hd S.hh (fun z => nomatch z))⟩
theorem rdp_Desk_next_rank (F : DkF K t) (h1 : DkB t H d a n f) (h2 : DkS H a cs ws kv) (q : Q (.int (f + cs.length)) H) :
    rd_Desk_next_rank K t { nx := fun _ H' => Q .non H', rt := Q } (L2.start ["self"] [.ref d]) H := by
  simp only [rd_Desk_next_rank, tFld, L2.start, tRet, tOp, tVar, tCons, tNil, tCB, LenV, rI0, cLen, List.map, List.replicate, List.length, List.append, List.cons_append, List.nil_append, List.append_nil, List.getElem?_cons_zero, List.getElem?_cons_succ, Option.some.injEq, exists_eq_left', exists_eq_left, V.int.injEq, V.ref.injEq, V.str.injEq, V.bl.injEq, V.ty.injEq, List.cons.injEq, and_true, true_and, and_assoc, exists_and_left, List.set_cons_zero, List.set_cons_succ, Nat.reduceSub, Nat.reduceAdd, decide_eq_true_eq, Bool.not_eq_true', decide_eq_false_iff_not, Int.reduceToNat, Int.reducePow, Int.reduceNeg, Int.reduceMul, Int.reduceAdd, if_true, ite_true, Bool.false_eq_true, ite_false, if_false]
  exact ⟨_, _, _, h1.id, F.cD, F.d3, _, rfl, _, _, _, h1.id, F.cD, F.d4, _, rfl, _, Or.inl ⟨_, SqL.of h2.hc, rfl⟩, _, rfl, by rw [List.length_map]; exact q⟩
theorem rdp_Desk_settled (F : DkF K t) (h1 : DkB t H d a n f) (q : Q (.int f) H) :
    rd_Desk_settled K t { nx := fun _ H' => Q .non H', rt := Q } (L2.start ["self"] [.ref d]) H := by
  simp only [rd_Desk_settled, tFld, L2.start, tRet, tOp, tVar, tCons, tNil, tCB, LenV, rI0, cLen, List.map, List.replicate, List.length, List.append, List.cons_append, List.nil_append, List.append_nil, List.getElem?_cons_zero, List.getElem?_cons_succ, Option.some.injEq, exists_eq_left', exists_eq_left, V.int.injEq, V.ref.injEq, V.str.injEq, V.bl.injEq, V.ty.injEq, List.cons.injEq, and_true, true_and, and_assoc, exists_and_left, List.set_cons_zero, List.set_cons_succ, Nat.reduceSub, Nat.reduceAdd, decide_eq_true_eq, Bool.not_eq_true', decide_eq_false_iff_not, Int.reduceToNat, Int.reducePow, Int.reduceNeg, Int.reduceMul, Int.reduceAdd, if_true, ite_true, Bool.false_eq_true, ite_false, if_false]
  exact ⟨_, _, _, h1.id, F.cD, F.d3, _, rfl, _, _, _, h1.id, F.cD, F.d9, _, rfl, _, Or.inl ⟨_, SqL.of h1.he, rfl⟩, _, rfl, by simpa using q⟩
theorem rdp_Jobs_lowest_changed (F : DkF K t) (h1 : DkB t H d a n f) (q : ∀ H', Same H H' → Q .non H') :
    rd_Jobs_lowest_changed K t { nx := fun _ H' => Q .non H', rt := Q } (L2.start ["self", "ranks", "rank", "note"] [.ref a.jb]) H := by
  simp only [rd_Jobs_lowest_changed, cSrtD, tFld, tMeth, tDPopT, L2.start, rCatT, tSeq, tAsg, gName, tRet, tDrop, tNext, tOp, tVar, tC, tTup, tCons, tNil, tFor, tIfS, tTest, tCB, iList, rNotN, List.map, List.replicate, List.length, List.append, List.cons_append, List.nil_append, List.append_nil, List.getElem?_cons_zero, List.getElem?_cons_succ, Option.some.injEq, exists_eq_left', exists_eq_left, V.int.injEq, V.ref.injEq, V.str.injEq, V.bl.injEq, V.ty.injEq, List.cons.injEq, and_true, true_and, and_assoc, exists_and_left, List.set_cons_zero, List.set_cons_succ, Nat.reduceSub, Nat.reduceAdd, decide_eq_true_eq, Bool.not_eq_true', decide_eq_false_iff_not, Int.reduceToNat, Int.reducePow, Int.reduceNeg, Int.reduceMul, Int.reduceAdd, if_true, ite_true, Bool.false_eq_true, ite_false, if_false]
  refine ⟨_, _, _, h1.ij, F.cJ, F.j4, _, rfl, _, rfl, _, h1.hd, [], rfl, by decide, fun l ps hl hp _ _ => ?_⟩
  have e : ps = [] := by have := hp.length_eq; rw [List.length_map] at this; exact List.eq_nil_of_length_eq_zero this
  subst e
  have hl2 : upd H l (.lst []) l = some (.lst []) := upd_same
  refine ⟨⟨_, SqL.of hl2⟩, fun i _ _ H' => i = 0 ∧ H' = upd H l (.lst []), ⟨0, rfl, rfl⟩, ?_⟩
  rintro i m σ H' ⟨rfl, rfl⟩
  exact .inl ⟨⟨_, SqL.of hl2, Nat.le_refl _⟩, q _ (isV l hl)⟩
theorem rdp_Makes_kept (F : DkF K t) (h1 : DkB t H d a n f) (q : ∀ H', Same H H' → Q (.int 0) H') :
    rd_Makes_kept K t { nx := fun _ H' => Q .non H', rt := Q } (L2.start ["self"] [.ref a.mks]) H := by
  simp only [rd_Makes_kept, tFrzK, tFld, cSumL, iDK, L2.start, gName, tRet, tOp, tVar, tCons, tNil, tCB, tComp, tYes, capV, LenV, rIxL, cLen, List.map, List.replicate, List.length, List.append, List.cons_append, List.nil_append, List.append_nil, List.getElem?_cons_zero, List.getElem?_cons_succ, Option.some.injEq, exists_eq_left', exists_eq_left, V.int.injEq, V.ref.injEq, V.str.injEq, V.bl.injEq, V.ty.injEq, List.cons.injEq, and_true, true_and, and_assoc, exists_and_left, List.set_cons_zero, List.set_cons_succ, Nat.reduceSub, Nat.reduceAdd, decide_eq_true_eq, Bool.not_eq_true', decide_eq_false_iff_not, Int.reduceToNat, Int.reducePow, Int.reduceNeg, Int.reduceMul, Int.reduceAdd, if_true, ite_true, Bool.false_eq_true, ite_false, if_false]
  refine ⟨a.wo, _, h1.hw, _, .inl rfl, fun o => ?_⟩
  have ff : upd H a.wo (.frz o (.dK [])) a.wo = some (.frz o (.dK [])) := upd_same
  have im := (upd_ne (o := .frz o (.dK [])) (ne_of h1.im h1.hw (fun z => nomatch z))).trans h1.im
  have bk : ∀ H4, Same (upd H a.wo (.frz o (.dK []))) H4 → Same H (upd H4 a.wo (.dK [])) := fun H4 s b u e => by
    by_cases z : b = a.wo
    · subst z; rw [upd_same, ← h1.hw, e]
    · rw [upd_ne z]; exact s _ _ (by rw [upd_ne z]; exact e)
  generalize upd H a.wo (.frz o (.dK [])) = H0 at *
  refine ⟨_, _, _, im, F.cM, F.m3, _, rfl, a.wo, rfl, o, [], ff, fun D hD => ?_⟩
  have hD2 : upd H0 D (.lst []) D = some (.lst []) := upd_same
  have fD := (upd_ne (o := .lst []) (ne_of_none ff hD)).trans ff
  refine ⟨fun i _ ys _ H' => i = 0 ∧ ys = [] ∧ H' = upd H0 D (.lst []), ⟨0, rfl, rfl, rfl⟩, ?_⟩
  rintro i m ys τ H' ⟨rfl, rfl, rfl⟩
  exact ⟨hD2, .inl ⟨⟨fD, Nat.le_refl _⟩, [], SqL.of hD2, fD, q _ (bk _ (isV D hD))⟩⟩
theorem rdp_Desk_kept (F : DkF K t) (h1 : DkB t H d a n f) (q : ∀ H', Same H H' → Q (.int 0) H') :
    rd_Desk_kept K t { nx := fun _ H' => Q .non H', rt := Q } (L2.start ["self"] [.ref d]) H := by
  simp only [rd_Desk_kept, sp_Makes_kept, tFld, tMeth, L2.start, tRet, tVar, tNil, List.map, List.replicate, List.length, List.append, List.cons_append, List.nil_append, List.append_nil, List.getElem?_cons_zero, List.getElem?_cons_succ, Option.some.injEq, exists_eq_left', exists_eq_left, V.int.injEq, V.ref.injEq, V.str.injEq, V.bl.injEq, V.ty.injEq, List.cons.injEq, and_true, true_and, and_assoc, exists_and_left, List.set_cons_zero, List.set_cons_succ, Nat.reduceSub, Nat.reduceAdd, decide_eq_true_eq, Bool.not_eq_true', decide_eq_false_iff_not, Int.reduceToNat, Int.reducePow, Int.reduceNeg, Int.reduceMul, Int.reduceAdd, if_true, ite_true, Bool.false_eq_true, ite_false, if_false]
  exact ⟨_, _, _, h1.id, F.cD, F.d7, _, rfl, _, rfl, _, _, h1.im, rfl, _, _, rfl, _, _, h1, q⟩
theorem rdp_Desk_papers (F : DkF K t) (h1 : DkB t H d a n f) (q : ∀ l H', Same H H' → H' l = some (.lst []) → Q (.ref l) H') :
    rd_Desk_papers K t { nx := fun _ H' => Q .non H', rt := Q } (L2.start ["self"] [.ref d]) H := by
  simp only [rd_Desk_papers, tFld, L2.start, cLst, rIxT, gName, tRet, tOp, tVar, tC, tTup, tCons, tNil, tCB, tComp, tYes, capV, iList, rIxT, List.map, List.replicate, List.length, List.append, List.cons_append, List.nil_append, List.append_nil, List.getElem?_cons_zero, List.getElem?_cons_succ, Option.some.injEq, exists_eq_left', exists_eq_left, V.int.injEq, V.ref.injEq, V.str.injEq, V.bl.injEq, V.ty.injEq, List.cons.injEq, and_true, true_and, and_assoc, exists_and_left, List.set_cons_zero, List.set_cons_succ, Nat.reduceSub, Nat.reduceAdd, decide_eq_true_eq, Bool.not_eq_true', decide_eq_false_iff_not, Int.reduceToNat, Int.reducePow, Int.reduceNeg, Int.reduceMul, Int.reduceAdd, if_true, ite_true, Bool.false_eq_true, ite_false, if_false]
  refine ⟨_, _, _, h1.id, F.cD, F.d9, _, rfl, _, rfl, ⟨_, SqL.of h1.he⟩, fun D hD => ?_⟩
  have hD2 : upd H D (.lst []) D = some (.lst []) := upd_same
  refine ⟨fun i _ ys _ H' => i = 0 ∧ ys = [] ∧ H' = upd H D (.lst []), ⟨0, rfl, rfl, rfl⟩, ?_⟩
  rintro i m ys τ H' ⟨rfl, rfl, rfl⟩
  exact ⟨hD2, .inl ⟨⟨_, SqL.of (isV D hD _ _ h1.he), Nat.le_refl _⟩, q _ _ (isV D hD) hD2⟩⟩
theorem rdp_Makes_heed_fold {rank : Int} (F : DkF K t) (h1 : DkB t H d a n f) (h2 : 0 ≤ rank) (q : Q .non H) :
    rd_Makes_heed_fold K t { nx := fun _ H' => Q .non H', rt := Q } (L2.start ["self", "rank"] [.ref a.mks, .int rank]) H := by
  simp only [rd_Makes_heed_fold, tFld, L2.start, tNext, tNever, tOp, tVar, tIfS, tTest, rI0, List.map, List.replicate, List.length, List.append, List.cons_append, List.nil_append, List.append_nil, List.getElem?_cons_zero, List.getElem?_cons_succ, Option.some.injEq, exists_eq_left', exists_eq_left, V.int.injEq, V.ref.injEq, V.str.injEq, V.bl.injEq, V.ty.injEq, List.cons.injEq, and_true, true_and, and_assoc, exists_and_left, List.set_cons_zero, List.set_cons_succ, Nat.reduceSub, Nat.reduceAdd, decide_eq_true_eq, Bool.not_eq_true', decide_eq_false_iff_not, Int.reduceToNat, Int.reducePow, Int.reduceNeg, Int.reduceMul, Int.reduceAdd, if_true, ite_true, Bool.false_eq_true, ite_false, if_false]
  exact ⟨_, _, _, h1.im, F.cM, F.m2, _, rfl, _, rfl, by rw [if_neg (by omega)]; exact q⟩
theorem rdp_table_of {l : Addr} (h1 : H l = some (.lst [])) (q : ∀ l2 H', Same H H' → H' l2 = some (.lst []) → Q (.ref l2) H') :
    rd_table_of K t { nx := fun _ H' => Q .non H', rt := Q } (L2.start ["rows", "worths"] [.ref l]) H := by
  simp only [rd_table_of, tDGet, cSrtD, cDctP, L2.start, tSeq, tAsg, gName, tRet, tOp, tVar, tC, tTup, tCons, tNil, tTest, tCB, tComp, capV, iList, rNe, scal, List.map, List.replicate, List.length, List.append, List.cons_append, List.nil_append, List.append_nil, List.getElem?_cons_zero, List.getElem?_cons_succ, Option.some.injEq, exists_eq_left', exists_eq_left, V.int.injEq, V.ref.injEq, V.str.injEq, V.bl.injEq, V.ty.injEq, List.cons.injEq, and_true, true_and, and_assoc, exists_and_left, List.set_cons_zero, List.set_cons_succ, Nat.reduceSub, Nat.reduceAdd, decide_eq_true_eq, Bool.not_eq_true', decide_eq_false_iff_not, Int.reduceToNat, Int.reducePow, Int.reduceNeg, Int.reduceMul, Int.reduceAdd, if_true, ite_true, Bool.false_eq_true, ite_false, if_false]
  refine ⟨_, h1, [], .nil, by decide, fun p hp => ⟨_, upd_same, [], rfl, by decide, fun l ps hl hq _ _ => ?_⟩⟩
  have e : ps = [] := by have := hq.length_eq; rw [List.length_map] at this; exact List.eq_nil_of_length_eq_zero this
  subst e
  have s1 : Same H (upd H p (.dT (dOf []))) := isV p hp
  generalize upd H p (.dT (dOf [])) = H1 at *
  have hl2 : upd H1 l (.lst []) l = some (.lst []) := upd_same
  simp only [List.map_nil]
  refine ⟨⟨_, SqL.of hl2⟩, fun D hD => ?_⟩
  have s2 : Same H1 (upd H1 l (.lst [])) := isV l hl
  have hl3 : upd H1 l (.lst []) l = some (.lst []) := upd_same
  generalize upd H1 l (.lst []) = H2 at *
  have hD2 : upd H2 D (.lst []) D = some (.lst []) := upd_same
  refine ⟨fun i _ ys _ H' => i = 0 ∧ ys = [] ∧ H' = upd H2 D (.lst []), ⟨0, rfl, rfl, rfl⟩, ?_⟩
  rintro i m ys τ H' ⟨rfl, rfl, rfl⟩
  exact ⟨hD2, .inl ⟨⟨_, SqL.of (isV D hD _ _ hl3), Nat.le_refl _⟩, q _ _ ((s1.trans s2).trans (isV D hD)) hD2⟩⟩
theorem rdp_Makes_table_for {rank : Int} (F : DkF K t) (h1 : DkB t H d a n f) (h2 : 0 ≤ rank) (q : ∀ l2 H', Same H H' → H' l2 = some (.lst []) → Q (.ref l2) H') :
    rd_Makes_table_for K t { nx := fun _ H' => Q .non H', rt := Q } (L2.start ["self", "rank", "places"] [.ref a.mks, .int rank]) H := by
  simp only [rd_Makes_table_for, sp_Makes_heed_fold, sp_table_of, rCat, tFld, tMeth, cLstD, L2.start, tSeq, tAsg, gName, tRet, tDrop, tOp, tVar, tTup, tCons, tNil, tCB, tCall, tComp, tYes, capV, iList, rCat, List.map, List.replicate, List.length, List.append, List.cons_append, List.nil_append, List.append_nil, List.getElem?_cons_zero, List.getElem?_cons_succ, Option.some.injEq, exists_eq_left', exists_eq_left, V.int.injEq, V.ref.injEq, V.str.injEq, V.bl.injEq, V.ty.injEq, List.cons.injEq, and_true, true_and, and_assoc, exists_and_left, List.set_cons_zero, List.set_cons_succ, Nat.reduceSub, Nat.reduceAdd, decide_eq_true_eq, Bool.not_eq_true', decide_eq_false_iff_not, Int.reduceToNat, Int.reducePow, Int.reduceNeg, Int.reduceMul, Int.reduceAdd, if_true, ite_true, Bool.false_eq_true, ite_false, if_false]
  refine ⟨_, _, h1.im, rfl, _, _, rfl, _, _, h1, h2, _, _, _, h1.im, F.cM, F.m1, _, rfl, _, rfl, _, h1.hg, fun l ys hl hp => ?_⟩
  cases hp
  have s1 : Same H (upd H l (.lst [])) := isV l hl
  have hl1 : upd H l (.lst []) l = some (.lst []) := upd_same
  generalize upd H l (.lst []) = H1 at *
  refine ⟨_, _, _, s1 _ _ h1.im, F.cM, F.m4, _, rfl, _, rfl, _, s1 _ _ h1.hr, fun l3 ys hl3 hp => ?_⟩
  cases hp
  have s3 : Same H1 (upd H1 l3 (.lst [])) := isV l3 hl3
  have h3 : upd H1 l3 (.lst []) l3 = some (.lst []) := upd_same
  have h4 := s3 _ _ hl1
  generalize upd H1 l3 (.lst []) = H3 at *
  refine ⟨_, h4, _, h3, by decide, fun p hp => ?_⟩
  simp only [List.nil_append]
  have s4 : Same H3 (upd H3 p (.lst [])) := isV p hp
  have hp1 : upd H3 p (.lst []) p = some (.lst []) := upd_same
  generalize upd H3 p (.lst []) = H4 at *
  refine ⟨⟨_, SqL.of hp1⟩, fun D hD => ?_⟩
  have hD2 : upd H4 D (.lst []) D = some (.lst []) := upd_same
  refine ⟨fun i _ ys _ H' => i = 0 ∧ ys = [] ∧ H' = upd H4 D (.lst []), ⟨0, rfl, rfl, rfl⟩, ?_⟩
  rintro i m ys τ H' ⟨rfl, rfl, rfl⟩
  exact ⟨hD2, .inl ⟨⟨_, SqL.of (isV D hD _ _ hp1), Nat.le_refl _⟩, hD2, fun l2 H' s e => q l2 H' ((((s1.trans s3).trans s4).trans (isV D hD)).trans s) e⟩⟩
theorem rdp_Desk_table (F : DkF K t) (h1 : DkB t H d a n f) (h2 : 0 ≤ f) (q : ∀ l2 H', Same H H' → H' l2 = some (.lst []) → Q (.ref l2) H') :
    rd_Desk_table K t { nx := fun _ H' => Q .non H', rt := Q } (L2.start ["self"] [.ref d]) H := by
  simp only [rd_Desk_table, sp_Makes_table_for, sp_Desk_settled, tFld, tMeth, L2.start, tRet, tVar, tCons, tNil, List.map, List.replicate, List.length, List.append, List.cons_append, List.nil_append, List.append_nil, List.getElem?_cons_zero, List.getElem?_cons_succ, Option.some.injEq, exists_eq_left', exists_eq_left, V.int.injEq, V.ref.injEq, V.str.injEq, V.bl.injEq, V.ty.injEq, List.cons.injEq, and_true, true_and, and_assoc, exists_and_left, List.set_cons_zero, List.set_cons_succ, Nat.reduceSub, Nat.reduceAdd, decide_eq_true_eq, Bool.not_eq_true', decide_eq_false_iff_not, Int.reduceToNat, Int.reducePow, Int.reduceNeg, Int.reduceMul, Int.reduceAdd, if_true, ite_true, Bool.false_eq_true, ite_false, if_false]
  exact ⟨_, _, _, h1.id, F.cD, F.d7, _, rfl, _, rfl, _, _, h1.im, rfl, _, _, h1.id, rfl, _, _, _, h1, _, _, rfl, _, _, h1, h2, q⟩
end
theorem rdp_Way_chosen {x l : Addr} {w : Int} {ws : List Int} (h1 : H l = some (.lst ((w :: ws).map V.int))) (q : Q (.int w) H) :
    rd_Way_chosen K t { nx := fun _ H' => Q .non H', rt := Q } (L2.start ["self", "ranks"] [.ref x, .ref l]) H := by
  simp only [rd_Way_chosen, L2.start, tRet, tOp, tVar, tC, rIxL, List.map, List.replicate, List.length, List.append, List.cons_append, List.nil_append, List.append_nil, List.getElem?_cons_zero, List.getElem?_cons_succ, Option.some.injEq, exists_eq_left', exists_eq_left, V.int.injEq, V.ref.injEq, V.str.injEq, V.bl.injEq, V.ty.injEq, List.cons.injEq, and_true, true_and, and_assoc, exists_and_left, List.set_cons_zero, List.set_cons_succ, Nat.reduceSub, Nat.reduceAdd, decide_eq_true_eq, Bool.not_eq_true', decide_eq_false_iff_not, Int.reduceToNat, Int.reducePow, Int.reduceNeg, Int.reduceMul, Int.reduceAdd, if_true, ite_true, Bool.false_eq_true, ite_false, if_false]
  exact ⟨_, SqL.of h1, _, atI_nat (j := 0) rfl, q⟩
section
variable {x p : Addr} {Hk H' : Hp} {o : HO}
theorem sxV (S : SameX x H Hk) (e : upd Hk p o = H') (hp : Hk p = none) : SameX x H H' := fun b u n w => e ▸ isV p hp _ _ (S b u n w)
theorem sxU (S : SameX x H Hk) (e : upd Hk x o = H') : SameX x H H' := fun b u n w => by subst e; rw [upd_ne n]; exact S b u n w
theorem svV (e : upd Hk p o = H') (hp : Hk p = none) : Same Hk H' := e ▸ isV p hp
theorem frX (S : SameX x H Hk) (n : p ≠ x) (hp : Hk p = none) : H p = none := by
  cases hs : H p with
  | none => rfl
  | some u => rw [S p u n hs] at hp; cases hp
theorem sx0 : SameX x H H := fun _ _ _ e => e
end
theorem rdp_Makes_init {x l dx : Addr} (F : DkF K t) (h1 : H x = some (.ins t.c_Makes dx [])) (h2 : H l = some (.lst [])) (q : ∀ H' gr wo rk, SameX x H H' → H' x = some (.ins t.c_Makes dx (mkFs0 gr wo rk)) → H' gr = some (.dT []) → H' wo = some (.dK []) → H' rk = some (.dT []) → H wo = none → Q .non H') :
    rd_Makes_init K t { nx := fun _ H' => Q .non H', rt := Q } (L2.start ["self", "ground"] [.ref x, .ref l]) H := by
  simp only [rd_Makes_init, tDNewT, cDctP, sFld, putF, L2.start, tSeq, tVar, tC, tCons, tNil, tCB, tDNewK, List.map, List.replicate, List.length, List.append, List.cons_append, List.nil_append, List.append_nil, List.getElem?_cons_zero, List.getElem?_cons_succ, Option.some.injEq, exists_eq_left', exists_eq_left, V.int.injEq, V.ref.injEq, V.str.injEq, V.bl.injEq, V.ty.injEq, List.cons.injEq, and_true, true_and, and_assoc, exists_and_left, List.set_cons_zero, List.set_cons_succ, Nat.reduceSub, Nat.reduceAdd, decide_eq_true_eq, Bool.not_eq_true', decide_eq_false_iff_not, Int.reduceToNat, Int.reducePow, Int.reduceNeg, Int.reduceMul, Int.reduceAdd, if_true, ite_true, Bool.false_eq_true, ite_false, if_false]
  refine ⟨_, h2, [], .nil, by decide, fun gr n_gr => ?_⟩
  have d_gr : x ≠ gr := ne_of_none h1 n_gr
  generalize e1 : upd H gr _ = H1
  have v1 := svV e1 n_gr
  have S1 := sxV (sx0 (x := x)) e1 n_gr
  have x1 := v1 _ _ h1
  have w1_gr : H1 gr = some (.dT []) := e1 ▸ upd_same
  clear e1
  refine ⟨_, _, _, x1, F.cM, F.m1, (by show (0 : Nat) < 1000; decide), ?_⟩
  generalize e2 : upd H1 x _ = H2
  have S2 := sxU S1 e2
  have u2 := sxU sx0 e2
  have x2 : H2 x = some (.ins t.c_Makes dx [(Str.ofString "ground", .ref gr)]) := e2 ▸ upd_same
  have w2_gr := u2 _ _ (Ne.symm d_gr) w1_gr
  clear e2
  refine ⟨_, _, _, x2, F.cM, F.m2, (by show (1 : Nat) < 1000; decide), ?_⟩
  generalize e3 : upd H2 x _ = H3
  have S3 := sxU S2 e3
  have u3 := sxU sx0 e3
  have x3 : H3 x = some (.ins t.c_Makes dx [(Str.ofString "ground", .ref gr), (Str.ofString "folded", .int 0)]) := e3 ▸ upd_same
  have w3_gr := u3 _ _ (Ne.symm d_gr) w2_gr
  clear e3
  intro wo n_wo
  have d_wo : x ≠ wo := ne_of_none x3 n_wo
  have f_wo := frX S3 (Ne.symm d_wo) n_wo
  have e_gr_wo : gr ≠ wo := ne_of_none w3_gr n_wo
  generalize e4 : upd H3 wo _ = H4
  have v4 := svV e4 n_wo
  have S4 := sxV S3 e4 n_wo
  have x4 := v4 _ _ x3
  have w4_gr := v4 _ _ w3_gr
  have w4_wo : H4 wo = some (.dK []) := e4 ▸ upd_same
  clear e4
  refine ⟨_, _, _, x4, F.cM, F.m3, (by show (2 : Nat) < 1000; decide), ?_⟩
  generalize e5 : upd H4 x _ = H5
  have S5 := sxU S4 e5
  have u5 := sxU sx0 e5
  have x5 : H5 x = some (.ins t.c_Makes dx [(Str.ofString "ground", .ref gr), (Str.ofString "folded", .int 0), (Str.ofString "worths", .ref wo)]) := e5 ▸ upd_same
  have w5_gr := u5 _ _ (Ne.symm d_gr) w4_gr
  have w5_wo := u5 _ _ (Ne.symm d_wo) w4_wo
  clear e5
  intro rk n_rk
  have d_rk : x ≠ rk := ne_of_none x5 n_rk
  have e_gr_rk : gr ≠ rk := ne_of_none w5_gr n_rk
  have e_wo_rk : wo ≠ rk := ne_of_none w5_wo n_rk
  generalize e6 : upd H5 rk _ = H6
  have v6 := svV e6 n_rk
  have S6 := sxV S5 e6 n_rk
  have x6 := v6 _ _ x5
  have w6_gr := v6 _ _ w5_gr
  have w6_wo := v6 _ _ w5_wo
  have w6_rk : H6 rk = some (.dT []) := e6 ▸ upd_same
  clear e6
  refine ⟨_, _, _, x6, F.cM, F.m4, (by show (3 : Nat) < 1000; decide), ?_⟩
  generalize e7 : upd H6 x _ = H7
  have S7 := sxU S6 e7
  have u7 := sxU sx0 e7
  have x7 : H7 x = some (.ins t.c_Makes dx [(Str.ofString "ground", .ref gr), (Str.ofString "folded", .int 0), (Str.ofString "worths", .ref wo), (Str.ofString "ranks", .ref rk)]) := e7 ▸ upd_same
  have w7_gr := u7 _ _ (Ne.symm d_gr) w6_gr
  have w7_wo := u7 _ _ (Ne.symm d_wo) w6_wo
  have w7_rk := u7 _ _ (Ne.symm d_rk) w6_rk
  clear e7
  exact q _ _ _ _ S7 x7 w7_gr w7_wo w7_rk f_wo
theorem rdp_Jobs_init {x m dx : Addr} (F : DkF K t) (h1 : H x = some (.ins t.c_Jobs dx [])) (q : ∀ H' la re db, SameX x H H' → H' x = some (.ins t.c_Jobs dx [(Str.ofString "makes", .ref m), (Str.ofString "laid", .ref la), (Str.ofString "readers", .ref re), (Str.ofString "doubted", .ref db)]) → H' la = some (.dK []) → H' db = some (.dT []) → H la = none → Q .non H') :
    rd_Jobs_init K t { nx := fun _ H' => Q .non H', rt := Q } (L2.start ["self", "makes"] [.ref x, .ref m]) H := by
  simp only [rd_Jobs_init, tDNewT, sFld, putF, L2.start, tSeq, tVar, tDNewK, List.map, List.replicate, List.length, List.append, List.cons_append, List.nil_append, List.append_nil, List.getElem?_cons_zero, List.getElem?_cons_succ, Option.some.injEq, exists_eq_left', exists_eq_left, V.int.injEq, V.ref.injEq, V.str.injEq, V.bl.injEq, V.ty.injEq, List.cons.injEq, and_true, true_and, and_assoc, exists_and_left, List.set_cons_zero, List.set_cons_succ, Nat.reduceSub, Nat.reduceAdd, decide_eq_true_eq, Bool.not_eq_true', decide_eq_false_iff_not, Int.reduceToNat, Int.reducePow, Int.reduceNeg, Int.reduceMul, Int.reduceAdd, if_true, ite_true, Bool.false_eq_true, ite_false, if_false]
  refine ⟨_, _, _, h1, F.cJ, F.j1, (by show (0 : Nat) < 1000; decide), ?_⟩
  generalize e1 : upd H x _ = H1
  have S1 := sxU (sx0 (x := x)) e1
  have u1 := sxU sx0 e1
  have x1 : H1 x = some (.ins t.c_Jobs dx [(Str.ofString "makes", .ref m)]) := e1 ▸ upd_same
  clear e1
  intro la n_la
  have d_la : x ≠ la := ne_of_none x1 n_la
  have f_la := frX S1 (Ne.symm d_la) n_la
  generalize e2 : upd H1 la _ = H2
  have v2 := svV e2 n_la
  have S2 := sxV S1 e2 n_la
  have x2 := v2 _ _ x1
  have w2_la : H2 la = some (.dK []) := e2 ▸ upd_same
  clear e2
  refine ⟨_, _, _, x2, F.cJ, F.j2, (by show (1 : Nat) < 1000; decide), ?_⟩
  generalize e3 : upd H2 x _ = H3
  have S3 := sxU S2 e3
  have u3 := sxU sx0 e3
  have x3 : H3 x = some (.ins t.c_Jobs dx [(Str.ofString "makes", .ref m), (Str.ofString "laid", .ref la)]) := e3 ▸ upd_same
  have w3_la := u3 _ _ (Ne.symm d_la) w2_la
  clear e3
  intro re n_re
  have d_re : x ≠ re := ne_of_none x3 n_re
  have e_la_re : la ≠ re := ne_of_none w3_la n_re
  generalize e4 : upd H3 re _ = H4
  have v4 := svV e4 n_re
  have S4 := sxV S3 e4 n_re
  have x4 := v4 _ _ x3
  have w4_la := v4 _ _ w3_la
  have w4_re : H4 re = some (.dT []) := e4 ▸ upd_same
  clear e4
  refine ⟨_, _, _, x4, F.cJ, F.j3, (by show (2 : Nat) < 1000; decide), ?_⟩
  generalize e5 : upd H4 x _ = H5
  have S5 := sxU S4 e5
  have u5 := sxU sx0 e5
  have x5 : H5 x = some (.ins t.c_Jobs dx [(Str.ofString "makes", .ref m), (Str.ofString "laid", .ref la), (Str.ofString "readers", .ref re)]) := e5 ▸ upd_same
  have w5_la := u5 _ _ (Ne.symm d_la) w4_la
  have w5_re := u5 _ _ (Ne.symm d_re) w4_re
  clear e5
  intro db n_db
  have d_db : x ≠ db := ne_of_none x5 n_db
  have e_la_db : la ≠ db := ne_of_none w5_la n_db
  have e_re_db : re ≠ db := ne_of_none w5_re n_db
  generalize e6 : upd H5 db _ = H6
  have v6 := svV e6 n_db
  have S6 := sxV S5 e6 n_db
  have x6 := v6 _ _ x5
  have w6_la := v6 _ _ w5_la
  have w6_re := v6 _ _ w5_re
  have w6_db : H6 db = some (.dT []) := e6 ▸ upd_same
  clear e6
  refine ⟨_, _, _, x6, F.cJ, F.j4, (by show (3 : Nat) < 1000; decide), ?_⟩
  generalize e7 : upd H6 x _ = H7
  have S7 := sxU S6 e7
  have u7 := sxU sx0 e7
  have x7 : H7 x = some (.ins t.c_Jobs dx [(Str.ofString "makes", .ref m), (Str.ofString "laid", .ref la), (Str.ofString "readers", .ref re), (Str.ofString "doubted", .ref db)]) := e7 ▸ upd_same
  have w7_la := u7 _ _ (Ne.symm d_la) w6_la
  have w7_re := u7 _ _ (Ne.symm d_re) w6_re
  have w7_db := u7 _ _ (Ne.symm d_db) w6_db
  clear e7
  exact q _ _ _ _ S7 x7 w7_la w7_db f_la
theorem rdp_Run_init {x l dx : Addr} {xs : List V} (F : DkF K t) (h1 : H x = some (.ins t.c_Run dx [])) (h2 : H l = some (.lst xs)) (q : ∀ H', SameX x H H' → Q .non H') :
    rd_Run_init K t { nx := fun _ H' => Q .non H', rt := Q } (L2.start ["self", "code"] [.ref x, .ref l]) H := by
  simp only [rd_Run_init, sFld, putF, L2.start, cLst, tSeq, tVar, tC, tLst, tCons, tNil, tCB, tDNewK, List.map, List.replicate, List.length, List.append, List.cons_append, List.nil_append, List.append_nil, List.getElem?_cons_zero, List.getElem?_cons_succ, Option.some.injEq, exists_eq_left', exists_eq_left, V.int.injEq, V.ref.injEq, V.str.injEq, V.bl.injEq, V.ty.injEq, List.cons.injEq, and_true, true_and, and_assoc, exists_and_left, List.set_cons_zero, List.set_cons_succ, Nat.reduceSub, Nat.reduceAdd, decide_eq_true_eq, Bool.not_eq_true', decide_eq_false_iff_not, Int.reduceToNat, Int.reducePow, Int.reduceNeg, Int.reduceMul, Int.reduceAdd, if_true, ite_true, Bool.false_eq_true, ite_false, if_false]
  refine ⟨xs, .inl (SqL.of h2), fun co n_co => ?_⟩
  have d_co : x ≠ co := ne_of_none h1 n_co
  generalize e1 : upd H co _ = H1
  have v1 := svV e1 n_co
  have S1 := sxV (sx0 (x := x)) e1 n_co
  have x1 := v1 _ _ h1
  have w1_co : H1 co = some (.lst xs) := e1 ▸ upd_same
  clear e1
  refine ⟨_, _, _, x1, F.cR, F.r1, (by show (0 : Nat) < 1000; decide), ?_⟩
  generalize e2 : upd H1 x _ = H2
  have S2 := sxU S1 e2
  have u2 := sxU sx0 e2
  have x2 : H2 x = some (.ins t.c_Run dx [(Str.ofString "code", .ref co)]) := e2 ▸ upd_same
  have w2_co := u2 _ _ (Ne.symm d_co) w1_co
  clear e2
  refine ⟨_, _, _, x2, F.cR, F.r2, (by show (1 : Nat) < 1000; decide), ?_⟩
  generalize e3 : upd H2 x _ = H3
  have S3 := sxU S2 e3
  have u3 := sxU sx0 e3
  have x3 : H3 x = some (.ins t.c_Run dx [(Str.ofString "code", .ref co), (Str.ofString "at", .int 0)]) := e3 ▸ upd_same
  have w3_co := u3 _ _ (Ne.symm d_co) w2_co
  clear e3
  refine ⟨_, _, _, x3, F.cR, F.r3, (by show (2 : Nat) < 1000; decide), ?_⟩
  generalize e4 : upd H3 x _ = H4
  have S4 := sxU S3 e4
  have u4 := sxU sx0 e4
  have x4 : H4 x = some (.ins t.c_Run dx [(Str.ofString "code", .ref co), (Str.ofString "at", .int 0), (Str.ofString "why", .non)]) := e4 ▸ upd_same
  have w4_co := u4 _ _ (Ne.symm d_co) w3_co
  clear e4
  intro sl n_sl
  have d_sl : x ≠ sl := ne_of_none x4 n_sl
  have e_co_sl : co ≠ sl := ne_of_none w4_co n_sl
  generalize e5 : upd H4 sl _ = H5
  have v5 := svV e5 n_sl
  have S5 := sxV S4 e5 n_sl
  have x5 := v5 _ _ x4
  have w5_co := v5 _ _ w4_co
  have w5_sl : H5 sl = some (.dK []) := e5 ▸ upd_same
  clear e5
  refine ⟨_, _, _, x5, F.cR, F.r4, (by show (3 : Nat) < 1000; decide), ?_⟩
  generalize e6 : upd H5 x _ = H6
  have S6 := sxU S5 e6
  have u6 := sxU sx0 e6
  have x6 : H6 x = some (.ins t.c_Run dx [(Str.ofString "code", .ref co), (Str.ofString "at", .int 0), (Str.ofString "why", .non), (Str.ofString "slots", .ref sl)]) := e6 ▸ upd_same
  have w6_co := u6 _ _ (Ne.symm d_co) w5_co
  have w6_sl := u6 _ _ (Ne.symm d_sl) w5_sl
  clear e6
  intro gi n_gi
  have d_gi : x ≠ gi := ne_of_none x6 n_gi
  have e_co_gi : co ≠ gi := ne_of_none w6_co n_gi
  have e_sl_gi : sl ≠ gi := ne_of_none w6_sl n_gi
  generalize e7 : upd H6 gi _ = H7
  have v7 := svV e7 n_gi
  have S7 := sxV S6 e7 n_gi
  have x7 := v7 _ _ x6
  have w7_co := v7 _ _ w6_co
  have w7_sl := v7 _ _ w6_sl
  have w7_gi : H7 gi = some (.dK []) := e7 ▸ upd_same
  clear e7
  refine ⟨_, _, _, x7, F.cR, F.r5, (by show (4 : Nat) < 1000; decide), ?_⟩
  generalize e8 : upd H7 x _ = H8
  have S8 := sxU S7 e8
  have u8 := sxU sx0 e8
  have x8 : H8 x = some (.ins t.c_Run dx [(Str.ofString "code", .ref co), (Str.ofString "at", .int 0), (Str.ofString "why", .non), (Str.ofString "slots", .ref sl), (Str.ofString "gifts", .ref gi)]) := e8 ▸ upd_same
  have w8_co := u8 _ _ (Ne.symm d_co) w7_co
  have w8_sl := u8 _ _ (Ne.symm d_sl) w7_sl
  have w8_gi := u8 _ _ (Ne.symm d_gi) w7_gi
  clear e8
  intro no n_no
  have d_no : x ≠ no := ne_of_none x8 n_no
  have e_co_no : co ≠ no := ne_of_none w8_co n_no
  have e_sl_no : sl ≠ no := ne_of_none w8_sl n_no
  have e_gi_no : gi ≠ no := ne_of_none w8_gi n_no
  generalize e9 : upd H8 no _ = H9
  have v9 := svV e9 n_no
  have S9 := sxV S8 e9 n_no
  have x9 := v9 _ _ x8
  have w9_co := v9 _ _ w8_co
  have w9_sl := v9 _ _ w8_sl
  have w9_gi := v9 _ _ w8_gi
  have w9_no : H9 no = some (.dK []) := e9 ▸ upd_same
  clear e9
  refine ⟨_, _, _, x9, F.cR, F.r6, (by show (5 : Nat) < 1000; decide), ?_⟩
  generalize e10 : upd H9 x _ = H10
  have S10 := sxU S9 e10
  have u10 := sxU sx0 e10
  have x10 : H10 x = some (.ins t.c_Run dx [(Str.ofString "code", .ref co), (Str.ofString "at", .int 0), (Str.ofString "why", .non), (Str.ofString "slots", .ref sl), (Str.ofString "gifts", .ref gi), (Str.ofString "notes", .ref no)]) := e10 ▸ upd_same
  have w10_co := u10 _ _ (Ne.symm d_co) w9_co
  have w10_sl := u10 _ _ (Ne.symm d_sl) w9_sl
  have w10_gi := u10 _ _ (Ne.symm d_gi) w9_gi
  have w10_no := u10 _ _ (Ne.symm d_no) w9_no
  clear e10
  refine ⟨Nat.zero_le _, ?_⟩
  intro sa n_sa
  have d_sa : x ≠ sa := ne_of_none x10 n_sa
  have e_co_sa : co ≠ sa := ne_of_none w10_co n_sa
  have e_sl_sa : sl ≠ sa := ne_of_none w10_sl n_sa
  have e_gi_sa : gi ≠ sa := ne_of_none w10_gi n_sa
  have e_no_sa : no ≠ sa := ne_of_none w10_no n_sa
  generalize e11 : upd H10 sa _ = H11
  have v11 := svV e11 n_sa
  have S11 := sxV S10 e11 n_sa
  have x11 := v11 _ _ x10
  have w11_co := v11 _ _ w10_co
  have w11_sl := v11 _ _ w10_sl
  have w11_gi := v11 _ _ w10_gi
  have w11_no := v11 _ _ w10_no
  have w11_sa : H11 sa = some (.lst []) := e11 ▸ upd_same
  clear e11
  refine ⟨_, _, _, x11, F.cR, F.r7, (by show (6 : Nat) < 1000; decide), ?_⟩
  generalize e12 : upd H11 x _ = H12
  have S12 := sxU S11 e12
  have u12 := sxU sx0 e12
  have x12 : H12 x = some (.ins t.c_Run dx [(Str.ofString "code", .ref co), (Str.ofString "at", .int 0), (Str.ofString "why", .non), (Str.ofString "slots", .ref sl), (Str.ofString "gifts", .ref gi), (Str.ofString "notes", .ref no), (Str.ofString "sayings", .ref sa)]) := e12 ▸ upd_same
  have w12_co := u12 _ _ (Ne.symm d_co) w11_co
  have w12_sl := u12 _ _ (Ne.symm d_sl) w11_sl
  have w12_gi := u12 _ _ (Ne.symm d_gi) w11_gi
  have w12_no := u12 _ _ (Ne.symm d_no) w11_no
  have w12_sa := u12 _ _ (Ne.symm d_sa) w11_sa
  clear e12
  exact q _ S12
theorem rdp_Desk_init {x l w dx dw : Addr} {n f : Int} (F : DkF K t) (h1 : H x = some (.ins t.c_Desk dx [])) (h2 : H l = some (.lst [])) (h3 : H w = some (.ins t.c_Way dw [])) (nw : w ≠ x) (q : ∀ H' a, SameX x H H' → DkB t H' x a n f → DkS H' a [] [] [] → (∀ b, OwD a b → H b = none) → Q .non H') :
    rd_Desk_init K t { nx := fun _ H' => Q .non H', rt := Q } (L2.start ["self", "table", "hands", "way", "first"] [.ref x, .ref l, .int n, .ref w, .int f]) H := by
  simp only [rd_Desk_init, sp_Makes_init, sp_Jobs_init, tFld, sFld, tMake, putF, L2.start, tSeq, tVar, tLst, tCons, tNil, tDNewK, List.map, List.replicate, List.length, List.append, List.cons_append, List.nil_append, List.append_nil, List.getElem?_cons_zero, List.getElem?_cons_succ, Option.some.injEq, exists_eq_left', exists_eq_left, V.int.injEq, V.ref.injEq, V.str.injEq, V.bl.injEq, V.ty.injEq, List.cons.injEq, and_true, true_and, and_assoc, exists_and_left, List.set_cons_zero, List.set_cons_succ, Nat.reduceSub, Nat.reduceAdd, decide_eq_true_eq, Bool.not_eq_true', decide_eq_false_iff_not, Int.reduceToNat, Int.reducePow, Int.reduceNeg, Int.reduceMul, Int.reduceAdd, if_true, ite_true, Bool.false_eq_true, ite_false, if_false]
  have nlx : l ≠ x := fun z => by rw [z, h1] at h2; cases h2
  refine ⟨_, _, _, h1, F.cD, F.d1, (by show (0 : Nat) < 1000; decide), ?_⟩
  generalize e1 : upd H x _ = H1
  have S1 := sxU (sx0 (x := x)) e1
  have u1 := sxU sx0 e1
  have x1 : H1 x = some (.ins t.c_Desk dx [(Str.ofString "hands", .int n)]) := e1 ▸ upd_same
  clear e1
  refine ⟨_, _, _, x1, F.cD, F.d2, (by show (1 : Nat) < 1000; decide), ?_⟩
  generalize e2 : upd H1 x _ = H2
  have S2 := sxU S1 e2
  have u2 := sxU sx0 e2
  have x2 : H2 x = some (.ins t.c_Desk dx [(Str.ofString "hands", .int n), (Str.ofString "way", .ref w)]) := e2 ▸ upd_same
  clear e2
  refine ⟨_, _, _, x2, F.cD, F.d3, (by show (2 : Nat) < 1000; decide), ?_⟩
  generalize e3 : upd H2 x _ = H3
  have S3 := sxU S2 e3
  have u3 := sxU sx0 e3
  have x3 : H3 x = some (.ins t.c_Desk dx [(Str.ofString "hands", .int n), (Str.ofString "way", .ref w), (Str.ofString "first", .int f)]) := e3 ▸ upd_same
  clear e3
  refine ⟨Nat.zero_le _, ?_⟩
  intro cl n_cl
  have d_cl : x ≠ cl := ne_of_none x3 n_cl
  have f_cl := frX S3 (Ne.symm d_cl) n_cl
  generalize e4 : upd H3 cl _ = H4
  have v4 := svV e4 n_cl
  have S4 := sxV S3 e4 n_cl
  have x4 := v4 _ _ x3
  have w4_cl : H4 cl = some (.lst []) := e4 ▸ upd_same
  clear e4
  refine ⟨_, _, _, x4, F.cD, F.d4, (by show (3 : Nat) < 1000; decide), ?_⟩
  generalize e5 : upd H4 x _ = H5
  have S5 := sxU S4 e5
  have u5 := sxU sx0 e5
  have x5 : H5 x = some (.ins t.c_Desk dx [(Str.ofString "hands", .int n), (Str.ofString "way", .ref w), (Str.ofString "first", .int f), (Str.ofString "codes", .ref cl)]) := e5 ▸ upd_same
  have w5_cl := u5 _ _ (Ne.symm d_cl) w4_cl
  clear e5
  refine ⟨Nat.zero_le _, ?_⟩
  intro wl n_wl
  have d_wl : x ≠ wl := ne_of_none x5 n_wl
  have f_wl := frX S5 (Ne.symm d_wl) n_wl
  have e_cl_wl : cl ≠ wl := ne_of_none w5_cl n_wl
  generalize e6 : upd H5 wl _ = H6
  have v6 := svV e6 n_wl
  have S6 := sxV S5 e6 n_wl
  have x6 := v6 _ _ x5
  have w6_cl := v6 _ _ w5_cl
  have w6_wl : H6 wl = some (.lst []) := e6 ▸ upd_same
  clear e6
  refine ⟨_, _, _, x6, F.cD, F.d5, (by show (4 : Nat) < 1000; decide), ?_⟩
  generalize e7 : upd H6 x _ = H7
  have S7 := sxU S6 e7
  have u7 := sxU sx0 e7
  have x7 : H7 x = some (.ins t.c_Desk dx [(Str.ofString "hands", .int n), (Str.ofString "way", .ref w), (Str.ofString "first", .int f), (Str.ofString "codes", .ref cl), (Str.ofString "waiting", .ref wl)]) := e7 ▸ upd_same
  have w7_cl := u7 _ _ (Ne.symm d_cl) w6_cl
  have w7_wl := u7 _ _ (Ne.symm d_wl) w6_wl
  clear e7
  intro hd n_hd
  have d_hd : x ≠ hd := ne_of_none x7 n_hd
  have f_hd := frX S7 (Ne.symm d_hd) n_hd
  have e_cl_hd : cl ≠ hd := ne_of_none w7_cl n_hd
  have e_wl_hd : wl ≠ hd := ne_of_none w7_wl n_hd
  generalize e8 : upd H7 hd _ = H8
  have v8 := svV e8 n_hd
  have S8 := sxV S7 e8 n_hd
  have x8 := v8 _ _ x7
  have w8_cl := v8 _ _ w7_cl
  have w8_wl := v8 _ _ w7_wl
  have w8_hd : H8 hd = some (.dK []) := e8 ▸ upd_same
  clear e8
  refine ⟨_, _, _, x8, F.cD, F.d6, (by show (5 : Nat) < 1000; decide), ?_⟩
  generalize e9 : upd H8 x _ = H9
  have S9 := sxU S8 e9
  have u9 := sxU sx0 e9
  have x9 : H9 x = some (.ins t.c_Desk dx [(Str.ofString "hands", .int n), (Str.ofString "way", .ref w), (Str.ofString "first", .int f), (Str.ofString "codes", .ref cl), (Str.ofString "waiting", .ref wl), (Str.ofString "held", .ref hd)]) := e9 ▸ upd_same
  have w9_cl := u9 _ _ (Ne.symm d_cl) w8_cl
  have w9_wl := u9 _ _ (Ne.symm d_wl) w8_wl
  have w9_hd := u9 _ _ (Ne.symm d_hd) w8_hd
  clear e9
  intro mk dm n_mk n_dm nn_mk
  have d_mk : x ≠ mk := ne_of_none x9 n_mk
  have e_cl_mk : cl ≠ mk := ne_of_none w9_cl n_mk
  have e_wl_mk : wl ≠ mk := ne_of_none w9_wl n_mk
  have e_hd_mk : hd ≠ mk := ne_of_none w9_hd n_mk
  generalize e10 : upd (upd H9 dm _) mk _ = H10
  have v10 : Same H9 H10 := fun b u w => by rw [← e10, upd_ne (ne_of_none w n_mk)]; exact isV _ n_dm _ _ w
  have S10 : SameX x H H10 := fun b u n w => v10 _ _ (S9 _ _ n w)
  have x10 := v10 _ _ x9
  have w10_cl := v10 _ _ w9_cl
  have w10_wl := v10 _ _ w9_wl
  have w10_hd := v10 _ _ w9_hd
  have w10_mk : H10 mk = some (.ins t.c_Makes dm []) := e10 ▸ upd_same
  clear e10
  refine ⟨_, w10_mk, v10 _ _ (S9 _ _ nlx h2), fun H11 gr wo rk T11 w11_mk w11_gr w11_wo w11_rk f_wo => ?_⟩
  have e_cl_wo : cl ≠ wo := ne_of_none w10_cl f_wo
  have e_wl_wo : wl ≠ wo := ne_of_none w10_wl f_wo
  have e_hd_wo : hd ≠ wo := ne_of_none w10_hd f_wo
  have w11_cl := T11 _ _ e_cl_mk w10_cl
  have w11_wl := T11 _ _ e_wl_mk w10_wl
  have w11_hd := T11 _ _ e_hd_mk w10_hd
  have S11 : SameX x H H11 := fun b u n w => T11 _ _ (ne_of_none (S9 _ _ n w) n_mk) (S10 _ _ n w)
  have x11 := T11 _ _ d_mk x10
  have d_gr : x ≠ gr := ne_of x11 w11_gr (fun z => nomatch z)
  have d_wo : x ≠ wo := ne_of x11 w11_wo (fun z => nomatch z)
  have d_rk : x ≠ rk := ne_of x11 w11_rk (fun z => nomatch z)
  refine ⟨_, _, _, x11, F.cD, F.d7, (by show (6 : Nat) < 1000; decide), ?_⟩
  generalize e12 : upd H11 x _ = H12
  have S12 := sxU S11 e12
  have u12 := sxU sx0 e12
  have x12 : H12 x = some (.ins t.c_Desk dx [(Str.ofString "hands", .int n), (Str.ofString "way", .ref w), (Str.ofString "first", .int f), (Str.ofString "codes", .ref cl), (Str.ofString "waiting", .ref wl), (Str.ofString "held", .ref hd), (Str.ofString "makes", .ref mk)]) := e12 ▸ upd_same
  have w12_cl := u12 _ _ (Ne.symm d_cl) w11_cl
  have w12_wl := u12 _ _ (Ne.symm d_wl) w11_wl
  have w12_hd := u12 _ _ (Ne.symm d_hd) w11_hd
  have w12_mk := u12 _ _ (Ne.symm d_mk) w11_mk
  have w12_gr := u12 _ _ (Ne.symm d_gr) w11_gr
  have w12_wo := u12 _ _ (Ne.symm d_wo) w11_wo
  have w12_rk := u12 _ _ (Ne.symm d_rk) w11_rk
  clear e12
  refine ⟨_, _, _, x12, F.cD, F.d7, _, rfl, ?_⟩
  intro jb dj n_jb n_dj nn_jb
  have d_jb : x ≠ jb := ne_of_none x12 n_jb
  have e_cl_jb : cl ≠ jb := ne_of_none w12_cl n_jb
  have e_wl_jb : wl ≠ jb := ne_of_none w12_wl n_jb
  have e_hd_jb : hd ≠ jb := ne_of_none w12_hd n_jb
  have e_mk_jb : mk ≠ jb := ne_of_none w12_mk n_jb
  have e_gr_jb : gr ≠ jb := ne_of_none w12_gr n_jb
  have e_wo_jb : wo ≠ jb := ne_of_none w12_wo n_jb
  have e_rk_jb : rk ≠ jb := ne_of_none w12_rk n_jb
  generalize e13 : upd (upd H12 dj _) jb _ = H13
  have v13 : Same H12 H13 := fun b u w => by rw [← e13, upd_ne (ne_of_none w n_jb)]; exact isV _ n_dj _ _ w
  have S13 : SameX x H H13 := fun b u n w => v13 _ _ (S12 _ _ n w)
  have x13 := v13 _ _ x12
  have w13_cl := v13 _ _ w12_cl
  have w13_wl := v13 _ _ w12_wl
  have w13_hd := v13 _ _ w12_hd
  have w13_mk := v13 _ _ w12_mk
  have w13_gr := v13 _ _ w12_gr
  have w13_wo := v13 _ _ w12_wo
  have w13_rk := v13 _ _ w12_rk
  have w13_jb : H13 jb = some (.ins t.c_Jobs dj []) := e13 ▸ upd_same
  clear e13
  refine ⟨_, rfl, _, w13_jb, fun H14 la re db T14 w14_jb w14_la w14_db f_la => ?_⟩
  have e_cl_la : cl ≠ la := ne_of_none w13_cl f_la
  have e_wl_la : wl ≠ la := ne_of_none w13_wl f_la
  have e_hd_la : hd ≠ la := ne_of_none w13_hd f_la
  have e_mk_la : mk ≠ la := ne_of_none w13_mk f_la
  have e_gr_la : gr ≠ la := ne_of_none w13_gr f_la
  have e_wo_la : wo ≠ la := ne_of_none w13_wo f_la
  have e_rk_la : rk ≠ la := ne_of_none w13_rk f_la
  have w14_cl := T14 _ _ e_cl_jb w13_cl
  have w14_wl := T14 _ _ e_wl_jb w13_wl
  have w14_hd := T14 _ _ e_hd_jb w13_hd
  have w14_mk := T14 _ _ e_mk_jb w13_mk
  have w14_gr := T14 _ _ e_gr_jb w13_gr
  have w14_wo := T14 _ _ e_wo_jb w13_wo
  have w14_rk := T14 _ _ e_rk_jb w13_rk
  have S14 : SameX x H H14 := fun b u n w => T14 _ _ (ne_of_none (S12 _ _ n w) n_jb) (S13 _ _ n w)
  have x14 := T14 _ _ d_jb x13
  have d_la : x ≠ la := ne_of x14 w14_la (fun z => nomatch z)
  have d_db : x ≠ db := ne_of x14 w14_db (fun z => nomatch z)
  refine ⟨_, _, _, x14, F.cD, F.d8, (by show (7 : Nat) < 1000; decide), ?_⟩
  generalize e15 : upd H14 x _ = H15
  have S15 := sxU S14 e15
  have u15 := sxU sx0 e15
  have x15 : H15 x = some (.ins t.c_Desk dx [(Str.ofString "hands", .int n), (Str.ofString "way", .ref w), (Str.ofString "first", .int f), (Str.ofString "codes", .ref cl), (Str.ofString "waiting", .ref wl), (Str.ofString "held", .ref hd), (Str.ofString "makes", .ref mk), (Str.ofString "jobs", .ref jb)]) := e15 ▸ upd_same
  have w15_cl := u15 _ _ (Ne.symm d_cl) w14_cl
  have w15_wl := u15 _ _ (Ne.symm d_wl) w14_wl
  have w15_hd := u15 _ _ (Ne.symm d_hd) w14_hd
  have w15_mk := u15 _ _ (Ne.symm d_mk) w14_mk
  have w15_gr := u15 _ _ (Ne.symm d_gr) w14_gr
  have w15_wo := u15 _ _ (Ne.symm d_wo) w14_wo
  have w15_rk := u15 _ _ (Ne.symm d_rk) w14_rk
  have w15_jb := u15 _ _ (Ne.symm d_jb) w14_jb
  have w15_la := u15 _ _ (Ne.symm d_la) w14_la
  have w15_db := u15 _ _ (Ne.symm d_db) w14_db
  clear e15
  refine ⟨Nat.zero_le _, ?_⟩
  intro en n_en
  have d_en : x ≠ en := ne_of_none x15 n_en
  have e_cl_en : cl ≠ en := ne_of_none w15_cl n_en
  have e_wl_en : wl ≠ en := ne_of_none w15_wl n_en
  have e_hd_en : hd ≠ en := ne_of_none w15_hd n_en
  have e_mk_en : mk ≠ en := ne_of_none w15_mk n_en
  have e_gr_en : gr ≠ en := ne_of_none w15_gr n_en
  have e_wo_en : wo ≠ en := ne_of_none w15_wo n_en
  have e_rk_en : rk ≠ en := ne_of_none w15_rk n_en
  have e_jb_en : jb ≠ en := ne_of_none w15_jb n_en
  have e_la_en : la ≠ en := ne_of_none w15_la n_en
  have e_db_en : db ≠ en := ne_of_none w15_db n_en
  generalize e16 : upd H15 en _ = H16
  have v16 := svV e16 n_en
  have S16 := sxV S15 e16 n_en
  have x16 := v16 _ _ x15
  have w16_cl := v16 _ _ w15_cl
  have w16_wl := v16 _ _ w15_wl
  have w16_hd := v16 _ _ w15_hd
  have w16_mk := v16 _ _ w15_mk
  have w16_gr := v16 _ _ w15_gr
  have w16_wo := v16 _ _ w15_wo
  have w16_rk := v16 _ _ w15_rk
  have w16_jb := v16 _ _ w15_jb
  have w16_la := v16 _ _ w15_la
  have w16_db := v16 _ _ w15_db
  have w16_en : H16 en = some (.lst []) := e16 ▸ upd_same
  clear e16
  refine ⟨_, _, _, x16, F.cD, F.d9, (by show (8 : Nat) < 1000; decide), ?_⟩
  generalize e17 : upd H16 x _ = H17
  have S17 := sxU S16 e17
  have u17 := sxU sx0 e17
  have x17 : H17 x = some (.ins t.c_Desk dx [(Str.ofString "hands", .int n), (Str.ofString "way", .ref w), (Str.ofString "first", .int f), (Str.ofString "codes", .ref cl), (Str.ofString "waiting", .ref wl), (Str.ofString "held", .ref hd), (Str.ofString "makes", .ref mk), (Str.ofString "jobs", .ref jb), (Str.ofString "ended", .ref en)]) := e17 ▸ upd_same
  have w17_cl := u17 _ _ (Ne.symm d_cl) w16_cl
  have w17_wl := u17 _ _ (Ne.symm d_wl) w16_wl
  have w17_hd := u17 _ _ (Ne.symm d_hd) w16_hd
  have w17_mk := u17 _ _ (Ne.symm d_mk) w16_mk
  have w17_gr := u17 _ _ (Ne.symm d_gr) w16_gr
  have w17_wo := u17 _ _ (Ne.symm d_wo) w16_wo
  have w17_rk := u17 _ _ (Ne.symm d_rk) w16_rk
  have w17_jb := u17 _ _ (Ne.symm d_jb) w16_jb
  have w17_la := u17 _ _ (Ne.symm d_la) w16_la
  have w17_db := u17 _ _ (Ne.symm d_db) w16_db
  have w17_en := u17 _ _ (Ne.symm d_en) w16_en
  clear e17
  refine q H17 ⟨dx, w, dw, cl, wl, hd, mk, dm, jb, dj, en, gr, wo, rk, la, re, db⟩ S17 ⟨x17, S17 _ _ nw h3, w17_mk, w17_jb, w17_en, w17_gr, w17_wo, w17_rk, w17_la, w17_db⟩ ⟨w17_cl, w17_wl, w17_hd, e_cl_wl, e_cl_en, e_wl_en, e_hd_wo, e_hd_la, fun _ z => nomatch z⟩ ?_
  rintro b (rfl | rfl | rfl)
  · exact f_cl
  · exact f_wl
  · exact f_hd
section
variable {d : Addr} {a : DAd} {n f : Int} {cs : List Addr} {ws : List Int} {kv : List (Key × V)}
theorem rdp_Desk_add {c : Addr} {xs : List V} (F : DkF K t) (h0 : H c = some (.lst xs)) (h1 : DkB t H d a n f) (h2 : DkS H a cs ws kv) (l1 : cs.length ≤ 10) (l2 : ws.length ≤ 10) (q : ∀ H' c', KpD a H H' → H c' = none → DkS H' a (cs ++ [c']) (ws ++ [f + cs.length]) kv → Q (.int (f + cs.length)) H') :
    rd_Desk_add K t { nx := fun _ H' => Q .non H', rt := Q } (L2.start ["self", "code", "rank"] [.ref d, .ref c]) H := by
  simp only [rd_Desk_add, sp_Desk_next_rank, tFld, tMeth, L2.start, cLst, r_mt_append, rAppend, tSeq, tAsg, gName, tRet, tDrop, tVar, tCons, tNil, tCB, tBM, tyV, List.map, List.replicate, List.length, List.append, List.cons_append, List.nil_append, List.append_nil, List.getElem?_cons_zero, List.getElem?_cons_succ, Option.some.injEq, exists_eq_left', exists_eq_left, V.int.injEq, V.ref.injEq, V.str.injEq, V.bl.injEq, V.ty.injEq, List.cons.injEq, and_true, true_and, and_assoc, exists_and_left, List.set_cons_zero, List.set_cons_succ, Nat.reduceSub, Nat.reduceAdd, decide_eq_true_eq, Bool.not_eq_true', decide_eq_false_iff_not, Int.reduceToNat, Int.reducePow, Int.reduceNeg, Int.reduceMul, Int.reduceAdd, if_true, ite_true, Bool.false_eq_true, ite_false, if_false]
  refine ⟨_, _, h1.id, rfl, _, _, _, h1, _, _, _, h2, _, _, _, h1.id, F.cD, F.d4, _, rfl, .inl ⟨_, SqL.of h2.hc⟩, xs, .inl (SqL.of h0), fun l hl => ?_⟩
  generalize e1 : upd H l _ = H1
  have v1 := svV e1 hl
  have w1 : H1 l = some (.lst xs) := e1 ▸ upd_same
  have bg : 20 < sizeLine := by decide
  refine ⟨_, rfl, _, v1 _ _ h2.hc, by rw [List.length_map]; omega, ?_⟩
  generalize e2 : upd H1 a.cl _ = H2
  have o2 : ∀ b o, b ≠ a.cl → H b = some o → H2 b = some o := fun b o nb e => by rw [← e2, upd_ne nb]; exact v1 _ _ e
  have k2 : KpD a H H2 := fun b o nb e => o2 b o (fun z => nb (.inl z)) e
  have w2 : H2 a.cl = some (.lst (cs.map V.ref ++ [.ref l])) := e2 ▸ upd_same
  have nl : l ≠ a.cl := fun z => by rw [z, h2.hc] at hl; cases hl
  have nw : l ≠ a.wl := fun z => by rw [z, h2.hw] at hl; cases hl
  have l2' : H2 l = some (.lst xs) := by rw [← e2, upd_ne nl]; exact w1
  have hw2 := o2 _ _ (Ne.symm h2.cw) h2.hw
  clear e2
  refine ⟨_, _, _, (h1.kp h2 k2).id, F.cD, F.d5, _, rfl, .inl ⟨_, SqL.of hw2⟩, _, rfl, _, hw2, by rw [List.length_map]; omega, ?_⟩
  generalize e3 : upd H2 a.wl _ = H3
  have o3 : ∀ b o, b ≠ a.wl → H2 b = some o → H3 b = some o := fun b o nb e => by rw [← e3, upd_ne nb]; exact e
  have w3 : H3 a.wl = some (.lst (ws.map V.int ++ [.int (f + cs.length)])) := e3 ▸ upd_same
  refine q H3 l (fun b o nb e => o3 _ _ (fun z => nb (.inr (.inl z))) (k2 _ _ nb e)) hl ⟨by rw [List.map_append]; exact o3 _ _ h2.cw w2, by rw [List.map_append]; exact w3, o3 _ _ (ne_of h2.hh h2.hw (fun z => nomatch z)) (o2 _ _ (ne_of h2.hh h2.hc (fun z => nomatch z)) h2.hh), h2.cw, h2.ce, h2.we, h2.ho, h2.hl, fun c hc => ?_⟩
  rcases List.mem_append.mp hc with hc | hc
  · obtain ⟨n1, n2, ys, e⟩ := h2.ok c hc
    exact ⟨n1, n2, ys, o3 _ _ n2 (o2 _ _ n1 e)⟩
  · cases List.mem_singleton.mp hc
    exact ⟨nl, nw, xs, o3 _ _ nw l2'⟩
theorem rdp_Desk_taken_up {h w : Int} (F : DkF K t) (h1 : DkB t H d a n f) (h2 : DkS H a cs (w :: ws) kv) (hf : f ≤ w) (hw : w - f < cs.length) (up : (w :: ws).Pairwise (· < ·)) (l1 : cs.length ≤ 10) (l2 : ws.length ≤ 10) (l3 : kv.length ≤ 10) (q : ∀ H' v r, KpD a H H' → DkS H' a cs ws (putK kv (.inl h) v) → H' r = some (.tup [.str "take", .int h, .int w]) → Q (.ref r) H') :
    rd_Desk_taken_up K t { nx := fun _ H' => Q .non H', rt := Q } (L2.start ["self", "hand", "rank"] [.ref d, .int h]) H := by
  simp only [rd_Desk_taken_up, sp_Way_chosen, sp_Run_init, sDPut, tFld, tMeth, tMake, r_mt_remove, L2.start, cLst, tSeq, tAsg, gName, tRet, tDrop, tOp, tVar, tC, tTup, tCons, tNil, tCB, tBM, tyV, rIxL, rI0, List.map, List.replicate, List.length, List.append, List.cons_append, List.nil_append, List.append_nil, List.getElem?_cons_zero, List.getElem?_cons_succ, Option.some.injEq, exists_eq_left', exists_eq_left, V.int.injEq, V.ref.injEq, V.str.injEq, V.bl.injEq, V.ty.injEq, List.cons.injEq, and_true, true_and, and_assoc, exists_and_left, List.set_cons_zero, List.set_cons_succ, Nat.reduceSub, Nat.reduceAdd, decide_eq_true_eq, Bool.not_eq_true', decide_eq_false_iff_not, Int.reduceToNat, Int.reducePow, Int.reduceNeg, Int.reduceMul, Int.reduceAdd, if_true, ite_true, Bool.false_eq_true, ite_false, if_false]
  refine ⟨_, _, _, h1.id, F.cD, F.d2, _, rfl, _, rfl, _, _, h1.iw, rfl, _, _, _, h1.id, F.cD, F.d5, _, rfl, _, rfl, _, .inl (SqL.of h2.hw), fun l hl => ?_⟩
  generalize e1 : upd H l _ = H1
  have v1 := svV e1 hl
  have w1 : H1 l = some (.lst ((w :: ws).map V.int)) := e1 ▸ upd_same
  refine ⟨_, rfl, _, _, w1, ?_⟩
  have b1 := h1.same v1
  have c1 := h2.same v1
  refine ⟨_, _, _, b1.id, F.cD, F.d5, _, rfl, .inl ⟨_, SqL.of c1.hw⟩, _, rfl, (w :: ws), c1.hw, List.mem_cons_self, ?_⟩
  rw [List.erase_cons_head]
  generalize e2 : upd H1 a.wl _ = H2
  have o2 : ∀ b o, b ≠ a.wl → H1 b = some o → H2 b = some o := fun b o nb e => by rw [← e2, upd_ne nb]; exact e
  have k2 : KpD a H1 H2 := fun b o nb e => o2 b o (fun z => nb (.inr (.inl z))) e
  have w2 : H2 a.wl = some (.lst (ws.map V.int)) := e2 ▸ upd_same
  clear e2
  have c2 : DkS H2 a cs ws kv := ⟨o2 _ _ c1.cw c1.hc, w2, o2 _ _ (ne_of c1.hh c1.hw (fun z => nomatch z)) c1.hh, c1.cw, c1.ce, c1.we, c1.ho, c1.hl, fun c hc => let ⟨n1, n2, ys, e⟩ := c1.ok c hc; ⟨n1, n2, ys, o2 _ _ n2 e⟩⟩
  have b2 := b1.kp c1 k2
  refine ⟨_, _, _, b2.id, F.cD, F.d4, _, rfl, _, _, _, b2.id, F.cD, F.d3, _, rfl, _, rfl, _, rfl, ?_⟩
  obtain ⟨j, hj⟩ : ∃ j : Nat, w - f = j := ⟨(w - f).toNat, by omega⟩
  have jl : j < cs.length := by omega
  obtain ⟨m1, m2, cx, m3⟩ := c2.ok _ (List.getElem_mem jl)
  refine ⟨_, SqL.of c2.hc, .ref cs[j], by rw [hj]; exact atI_nat (by rw [List.getElem?_map, List.getElem?_eq_getElem jl]; rfl), fun x dx nx ndx _ => ?_⟩
  generalize e3 : upd (upd H2 dx _) x _ = H3
  have v3 : Same H2 H3 := fun b u e => by rw [← e3, upd_ne (ne_of_none e nx)]; exact isV _ ndx _ _ e
  have x3 : H3 x = some (.ins t.c_Run dx []) := e3 ▸ upd_same
  refine ⟨_, rfl, _, x3, _, v3 _ _ m3, fun H4 s4 => ⟨by decide, fun p hp => ?_⟩⟩
  have v4 : Same H2 H4 := fun b u e => s4 _ _ (ne_of_none e nx) (v3 _ _ e)
  generalize e5 : upd H4 p _ = H5
  have v5 : Same H2 H5 := v4.trans (svV e5 hp)
  have b5 := b2.same v5
  have c5 := c2.same v5
  refine ⟨_, _, _, b5.id, F.cD, F.d6, _, rfl, _, rfl, _, DPut.k (k := .inl h) c5.hh (Nat.lt_of_le_of_lt l3 (by decide)), by decide, fun r hr => ?_⟩
  revert hr
  generalize e6 : upd H5 a.hd _ = H6
  intro hr
  have o6 : ∀ b o, b ≠ a.hd → H5 b = some o → H6 b = some o := fun b o nb e => by rw [← e6, upd_ne nb]; exact e
  have w6 : H6 a.hd = some (.dK (putK kv (.inl h) (.ref p))) := e6 ▸ upd_same
  have c6 : DkS H6 a cs ws (putK kv (.inl h) (.ref p)) := ⟨o6 _ _ (ne_of c5.hc c5.hh (fun z => nomatch z)) c5.hc, o6 _ _ (ne_of c5.hw c5.hh (fun z => nomatch z)) c5.hw, w6, c5.cw, c5.ce, c5.we, c5.ho, c5.hl, fun c hc => let ⟨n1, n2, ys, e⟩ := c5.ok c hc; ⟨n1, n2, ys, o6 _ _ (ne_of e c5.hh (fun z => nomatch z)) e⟩⟩
  generalize e7 : upd H6 r _ = H7
  have v7 := svV e7 hr
  exact q H7 _ r (fun b o nb e => v7 _ _ (o6 _ _ (fun z => nb (.inr (.inr z))) (v5 _ _ (k2 _ _ nb (v1 _ _ e))))) (c6.same v7) (e7 ▸ upd_same)
theorem rdp_Desk_moved_free {h : Int} (F : DkF K t) (h1 : DkB t H d a n f) (h2 : DkS H a cs ws kv) (h3 : WtOk f cs ws kv) (q : MvAt a H cs ws kv h Q) :
    rd_Desk_moved_free K t { nx := fun _ H' => Q .non H', rt := Q } (L2.start ["self", "hand", "first", "low"] [.ref d, .int h]) H := by
  simp only [rd_Desk_moved_free, sp_Desk_settled, sp_Jobs_lowest_changed, rInD, tFld, tMeth, rNeNil, r_mt_insert, L2.start, r_mt_append, rAppend, rIxT, rCatT, tSeq, tAsg, gName, tRet, tDrop, tNext, tOp, tVar, tC, tLst, tTup, tCons, tNil, tIfS, tAnd, tOr, tTest, tBM, tyV, tCall, rIxT, rNe, rIsN, rNotN, scal, List.map, List.replicate, List.length, List.append, List.cons_append, List.nil_append, List.append_nil, List.getElem?_cons_zero, List.getElem?_cons_succ, Option.some.injEq, exists_eq_left', exists_eq_left, V.int.injEq, V.ref.injEq, V.str.injEq, V.bl.injEq, V.ty.injEq, List.cons.injEq, and_true, true_and, and_assoc, exists_and_left, List.set_cons_zero, List.set_cons_succ, Nat.reduceSub, Nat.reduceAdd, decide_eq_true_eq, Bool.not_eq_true', decide_eq_false_iff_not, Int.reduceToNat, Int.reducePow, Int.reduceNeg, Int.reduceMul, Int.reduceAdd, if_true, ite_true, Bool.false_eq_true, ite_false, if_false]
  refine ⟨_, _, h1.id, rfl, _, _, _, h1, _, _, _, h1.id, F.cD, F.d8, _, rfl, _, rfl, _, _, h1.ij, rfl, _, _, rfl, _, _, h1, fun H1 s1 => ?_⟩
  replace h1 := h1.same s1
  replace h2 := h2.same s1
  simp only [rd_Desk_moved_free_2, rInD, tFld, tMeth, rNeNil, r_mt_insert, L2.start, r_mt_append, rAppend, rIxT, rCatT, tSeq, tAsg, gName, tRet, tDrop, tNext, tOp, tVar, tC, tLst, tTup, tCons, tNil, tIfS, tAnd, tOr, tTest, tBM, tyV, tCall, rIxT, rNe, rIsN, rNotN, scal, List.map, List.replicate, List.length, List.append, List.cons_append, List.nil_append, List.append_nil, List.getElem?_cons_zero, List.getElem?_cons_succ, Option.some.injEq, exists_eq_left', exists_eq_left, V.int.injEq, V.ref.injEq, V.str.injEq, V.bl.injEq, V.ty.injEq, List.cons.injEq, and_true, true_and, and_assoc, exists_and_left, List.set_cons_zero, List.set_cons_succ, Nat.reduceSub, Nat.reduceAdd, decide_eq_true_eq, Bool.not_eq_true', decide_eq_false_iff_not, Int.reduceToNat, Int.reducePow, Int.reduceNeg, Int.reduceMul, Int.reduceAdd, if_true, ite_true, Bool.false_eq_true, ite_false, if_false]
  refine ⟨_, _, _, h1.id, F.cD, F.d8, _, rfl, _, rfl, _, _, _, h1.ij, F.cJ, F.j2, _, rfl, _, rfl, _, DGet.k (k := .inl f) h1.hl, ?_⟩
  rw [if_neg (by show ¬ (false = true); decide)]
  simp only [rd_Desk_moved_free_3, sp_Desk_taken_up, rInD, tFld, tMeth, rNeNil, r_mt_insert, L2.start, r_mt_append, rAppend, rIxT, rCatT, tSeq, tAsg, gName, tRet, tDrop, tNext, tOp, tVar, tC, tLst, tTup, tCons, tNil, tIfS, tAnd, tOr, tTest, tBM, tyV, tCall, rIxT, rNe, rIsN, rNotN, scal, List.map, List.replicate, List.length, List.append, List.cons_append, List.nil_append, List.append_nil, List.getElem?_cons_zero, List.getElem?_cons_succ, Option.some.injEq, exists_eq_left', exists_eq_left, V.int.injEq, V.ref.injEq, V.str.injEq, V.bl.injEq, V.ty.injEq, List.cons.injEq, and_true, true_and, and_assoc, exists_and_left, List.set_cons_zero, List.set_cons_succ, Nat.reduceSub, Nat.reduceAdd, decide_eq_true_eq, Bool.not_eq_true', decide_eq_false_iff_not, Int.reduceToNat, Int.reducePow, Int.reduceNeg, Int.reduceMul, Int.reduceAdd, if_true, ite_true, Bool.false_eq_true, ite_false, if_false]
  rw [if_neg (fun z => z trivial)]
  refine ⟨_, _, _, h1.id, F.cD, F.d5, _, rfl, Nat.zero_le _, fun p hp => ?_⟩
  generalize e2 : upd H1 p _ = H2
  have v2 := svV e2 hp
  have w2 : H2 p = some (.lst []) := e2 ▸ upd_same
  clear e2
  replace h1 := h1.same v2
  replace h2 := h2.same v2
  refine ⟨_, rfl, _, SqL.of h2.hw, SqL.of w2, ?_⟩
  cases ws with
  | nil =>
    rw [if_neg (fun z => z rfl)]
    refine ⟨by decide, fun r hr => ?_⟩
    generalize e3 : upd H2 r _ = H3
    have v3 := svV e3 hr
    exact q.1 rfl H3 r (fun b o _ e => v3 _ _ (v2 _ _ (s1 _ _ e))) (h2.same v3) (e3 ▸ upd_same)
  | cons w ws =>
    rw [if_pos (fun z => nomatch z)]
    have o1 := h3.lo w List.mem_cons_self
    have o2 := h3.lw
    exact ⟨_, _, h1.id, rfl, _, _, _, h1, _, _, _, _, h2, o1.1, o1.2, h3.up, h3.lc, by simp only [List.length_cons] at o2; omega, h3.lk, fun H3 v r k s e => q.2 w ws rfl H3 v r (fun b o nb e => k _ _ nb (v2 _ _ (s1 _ _ e))) s e⟩
end
theorem rdp_Desk_move {d : Addr} {a : DAd} {n f : Int} {cs : List Addr} {ws : List Int} {kv : List (Key × V)} {h : Int} {E : XK} (F : DkF K t) (h1 : DkB t H d a n f) (h2 : DkS H a cs ws kv) (h3 : WtOk f cs ws kv) (hb : hB h) (e : h < 0 ∨ n ≤ h → ∀ H', Same H H' → E (.ref t.c_NoHand) none H') (q : 0 ≤ h → h < n → valV kv (.inl h) = none ∧ MvAt a H cs ws kv h Q) :
    rd_Desk_move K t E { nx := fun _ H' => Q .non H', rt := Q } (L2.start ["self", "hand", "rank", "run", "place", "worth"] [.ref d, .int h]) H := by
  simp only [rd_Desk_move, rd_Desk_move_1, sp_Desk_moved_free, tMsgI, rInD, tDGet, tFld, tMeth, tDPopT, L2.start, rIxT, tRaise, tSeq, tAsg, gName, tRet, tDrop, tNext, tOp, tVar, tC, tTup, tCons, tNil, tIfS, tOr, tTest, tB, rIxT, rI0, rIsN, List.map, List.replicate, List.length, List.append, List.cons_append, List.nil_append, List.append_nil, List.getElem?_cons_zero, List.getElem?_cons_succ, Option.some.injEq, exists_eq_left', exists_eq_left, V.int.injEq, V.ref.injEq, V.str.injEq, V.bl.injEq, V.ty.injEq, List.cons.injEq, and_true, true_and, and_assoc, exists_and_left, List.set_cons_zero, List.set_cons_succ, Nat.reduceSub, Nat.reduceAdd, decide_eq_true_eq, Bool.not_eq_true', decide_eq_false_iff_not, Int.reduceToNat, Int.reducePow, Int.reduceNeg, Int.reduceMul, Int.reduceAdd, if_true, ite_true, Bool.false_eq_true, ite_false, if_false]
  by_cases c1 : h < 0
  · rw [if_pos c1]
    exact ⟨by decide, e (.inl c1) H (Same.refl _)⟩
  rw [if_neg c1]
  refine ⟨_, _, _, h1.id, F.cD, F.d1, _, rfl, _, rfl, ?_⟩
  by_cases c2 : n ≤ h
  · rw [if_pos c2]
    exact ⟨by decide, e (.inr c2) H (Same.refl _)⟩
  rw [if_neg c2]
  obtain ⟨q1, q2⟩ := q (by omega) (by omega)
  refine ⟨_, _, _, h1.id, F.cD, F.d6, _, rfl, _, rfl, _, DGet.k (k := .inl h) h2.hh, ?_⟩
  rw [q1, if_pos (by rfl)]
  exact ⟨_, _, h1.id, rfl, _, _, _, h1, _, _, _, h2, h3, q2⟩
section
variable {d : Addr} {a : DAd} {n f h : Int} {cs : List Addr} {ws : List Int} {kv : List (Key × V)} {mg : Str → Option Value}
theorem rdp__law_refused (T : Txt K mg t) (h1 : DkB t H d a n f) (h2 : DkS H a cs ws kv) (h3 : WtOk f cs ws kv) (hb : hB h) (hn : h < 0 ∨ n ≤ h) (k : ∀ H', Same H H' → Q (.bl true) H') :
    rd__law_refused K t { nx := fun _ H' => Q .non H', rt := Q } (L2.start ["desk", "hand", "right", "other", "another", "e"] [.ref d, .int h]) H := by
  simp only [rd__law_refused, sp_Desk_move, tTry, tMethX, L2.start, tTry, endT, tDropX, cIsx, cIsxT, clsV, tSeq, tAsg, gName, tRet, tVar, tC, tTup, tCons, tNil, tAndV, tNotV, tCB, List.map, List.replicate, List.length, List.append, List.cons_append, List.nil_append, List.append_nil, List.getElem?_cons_zero, List.getElem?_cons_succ, Option.some.injEq, exists_eq_left', exists_eq_left, V.int.injEq, V.ref.injEq, V.str.injEq, V.bl.injEq, V.ty.injEq, List.cons.injEq, and_true, true_and, and_assoc, exists_and_left, List.set_cons_zero, List.set_cons_succ, Nat.reduceSub, Nat.reduceAdd, decide_eq_true_eq, Bool.not_eq_true', decide_eq_false_iff_not, Int.reduceToNat, Int.reducePow, Int.reduceNeg, Int.reduceMul, Int.reduceAdd, if_true, ite_true, Bool.false_eq_true, ite_false, if_false]
  refine ⟨_, _, h1.id, rfl, _, _, _, h1, _, _, _, h2, h3, hb, fun _ H1 s1 => ⟨_, rfl, T.y_NoHand, T.e_NoHand_NoHand, fun e he => ?_⟩, fun _ _ => by omega⟩
  have s2 := isV (o := exO e t.c_NoHand) e he
  have he : upd H1 e (exO e t.c_NoHand) e = some (exO e t.c_NoHand) := upd_same
  generalize upd H1 e (exO e t.c_NoHand) = H2 at *
  refine ⟨_, he, T.y_NoHand, true, T.i_NoHand_ForerunError, ?_⟩
  rw [if_pos rfl]
  refine ⟨_, he, T.y_NoHand, true, T.i_NoHand_ValueError, by decide, fun p1 hp1 => ?_⟩
  generalize e3 : upd H2 p1 _ = H3
  have s3 := svV e3 hp1
  have q3 : H3 p1 = some (HO.tup [V.ref t.c_NoNumber, V.ref t.c_NoTerm, V.ref t.c_NoDealing, V.ref t.c_Nought, V.ref t.c_Great]) := e3 ▸ upd_same
  refine ⟨_, s3 _ _ he, T.y_NoHand, [t.c_NoNumber, t.c_NoTerm, t.c_NoDealing, t.c_Nought, t.c_Great], q3, false, T.j_NoHand_0, by decide, fun p2 hp2 => ?_⟩
  generalize e4 : upd H3 p2 _ = H4
  have s4 := svV e4 hp2
  have q4 : H4 p2 = some (HO.tup [V.ref t.c_Folded, V.ref t.c_NoOrder, V.ref t.c_NoLine, V.ref t.c_NoLog]) := e4 ▸ upd_same
  refine ⟨_, s4 _ _ (s3 _ _ he), T.y_NoHand, [t.c_Folded, t.c_NoOrder, t.c_NoLine, t.c_NoLog], q4, false, T.j_NoHand_1, ?_⟩
  simp only [endT, rd__law_refused_4, tMethX, L2.start, tTry, endT, tDropX, cIsx, cIsxT, clsV, tSeq, tAsg, gName, tRet, tVar, tC, tTup, tCons, tNil, tAndV, tNotV, tCB, List.map, List.replicate, List.length, List.append, List.cons_append, List.nil_append, List.append_nil, List.getElem?_cons_zero, List.getElem?_cons_succ, Option.some.injEq, exists_eq_left', exists_eq_left, V.int.injEq, V.ref.injEq, V.str.injEq, V.bl.injEq, V.ty.injEq, List.cons.injEq, and_true, true_and, and_assoc, exists_and_left, List.set_cons_zero, List.set_cons_succ, Nat.reduceSub, Nat.reduceAdd, decide_eq_true_eq, Bool.not_eq_true', decide_eq_false_iff_not, Int.reduceToNat, Int.reducePow, Int.reduceNeg, Int.reduceMul, Int.reduceAdd, if_true, ite_true, Bool.false_eq_true, ite_false, if_false]
  exact k _ (s1.trans (s2.trans (s3.trans s4)))
theorem rdp__law_refused_by_any (T : Txt K mg t) (h1 : DkB t H d a n f) (h2 : DkS H a cs ws kv) (h3 : WtOk f cs ws kv) (hb : hB h) (hn : h < 0 ∨ n ≤ h) (k : ∀ H', Same H H' → Q (.bl true) H') :
    rd__law_refused_by_any K t { nx := fun _ H' => Q .non H', rt := Q } (L2.start ["desk", "hand", "refused"] [.ref d, .int h]) H := by
  simp only [rd__law_refused_by_any, sp_Desk_move, tMethX, tTryN, L2.start, tDropX, tSeq, tAsg, gName, tRet, tVar, tC, tCons, tNil, List.map, List.replicate, List.length, List.append, List.cons_append, List.nil_append, List.append_nil, List.getElem?_cons_zero, List.getElem?_cons_succ, Option.some.injEq, exists_eq_left', exists_eq_left, V.int.injEq, V.ref.injEq, V.str.injEq, V.bl.injEq, V.ty.injEq, List.cons.injEq, and_true, true_and, and_assoc, exists_and_left, List.set_cons_zero, List.set_cons_succ, Nat.reduceSub, Nat.reduceAdd, decide_eq_true_eq, Bool.not_eq_true', decide_eq_false_iff_not, Int.reduceToNat, Int.reducePow, Int.reduceNeg, Int.reduceMul, Int.reduceAdd, if_true, ite_true, Bool.false_eq_true, ite_false, if_false]
  exact ⟨_, _, h1.id, rfl, _, _, _, h1, _, _, _, h2, h3, hb, fun _ H1 s1 => ⟨_, rfl, T.e_NoHand_ForerunError, k _ s1⟩, fun _ _ => by omega⟩
end
theorem dat_ints {H : Hp} : ∀ ns : List Int, DatAll K H (ns.map V.int) (ns.map PyData.int)
  | [] => .nil
  | n :: ns => .cons (.int n) (dat_ints ns)
theorem plain_ints : ∀ ns : List Int, plainDs (ns.map PyData.int) = true
  | [] => rfl
  | n :: ns => by rw [List.map_cons, plainDs, plain_ints ns]; rfl
theorem dep_ints : ∀ ns : List Int, PyData.depthAll (ns.map PyData.int) ≤ 1
  | [] => by simp [PyData.depthAll]
  | n :: ns => by have := dep_ints ns; simp [PyData.depthAll, PyData.depth]; omega
theorem rdp__law_alike {r s : Addr} {x : Str} {ns : List Int} (F : KF K) (h1 : H r = some (.tup (.str x :: ns.map V.int))) (h2 : H s = some (.tup (.str x :: ns.map V.int))) (l0 : 0 < ns.length) (l1 : ns.length ≤ 5) (hx : PyData.strOk x = true) (q : ∀ H', Same H H' → Q (.bl true) H') :
    rd__law_alike K t { nx := fun _ H' => Q .non H', rt := Q } (L2.start ["found", "due", "number"] [.ref r, .ref s]) H := by
  simp only [rd__law_alike, rEqD, L2.start, rIxT, tSeq, gName, tRet, tNext, tOp, tVar, tC, tCons, tNil, tFor, tIfS, tOr, tNot, tTest, tB, tCB, tSl, tPart, tNoPart, LenV, iTup, rIxT, rNe, cLen, cIsi, scal, List.map, List.replicate, List.length, List.append, List.cons_append, List.nil_append, List.append_nil, List.getElem?_cons_zero, List.getElem?_cons_succ, Option.some.injEq, exists_eq_left', exists_eq_left, V.int.injEq, V.ref.injEq, V.str.injEq, V.bl.injEq, V.ty.injEq, List.cons.injEq, and_true, true_and, and_assoc, exists_and_left, List.set_cons_zero, List.set_cons_succ, Nat.reduceSub, Nat.reduceAdd, decide_eq_true_eq, Bool.not_eq_true', decide_eq_false_iff_not, Int.reduceToNat, Int.reducePow, Int.reduceNeg, Int.reduceMul, Int.reduceAdd, if_true, ite_true, Bool.false_eq_true, ite_false, if_false]
  have q1 := SqT.of (K := K) h1
  have q2 := SqT.of (K := K) h2
  refine ⟨_, .tup h1, true, kit_same "tuple", ?_⟩
  rw [if_neg (by decide)]
  refine ⟨_, .inr ⟨_, q1, rfl⟩, _, .inr ⟨_, q2, rfl⟩, ?_⟩
  rw [if_neg (fun z => z rfl)]
  refine ⟨_, q1, _, atI_nat (j := 0) rfl, _, .str _, true, kit_same "str", ?_⟩
  rw [if_neg (by decide)]
  refine ⟨r, _, rfl, q1, ?_, fun p hp => ?_⟩
  · rintro ⟨z, _⟩
    revert z
    show ¬ (min 1 (ns.map V.int).length.succ = 0)
    omega
  have ec : cutV (V.str x :: ns.map V.int) (some 1) none = ns.map V.int := by
    show ((V.str x :: ns.map V.int).drop (min 1 (ns.map V.int).length.succ)).take ((ns.map V.int).length.succ - min 1 (ns.map V.int).length.succ) = _
    rw [Nat.min_eq_left (by omega)]
    show (ns.map V.int).take ((ns.map V.int).length) = _
    rw [List.take_length]
  rw [ec]
  generalize e1 : upd H p _ = H1
  have s1 := svV e1 hp
  have w1 : H1 p = some (.tup (ns.map V.int)) := e1 ▸ upd_same
  clear e1
  refine ⟨_, rfl, ⟨_, SqT.of w1⟩, fun i m σ H' => i + m = ns.length ∧ (∃ o, σ = [some (V.ref r), some (V.ref s), o]) ∧ H' = H1, ⟨ns.length, by omega, ⟨_, rfl⟩, rfl⟩, ?_⟩
  rintro i m σ H' ⟨hm, ⟨o, rfl⟩, rfl⟩
  by_cases hi : i < ns.length
  · refine .inr ⟨⟨_, .int ns[i], SqT.of w1, by rw [List.getElem?_map, List.getElem?_eq_getElem hi]; rfl⟩, fun σ' H'' => (∃ o, σ' = [some (V.ref r), some (V.ref s), o]) ∧ H'' = H', fun σ' H'' ⟨z1, z2⟩ => ⟨m - 1, by omega, by omega, z1, z2⟩, ?_⟩
    rintro v H'' ⟨rfl, hv⟩
    have hv := hv _ (SqT.of w1)
    rw [List.getElem?_map, List.getElem?_eq_getElem hi] at hv
    cases hv
    refine ⟨_, rfl, _, .int _, true, kit_same "int", ?_⟩
    rw [if_neg (by decide)]
    refine ⟨_, rfl, _, .int _, false, F.i_b, ?_⟩
    rw [if_neg (by decide)]
    exact ⟨⟨_, rfl⟩, rfl⟩
  · refine .inl ⟨⟨_, SqT.of w1, by rw [List.length_map]; omega⟩, _, rfl, _, rfl, ?_⟩
    have pl : plainD (.tuple (.str x :: ns.map PyData.int)) = true := by
      rw [plainD, plainDs, plain_ints, plainD, hx]; rfl
    have dp : (PyData.tuple (.str x :: ns.map PyData.int)).depth ≤ 64 := by
      have := dep_ints ns
      simp only [PyData.depth, PyData.depthAll]
      omega
    exact ⟨_, .tup (SqT.of (s1 _ _ h1)) (.cons (.str x) (dat_ints ns)), _, .tup (SqT.of (s1 _ _ h2)) (.cons (.str x) (dat_ints ns)), pl, pl, dp, dp, fun b hb => by rw [hb.mpr rfl]; exact q _ s1⟩
def wsOf (f : Int) (k m : Nat) : List Int := (List.range' k (m - k)).map fun j : Nat => f + (j : Int)
theorem wsOf_cons {f : Int} {k m : Nat} (h : k < m) : wsOf f k m = (f + (k : Int)) :: wsOf f (k + 1) m := by
  unfold wsOf
  obtain ⟨j, hj⟩ : ∃ j, m - k = j + 1 := ⟨m - k - 1, by omega⟩
  rw [hj, List.range'_succ, show m - (k + 1) = j by omega]
  rfl
theorem wsOf_nil {f : Int} {k m : Nat} (h : m ≤ k) : wsOf f k m = [] := by
  unfold wsOf
  rw [show m - k = 0 by omega]
  rfl
theorem wsOf_mem {f : Int} {k m : Nat} {w : Int} (h : w ∈ wsOf f k m) : f ≤ w ∧ w - f < m := by
  unfold wsOf at h
  obtain ⟨j, hj, rfl⟩ := List.mem_map.mp h
  have := List.mem_range'_1.mp hj
  omega
theorem wsOf_up {f : Int} {k m : Nat} : (wsOf f k m).Pairwise (· < ·) := by
  unfold wsOf
  rw [List.pairwise_map]
  exact (List.pairwise_lt_range' (s := k) (n := m - k)).imp fun h => by omega
theorem wsOf_len {f : Int} {k m : Nat} : (wsOf f k m).length = m - k := by
  unfold wsOf
  rw [List.length_map, List.length_range']
/-- hands that are none -/
def BadL (n : Int) (bs : List Int) : Prop := bs ≠ [] ∧ ∀ b ∈ bs, hB b ∧ (b < 0 ∨ n ≤ b)
structure DkP (t : Adr) (H : Hp) (d b : Addr) (a : DAd) (n f : Int) (cs : List Addr) (ws : List Int) (kv : List (Key × V)) (bs : List Int) : Prop where
  h1 : DkB t H d a n f
  h2 : DkS H a cs ws kv
  hb : H b = some (.lst (bs.map V.int))
  n1 : b ≠ a.cl
  n2 : b ≠ a.wl
  n3 : b ≠ a.en
  n4 : b ∉ cs
def LI10 (t : Adr) (s d b : Addr) (a : DAd) (n f : Int) (m : Nat) (cs : List Addr) (bs : List Int) (o7 : Option V) (i r : Nat) (σ : St) (H : Hp) : Prop :=
  (i : Int) + r = n ∧ (∃ o5 o8 o9, σ = [some (.ref s), some (.int n), some (.int m), some (.int f), some (.ref d), o5, some (.ref b), o7, o8, o9]) ∧ ∃ kv : List (Key × V), DkP t H d b a n f cs (wsOf f i m) kv bs ∧ kv.length ≤ i ∧ ∀ h : Int, h < n - i → valV kv (.inl h) = none
def LN10 (t : Adr) (s d b : Addr) (a : DAd) (n f : Int) (m : Nat) (cs : List Addr) (bs : List Int) (o7 : Option V) (i : Nat) (σ : St) (H : Hp) : Prop :=
  (∃ o5 o8 o9, σ = [some (.ref s), some (.int n), some (.int m), some (.int f), some (.ref d), o5, some (.ref b), o7, o8, o9]) ∧ ∃ kv : List (Key × V), DkP t H d b a n f cs (wsOf f (i + 1) m) kv bs ∧ kv.length ≤ i + 1 ∧ ∀ h : Int, h < n - i - 1 → valV kv (.inl h) = none
theorem rdp_law_10 {mg : Str → Option Value} {d b s : Addr} {a : DAd} {n f : Int} {m : Nat} {cs : List Addr} {bs : List Int} {o5 o7 o8 o9 : Option V} (T : Txt K mg t) (h : DkP t H d b a n f cs (wsOf f 0 m) [] bs) (lc : cs.length = m) (lm : m ≤ 2) (n1 : 1 ≤ n) (n8 : n ≤ 8) (hb : BadL n bs) (q : ∀ H', Q (.bl true) H') :
    rd_law_10 K t { nx := fun _ H' => Q .non H', rt := Q } [some (.ref s), some (.int n), some (.int m), some (.int f), some (.ref d), o5, some (.ref b), o7, o8, o9] H := by
  simp only [rd_law_10, sp__law_alike, sp_Desk_move, sp__law_refused, tMeth, L2.start, tSeq, tAsg, gName, tRet, tNext, tOp, tUn, tVar, tC, tTup, tCons, tNil, tFor, tIfS, tNot, tTest, tB, tAndV, tCall, iRng1, rIxL, rI0, rU, List.map, List.replicate, List.length, List.append, List.cons_append, List.nil_append, List.append_nil, List.getElem?_cons_zero, List.getElem?_cons_succ, Option.some.injEq, exists_eq_left', exists_eq_left, V.int.injEq, V.ref.injEq, V.str.injEq, V.bl.injEq, V.ty.injEq, List.cons.injEq, and_true, true_and, and_assoc, exists_and_left, List.set_cons_zero, List.set_cons_succ, Nat.reduceSub, Nat.reduceAdd, decide_eq_true_eq, Bool.not_eq_true', decide_eq_false_iff_not, Int.reduceToNat, Int.reducePow, Int.reduceNeg, Int.reduceMul, Int.reduceAdd, if_true, ite_true, Bool.false_eq_true, ite_false, if_false]
  refine ⟨by omega, by omega, LI10 t s d b a n f m cs bs o7, ⟨n.toNat, by omega, ⟨_, _, _, rfl⟩, [], h, Nat.le_refl _, fun _ _ => rfl⟩, ?_⟩
  rintro i r σ H1 ⟨hr, ⟨p5, p8, p9, rfl⟩, kv, hk, lk, hv⟩
  have wt : WtOk f cs (wsOf f i m) kv := ⟨wsOf_up, fun w hw => lc ▸ wsOf_mem hw, by omega, by rw [wsOf_len]; omega, by omega⟩
  by_cases hi : i < n.toNat
  · refine .inr ⟨hi, LN10 t s d b a n f m cs bs o7 i, fun σ' H' ⟨z1, kv', z2, z3, z4⟩ => ⟨r - 1, by omega, by omega, z1, kv', z2, z3, fun h hh => z4 h (by omega)⟩, ?_⟩
    rintro v H2 ⟨rfl, rfl⟩
    simp only [tMeth, L2.start, tSeq, tAsg, gName, tRet, tNext, tOp, tUn, tVar, tC, tTup, tCons, tNil, tFor, tIfS, tNot, tTest, tB, tAndV, tCall, iRng1, rIxL, rI0, rU, List.map, List.replicate, List.length, List.append, List.cons_append, List.nil_append, List.append_nil, List.getElem?_cons_zero, List.getElem?_cons_succ, Option.some.injEq, exists_eq_left', exists_eq_left, V.int.injEq, V.ref.injEq, V.str.injEq, V.bl.injEq, V.ty.injEq, List.cons.injEq, and_true, true_and, and_assoc, exists_and_left, List.set_cons_zero, List.set_cons_succ, Nat.reduceSub, Nat.reduceAdd, decide_eq_true_eq, Bool.not_eq_true', decide_eq_false_iff_not, Int.reduceToNat, Int.reducePow, Int.reduceNeg, Int.reduceMul, Int.reduceAdd, if_true, ite_true, Bool.false_eq_true, ite_false, if_false]
    have ei : (0 : Int) + (i : Int) = i := Int.zero_add _
    rw [ei]
    have hh : hB (n - 1 - i) := by unfold hB; omega
    refine ⟨by decide, fun p hp => ?_⟩
    generalize e3 : upd H2 p _ = H3
    have s3 := svV e3 hp
    have w3 : H3 p = some (.tup (.str "rest" :: [n - 1 - (i : Int)].map V.int)) := e3 ▸ upd_same
    clear e3
    by_cases c : (i : Int) < m
    · rw [if_pos c]
      refine ⟨by decide, fun p1 hp1 => ?_⟩
      generalize e4 : upd H3 p1 _ = H4
      have s4 := s3.trans (svV e4 hp1)
      have w4 : H4 p1 = some (.tup (.str "take" :: [n - 1 - (i : Int), f + i].map V.int)) := e4 ▸ upd_same
      clear e4
      have b4 := hk.h1.same s4
      have c4 := hk.h2.same s4
      refine ⟨_, _, b4.id, rfl, _, _, _, b4, _, _, _, c4, wt, hh, fun z => by omega, fun _ _ => ⟨hv _ (by omega), fun e => ?_, fun w ws' e H5 v r k5 c5 e5 => ?_⟩⟩
      · rw [wsOf_cons (by omega)] at e; cases e
      · rw [wsOf_cons (by omega)] at e
        cases e
        have no : ¬ OwD a p1 := fun z => z.elim (ne_of w4 c4.hc (fun z => nomatch z)) fun z => z.elim (ne_of w4 c4.hw (fun z => nomatch z)) (ne_of w4 c4.hh (fun z => nomatch z))
        have nb : ¬ OwD a b := fun z => z.elim hk.n1 fun z => z.elim hk.n2 (ne_of hk.hb hk.h2.hh (fun z => nomatch z))
        refine ⟨r, rfl, _, _, e5, k5 _ _ no w4, Nat.succ_pos _, by simp, by decide +kernel, fun H6 s6 => ?_⟩
        rw [if_neg (by decide)]
        exact ⟨⟨_, _, _, rfl⟩, _, ⟨(b4.kp c4 k5).same s6, c5.same s6, s6 _ _ (k5 _ _ nb (s4 _ _ hk.hb)), hk.n1, hk.n2, hk.n3, hk.n4⟩, Nat.le_trans (length_putK _ _ _) (by omega), fun h hl => by rw [valV_put, if_neg (fun z => by cases z; omega)]; exact hv h (by omega)⟩
    · rw [if_neg c]
      have b4 := hk.h1.same s3
      have c4 := hk.h2.same s3
      refine ⟨_, _, b4.id, rfl, _, _, _, b4, _, _, _, c4, wt, hh, fun z => by omega, fun _ _ => ⟨hv _ (by omega), fun e H5 r k5 c5 e5 => ?_, fun w ws' e => ?_⟩⟩
      · have no : ¬ OwD a p := fun z => z.elim (ne_of w3 c4.hc (fun z => nomatch z)) fun z => z.elim (ne_of w3 c4.hw (fun z => nomatch z)) (ne_of w3 c4.hh (fun z => nomatch z))
        have nb : ¬ OwD a b := fun z => z.elim hk.n1 fun z => z.elim hk.n2 (ne_of hk.hb hk.h2.hh (fun z => nomatch z))
        refine ⟨r, rfl, _, _, e5, k5 _ _ no w3, Nat.succ_pos _, by simp, by decide +kernel, fun H6 s6 => ?_⟩
        rw [if_neg (by decide)]
        rw [wsOf_nil (by omega)] at c5
        exact ⟨⟨_, _, _, rfl⟩, kv, ⟨(b4.kp c4 k5).same s6, by rw [wsOf_nil (by omega)]; exact c5.same s6, s6 _ _ (k5 _ _ nb (s3 _ _ hk.hb)), hk.n1, hk.n2, hk.n3, hk.n4⟩, by omega, fun h hl => hv h (by omega)⟩
      · rw [wsOf_nil (by omega)] at e; cases e
  · refine .inl ⟨by show _ ≤ _; omega, ?_⟩
    simp only [tMeth, L2.start, tSeq, tAsg, gName, tRet, tNext, tOp, tUn, tVar, tC, tTup, tCons, tNil, tFor, tIfS, tNot, tTest, tB, tAndV, tCall, iRng1, rIxL, rI0, rU, List.map, List.replicate, List.length, List.append, List.cons_append, List.nil_append, List.append_nil, List.getElem?_cons_zero, List.getElem?_cons_succ, Option.some.injEq, exists_eq_left', exists_eq_left, V.int.injEq, V.ref.injEq, V.str.injEq, V.bl.injEq, V.ty.injEq, List.cons.injEq, and_true, true_and, and_assoc, exists_and_left, List.set_cons_zero, List.set_cons_succ, Nat.reduceSub, Nat.reduceAdd, decide_eq_true_eq, Bool.not_eq_true', decide_eq_false_iff_not, Int.reduceToNat, Int.reducePow, Int.reduceNeg, Int.reduceMul, Int.reduceAdd, if_true, ite_true, Bool.false_eq_true, ite_false, if_false]
    obtain ⟨b0, bt, eb⟩ := List.exists_cons_of_ne_nil hb.1
    obtain ⟨bi, bl, el⟩ : ∃ bi bl, bs = bi ++ [bl] := ⟨_, _, (List.dropLast_concat_getLast hb.1).symm⟩
    have o0 := hb.2 b0 (by rw [eb]; exact List.mem_cons_self)
    have ol := hb.2 bl (by rw [el]; exact List.mem_append_right _ (List.mem_singleton.mpr rfl))
    have hb2 : H1 b = some (.lst ((bi ++ [bl]).map V.int)) := el ▸ hk.hb
    rw [List.map_append] at hb2
    have hb1 : H1 b = some (.lst ((b0 :: bt).map V.int)) := eb ▸ hk.hb
    exact ⟨_, SqL.of hb1, _, atI_nat (j := 0) rfl, _, rfl, _, _, _, hk.h1, _, _, _, hk.h2, wt, o0.1, o0.2, fun H2 s2 => ⟨_, SqL.of (s2 _ _ hb2), _, atI_last _ _, _, rfl, _, _, _, hk.h1.same s2, _, _, _, hk.h2.same s2, wt, ol.1, ol.2, fun H3 _ => q H3⟩⟩
theorem DkP.same {H' : Hp} {d b : Addr} {a : DAd} {n f : Int} {cs : List Addr} {ws : List Int} {kv : List (Key × V)} {bs : List Int} (h : DkP t H d b a n f cs ws kv bs) (s : Same H H') : DkP t H' d b a n f cs ws kv bs := ⟨h.h1.same s, h.h2.same s, s _ _ h.hb, h.n1, h.n2, h.n3, h.n4⟩
theorem rdp_law_9 {mg : Str → Option Value} {d b s : Addr} {a : DAd} {n f : Int} {m : Nat} {cs : List Addr} {bs : List Int} {o5 o7 o8 o9 : Option V} (T : Txt K mg t) (h : DkP t H d b a n f cs (wsOf f 0 m) [] bs) (lc : cs.length = m) (lm : m ≤ 2) (n1 : 1 ≤ n) (n8 : n ≤ 8) (hf : 0 ≤ f) (hb : BadL n bs) (q : ∀ H', Q (.bl true) H') :
    rd_law_9 K t { nx := fun _ H' => Q .non H', rt := Q } [some (.ref s), some (.int n), some (.int m), some (.int f), some (.ref d), o5, some (.ref b), o7, o8, o9] H := by
  simp only [rd_law_9, sp_Desk_kept, sp_Desk_settled, sp_Desk_papers, sp_Desk_table, tMeth, rNeNil, L2.start, tSeq, tAsg, gName, tRet, tNext, tOp, tUn, tVar, tC, tLst, tTup, tCons, tNil, tFor, tIfS, tOr, tNot, tTest, tB, tAndV, tCall, iRng1, rIxL, rNe, rI0, rU, scal, List.map, List.replicate, List.length, List.append, List.cons_append, List.nil_append, List.append_nil, List.getElem?_cons_zero, List.getElem?_cons_succ, Option.some.injEq, exists_eq_left', exists_eq_left, V.int.injEq, V.ref.injEq, V.str.injEq, V.bl.injEq, V.ty.injEq, List.cons.injEq, and_true, true_and, and_assoc, exists_and_left, List.set_cons_zero, List.set_cons_succ, Nat.reduceSub, Nat.reduceAdd, decide_eq_true_eq, Bool.not_eq_true', decide_eq_false_iff_not, Int.reduceToNat, Int.reducePow, Int.reduceNeg, Int.reduceMul, Int.reduceAdd, if_true, ite_true, Bool.false_eq_true, ite_false, if_false]
  refine ⟨_, _, h.h1.id, rfl, _, _, _, h.h1, fun H1 s1 => ?_⟩
  rw [if_neg (fun z => z trivial)]
  have k1 := h.same s1
  refine ⟨_, _, k1.h1.id, rfl, _, _, _, k1.h1, ?_⟩
  rw [if_neg (fun z => z rfl)]
  refine ⟨_, _, k1.h1.id, rfl, _, _, _, k1.h1, fun l H2 s2 hl => ⟨Nat.zero_le _, fun p hp => ?_⟩⟩
  generalize e3 : upd H2 p _ = H3
  have s3 := svV e3 hp
  have w3 : H3 p = some (.lst []) := e3 ▸ upd_same
  clear e3
  refine ⟨_, SqL.of (s3 _ _ hl), SqL.of w3, ?_⟩
  rw [if_neg (fun z => z rfl)]
  have k3 := k1.same (s2.trans s3)
  refine ⟨_, _, k3.h1.id, rfl, _, _, _, k3.h1, hf, fun l2 H4 s4 hl2 => ⟨Nat.zero_le _, fun p2 hp2 => ?_⟩⟩
  generalize e5 : upd H4 p2 _ = H5
  have s5 := svV e5 hp2
  have w5 : H5 p2 = some (.lst []) := e5 ▸ upd_same
  clear e5
  refine ⟨_, SqL.of (s5 _ _ hl2), SqL.of w5, ?_⟩
  rw [if_neg (fun z => z rfl)]
  exact rdp_law_10 T (k3.same (s4.trans s5)) lc lm n1 n8 hb q
def LI8 (t : Adr) (s d b : Addr) (a : DAd) (n f : Int) (m : Nat) (cs : List Addr) (bs : List Int) (o5 o7 o9 : Option V) (i r : Nat) (σ : St) (H : Hp) : Prop :=
  i + r = bs.length ∧ (∃ o8, σ = [some (.ref s), some (.int n), some (.int m), some (.int f), some (.ref d), o5, some (.ref b), o7, o8, o9]) ∧ DkP t H d b a n f cs (wsOf f 0 m) [] bs
def LN8 (t : Adr) (s d b : Addr) (a : DAd) (n f : Int) (m : Nat) (cs : List Addr) (bs : List Int) (o5 o7 o9 : Option V) (σ : St) (H : Hp) : Prop :=
  (∃ o8, σ = [some (.ref s), some (.int n), some (.int m), some (.int f), some (.ref d), o5, some (.ref b), o7, o8, o9]) ∧ DkP t H d b a n f cs (wsOf f 0 m) [] bs
theorem rdp_law_8 {mg : Str → Option Value} {d b s : Addr} {a : DAd} {n f : Int} {m : Nat} {cs : List Addr} {bs : List Int} {o5 o7 o8 o9 : Option V} (T : Txt K mg t) (h : DkP t H d b a n f cs (wsOf f 0 m) [] bs) (lc : cs.length = m) (lm : m ≤ 2) (n1 : 1 ≤ n) (n8 : n ≤ 8) (hf : 0 ≤ f) (hb : BadL n bs) (lb : bs.length ≤ 300) (q : ∀ H', Q (.bl true) H') :
    rd_law_8 K t { nx := fun _ H' => Q .non H', rt := Q } [some (.ref s), some (.int n), some (.int m), some (.int f), some (.ref d), o5, some (.ref b), o7, o8, o9] H := by
  simp only [rd_law_8, sp__law_refused, sp__law_refused_by_any, tMeth, rNeNil, L2.start, tSeq, tAsg, gName, tRet, tNext, tOp, tUn, tVar, tC, tLst, tTup, tCons, tNil, tFor, tIfS, tOr, tNot, tTest, tB, tAndV, tCall, iRng1, iList, rIxL, rNe, rI0, rU, scal, List.map, List.replicate, List.length, List.append, List.cons_append, List.nil_append, List.append_nil, List.getElem?_cons_zero, List.getElem?_cons_succ, Option.some.injEq, exists_eq_left', exists_eq_left, V.int.injEq, V.ref.injEq, V.str.injEq, V.bl.injEq, V.ty.injEq, List.cons.injEq, and_true, true_and, and_assoc, exists_and_left, List.set_cons_zero, List.set_cons_succ, Nat.reduceSub, Nat.reduceAdd, decide_eq_true_eq, Bool.not_eq_true', decide_eq_false_iff_not, Int.reduceToNat, Int.reducePow, Int.reduceNeg, Int.reduceMul, Int.reduceAdd, if_true, ite_true, Bool.false_eq_true, ite_false, if_false]
  have wt : WtOk f cs (wsOf f 0 m) [] := ⟨wsOf_up, fun w hw => lc ▸ wsOf_mem hw, by omega, by rw [wsOf_len]; omega, Nat.zero_le _⟩
  refine ⟨⟨_, SqL.of h.hb⟩, LI8 t s d b a n f m cs bs o5 o7 o9, ⟨bs.length, by omega, ⟨_, rfl⟩, h⟩, ?_⟩
  rintro i r σ H1 ⟨hr, ⟨p8, rfl⟩, hk⟩
  by_cases hi : i < bs.length
  · refine .inr ⟨⟨_, .int bs[i], SqL.of hk.hb, by rw [List.getElem?_map, List.getElem?_eq_getElem hi]; rfl⟩, LN8 t s d b a n f m cs bs o5 o7 o9, fun σ' H' ⟨z1, z2⟩ => ⟨r - 1, by omega, by omega, z1, z2⟩, ?_⟩
    rintro v H2 ⟨rfl, hv⟩
    have hv := hv _ (SqL.of hk.hb)
    rw [List.getElem?_map, List.getElem?_eq_getElem hi] at hv
    cases hv
    have o0 := hb.2 _ (List.getElem_mem hi)
    simp only [tMeth, rNeNil, L2.start, tSeq, tAsg, gName, tRet, tNext, tOp, tUn, tVar, tC, tLst, tTup, tCons, tNil, tFor, tIfS, tOr, tNot, tTest, tB, tAndV, tCall, iRng1, iList, rIxL, rNe, rI0, rU, scal, List.map, List.replicate, List.length, List.append, List.cons_append, List.nil_append, List.append_nil, List.getElem?_cons_zero, List.getElem?_cons_succ, Option.some.injEq, exists_eq_left', exists_eq_left, V.int.injEq, V.ref.injEq, V.str.injEq, V.bl.injEq, V.ty.injEq, List.cons.injEq, and_true, true_and, and_assoc, exists_and_left, List.set_cons_zero, List.set_cons_succ, Nat.reduceSub, Nat.reduceAdd, decide_eq_true_eq, Bool.not_eq_true', decide_eq_false_iff_not, Int.reduceToNat, Int.reducePow, Int.reduceNeg, Int.reduceMul, Int.reduceAdd, if_true, ite_true, Bool.false_eq_true, ite_false, if_false]
    refine ⟨_, _, _, hk.h1, _, _, _, hk.h2, wt, o0.1, o0.2, fun H3 s3 => ?_⟩
    rw [if_neg (by decide)]
    have k3 := hk.same s3
    refine ⟨_, _, _, k3.h1, _, _, _, k3.h2, wt, o0.1, o0.2, fun H4 s4 => ?_⟩
    rw [if_neg (by decide)]
    exact ⟨⟨_, rfl⟩, k3.same s4⟩
  · exact .inl ⟨⟨_, SqL.of hk.hb, by rw [List.length_map]; omega⟩, rdp_law_9 T hk lc lm n1 n8 hf hb q⟩
/-- the script stays -/
def ScAt (K : PySem.W.Frag) (H : Hp) (s : Addr) (xs : List V) (P : Addr → Prop) : Prop := (∀ H', SqL K H' s xs) ∨ ∃ o, H s = some o ∧ (∀ H', H' s = some o → SqL K H' s xs) ∧ ¬ P s
theorem ScAt.sq {s : Addr} {xs : List V} {P : Addr → Prop} (h : ScAt K H s xs P) : SqL K H s xs := h.elim (fun k => k H) fun ⟨_, e, k, _⟩ => k H e
theorem ScAt.kp {s : Addr} {xs : List V} {P : Addr → Prop} {H' : Hp} (h : ScAt K H s xs P) (k : ∀ b o, ¬ P b → H b = some o → H' b = some o) : ScAt K H' s xs P := h.imp id fun ⟨o, e, g, n⟩ => ⟨o, k _ _ n e, g, n⟩
theorem ScAt.or {s b : Addr} {xs : List V} {P : Addr → Prop} (h : ScAt K H s xs P) (hb : H b = none) : ScAt K H s xs (fun x => P x ∨ x = b) := h.imp id fun ⟨o, e, g, n⟩ => ⟨o, e, g, fun z => z.elim n fun z => by rw [z, hb] at e; cases e⟩
theorem ScAt.new {s : Addr} {xs : List V} {P : Addr → Prop} (h : SqL K H s xs) (f : ∀ b, P b → H b = none) : ScAt K H s xs P := by
  rcases h with (h | ⟨n, h⟩) | h
  · exact .inr ⟨_, h, fun H' e => .inl (.inl e), fun z => by rw [f _ z] at h; cases h⟩
  · exact .inr ⟨_, h, fun H' e => .inl (.inr ⟨n, e⟩), fun z => by rw [f _ z] at h; cases h⟩
  · exact .inl fun H' => .inr h
def LI6 (K : PySem.W.Frag) (t : Adr) (s d b : Addr) (a : DAd) (n f : Int) (m : Nat) (cs : List Addr) (ns : List Int) (o5 o8 o9 : Option V) (i r : Nat) (σ : St) (H : Hp) : Prop :=
  i + r = ns.length ∧ (∃ o7, σ = [some (.ref s), some (.int n), some (.int m), some (.int f), some (.ref d), o5, some (.ref b), o7, o8, o9]) ∧ ∃ bs, DkP t H d b a n f cs (wsOf f 0 m) [] bs ∧ BadL n bs ∧ bs.length = 2 + 3 * i ∧ ScAt K H s (ns.map V.int) (fun x => OwD a x ∨ x = b)
def LN6 (K : PySem.W.Frag) (t : Adr) (s d b : Addr) (a : DAd) (n f : Int) (m : Nat) (cs : List Addr) (ns : List Int) (o5 o8 o9 : Option V) (i : Nat) (σ : St) (H : Hp) : Prop :=
  (∃ o7, σ = [some (.ref s), some (.int n), some (.int m), some (.int f), some (.ref d), o5, some (.ref b), o7, o8, o9]) ∧ ∃ bs, DkP t H d b a n f cs (wsOf f 0 m) [] bs ∧ BadL n bs ∧ bs.length = 2 + 3 * (i + 1) ∧ ScAt K H s (ns.map V.int) (fun x => OwD a x ∨ x = b)
theorem DkP.push {H' : Hp} {d b : Addr} {a : DAd} {n f : Int} {cs : List Addr} {ws : List Int} {kv : List (Key × V)} {bs : List Int} (h : DkP t H d b a n f cs ws kv bs) {w : Int} (e : upd H b (.lst (bs.map V.int ++ [.int w])) = H') : DkP t H' d b a n f cs ws kv (bs ++ [w]) := by
  have go : ∀ {x : Addr} {o : HO}, H x = some o → x ≠ b → H' x = some o := fun e1 n => by rw [← e, upd_ne n]; exact e1
  have g2 : ∀ {x : Addr} {o : HO}, H x = some o → o ≠ .lst (bs.map V.int) → H' x = some o := fun {x o} e1 n => go e1 (fun z => by rw [z, h.hb] at e1; cases e1; exact n rfl)
  have p := h.h1
  have c := h.h2
  exact ⟨⟨g2 p.id (fun z => nomatch z), g2 p.iw (fun z => nomatch z), g2 p.im (fun z => nomatch z), g2 p.ij (fun z => nomatch z), go p.he (Ne.symm h.n3), g2 p.hg (fun z => nomatch z), g2 p.hw (fun z => nomatch z), g2 p.hr (fun z => nomatch z), g2 p.hl (fun z => nomatch z), g2 p.hd (fun z => nomatch z)⟩,
    ⟨go c.hc (Ne.symm h.n1), go c.hw (Ne.symm h.n2), g2 c.hh (fun z => nomatch z), c.cw, c.ce, c.we, c.ho, c.hl, fun x hx => let ⟨a1, a2, xs, a3⟩ := c.ok x hx; ⟨a1, a2, xs, go a3 (fun z => h.n4 (z ▸ hx))⟩⟩, by rw [List.map_append]; exact e ▸ upd_same, h.n1, h.n2, h.n3, h.n4⟩
theorem BadL.push {n : Int} {bs : List Int} (h : BadL n bs) {w : Int} (h1 : hB w) (h2 : w < 0 ∨ n ≤ w) : BadL n (bs ++ [w]) := ⟨by simp, fun x hx => by
  rcases List.mem_append.mp hx with hx | hx
  · exact h.2 x hx
  · cases List.mem_singleton.mp hx; exact ⟨h1, h2⟩⟩
theorem rdp_law_6 {mg : Str → Option Value} {d s : Addr} {a : DAd} {n f : Int} {m : Nat} {cs : List Addr} {ns : List Int} {o5 o6 o7 o8 o9 : Option V} (T : Txt K mg t) (h1 : DkB t H d a n f) (h2 : DkS H a cs (wsOf f 0 m) []) (hs : ScAt K H s (ns.map V.int) (OwD a)) (hn : ns.length ≤ 63) (lc : cs.length = m) (lm : m ≤ 2) (n1 : 1 ≤ n) (n8 : n ≤ 8) (hf : 0 ≤ f) (q : ∀ H', Q (.bl true) H') :
    rd_law_6 K t { nx := fun _ H' => Q .non H', rt := Q } [some (.ref s), some (.int n), some (.int m), some (.int f), some (.ref d), o5, o6, o7, o8, o9] H := by
  simp only [rd_law_6, tMeth, rNeNil, L2.start, r_mt_append, rAppend, tSeq, tAsg, gName, tRet, tDrop, tNext, tOp, tUn, tVar, tC, tLst, tTup, tCons, tNil, tFor, tIfS, tOr, tNot, tTest, tB, tAndV, tBM, tyV, tCall, iRng1, iList, rIxL, rNe, rI, rI0, rU, scal, List.map, List.replicate, List.length, List.append, List.cons_append, List.nil_append, List.append_nil, List.getElem?_cons_zero, List.getElem?_cons_succ, Option.some.injEq, exists_eq_left', exists_eq_left, V.int.injEq, V.ref.injEq, V.str.injEq, V.bl.injEq, V.ty.injEq, List.cons.injEq, and_true, true_and, and_assoc, exists_and_left, List.set_cons_zero, List.set_cons_succ, Nat.reduceSub, Nat.reduceAdd, decide_eq_true_eq, Bool.not_eq_true', decide_eq_false_iff_not, Int.reduceToNat, Int.reducePow, Int.reduceNeg, Int.reduceMul, Int.reduceAdd, if_true, ite_true, Bool.false_eq_true, ite_false, if_false]
  refine ⟨by decide, fun b hb => ?_⟩
  generalize e1 : upd H b _ = H1
  have s1 := svV e1 hb
  have w1 : H1 b = some (.lst ([-1, n].map V.int)) := e1 ▸ upd_same
  clear e1
  have hs1 := (hs.or hb).kp (H' := H1) fun _ _ _ e => s1 _ _ e
  have c0 : BadL n [-1, n] := ⟨by simp, fun x hx => by
    rcases List.mem_cons.mp hx with rfl | hx
    · exact ⟨by unfold hB; omega, by omega⟩
    · cases List.mem_singleton.mp hx; exact ⟨by unfold hB; omega, by omega⟩⟩
  have k1 : DkP t H1 d b a n f cs (wsOf f 0 m) [] [-1, n] := ⟨h1.same s1, h2.same s1, w1, (fun z => by rw [z, h2.hc] at hb; cases hb), (fun z => by rw [z, h2.hw] at hb; cases hb), (fun z => by rw [z, h1.he] at hb; cases hb), fun z => by obtain ⟨_, _, xs, e⟩ := h2.ok b z; rw [hb] at e; cases e⟩
  refine ⟨⟨_, hs1.sq⟩, LI6 K t s d b a n f m cs ns o5 o8 o9, ⟨ns.length, by omega, ⟨_, rfl⟩, _, k1, c0, rfl, hs1⟩, ?_⟩
  rintro i r σ H2 ⟨hr, ⟨p7, rfl⟩, bs, hk, ho, lb, hsc⟩
  by_cases hi : i < ns.length
  · refine .inr ⟨⟨_, .int ns[i], hsc.sq, by rw [List.getElem?_map, List.getElem?_eq_getElem hi]; rfl⟩, LN6 K t s d b a n f m cs ns o5 o8 o9 i, fun σ' H' ⟨z1, z2⟩ => ⟨r - 1, by omega, by omega, z1, z2⟩, ?_⟩
    rintro v H3 ⟨rfl, hv⟩
    have hv := hv _ hsc.sq
    rw [List.getElem?_map, List.getElem?_eq_getElem hi] at hv
    cases hv
    simp only [tMeth, rNeNil, L2.start, r_mt_append, rAppend, tSeq, tAsg, gName, tRet, tDrop, tNext, tOp, tUn, tVar, tC, tLst, tTup, tCons, tNil, tFor, tIfS, tOr, tNot, tTest, tB, tAndV, tBM, tyV, tCall, iRng1, iList, rIxL, rNe, rI, rI0, rU, scal, List.map, List.replicate, List.length, List.append, List.cons_append, List.nil_append, List.append_nil, List.getElem?_cons_zero, List.getElem?_cons_succ, Option.some.injEq, exists_eq_left', exists_eq_left, V.int.injEq, V.ref.injEq, V.str.injEq, V.bl.injEq, V.ty.injEq, List.cons.injEq, and_true, true_and, and_assoc, exists_and_left, List.set_cons_zero, List.set_cons_succ, Nat.reduceSub, Nat.reduceAdd, decide_eq_true_eq, Bool.not_eq_true', decide_eq_false_iff_not, Int.reduceToNat, Int.reducePow, Int.reduceNeg, Int.reduceMul, Int.reduceAdd, if_true, ite_true, Bool.false_eq_true, ite_false, if_false]
    have bg : 400 < sizeLine := by decide
    have ps : ∀ {H4 H5 : Hp} {bs : List Int} {w : Int}, upd H4 b (.lst (bs.map V.int ++ [.int w])) = H5 → ScAt K H4 s (ns.map V.int) (fun x => OwD a x ∨ x = b) → ScAt K H5 s (ns.map V.int) (fun x => OwD a x ∨ x = b) := fun e g => g.kp fun x o nx ex => by rw [← e, upd_ne (fun z => nx (.inr z))]; exact ex
    have m1 := Int.emod_nonneg (ns[i] / 2) (b := 1000000000000000000000000000000000000000000000000000000000000) (by decide)
    have m2 := Int.emod_lt_of_pos (ns[i] / 2) (b := 1000000000000000000000000000000000000000000000000000000000000) (by decide)
    have m3 := Int.emod_nonneg ns[i] (b := n + 2) (by omega)
    have m4 := Int.emod_lt_of_pos ns[i] (b := n + 2) (by omega)
    refine ⟨.inl ⟨_, SqL.of hk.hb⟩, ⟨by decide, by decide +kernel⟩, ⟨by decide, by decide, by decide⟩, by decide, _, hk.hb, by rw [List.length_map]; omega, ?_⟩
    generalize e4 : upd H3 b _ = H4
    have k4 := hk.push e4
    have g4 := ps e4 hsc
    refine ⟨.inl ⟨_, SqL.of k4.hb⟩, by omega, _, k4.hb, by rw [List.length_map, List.length_append]; simp only [List.length_cons, List.length_nil]; omega, ?_⟩
    generalize e5 : upd H4 b _ = H5
    have k5 := k4.push e5
    have g5 := ps e5 g4
    refine ⟨.inl ⟨_, SqL.of k5.hb⟩, ⟨by decide, by decide +kernel⟩, ⟨by decide, by decide, by decide⟩, by decide, _, k5.hb, by rw [List.length_map, List.length_append, List.length_append]; simp only [List.length_cons, List.length_nil]; omega, ?_⟩
    generalize e6 : upd H5 b _ = H6
    have k6 := k5.push e6
    have g6 := ps e6 g5
    refine ⟨⟨_, rfl⟩, _, k6, ((ho.push ?_ ?_).push ?_ ?_).push ?_ ?_, ?_, g6⟩
    · unfold hB; omega
    · omega
    · unfold hB; omega
    · omega
    · unfold hB; omega
    · omega
    · simp only [List.length_append, List.length_cons, List.length_nil]; omega
  · exact .inl ⟨⟨_, hsc.sq, by rw [List.length_map]; omega⟩, rdp_law_8 T hk lc lm n1 n8 hf ho (by omega) q⟩
def LI5 (K : PySem.W.Frag) (t : Adr) (s d : Addr) (a : DAd) (n f : Int) (m : Nat) (ns : List Int) (o6 o7 o8 o9 : Option V) (i r : Nat) (σ : St) (H : Hp) : Prop :=
  i + r = m ∧ (∃ o5, σ = [some (.ref s), some (.int n), some (.int m), some (.int f), some (.ref d), o5, o6, o7, o8, o9]) ∧ ∃ cs, DkB t H d a n f ∧ DkS H a cs (wsOf f 0 i) [] ∧ cs.length = i ∧ ScAt K H s (ns.map V.int) (OwD a)
def LN5 (K : PySem.W.Frag) (t : Adr) (s d : Addr) (a : DAd) (n f : Int) (m : Nat) (ns : List Int) (o6 o7 o8 o9 : Option V) (i : Nat) (σ : St) (H : Hp) : Prop :=
  (∃ o5, σ = [some (.ref s), some (.int n), some (.int m), some (.int f), some (.ref d), o5, o6, o7, o8, o9]) ∧ ∃ cs, DkB t H d a n f ∧ DkS H a cs (wsOf f 0 (i + 1)) [] ∧ cs.length = i + 1 ∧ ScAt K H s (ns.map V.int) (OwD a)
theorem wsOf_snoc {f : Int} {i : Nat} : wsOf f 0 (i + 1) = wsOf f 0 i ++ [f + (i : Int)] := by
  unfold wsOf
  rw [Nat.sub_zero, Nat.sub_zero, List.range'_concat, List.map_append]
  simp
theorem rdp_law_5 {mg : Str → Option Value} {d s : Addr} {a : DAd} {n f : Int} {m : Nat} {ns : List Int} {o5 o6 o7 o8 o9 : Option V} (T : Txt K mg t) (h1 : DkB t H d a n f) (h2 : DkS H a [] [] []) (hs : ScAt K H s (ns.map V.int) (OwD a)) (hn : ns.length ≤ 63) (lm : m ≤ 2) (n1 : 1 ≤ n) (n8 : n ≤ 8) (hf : 0 ≤ f) (q : ∀ H', Q (.bl true) H') :
    rd_law_5 K t { nx := fun _ H' => Q .non H', rt := Q } [some (.ref s), some (.int n), some (.int m), some (.int f), some (.ref d), o5, o6, o7, o8, o9] H := by
  simp only [rd_law_5, sp_Desk_add, tMeth, rNeNil, L2.start, r_mt_append, rAppend, tSeq, tAsg, gName, tRet, tDrop, tNext, tOp, tUn, tVar, tC, tLst, tTup, tCons, tNil, tFor, tIfS, tOr, tNot, tTest, tB, tAndV, tBM, tyV, tCall, iRng1, iList, rIxL, rNe, rI, rI0, rU, scal, List.map, List.replicate, List.length, List.append, List.cons_append, List.nil_append, List.append_nil, List.getElem?_cons_zero, List.getElem?_cons_succ, Option.some.injEq, exists_eq_left', exists_eq_left, V.int.injEq, V.ref.injEq, V.str.injEq, V.bl.injEq, V.ty.injEq, List.cons.injEq, and_true, true_and, and_assoc, exists_and_left, List.set_cons_zero, List.set_cons_succ, Nat.reduceSub, Nat.reduceAdd, decide_eq_true_eq, Bool.not_eq_true', decide_eq_false_iff_not, Int.reduceToNat, Int.reducePow, Int.reduceNeg, Int.reduceMul, Int.reduceAdd, if_true, ite_true, Bool.false_eq_true, ite_false, if_false]
  refine ⟨by omega, by omega, LI5 K t s d a n f m ns o6 o7 o8 o9, ⟨m, by omega, ⟨_, rfl⟩, [], h1, h2, rfl, hs⟩, ?_⟩
  rintro i r σ H1 ⟨hr, ⟨p5, rfl⟩, cs, b1, c1, lc, hsc⟩
  by_cases hi : i < m
  · refine .inr ⟨by show i < _; omega, LN5 K t s d a n f m ns o6 o7 o8 o9 i, fun σ' H' ⟨z1, z2⟩ => ⟨r - 1, by omega, by omega, z1, z2⟩, ?_⟩
    rintro v H2 ⟨rfl, rfl⟩
    simp only [tMeth, rNeNil, L2.start, r_mt_append, rAppend, tSeq, tAsg, gName, tRet, tDrop, tNext, tOp, tUn, tVar, tC, tLst, tTup, tCons, tNil, tFor, tIfS, tOr, tNot, tTest, tB, tAndV, tBM, tyV, tCall, iRng1, iList, rIxL, rNe, rI, rI0, rU, scal, List.map, List.replicate, List.length, List.append, List.cons_append, List.nil_append, List.append_nil, List.getElem?_cons_zero, List.getElem?_cons_succ, Option.some.injEq, exists_eq_left', exists_eq_left, V.int.injEq, V.ref.injEq, V.str.injEq, V.bl.injEq, V.ty.injEq, List.cons.injEq, and_true, true_and, and_assoc, exists_and_left, List.set_cons_zero, List.set_cons_succ, Nat.reduceSub, Nat.reduceAdd, decide_eq_true_eq, Bool.not_eq_true', decide_eq_false_iff_not, Int.reduceToNat, Int.reducePow, Int.reduceNeg, Int.reduceMul, Int.reduceAdd, if_true, ite_true, Bool.false_eq_true, ite_false, if_false]
    refine ⟨_, _, b1.id, rfl, by decide, fun p hp => ⟨by decide, fun p1 hp1 => ⟨by decide, fun p2 hp2 => ?_⟩⟩⟩
    generalize e3 : upd H2 p _ = H3 at *
    have s3 := svV e3 hp
    generalize e4 : upd H3 p1 _ = H4 at *
    have s4 := svV e4 hp1
    generalize e5 : upd H4 p2 _ = H5
    have s5 := s3.trans (s4.trans (svV e5 hp2))
    have w5 : H5 p2 = some (.lst [.ref p1]) := e5 ▸ upd_same
    refine ⟨_, w5, _, _, _, b1.same s5, _, _, _, c1.same s5, by omega, by rw [wsOf_len]; omega, fun H6 c' k6 hc' c6 => ?_⟩
    rw [lc] at c6
    exact ⟨⟨_, rfl⟩, cs ++ [c'], (b1.same s5).kp (c1.same s5) k6, by rw [wsOf_snoc]; exact c6, by rw [List.length_append, lc]; rfl, (hsc.kp fun b o _ e => s5 _ _ e).kp k6⟩
  · have e : i = m := by omega
    subst e
    exact .inl ⟨by show _ ≤ _; omega, rdp_law_6 T b1 c1 hsc hn lc lm n1 n8 hf q⟩
theorem sqS {H' : Hp} {s : Addr} {xs : List V} (h : SqL K H s xs) (g : Same H H') : SqL K H' s xs := h.imp (fun r => r.imp (g _ _) (fun ⟨n, e⟩ => ⟨n, g _ _ e⟩)) id
theorem scMk {H3 H4 H5 : Hp} {s y : Addr} {xs : List V} {a : DAd} (h : SqL K H3 s xs) (s4 : Same H3 H4) (S5 : SameX y H4 H5) (ny : H3 y = none) (fr : ∀ b, OwD a b → H4 b = none) : ScAt K H5 s xs (OwD a) := by
  have fr3 : ∀ b, OwD a b → H3 b = none := fun b z => by
    cases e : H3 b with
    | none => rfl
    | some u => have z1 := fr b z; rw [s4 _ _ e] at z1; cases z1
  have k : ScAt K H3 s xs (fun x => OwD a x ∨ x = y) := ScAt.new h fun b z => z.elim (fr3 b) fun z => z ▸ ny
  exact (k.kp (H' := H5) fun b o np e => S5 b o (fun z => np (.inr z)) (s4 _ _ e)).imp id fun ⟨o, e, g, n⟩ => ⟨o, e, g, fun z => n (.inl z)⟩
theorem rdp_law_4 {mg : Str → Option Value} {d s : Addr} {a : DAd} {n : Int} {m : Nat} {ns : List Int} {o5 o6 o7 o8 o9 : Option V} (T : Txt K mg t) (h1 : DkB t H d a n 0) (h2 : DkS H a [] [] []) (hs : ScAt K H s (ns.map V.int) (OwD a)) (hn : ns.length ≤ 63) (lm : m ≤ 2) (n1 : 1 ≤ n) (n8 : n ≤ 8) (q : ∀ H', Q (.bl true) H') :
    rd_law_4 K t { nx := fun _ H' => Q .non H', rt := Q } [some (.ref s), some (.int n), some (.int m), some (.int 0), some (.ref d), o5, o6, o7, o8, o9] H := by
  simp only [rd_law_4, sp__law_cell_at, sp_Desk_init, tMeth, tMake, rNeNil, tMakeO, L2.start, r_mt_append, rAppend, tSeq, tAsg, gName, tRet, tDrop, tNext, tOp, tUn, tVar, tC, tLst, tTup, tCons, tNil, tFor, tIfS, tOr, tNot, tTest, tB, tAndV, tBM, tyV, tCall, iRng1, iList, rIxL, rEq, rNe, rI, rI0, rU, scal, List.map, List.replicate, List.length, List.append, List.cons_append, List.nil_append, List.append_nil, List.getElem?_cons_zero, List.getElem?_cons_succ, Option.some.injEq, exists_eq_left', exists_eq_left, V.int.injEq, V.ref.injEq, V.str.injEq, V.bl.injEq, V.ty.injEq, List.cons.injEq, and_true, true_and, and_assoc, exists_and_left, List.set_cons_zero, List.set_cons_succ, Nat.reduceSub, Nat.reduceAdd, decide_eq_true_eq, Bool.not_eq_true', decide_eq_false_iff_not, Int.reduceToNat, Int.reducePow, Int.reduceNeg, Int.reduceMul, Int.reduceAdd, if_true, ite_true, Bool.false_eq_true, ite_false, if_false]
  refine ⟨ns, 0, rfl, hs.sq, hn, fun c H1 s1 => ⟨⟨by decide, by decide +kernel⟩, by decide, ?_⟩⟩
  by_cases hc : c / 24 % 2 = 1
  · rw [if_pos hc]
    refine ⟨ns, 1, rfl, sqS hs.sq s1, hn, fun c2 H1b s1b => ⟨⟨by decide, by decide, by decide⟩, by decide, Nat.zero_le _, fun p hp x dx nx ndx _ y dx1 ny ndy _ => ?_⟩⟩
    generalize e2 : upd H1b p _ = H2 at *
    have s2 := svV e2 hp
    have w2 : H2 p = some (.lst []) := e2 ▸ upd_same
    clear e2
    generalize e3 : upd (upd H2 dx _) x _ = H3 at *
    have s3 : Same H2 H3 := fun b u w => by rw [← e3, upd_ne (ne_of_none w nx)]; exact isV _ ndx _ _ w
    have w3 : H3 x = some (.ins t.c_Way dx []) := e3 ▸ upd_same
    clear e3
    generalize e4 : upd (upd H3 dx1 _) y _ = H4
    have s4 : Same H3 H4 := fun b u w => by rw [← e4, upd_ne (ne_of_none w ny)]; exact isV _ ndy _ _ w
    have w4 : H4 y = some (.ins t.c_Desk dx1 []) := e4 ▸ upd_same
    clear e4
    refine ⟨_, w4, s4 _ _ (s3 _ _ w2), _, s4 _ _ w3, ne_of_none w3 ny, fun H5 a2 S5 B5 C5 fr => ?_⟩
    have sc := scMk (sqS (sqS (sqS hs.sq (s1.trans s1b)) s2) s3) s4 S5 ny fr
    exact rdp_law_5 T B5 C5 sc hn lm n1 n8 (Int.emod_nonneg _ (by decide)) q
  · rw [if_neg hc]
    exact rdp_law_5 T (h1.same s1) (h2.same s1) (hs.kp fun b o _ e => s1 _ _ e) hn lm n1 n8 (Int.le_refl _) q
theorem rdp_law {mg : Str → Option Value} {s : Addr} {ns : List Int} (T : Txt K mg t) (hS : SqL K H s (ns.map V.int)) (hn : ns.length ≤ 63) (q : ∀ H', Q (.bl true) H') :
    rd_law K t { nx := fun _ H' => Q .non H', rt := Q } (L2.start ["script", "hands", "many", "first", "desk", "k", "bad", "cell", "hand", "due"] [.ref s]) H := by
  simp only [rd_law, rd_law_3, sp__law_cell_at, sp_Desk_init, tMeth, tMake, rNeNil, tMakeO, L2.start, r_mt_append, rAppend, tSeq, tAsg, gName, tRet, tDrop, tNext, tOp, tUn, tVar, tC, tLst, tTup, tCons, tNil, tFor, tIfS, tOr, tNot, tTest, tB, tAndV, tBM, tyV, tCall, iRng1, iList, rIxL, rEq, rNe, rI, rI0, rU, scal, List.map, List.replicate, List.length, List.append, List.cons_append, List.nil_append, List.append_nil, List.getElem?_cons_zero, List.getElem?_cons_succ, Option.some.injEq, exists_eq_left', exists_eq_left, V.int.injEq, V.ref.injEq, V.str.injEq, V.bl.injEq, V.ty.injEq, List.cons.injEq, and_true, true_and, and_assoc, exists_and_left, List.set_cons_zero, List.set_cons_succ, Nat.reduceSub, Nat.reduceAdd, decide_eq_true_eq, Bool.not_eq_true', decide_eq_false_iff_not, Int.reduceToNat, Int.reducePow, Int.reduceNeg, Int.reduceMul, Int.reduceAdd, if_true, ite_true, Bool.false_eq_true, ite_false, if_false]
  refine ⟨ns, 0, rfl, hS, hn, fun c H1 s1 => ⟨by decide, ns, 0, rfl, sqS hS s1, hn, fun c2 H1b s1b => ⟨⟨by decide, by decide +kernel⟩, by decide, Nat.zero_le _, fun p hp x dx nx ndx _ y dx1 ny ndy _ => ?_⟩⟩⟩
  generalize e2 : upd H1b p _ = H2 at *
  have s2 := svV e2 hp
  have w2 : H2 p = some (.lst []) := e2 ▸ upd_same
  clear e2
  generalize e3 : upd (upd H2 dx _) x _ = H3 at *
  have s3 : Same H2 H3 := fun b u w => by rw [← e3, upd_ne (ne_of_none w nx)]; exact isV _ ndx _ _ w
  have w3 : H3 x = some (.ins t.c_Way dx []) := e3 ▸ upd_same
  clear e3
  generalize e4 : upd (upd H3 dx1 _) y _ = H4
  have s4 : Same H3 H4 := fun b u w => by rw [← e4, upd_ne (ne_of_none w ny)]; exact isV _ ndy _ _ w
  have w4 : H4 y = some (.ins t.c_Desk dx1 []) := e4 ▸ upd_same
  clear e4
  refine ⟨_, w4, s4 _ _ (s3 _ _ w2), _, s4 _ _ w3, ne_of_none w3 ny, fun H5 a2 S5 B5 C5 fr => ?_⟩
  have sc := scMk (sqS (sqS (sqS hS (s1.trans s1b)) s2) s3) s4 S5 ny fr
  obtain ⟨m, hm⟩ : ∃ m : Nat, c2 / 8 % 3 = m := ⟨(c2 / 8 % 3).toNat, by omega⟩
  rw [hm]
  exact rdp_law_4 T B5 C5 sc hn (by omega) (by omega) (by omega) q
end

section
variable {P : Program} {w : World} {K : PySem.W.Frag} {mg : Str → Option Value} {base : Heap} {t : Adr}
theorem ok_Makes_init (T : Txt K mg t) : FnOk P w K mg base (CX1 P w) 1 t.a_Makes_init t.d_Makes_init ["self", "table"] (sp_Makes_init t) := by
  refine T.f_Makes_init.ok0 sc_Makes_init (fun vs H Q E h => ?_) (fun cdv A outer s H vs Q E hr h => ?_)
  · obtain ⟨x, l, dx, rfl, _⟩ := h; rfl
  obtain ⟨x, l, dx, rfl, h1, h2, q⟩ := h
  exact ⟨rd_Makes_init K t, (pss_cons (ps_fld (f := "ground") (pv 0) (pe_callTy (call_dict_pairs rfl (hu3 hr)) rfl T.b_dict bt_dict (pa_cons (pv 1) pa_nil)) rfl)
    (pss_cons (ps_fld (f := "folded") (pv 0) (pe_int (i := 0)) rfl)
    (pss_cons (ps_fld (f := "worths") (pv 0) pe_dnewK rfl)
    (pss_one (ps_fld (f := "ranks") (pv 0) pe_dnewT rfl))))), rdp_Makes_init (dkF T) h1 h2 q⟩
theorem ok_Jobs_init (T : Txt K mg t) : FnOk P w K mg base (CX1 P w) 1 t.a_Jobs_init t.d_Jobs_init ["self", "makes"] (sp_Jobs_init t) := by
  refine T.f_Jobs_init.ok0 sc_Jobs_init (fun vs H Q E h => ?_) (fun cdv A outer s H vs Q E hr h => ?_)
  · obtain ⟨x, m, dx, rfl, _⟩ := h; rfl
  obtain ⟨x, m, dx, rfl, h1, q⟩ := h
  exact ⟨rd_Jobs_init K t, (pss_cons (ps_fld (f := "makes") (pv 0) (pv 1) rfl)
    (pss_cons (ps_fld (f := "laid") (pv 0) pe_dnewK rfl)
    (pss_cons (ps_fld (f := "readers") (pv 0) pe_dnewT rfl)
    (pss_one (ps_fld (f := "doubted") (pv 0) pe_dnewT rfl))))), rdp_Jobs_init (dkF T) h1 q⟩
theorem ok_Desk_init (T : Txt K mg t) : FnOk P w K mg base (CX1 P w) 3 t.a_Desk_init t.d_Desk_init ["self", "table", "hands", "way", "first"] (sp_Desk_init t) := by
  refine T.f_Desk_init.ok0 sc_Desk_init (fun vs H Q E h => ?_) (fun cdv A outer s H vs Q E hr h => ?_)
  · obtain ⟨x, l, w, dx, dw, n, f, rfl, _⟩ := h; rfl
  obtain ⟨x, l, w, dx, dw, n, f, rfl, h1, h2, h3, h4, q⟩ := h
  exact ⟨rd_Desk_init K t, (pss_cons (ps_fld (f := "hands") (pv 0) (pv 2) rfl)
    (pss_cons (ps_fld (f := "way") (pv 0) (pv 3) rfl)
    (pss_cons (ps_fld (f := "first") (pv 0) (pv 4) rfl)
    (pss_cons (ps_fld (f := "codes") (pv 0) (pe_lst pa_nil) rfl)
    (pss_cons (ps_fld (f := "waiting") (pv 0) (pe_lst pa_nil) rfl)
    (pss_cons (ps_fld (f := "held") (pv 0) pe_dnewK rfl)
    (pss_cons (ps_fld (f := "makes") (pv 0) (pe_make T.mk_Makes (FnOk.mono (ok_Makes_init T) (by decide)) hr rfl T.g_Makes T.b_Makes_init .nil pass10 (pa_cons (pv 1) pa_nil)) rfl)
    (pss_cons (ps_fld (f := "jobs") (pv 0) (pe_make T.mk_Jobs (FnOk.mono (ok_Jobs_init T) (by decide)) hr rfl T.g_Jobs T.b_Jobs_init .nil pass10 (pa_cons (pe_fld (f := "makes") (pv 0) rfl) pa_nil)) rfl)
    (pss_one (ps_fld (f := "ended") (pv 0) (pe_lst pa_nil) rfl)))))))))), rdp_Desk_init (dkF T) h1 h2 h3 h4 q⟩
theorem ok_Desk_next_rank (T : Txt K mg t) : FnOk P w K mg base (CX1 P w) 1 t.a_Desk_next_rank t.d_Desk_next_rank ["self"] (sp_Desk_next_rank t) := by
  refine T.f_Desk_next_rank.ok0 sc_Desk_next_rank (fun vs H Q E h => ?_) (fun cdv A outer s H vs Q E hr h => ?_)
  · obtain ⟨d, a, n, f, cs, ws, kv, rfl, _⟩ := h; rfl
  obtain ⟨d, a, n, f, cs, ws, kv, rfl, h1, h2, q⟩ := h
  exact ⟨rd_Desk_next_rank K t, (pss_one (ps_ret (pe_op op_add (pe_fld (f := "first") (pv 0) rfl) (pe_callB call_len rfl T.b_len bt_len (pa_cons (pe_fld (f := "codes") (pv 0) rfl) pa_nil))))), rdp_Desk_next_rank (dkF T) h1 h2 q⟩
theorem ok_Desk_add (T : Txt K mg t) : FnOk P w K mg base (CX1 P w) 2 t.a_Desk_add t.d_Desk_add ["self", "code"] (sp_Desk_add t) := by
  refine T.f_Desk_add.ok0 sc_Desk_add (fun vs H Q E h => ?_) (fun cdv A outer s H vs Q E hr h => ?_)
  · obtain ⟨d, c, xs, a, n, f, cs, ws, kv, rfl, _⟩ := h; rfl
  obtain ⟨d, c, xs, a, n, f, cs, ws, kv, rfl, h1, h2, h3, h4, h5, q⟩ := h
  exact ⟨rd_Desk_add K t, (pss_cons (ps_set (i := 2) sc_Desk_add.nd rfl (Or.inl rfl) (pe_meth0 (pv 0) T.cl_Desk T.me_Desk_next_rank (FnOk.mono (ok_Desk_next_rank T) (by decide)) hr T.b_Desk_next_rank .nil pass10))
    (pss_cons (ps_expr (pe_bm PySem.F.plainAttrs_list PySem.F.slot_list_append PySem.F.type_list_append mt_append (pe_fld (f := "codes") (pv 0) rfl) (pa_cons (pe_callTy call_list_of rfl T.b_list bt_list (pa_cons (pv 1) pa_nil)) pa_nil)))
    (pss_cons (ps_expr (pe_bm PySem.F.plainAttrs_list PySem.F.slot_list_append PySem.F.type_list_append mt_append (pe_fld (f := "waiting") (pv 0) rfl) (pa_cons (pv 2) pa_nil)))
    (pss_one (ps_ret (pv 2)))))), rdp_Desk_add (dkF T) h1 h2 h3 h4 h5 q⟩
theorem ok_Run_over (T : Txt K mg t) : FnOk P w K mg base (CX1 P w) 1 t.a_Run_over t.d_Run_over ["self"] (sp_Run_over) := ⟨fun vs H Q E h => h.elim, fun A outer s H args us vs Q E hr he hb hv h => h.elim⟩
theorem ok_Run_asks (T : Txt K mg t) : FnOk P w K mg base (CX1 P w) 1 t.a_Run_asks t.d_Run_asks ["self"] (sp_Run_asks) := ⟨fun vs H Q E h => h.elim, fun A outer s H args us vs Q E hr he hb hv h => h.elim⟩
theorem ok_Makes_seen (T : Txt K mg t) : FnOk P w K mg base (CX1 P w) 1 t.a_Makes_seen t.d_Makes_seen ["self", "place", "rank"] (sp_Makes_seen) := ⟨fun vs H Q E h => h.elim, fun A outer s H args us vs Q E hr he hb hv h => h.elim⟩
theorem ok_Run_step (T : Txt K mg t) : FnOk P w K mg base (CX1 P w) 1 t.a_Run_step t.d_Run_step ["self", "worth"] (sp_Run_step) := ⟨fun vs H Q E h => h.elim, fun A outer s H args us vs Q E hr he hb hv h => h.elim⟩
theorem ok_Desk_settled (T : Txt K mg t) : FnOk P w K mg base (CX1 P w) 1 t.a_Desk_settled t.d_Desk_settled ["self"] (sp_Desk_settled t) := by
  refine T.f_Desk_settled.ok0 sc_Desk_settled (fun vs H Q E h => ?_) (fun cdv A outer s H vs Q E hr h => ?_)
  · obtain ⟨d, a, n, f, rfl, _⟩ := h; rfl
  obtain ⟨d, a, n, f, rfl, h1, q⟩ := h
  exact ⟨rd_Desk_settled K t, (pss_one (ps_ret (pe_op op_add (pe_fld (f := "first") (pv 0) rfl) (pe_callB call_len rfl T.b_len bt_len (pa_cons (pe_fld (f := "ended") (pv 0) rfl) pa_nil))))), rdp_Desk_settled (dkF T) h1 q⟩
theorem ok_Jobs_changed_note (T : Txt K mg t) : FnOk P w K mg base (CX1 P w) 1 t.a_Jobs_changed_note t.d_Jobs_changed_note ["self", "rank"] (sp_Jobs_changed_note) := ⟨fun vs H Q E h => h.elim, fun A outer s H args us vs Q E hr he hb hv h => h.elim⟩
theorem ok_Jobs_lowest_changed (T : Txt K mg t) : FnOk P w K mg base (CX1 P w) 2 t.a_Jobs_lowest_changed t.d_Jobs_lowest_changed ["self"] (sp_Jobs_lowest_changed t) := by
  refine T.f_Jobs_lowest_changed.ok0 sc_Jobs_lowest_changed (fun vs H Q E h => ?_) (fun cdv A outer s H vs Q E hr h => ?_)
  · obtain ⟨d, a, n, f, rfl, _⟩ := h; rfl
  obtain ⟨d, a, n, f, rfl, h1, q⟩ := h
  exact ⟨rd_Jobs_lowest_changed K t, (pss_cons (ps_set (i := 1) sc_Jobs_lowest_changed.nd rfl (Or.inl rfl) (pe_callB (call_sortedD rfl) rfl T.b_sorted bt_sorted (pa_cons (pe_fld (f := "doubted") (pv 0) rfl) pa_nil)))
    (pss_cons (ps_for PassesOwn.never rfl (pi_list (pv 1)) (pg_name (i := 2) sc_Jobs_lowest_changed.nd rfl (Or.inl rfl)) (pss_cons (ps_set (i := 3) sc_Jobs_lowest_changed.nd rfl (Or.inl rfl) (pe_meth (pv 0) T.cl_Jobs T.me_Jobs_changed_note (FnOk.mono (ok_Jobs_changed_note T) (by decide)) hr T.b_Jobs_changed_note .nil pass10 (pa_cons (pv 2) pa_nil)))
    (pss_cons (ps_if (pt_cmpR op_notN (pv 3) pe_non (nomark _)) (pss_one (ps_ret (pe_op op_catT (pe_tup (pa_cons (pv 2) pa_nil)) (pv 3))))
      pss_nil)
    (pss_one (ps_expr (pe_dpopT (hu_of hr) (pe_fld (f := "doubted") (pv 0) rfl) (pv 2) ⟨rfl, rfl, rfl, rfl⟩))))))
    (pss_one (ps_ret pe_non)))), rdp_Jobs_lowest_changed (dkF T) h1 q⟩
theorem ok_Jobs_take_off (T : Txt K mg t) : FnOk P w K mg base (CX1 P w) 1 t.a_Jobs_take_off t.d_Jobs_take_off ["self", "rank"] (sp_Jobs_take_off) := ⟨fun vs H Q E h => h.elim, fun A outer s H args us vs Q E hr he hb hv h => h.elim⟩
theorem ok_Way_chosen (T : Txt K mg t) : FnOk P w K mg base (CX1 P w) 1 t.a_Way_chosen t.d_Way_chosen ["self", "ranks"] (sp_Way_chosen) := by
  refine T.f_Way_chosen.ok0 sc_Way_chosen (fun vs H Q E h => ?_) (fun cdv A outer s H vs Q E hr h => ?_)
  · obtain ⟨x, l, w, ws, rfl, _⟩ := h; rfl
  obtain ⟨x, l, w, ws, rfl, h1, q⟩ := h
  exact ⟨rd_Way_chosen K t, (pss_one (ps_ret (pe_ix ix_list (pv 1) (pe_int (i := 0)) (fun _ _ => rfl)))), rdp_Way_chosen h1 q⟩
theorem ok_Run_init (T : Txt K mg t) : FnOk P w K mg base (CX1 P w) 1 t.a_Run_init t.d_Run_init ["self", "code"] (sp_Run_init t) := by
  refine T.f_Run_init.ok0 sc_Run_init (fun vs H Q E h => ?_) (fun cdv A outer s H vs Q E hr h => ?_)
  · obtain ⟨x, l, dx, xs, rfl, _⟩ := h; rfl
  obtain ⟨x, l, dx, xs, rfl, h1, h2, q⟩ := h
  exact ⟨rd_Run_init K t, (pss_cons (ps_fld (f := "code") (pv 0) (pe_callTy call_list_of rfl T.b_list bt_list (pa_cons (pv 1) pa_nil)) rfl)
    (pss_cons (ps_fld (f := "at") (pv 0) (pe_int (i := 0)) rfl)
    (pss_cons (ps_fld (f := "why") (pv 0) pe_non rfl)
    (pss_cons (ps_fld (f := "slots") (pv 0) pe_dnewK rfl)
    (pss_cons (ps_fld (f := "gifts") (pv 0) pe_dnewK rfl)
    (pss_cons (ps_fld (f := "notes") (pv 0) pe_dnewK rfl)
    (pss_one (ps_fld (f := "sayings") (pv 0) (pe_lst pa_nil) rfl)))))))), rdp_Run_init (dkF T) h1 h2 q⟩
theorem ok_Desk_taken_up (T : Txt K mg t) : FnOk P w K mg base (CX1 P w) 3 t.a_Desk_taken_up t.d_Desk_taken_up ["self", "hand"] (sp_Desk_taken_up t) := by
  refine T.f_Desk_taken_up.ok0 sc_Desk_taken_up (fun vs H Q E h => ?_) (fun cdv A outer s H vs Q E hr h => ?_)
  · obtain ⟨d, h, a, n, f, cs, w, ws, kv, rfl, _⟩ := h; rfl
  obtain ⟨d, h, a, n, f, cs, w, ws, kv, rfl, h1, h2, h3, h4, h5, h6, h7, h8, q⟩ := h
  exact ⟨rd_Desk_taken_up K t, (pss_cons (ps_set (i := 2) sc_Desk_taken_up.nd rfl (Or.inl rfl) (pe_meth (pe_fld (f := "way") (pv 0) rfl) T.cl_Way T.me_Way_chosen (FnOk.mono (ok_Way_chosen T) (by decide)) hr T.b_Way_chosen .nil pass10 (pa_cons (pe_callTy call_list_of rfl T.b_list bt_list (pa_cons (pe_fld (f := "waiting") (pv 0) rfl) pa_nil)) pa_nil)))
    (pss_cons (ps_expr (pe_bm PySem.F.plainAttrs_list PySem.F.slot_list_remove PySem.F.type_list_remove mt_remove (pe_fld (f := "waiting") (pv 0) rfl) (pa_cons (pv 2) pa_nil)))
    (pss_cons (ps_dput (hu_of hr) (pe_fld (f := "held") (pv 0) rfl) (pv 1) (pe_tup (pa_cons (pv 2) (pa_cons (pe_make T.mk_Run (FnOk.mono (ok_Run_init T) (by decide)) hr rfl T.g_Run T.b_Run_init .nil pass10 (pa_cons (pe_ix ix_list (pe_fld (f := "codes") (pv 0) rfl) (pe_op op_sub (pv 2) (pe_fld (f := "first") (pv 0) rfl)) (fun _ _ => rfl)) pa_nil)) pa_nil))) rfl)
    (pss_one (ps_ret (pe_tup (pa_cons (pe_str (x := "take")) (pa_cons (pv 1) (pa_cons (pv 2) pa_nil))))))))), rdp_Desk_taken_up (dkF T) h1 h2 h3 h4 h5 h6 h7 h8 q⟩
theorem ok_many_below (T : Txt K mg t) : FnOk P w K mg base (CX1 P w) 1 t.a_many_below t.d_many_below ["ranks", "rank"] (sp_many_below) := ⟨fun vs H Q E h => h.elim, fun A outer s H args us vs Q E hr he hb hv h => h.elim⟩
theorem ok_Desk_moved_free (T : Txt K mg t) : FnOk P w K mg base (CX1 P w) 4 t.a_Desk_moved_free t.d_Desk_moved_free ["self", "hand"] (sp_Desk_moved_free t) := by
  refine T.f_Desk_moved_free.ok0 sc_Desk_moved_free (fun vs H Q E h => ?_) (fun cdv A outer s H vs Q E hr h => ?_)
  · obtain ⟨d, h, a, n, f, cs, ws, kv, rfl, _⟩ := h; rfl
  obtain ⟨d, h, a, n, f, cs, ws, kv, rfl, h1, h2, h3, q⟩ := h
  exact ⟨rd_Desk_moved_free K t, (pss_cons (ps_set (i := 2) sc_Desk_moved_free.nd rfl (Or.inl rfl) (pe_meth0 (pv 0) T.cl_Desk T.me_Desk_settled (FnOk.mono (ok_Desk_settled T) (by decide)) hr T.b_Desk_settled .nil pass10))
    (pss_cons (ps_set (i := 3) sc_Desk_moved_free.nd rfl (Or.inl rfl) (pe_meth0 (pe_fld (f := "jobs") (pv 0) rfl) T.cl_Jobs T.me_Jobs_lowest_changed (FnOk.mono (ok_Jobs_lowest_changed T) (by decide)) hr T.b_Jobs_lowest_changed .nil pass10))
    (pss_cons (ps_if (PW.pt (pw_and (pt_cmpR (op_in_d (hu_of hr)) (pv 2) (pe_fld (f := "laid") (pe_fld (f := "jobs") (pv 0) rfl) rfl) (by with_unfolding_all rfl)) (pw_and1 (PW.pt (pw_or (pt_cmpR op_isN (pv 3) pe_non (nomark _)) (pw_or1 (pt_cmpR op_ne (pe_ix ix_tup (pv 3) (pe_int (i := 0)) (fun _ _ => rfl)) (pv 2) (nomark _)))))))) (pss_cons (ps_expr (pe_bm PySem.F.plainAttrs_list PySem.F.slot_list_append PySem.F.type_list_append mt_append (pe_fld (f := "ended") (pv 0) rfl) (pa_cons (pe_meth (pe_fld (f := "jobs") (pv 0) rfl) T.cl_Jobs T.me_Jobs_take_off (FnOk.mono (ok_Jobs_take_off T) (by decide)) hr T.b_Jobs_take_off .nil pass10 (pa_cons (pv 2) pa_nil)) pa_nil)))
    (pss_one (ps_ret (pe_tup (pa_cons (pe_str (x := "settle")) (pa_cons (pv 1) (pa_cons (pv 2) pa_nil)))))))
      pss_nil)
    (pss_cons (ps_if (pt_cmpR op_notN (pv 3) pe_non (nomark _)) (pss_cons (ps_expr (pe_meth (pe_fld (f := "jobs") (pv 0) rfl) T.cl_Jobs T.me_Jobs_take_off (FnOk.mono (ok_Jobs_take_off T) (by decide)) hr T.b_Jobs_take_off .nil pass10 (pa_cons (pe_ix ix_tup (pv 3) (pe_int (i := 0)) (fun _ _ => rfl)) pa_nil)))
    (pss_cons (ps_expr (pe_bm PySem.F.plainAttrs_list PySem.F.slot_list_insert PySem.F.type_list_insert mt_insert (pe_fld (f := "waiting") (pv 0) rfl) (pa_cons (pe_call (FnOk.mono (ok_many_below T) (by decide)) hr rfl T.m_many_below T.f_many_below.kp T.b_many_below .nil pass10 (pa_cons (pe_fld (f := "waiting") (pv 0) rfl) (pa_cons (pe_ix ix_tup (pv 3) (pe_int (i := 0)) (fun _ _ => rfl)) pa_nil))) (pa_cons (pe_ix ix_tup (pv 3) (pe_int (i := 0)) (fun _ _ => rfl)) pa_nil))))
    (pss_one (ps_ret (pe_op op_catT (pe_tup (pa_cons (pe_str (x := "again")) (pa_cons (pv 1) pa_nil))) (pv 3))))))
      pss_nil)
    (pss_cons (ps_if (pt_cmpR (op_neNil (hu64 hr)) (pe_fld (f := "waiting") (pv 0) rfl) (pe_lst pa_nil) (nomark _)) (pss_one (ps_ret (pe_meth (pv 0) T.cl_Desk T.me_Desk_taken_up (FnOk.mono (ok_Desk_taken_up T) (by decide)) hr T.b_Desk_taken_up .nil pass10 (pa_cons (pv 1) pa_nil))))
      pss_nil)
    (pss_one (ps_ret (pe_tup (pa_cons (pe_str (x := "rest")) (pa_cons (pv 1) pa_nil)))))))))), rdp_Desk_moved_free (dkF T) h1 h2 h3 q⟩
theorem ok_Jobs_lay_down (T : Txt K mg t) : FnOk P w K mg base (CX1 P w) 1 t.a_Jobs_lay_down t.d_Jobs_lay_down ["self", "rank", "paper"] (sp_Jobs_lay_down) := ⟨fun vs H Q E h => h.elim, fun A outer s H args us vs Q E hr he hb hv h => h.elim⟩
theorem ok_Run_paper (T : Txt K mg t) : FnOk P w K mg base (CX1 P w) 1 t.a_Run_paper t.d_Run_paper ["self"] (sp_Run_paper) := ⟨fun vs H Q E h => h.elim, fun A outer s H args us vs Q E hr he hb hv h => h.elim⟩
theorem ok_Desk_move (T : Txt K mg t) : FnOk P w K mg base (CX1 P w) 5 t.a_Desk_move t.d_Desk_move ["self", "hand"] (sp_Desk_move t) := by
  refine T.f_Desk_move.ok1 sc_Desk_move (fun vs H Q E h => ?_) (fun cdv A outer s H vs Q E hr h => ?_)
  · obtain ⟨d, h, a, n, f, cs, ws, kv, rfl, _⟩ := h; rfl
  obtain ⟨d, h, a, n, f, cs, ws, kv, rfl, h1, h2, h3, h4, q1, q2⟩ := h
  exact ⟨rd_Desk_move K t E, (pss_cons (ps_if (PW.pt (pw_or (pt_cmpR op_lt (pv 1) (pe_int (i := 0)) (nomark _)) (pw_or1 (pt_cmpR op_ge (pv 1) (pe_fld (f := "hands") (pv 0) rfl) (nomark _))))) (pss_one (ps_raise rfl T.x_NoHand raises1 rfl T.g_NoHand (pa_cons (pe_str (x := "no hand of this desk")) pa_nil)))
      pss_nil)
    (pss_cons (ps_if (pt_cmpR (op_notin_d (hu_of hr)) (pv 1) (pe_fld (f := "held") (pv 0) rfl) (by with_unfolding_all rfl)) (pss_one (ps_ret (pe_meth (pv 0) T.cl_Desk T.me_Desk_moved_free (FnOk.mono (ok_Desk_moved_free T) (by decide)) hr T.b_Desk_moved_free .nil pass1 (pa_cons (pv 1) pa_nil))))
      pss_nil)
    (pss_cons (ps_set (i := 2) sc_Desk_move.nd rfl (Or.inl rfl) (pe_ix ix_tup (pe_dget (hu_of hr) (pe_fld (f := "held") (pv 0) rfl) (pv 1) (fun _ _ => rfl)) (pe_int (i := 0)) (fun _ _ => rfl)))
    (pss_cons (ps_set (i := 3) sc_Desk_move.nd rfl (Or.inl rfl) (pe_ix ix_tup (pe_dget (hu_of hr) (pe_fld (f := "held") (pv 0) rfl) (pv 1) (fun _ _ => rfl)) (pe_int (i := 1)) (fun _ _ => rfl)))
    (pss_cons (ps_if (pt_val (pe_meth0 (pv 3) T.cl_Run T.me_Run_over (FnOk.mono (ok_Run_over T) (by decide)) hr T.b_Run_over .nil pass1)) (pss_cons (ps_expr (pe_dpopT (hu_of hr) (pe_fld (f := "held") (pv 0) rfl) (pv 1) ⟨rfl, rfl, rfl, rfl⟩))
    (pss_cons (ps_expr (pe_meth (pe_fld (f := "jobs") (pv 0) rfl) T.cl_Jobs T.me_Jobs_lay_down (FnOk.mono (ok_Jobs_lay_down T) (by decide)) hr T.b_Jobs_lay_down .nil pass1 (pa_cons (pv 2) (pa_cons (pe_meth0 (pv 3) T.cl_Run T.me_Run_paper (FnOk.mono (ok_Run_paper T) (by decide)) hr T.b_Run_paper .nil pass1) pa_nil))))
    (pss_one (ps_ret (pe_tup (pa_cons (pe_str (x := "lay")) (pa_cons (pv 1) (pa_cons (pv 2) pa_nil))))))))
      pss_nil)
    (pss_cons (ps_set (i := 4) sc_Desk_move.nd rfl (Or.inl rfl) (pe_meth0 (pv 3) T.cl_Run T.me_Run_asks (FnOk.mono (ok_Run_asks T) (by decide)) hr T.b_Run_asks .nil pass1))
    (pss_cons (ps_if (pt_cmpR op_isN (pv 4) pe_non (nomark _)) (pss_cons (ps_expr (pe_meth0D (pv 3) T.cl_Run T.me_Run_step (FnOk.mono (ok_Run_step T) (by decide)) hr T.bd_Run_step pass1))
    (pss_one (ps_ret (pe_tup (pa_cons (pe_str (x := "step")) (pa_cons (pv 1) (pa_cons (pv 2) pa_nil)))))))
      pss_nil)
    (pss_cons (ps_set (i := 5) sc_Desk_move.nd rfl (Or.inl rfl) (pe_meth (pe_fld (f := "makes") (pv 0) rfl) T.cl_Makes T.me_Makes_seen (FnOk.mono (ok_Makes_seen T) (by decide)) hr T.b_Makes_seen .nil pass1 (pa_cons (pv 4) (pa_cons (pv 2) pa_nil))))
    (pss_cons (ps_expr (pe_meth (pv 3) T.cl_Run T.me_Run_step (FnOk.mono (ok_Run_step T) (by decide)) hr T.b_Run_step .nil pass1 (pa_cons (pv 5) pa_nil)))
    (pss_one (ps_ret (pe_tup (pa_cons (pe_str (x := "read")) (pa_cons (pv 1) (pa_cons (pv 2) (pa_cons (pv 4) (pa_cons (pv 5) pa_nil))))))))))))))))), rdp_Desk_move (dkF T) h1 h2 h3 h4 q1 q2⟩
theorem ok__law_refused (T : Txt K mg t) : FnOk P w K mg base (CX1 P w) 6 t.a__law_refused t.d__law_refused ["desk", "hand"] (sp__law_refused t) := by
  refine T.f__law_refused.ok0 sc__law_refused (fun vs H Q E h => ?_) (fun cdv A outer s H vs Q E hr h => ?_)
  · obtain ⟨d, h, a, n, f, cs, ws, kv, rfl, _⟩ := h; rfl
  obtain ⟨d, h, a, n, f, cs, ws, kv, rfl, h1, h2, h3, h4, h5, q⟩ := h
  exact ⟨rd__law_refused K t, (pss_cons (ps_set (i := 2) sc__law_refused.nd rfl (Or.inl rfl) (pe_bl (b := false)))
    (pss_cons (ps_set (i := 3) sc__law_refused.nd rfl (Or.inl rfl) (pe_bl (b := false)))
    (pss_cons (ps_set (i := 4) sc__law_refused.nd rfl (Or.inl rfl) (pe_bl (b := false)))
    (pss_cons (ps_try (i := 5) (And.intro rfl rfl) rfl sc__law_refused.nd (psx_expr (pex_meth (pv 0) T.cl_Desk T.me_Desk_move (FnOk.mono (ok_Desk_move T) (by decide)) hr T.b_Desk_move (pa_cons (pv 1) pa_nil))) rfl T.g_NoHand rfl rfl (fun _ => (pss_cons (ps_set (i := 2) sc__law_refused.nd rfl (Or.inl rfl) (pe_and (pe_callB call_isx rfl T.b_isinstance bt_isinstance (pa_cons (pv 5) (pa_cons (pe_glob rfl T.g_ForerunError rfl) pa_nil))) (pe_one (pe_callB call_isx rfl T.b_isinstance bt_isinstance (pa_cons (pv 5) (pa_cons (pe_bltn rfl T.b_ValueError bt_ValueError rfl) pa_nil))))))
    (pss_cons (ps_set (i := 3) sc__law_refused.nd rfl (Or.inl rfl) (pe_callB call_isxT rfl T.b_isinstance bt_isinstance (pa_cons (pv 5) (pa_cons (pe_tup (pa_cons (pe_glob rfl T.g_NoNumber rfl) (pa_cons (pe_glob rfl T.g_NoTerm rfl) (pa_cons (pe_glob rfl T.g_NoDealing rfl) (pa_cons (pe_glob rfl T.g_Nought rfl) (pa_cons (pe_glob rfl T.g_Great rfl) pa_nil)))))) pa_nil))))
    (pss_one (ps_set (i := 4) sc__law_refused.nd rfl (Or.inl rfl) (pe_callB call_isxT rfl T.b_isinstance bt_isinstance (pa_cons (pv 5) (pa_cons (pe_tup (pa_cons (pe_glob rfl T.g_Folded rfl) (pa_cons (pe_glob rfl T.g_NoOrder rfl) (pa_cons (pe_glob rfl T.g_NoLine rfl) (pa_cons (pe_glob rfl T.g_NoLog rfl) pa_nil))))) pa_nil)))))))))
    (pss_one (ps_ret (pe_and (pv 2) (pe_and (pe_not (pv 3)) (pe_one (pe_not (pv 4))))))))))), rdp__law_refused T h1 h2 h3 h4 h5 q⟩
theorem ok__law_cell_at (T : Txt K mg t) : FnOk P w K mg base (CX1 P w) 1 t.a__law_cell_at t.d__law_cell_at ["script", "k"] (sp__law_cell_at K) := by
  refine T.f__law_cell_at.ok0 sc__law_cell_at (fun vs H Q E h => ?_) (fun cdv A outer s H vs Q E hr h => ?_)
  · obtain ⟨a, ns, k, rfl, _⟩ := h; rfl
  obtain ⟨a, ns, k, rfl, hS, hl, q⟩ := h
  exact ⟨rd__law_cell_at K t, (pss_cons (ps_if (pt_cmpR op_lt (pv 1) (pe_callB call_len rfl T.b_len bt_len (pa_cons (pv 0) pa_nil)) (nomark _)) (pss_one (ps_ret (pe_ix ix_list (pv 0) (pv 1) (fun _ _ => rfl))))
      pss_nil)
    (pss_one (ps_ret (pe_int (i := 0))))), rdp__law_cell_at hS hl q⟩
theorem ok_Makes_kept (T : Txt K mg t) : FnOk P w K mg base (CX1 P w) 1 t.a_Makes_kept t.d_Makes_kept ["self"] (sp_Makes_kept t) := by
  refine T.f_Makes_kept.ok0 sc_Makes_kept (fun vs H Q E h => ?_) (fun cdv A outer s H vs Q E hr h => ?_)
  · obtain ⟨d, a, n, f, rfl, _⟩ := h; rfl
  obtain ⟨d, a, n, f, rfl, h1, q⟩ := h
  exact ⟨rd_Makes_kept K t, (pss_one (ps_frzK (ps_ret (pe_callB (call_sumL rfl) rfl T.b_sum bt_sum (pa_cons (pe_comp rfl (osc := defScope s_Makes_kept) (N := ["self"]) (xs := ["rank"]) (ix := [0]) (by decide +kernel) (pi_dictK (pe_fld (f := "worths") (pv 0) rfl)) (fun _ _ _ _ => (pg_name (i := 0) (show List.Nodup (["rank", "self"] : List Str) from (by decide +kernel)) rfl (Or.inl rfl) (.inr rfl))) (fun _ _ _ _ => pts_nil) (fun _ _ _ _ => (pe_callB call_len rfl T.b_len bt_len (pa_cons (pe_ix ix_list (pe_fld (f := "worths") (pv 1) rfl) (pv 0) (fun _ _ => rfl)) pa_nil)))) pa_nil))))), rdp_Makes_kept (dkF T) h1 q⟩
theorem ok_Desk_kept (T : Txt K mg t) : FnOk P w K mg base (CX1 P w) 2 t.a_Desk_kept t.d_Desk_kept ["self"] (sp_Desk_kept t) := by
  refine T.f_Desk_kept.ok0 sc_Desk_kept (fun vs H Q E h => ?_) (fun cdv A outer s H vs Q E hr h => ?_)
  · obtain ⟨d, a, n, f, rfl, _⟩ := h; rfl
  obtain ⟨d, a, n, f, rfl, h1, q⟩ := h
  exact ⟨rd_Desk_kept K t, (pss_one (ps_ret (pe_meth0 (pe_fld (f := "makes") (pv 0) rfl) T.cl_Makes T.me_Makes_kept (FnOk.mono (ok_Makes_kept T) (by decide)) hr T.b_Makes_kept .nil pass10))), rdp_Desk_kept (dkF T) h1 q⟩
theorem ok_Desk_papers (T : Txt K mg t) : FnOk P w K mg base (CX1 P w) 1 t.a_Desk_papers t.d_Desk_papers ["self"] (sp_Desk_papers t) := by
  refine T.f_Desk_papers.ok0 sc_Desk_papers (fun vs H Q E h => ?_) (fun cdv A outer s H vs Q E hr h => ?_)
  · obtain ⟨d, a, n, f, rfl, _⟩ := h; rfl
  obtain ⟨d, a, n, f, rfl, h1, q⟩ := h
  exact ⟨rd_Desk_papers K t, (pss_one (ps_ret (pe_comp rfl (osc := defScope s_Desk_papers) (N := ["self"]) (xs := ["paper"]) (ix := []) (by decide +kernel) (pi_list (pe_fld (f := "ended") (pv 0) rfl)) (fun _ _ _ _ => (pg_name (i := 0) (show List.Nodup (["paper"] : List Str) from (by decide +kernel)) rfl (Or.inl rfl) (.inr rfl))) (fun _ _ _ _ => pts_nil) (fun _ _ _ _ => (pe_tup (pa_cons (pe_ix ix_tup (pv 0) (pe_int (i := 0)) (fun _ _ => rfl)) (pa_cons (pe_callTy call_list_of rfl T.b_list bt_list (pa_cons (pe_ix ix_tup (pv 0) (pe_int (i := 1)) (fun _ _ => rfl)) pa_nil)) (pa_cons (pe_callTy call_list_of rfl T.b_list bt_list (pa_cons (pe_ix ix_tup (pv 0) (pe_int (i := 2)) (fun _ _ => rfl)) pa_nil)) pa_nil)))))))), rdp_Desk_papers (dkF T) h1 q⟩
theorem ok_Makes_heed_fold (T : Txt K mg t) : FnOk P w K mg base (CX1 P w) 1 t.a_Makes_heed_fold t.d_Makes_heed_fold ["self", "rank"] (sp_Makes_heed_fold t) := by
  refine T.f_Makes_heed_fold.ok0 sc_Makes_heed_fold (fun vs H Q E h => ?_) (fun cdv A outer s H vs Q E hr h => ?_)
  · obtain ⟨d, a, n, f, rank, rfl, _⟩ := h; rfl
  obtain ⟨d, a, n, f, rank, rfl, h1, h2, q⟩ := h
  exact ⟨rd_Makes_heed_fold K t, (pss_one (ps_if (pt_cmpR op_lt (pv 1) (pe_fld (f := "folded") (pv 0) rfl) (nomark _)) (pss_one ps_never)
      pss_nil)), rdp_Makes_heed_fold (dkF T) h1 h2 q⟩
theorem ok_table_of (T : Txt K mg t) : FnOk P w K mg base (CX1 P w) 1 t.a_table_of t.d_table_of ["rows"] (sp_table_of) := by
  refine T.f_table_of.ok0 sc_table_of (fun vs H Q E h => ?_) (fun cdv A outer s H vs Q E hr h => ?_)
  · obtain ⟨l, rfl, _⟩ := h; rfl
  obtain ⟨l, rfl, h1, q⟩ := h
  exact ⟨rd_table_of K t, (pss_cons (ps_set (i := 1) sc_table_of.nd rfl (Or.inr rfl) (pe_callTy (call_dict_pairs rfl (hu3 hr)) rfl T.b_dict bt_dict (pa_cons (pv 0) pa_nil)))
    (pss_one (ps_ret (pe_comp rfl (osc := defScope s_table_of) (N := ["rows", "worths"]) (xs := ["place"]) (ix := [1]) (by decide +kernel) (pi_list (pe_callB (call_sortedD rfl) rfl T.b_sorted bt_sorted (pa_cons (pv 1) pa_nil))) (fun _ _ _ _ => (pg_name (i := 0) (show List.Nodup (["place", "worths"] : List Str) from (by decide +kernel)) rfl (Or.inl rfl) (.inr rfl))) (fun _ _ _ _ => (pts_one (pt_cmpR op_ne (pe_dget (hu_of hr) (pv 1) (pv 0) (fun _ _ => rfl)) (pe_int (i := 0)) (nomark _)))) (fun _ _ _ _ => (pe_tup (pa_cons (pv 0) (pa_cons (pe_dget (hu_of hr) (pv 1) (pv 0) (fun _ _ => rfl)) pa_nil)))))))), rdp_table_of h1 q⟩
theorem ok_Makes_table_for (T : Txt K mg t) : FnOk P w K mg base (CX1 P w) 2 t.a_Makes_table_for t.d_Makes_table_for ["self", "rank"] (sp_Makes_table_for t) := by
  refine T.f_Makes_table_for.ok0 sc_Makes_table_for (fun vs H Q E h => ?_) (fun cdv A outer s H vs Q E hr h => ?_)
  · obtain ⟨d, a, n, f, rank, rfl, _⟩ := h; rfl
  obtain ⟨d, a, n, f, rank, rfl, h1, h2, q⟩ := h
  exact ⟨rd_Makes_table_for K t, (pss_cons (ps_expr (pe_meth (pv 0) T.cl_Makes T.me_Makes_heed_fold (FnOk.mono (ok_Makes_heed_fold T) (by decide)) hr T.b_Makes_heed_fold .nil pass10 (pa_cons (pv 1) pa_nil)))
    (pss_cons (ps_set (i := 2) sc_Makes_table_for.nd rfl (Or.inl rfl) (pe_op op_cat (pe_callTy (call_list_dict rfl) rfl T.b_list bt_list (pa_cons (pe_fld (f := "ground") (pv 0) rfl) pa_nil)) (pe_callTy (call_list_dict rfl) rfl T.b_list bt_list (pa_cons (pe_fld (f := "ranks") (pv 0) rfl) pa_nil))))
    (pss_one (ps_ret (pe_call (FnOk.mono (ok_table_of T) (by decide)) hr rfl T.m_table_of T.f_table_of.kp T.b_table_of .nil pass10 (pa_cons (pe_comp rfl (osc := defScope s_Makes_table_for) (N := ["self", "rank", "places"]) (xs := ["place"]) (ix := [0, 1]) (by decide +kernel) (pi_list (pv 2)) (fun _ _ _ _ => (pg_name (i := 0) (show List.Nodup (["place", "self", "rank"] : List Str) from (by decide +kernel)) rfl (Or.inl rfl) (.inr rfl))) (fun _ _ _ _ => pts_nil) (fun _ _ _ _ => (pe_tup (pa_cons (pv 0) (pa_cons (pe_meth (pv 1) T.cl_Makes T.me_Makes_seen (FnOk.mono (ok_Makes_seen T) (by decide)) hr T.b_Makes_seen .nil pass10 (pa_cons (pv 0) (pa_cons (pv 2) pa_nil))) pa_nil))))) pa_nil)))))), rdp_Makes_table_for (dkF T) h1 h2 q⟩
theorem ok_Desk_table (T : Txt K mg t) : FnOk P w K mg base (CX1 P w) 3 t.a_Desk_table t.d_Desk_table ["self"] (sp_Desk_table t) := by
  refine T.f_Desk_table.ok0 sc_Desk_table (fun vs H Q E h => ?_) (fun cdv A outer s H vs Q E hr h => ?_)
  · obtain ⟨d, a, n, f, rfl, _⟩ := h; rfl
  obtain ⟨d, a, n, f, rfl, h1, h2, q⟩ := h
  exact ⟨rd_Desk_table K t, (pss_one (ps_ret (pe_meth (pe_fld (f := "makes") (pv 0) rfl) T.cl_Makes T.me_Makes_table_for (FnOk.mono (ok_Makes_table_for T) (by decide)) hr T.b_Makes_table_for .nil pass10 (pa_cons (pe_meth0 (pv 0) T.cl_Desk T.me_Desk_settled (FnOk.mono (ok_Desk_settled T) (by decide)) hr T.b_Desk_settled .nil pass10) pa_nil)))), rdp_Desk_table (dkF T) h1 h2 q⟩
theorem ok__law_alike (T : Txt K mg t) : FnOk P w K mg base (CX1 P w) 1 t.a__law_alike t.d__law_alike ["found", "due"] (sp__law_alike) := by
  refine T.f__law_alike.ok0 sc__law_alike (fun vs H Q E h => ?_) (fun cdv A outer s H vs Q E hr h => ?_)
  · obtain ⟨r, s, x, ns, rfl, _⟩ := h; rfl
  obtain ⟨r, s, x, ns, rfl, h1, h2, h3, h4, h5, q⟩ := h
  exact ⟨rd__law_alike K t, (pss_cons (ps_if (PW.pt (pw_or (pt_not (pt_val (pe_callB call_isi rfl T.b_isinstance bt_isinstance (pa_cons (pv 0) (pa_cons (pe_bltn rfl T.b_tuple bt_tuple rfl) pa_nil))))) (pw_or (pt_cmpR op_ne (pe_callB call_len rfl T.b_len bt_len (pa_cons (pv 0) pa_nil)) (pe_callB call_len rfl T.b_len bt_len (pa_cons (pv 1) pa_nil)) (nomark _)) (pw_or1 (pt_not (pt_val (pe_callB call_isi rfl T.b_isinstance bt_isinstance (pa_cons (pe_ix ix_tup (pv 0) (pe_int (i := 0)) (fun _ _ => rfl)) (pa_cons (pe_bltn rfl T.b_str bt_str rfl) pa_nil))))))))) (pss_one (ps_ret (pe_bl (b := false))))
      pss_nil)
    (pss_cons (ps_for PassesOwn.never rfl (pi_tup (pe_slice sl_tup (pv 0) (po_some (pe_int (i := 1))) po_none)) (pg_name (i := 2) sc__law_alike.nd rfl (Or.inl rfl)) (pss_one (ps_if (PW.pt (pw_or (pt_not (pt_val (pe_callB call_isi rfl T.b_isinstance bt_isinstance (pa_cons (pv 2) (pa_cons (pe_bltn rfl T.b_int bt_int rfl) pa_nil))))) (pw_or1 (pt_val (pe_callB call_isi rfl T.b_isinstance bt_isinstance (pa_cons (pv 2) (pa_cons (pe_bltn rfl T.b_bool bt_bool rfl) pa_nil))))))) (pss_one (ps_ret (pe_bl (b := false))))
      pss_nil)))
    (pss_one (ps_ret (pe_cmpR (op_eqAll (hu64 hr)) (pv 0) (pv 1) (nomark _)))))), rdp__law_alike (kf K) h1 h2 h3 h4 h5 q⟩
theorem ok__law_refused_by_any (T : Txt K mg t) : FnOk P w K mg base (CX1 P w) 6 t.a__law_refused_by_any t.d__law_refused_by_any ["desk", "hand"] (sp__law_refused_by_any t) := by
  refine T.f__law_refused_by_any.ok0 sc__law_refused_by_any (fun vs H Q E h => ?_) (fun cdv A outer s H vs Q E hr h => ?_)
  · obtain ⟨d, h, a, n, f, cs, ws, kv, rfl, _⟩ := h; rfl
  obtain ⟨d, h, a, n, f, cs, ws, kv, rfl, h1, h2, h3, h4, h5, q⟩ := h
  exact ⟨rd__law_refused_by_any K t, (pss_cons (ps_set (i := 2) sc__law_refused_by_any.nd rfl (Or.inl rfl) (pe_bl (b := false)))
    (pss_cons (ps_tryN (And.intro rfl rfl) rfl (psx_expr (pex_meth (pv 0) T.cl_Desk T.me_Desk_move (FnOk.mono (ok_Desk_move T) (by decide)) hr T.b_Desk_move (pa_cons (pv 1) pa_nil))) rfl T.g_ForerunError (fun _ => (pss_one (ps_set (i := 2) sc__law_refused_by_any.nd rfl (Or.inl rfl) (pe_bl (b := true))))))
    (pss_one (ps_ret (pv 2))))), rdp__law_refused_by_any T h1 h2 h3 h4 h5 q⟩
theorem ok_law (T : Txt K mg t) : FnOk P w K mg base (CX1 P w) 7 t.a_law t.d_law ["script"] (sp_law K) := by
  refine T.f_law.ok0 sc_law (fun vs H Q E h => ?_) (fun cdv A outer s H vs Q E hr h => ?_)
  · obtain ⟨a, ns, rfl, _⟩ := h; rfl
  obtain ⟨a, ns, rfl, hS, hn, q⟩ := h
  exact ⟨rd_law K t, (pss_cons (ps_set (i := 1) sc_law.nd rfl (Or.inl rfl) (pe_op op_add (pe_int (i := 1)) (pe_op op_mod (pe_call (FnOk.mono (ok__law_cell_at T) (by decide)) hr rfl T.m__law_cell_at T.f__law_cell_at.kp T.b__law_cell_at .nil pass10 (pa_cons (pv 0) (pa_cons (pe_int (i := 0)) pa_nil))) (pe_int (i := 8)))))
    (pss_cons (ps_set (i := 2) sc_law.nd rfl (Or.inl rfl) (pe_op op_mod (pe_op op_fdivB (pe_call (FnOk.mono (ok__law_cell_at T) (by decide)) hr rfl T.m__law_cell_at T.f__law_cell_at.kp T.b__law_cell_at .nil pass10 (pa_cons (pv 0) (pa_cons (pe_int (i := 0)) pa_nil))) (pe_int (i := 8))) (pe_int (i := 3))))
    (pss_cons (ps_set (i := 3) sc_law.nd rfl (Or.inl rfl) (pe_int (i := 0)))
    (pss_cons (ps_set (i := 4) sc_law.nd rfl (Or.inl rfl) (pe_makeD T.mk_Desk (FnOk.mono (ok_Desk_init T) (by decide)) hr rfl T.g_Desk T.bd_Desk_init pass10 (pa_cons (pe_lst pa_nil) (pa_cons (pv 1) (pa_cons (pe_makeO T.mo_Way rfl T.g_Way) pa_nil)))))
    (pss_cons (ps_if (pt_cmpR op_eq (pe_op op_mod (pe_op op_fdivB (pe_call (FnOk.mono (ok__law_cell_at T) (by decide)) hr rfl T.m__law_cell_at T.f__law_cell_at.kp T.b__law_cell_at .nil pass10 (pa_cons (pv 0) (pa_cons (pe_int (i := 0)) pa_nil))) (pe_int (i := 24))) (pe_int (i := 2))) (pe_int (i := 1)) (nomark _)) (pss_cons (ps_set (i := 3) sc_law.nd rfl (Or.inl rfl) (pe_op op_mod (pe_call (FnOk.mono (ok__law_cell_at T) (by decide)) hr rfl T.m__law_cell_at T.f__law_cell_at.kp T.b__law_cell_at .nil pass10 (pa_cons (pv 0) (pa_cons (pe_int (i := 1)) pa_nil))) (pe_op op_sub (pe_op op_pow (pe_int (i := 10)) (pe_int (i := 29))) (pe_int (i := 300)))))
    (pss_one (ps_set (i := 4) sc_law.nd rfl (Or.inl rfl) (pe_make T.mk_Desk (FnOk.mono (ok_Desk_init T) (by decide)) hr rfl T.g_Desk T.b_Desk_init .nil pass10 (pa_cons (pe_lst pa_nil) (pa_cons (pv 1) (pa_cons (pe_makeO T.mo_Way rfl T.g_Way) (pa_cons (pv 3) pa_nil))))))))
      pss_nil)
    (pss_cons (ps_for PassesOwn.never rfl (pi_range1 rfl T.b_range (pa_cons (pv 2) pa_nil)) (pg_name (i := 5) sc_law.nd rfl (Or.inl rfl)) (pss_one (ps_expr (pe_meth (pv 4) T.cl_Desk T.me_Desk_add (FnOk.mono (ok_Desk_add T) (by decide)) hr T.b_Desk_add .nil pass10 (pa_cons (pe_lst (pa_cons (pe_tup (pa_cons (pe_str (x := "say")) (pa_cons (pe_tup (pa_cons (pv 5) pa_nil)) pa_nil))) pa_nil)) pa_nil)))))
    (pss_cons (ps_set (i := 6) sc_law.nd rfl (Or.inl rfl) (pe_lst (pa_cons (pe_un un_neg (pe_int (i := 1))) (pa_cons (pv 1) pa_nil))))
    (pss_cons (ps_for PassesOwn.never rfl (pi_list (pv 0)) (pg_name (i := 7) sc_law.nd rfl (Or.inl rfl)) (pss_cons (ps_expr (pe_bm PySem.F.plainAttrs_list PySem.F.slot_list_append PySem.F.type_list_append mt_append (pv 6) (pa_cons (pe_op op_sub (pe_un un_neg (pe_int (i := 1))) (pe_op op_mod (pe_op op_fdivB (pv 7) (pe_int (i := 2))) (pe_op op_pow (pe_int (i := 10)) (pe_int (i := 60))))) pa_nil)))
    (pss_cons (ps_expr (pe_bm PySem.F.plainAttrs_list PySem.F.slot_list_append PySem.F.type_list_append mt_append (pv 6) (pa_cons (pe_op op_add (pv 1) (pe_op op_mod (pv 7) (pe_op op_add (pv 1) (pe_int (i := 2))))) pa_nil)))
    (pss_one (ps_expr (pe_bm PySem.F.plainAttrs_list PySem.F.slot_list_append PySem.F.type_list_append mt_append (pv 6) (pa_cons (pe_op op_add (pv 1) (pe_op op_mod (pe_op op_fdivB (pv 7) (pe_int (i := 2))) (pe_op op_pow (pe_int (i := 10)) (pe_int (i := 60))))) pa_nil)))))))
    (pss_cons (ps_for PassesOwn.never rfl (pi_list (pv 6)) (pg_name (i := 8) sc_law.nd rfl (Or.inl rfl)) (pss_one (ps_if (PW.pt (pw_or (pt_not (pt_val (pe_call (FnOk.mono (ok__law_refused T) (by decide)) hr rfl T.m__law_refused T.f__law_refused.kp T.b__law_refused .nil pass10 (pa_cons (pv 4) (pa_cons (pv 8) pa_nil))))) (pw_or1 (pt_not (pt_val (pe_call (FnOk.mono (ok__law_refused_by_any T) (by decide)) hr rfl T.m__law_refused_by_any T.f__law_refused_by_any.kp T.b__law_refused_by_any .nil pass10 (pa_cons (pv 4) (pa_cons (pv 8) pa_nil)))))))) (pss_one (ps_ret (pe_bl (b := false))))
      pss_nil)))
    (pss_cons (ps_if (PW.pt (pw_or (pt_cmpR op_ne (pe_meth0 (pv 4) T.cl_Desk T.me_Desk_kept (FnOk.mono (ok_Desk_kept T) (by decide)) hr T.b_Desk_kept .nil pass10) (pe_int (i := 0)) (nomark _)) (pw_or (pt_cmpR op_ne (pe_meth0 (pv 4) T.cl_Desk T.me_Desk_settled (FnOk.mono (ok_Desk_settled T) (by decide)) hr T.b_Desk_settled .nil pass10) (pv 3) (nomark _)) (pw_or (pt_cmpR (op_neNil (hu64 hr)) (pe_meth0 (pv 4) T.cl_Desk T.me_Desk_papers (FnOk.mono (ok_Desk_papers T) (by decide)) hr T.b_Desk_papers .nil pass10) (pe_lst pa_nil) (nomark _)) (pw_or1 (pt_cmpR (op_neNil (hu64 hr)) (pe_meth0 (pv 4) T.cl_Desk T.me_Desk_table (FnOk.mono (ok_Desk_table T) (by decide)) hr T.b_Desk_table .nil pass10) (pe_lst pa_nil) (nomark _))))))) (pss_one (ps_ret (pe_bl (b := false))))
      pss_nil)
    (pss_cons (ps_for PassesOwn.never rfl (pi_range1 rfl T.b_range (pa_cons (pv 1) pa_nil)) (pg_name (i := 5) sc_law.nd rfl (Or.inl rfl)) (pss_cons (ps_set (i := 8) sc_law.nd rfl (Or.inl rfl) (pe_op op_sub (pe_op op_sub (pv 1) (pe_int (i := 1))) (pv 5)))
    (pss_cons (ps_set (i := 9) sc_law.nd rfl (Or.inl rfl) (pe_tup (pa_cons (pe_str (x := "rest")) (pa_cons (pv 8) pa_nil))))
    (pss_cons (ps_if (pt_cmpR op_lt (pv 5) (pv 2) (nomark _)) (pss_one (ps_set (i := 9) sc_law.nd rfl (Or.inl rfl) (pe_tup (pa_cons (pe_str (x := "take")) (pa_cons (pv 8) (pa_cons (pe_op op_add (pv 3) (pv 5)) pa_nil))))))
      pss_nil)
    (pss_one (ps_if (pt_not (pt_val (pe_call (FnOk.mono (ok__law_alike T) (by decide)) hr rfl T.m__law_alike T.f__law_alike.kp T.b__law_alike .nil pass10 (pa_cons (pe_meth (pv 4) T.cl_Desk T.me_Desk_move (FnOk.mono (ok_Desk_move T) (by decide)) hr T.b_Desk_move .nil pass10 (pa_cons (pv 8) pa_nil)) (pa_cons (pv 9) pa_nil))))) (pss_one (ps_ret (pe_bl (b := false))))
      pss_nil))))))
    (pss_one (ps_ret (pe_and (pe_call (FnOk.mono (ok__law_refused T) (by decide)) hr rfl T.m__law_refused T.f__law_refused.kp T.b__law_refused .nil pass10 (pa_cons (pv 4) (pa_cons (pe_ix ix_list (pv 6) (pe_int (i := 0)) (fun _ _ => rfl)) pa_nil))) (pe_one (pe_call (FnOk.mono (ok__law_refused T) (by decide)) hr rfl T.m__law_refused T.f__law_refused.kp T.b__law_refused .nil pass10 (pa_cons (pv 4) (pa_cons (pe_ix ix_list (pv 6) (pe_un un_neg (pe_int (i := 1))) (fun _ _ => rfl)) pa_nil)))))))))))))))))), rdp_law T hS hn q⟩
end
end K42
open PySem PySem.W PyProof.Rows
def PySem.W.Fast.tw3775381199976088348:Unit:=()
def PySem.W.Fast.tw5788136321033298115:Unit:=()
def PySem.W.Fast.tw17872051560733938150:Unit:=()
def PySem.W.Fast.tw453462451730722168:Unit:=()
def PySem.W.Fast.tw2874324710355655513:Unit:=()
def PySem.W.Fast.tw15204222083154707783:Unit:=()
def PySem.W.Fast.tw10173196121807766745:Unit:=()
def PySem.W.Fast.tw14932178432620350014:Unit:=()
def PySem.W.Fast.tw18364538945983344798:Unit:=()
def PySem.W.Fast.tw4438770455624691569:Unit:=()
def PySem.W.Fast.tw10506392249080518647:Unit:=()
def PySem.W.Fast.tw9863987753706584919:Unit:=()
def PySem.W.Fast.tw10783538977527649341:Unit:=()
def PySem.W.Fast.tw15500855998707447921:Unit:=()
def PySem.W.Fast.tw1149717608256452453:Unit:=()
def PySem.W.Fast.tw13095611885502677900:Unit:=()
def PySem.W.Fast.tw46905149057411055:Unit:=()
def PySem.W.Fast.tw2790438721189069732:Unit:=()
def PySem.W.Fast.tw8765156600779672878:Unit:=()
def PySem.W.Fast.tw13384626313263712929:Unit:=()
def PySem.W.Fast.tw8189660025554247661:Unit:=()
def PySem.W.Fast.tw4893749670879874775:Unit:=()
def PySem.W.Fast.tw10535992579264073398:Unit:=()
def PySem.W.Fast.tw14747652189592181935:Unit:=()
def PySem.W.Fast.tw813586646084408595:Unit:=()
def PySem.W.Fast.tw714912741522904597:Unit:=()
def PySem.W.Fast.tw10978848838652296867:Unit:=()
def PySem.W.Fast.tw15648608488312206034:Unit:=()
def PySem.W.Fast.tw14203998076499691081:Unit:=()
def PySem.W.Fast.tw10940867317921040386:Unit:=()
def PySem.W.Fast.tw7843644973899234451:Unit:=()
def PySem.W.Fast.tw16582605737827918966:Unit:=()
def PySem.W.Fast.tw4169803837730077585:Unit:=()
def PySem.W.Fast.tw15916450276444016142:Unit:=()
def PySem.W.Fast.tw944507106417843125:Unit:=()
def PySem.W.Fast.tw9702517746407254785:Unit:=()
def PySem.W.Fast.tw8634415485179686557:Unit:=()
def PySem.W.Fast.tw15138261500111276088:Unit:=()
def PySem.W.Fast.tw10893577008425281871:Unit:=()
def PySem.W.Fast.tw11010678503637886900:Unit:=()
def PySem.W.Fast.tw4421554514481175393:Unit:=()
def PySem.W.Fast.tw14478146381976680690:Unit:=()
def PySem.W.Fast.tw5105109604678491253:Unit:=()
def PySem.W.Fast.tw16062251913695854211:Unit:=()
def PySem.W.Fast.tw12822004816407350348:Unit:=()
def PySem.W.Fast.tw905155630048583883:Unit:=()
def PySem.W.Fast.tw1995324138327365897:Unit:=()
def PySem.W.Fast.tw5448472148118603020:Unit:=()
def PySem.W.Fast.tw5296916232333536963:Unit:=()
def PySem.W.Fast.tw16862949873914335263:Unit:=()
def PySem.W.Fast.tw9095723132255635413:Unit:=()
def PySem.W.Fast.tw1947240241888382465:Unit:=()
def PySem.W.Fast.tw8176476337809271822:Unit:=()
def PySem.W.Fast.tw2021521761042994159:Unit:=()
def PySem.W.Fast.tw15654010247163902043:Unit:=()
def PySem.W.Fast.tw7234386687635748775:Unit:=()
def PySem.W.Fast.tw7848331790299476304:Unit:=()
def PySem.W.Fast.tw6629189562274555318:Unit:=()
def PySem.W.Fast.tw12428867489164754995:Unit:=()
def PySem.W.Fast.tw7605870652087364872:Unit:=()
def PySem.W.Fast.tw5085183245097126623:Unit:=()
def PySem.W.Fast.tw6945783285179678319:Unit:=()
def PySem.W.Fast.tw161716389898430186:Unit:=()
def PySem.W.Fast.tw794948604812018206:Unit:=()
def PySem.W.Fast.tw5768538131092851159:Unit:=()
def PySem.W.Fast.tw4144878544221850012:Unit:=()
def PySem.W.Fast.tw2147053832048076036:Unit:=()
def PySem.W.Fast.tw4207303942712387625:Unit:=()
def PySem.W.Fast.tw14167402439052679855:Unit:=()
def PySem.W.Fast.tw2449708673535082956:Unit:=()
def PySem.W.Fast.tw10807860069349195826:Unit:=()
def PySem.W.Fast.tw29064785335337388:Unit:=()
def PySem.W.Fast.tw3881075857065800346:Unit:=()
def PySem.W.Fast.tw7611364957043850487:Unit:=()
def PySem.W.Fast.tw17740411957012722760:Unit:=()
def PySem.W.Fast.tw1402766472223102803:Unit:=()
def PySem.W.Fast.tw3694124288509385494:Unit:=()
def PySem.W.Fast.tw780170737061502816:Unit:=()
def PySem.W.Fast.tw10285025294912949916:Unit:=()
def PySem.W.Fast.tw7948331990673941904:Unit:=()
def PySem.W.Fast.tw11473449559719709267:Unit:=()
def PySem.W.Fast.tw16170540325217940510:Unit:=()
def PySem.W.Fast.tw13057749994280801030:Unit:=()
def PySem.W.Fast.tw5643618087977621201:Unit:=()
def PySem.W.Fast.tw9021467274485219827:Unit:=()
def PySem.W.Fast.tw12664792192481931507:Unit:=()
def PySem.W.Fast.tw15001268921662725202:Unit:=()
def PySem.W.Fast.tw13468291857175915728:Unit:=()
def PySem.W.Fast.tw5350231246672885565:Unit:=()
def PySem.W.Fast.tw15459057740892220100:Unit:=()
def PySem.W.Fast.tw3715580089781524275:Unit:=()
def PySem.W.Fast.tw15029459622668638896:Unit:=()
def PySem.W.Fast.tw10162365959982537496:Unit:=()
def PySem.W.Fast.tw954918169945804110:Unit:=()
def PySem.W.Fast.tw5751414847287038438:Unit:=()
def PySem.W.Fast.tw10998493767817041069:Unit:=()
def PySem.W.Fast.tw11167420012496953328:Unit:=()
def PySem.W.Fast.tw7365642579599926845:Unit:=()
def PySem.W.Fast.tw15830326378014008622:Unit:=()
def PySem.W.Fast.tw5345894634754805063:Unit:=()
def PySem.W.Fast.tw297744365426189122:Unit:=()
def PySem.W.Fast.tw7474447845913565482:Unit:=()
def PySem.W.Fast.tw8177747423101945678:Unit:=()
def PySem.W.Fast.tw9661649014803778735:Unit:=()
def PySem.W.Fast.tw57254849342935103:Unit:=()
def PySem.W.Fast.tw5981372330306753852:Unit:=()
def PySem.W.Fast.tw14211228051047567816:Unit:=()
def PySem.W.Fast.tw6653407455677872543:Unit:=()
def PySem.W.Fast.tw5689824954405998367:Unit:=()
def PySem.W.Fast.tw13148395390779036190:Unit:=()
def PySem.W.Fast.tw7399076093038796846:Unit:=()
def PySem.W.Fast.tw10676067879849294569:Unit:=()
def PySem.W.Fast.tw14572239581101465155:Unit:=()
def PySem.W.Fast.tw5682887356070532628:Unit:=()
def PySem.W.Fast.tw7259786509849835503:Unit:=()
def PySem.W.Fast.tw4598892820661835191:Unit:=()
def PySem.W.Fast.tw1120091250757189213:Unit:=()
def PySem.W.Fast.tw11229495657480859517:Unit:=()
def PySem.W.Fast.tw3917864558038995719:Unit:=()
def PySem.W.Fast.tw10896389483471073674:Unit:=()
def PySem.W.Fast.tw10661221719797967008:Unit:=()
def PySem.W.Fast.tw837061598193087059:Unit:=()
def PySem.W.Fast.tw8336001303621119903:Unit:=()
def PySem.W.Fast.tw1846943732446820953:Unit:=()
def PySem.W.Fast.tw3474850909776392581:Unit:=()
def PySem.W.Fast.tw13858078230599547593:Unit:=()
def PySem.W.Fast.tw1384557736890497231:Unit:=()
def PySem.W.Fast.tw15079899846414194101:Unit:=()
def PySem.W.Fast.tw10470714931782300853:Unit:=()
def PySem.W.Fast.tw2333673670462390785:Unit:=()
def PySem.W.Fast.tw1025576011088240124:Unit:=()
def PySem.W.Fast.tw9066316481595042855:Unit:=()
def PySem.W.Fast.tw13180155908301845839:Unit:=()
def PySem.W.Fast.tw10443537488114835324:Unit:=()
def PySem.W.Fast.tw11789860633031274502:Unit:=()
def PySem.W.Fast.tw16664180995089222823:Unit:=()
def PySem.W.Fast.tw3763482660329565863:Unit:=()
def PySem.W.Fast.tw9259811164808100899:Unit:=()
def PySem.W.Fast.tw13534404988281456020:Unit:=()
def PySem.W.Fast.tw6342483262645171156:Unit:=()
def PySem.W.Fast.tw14160703849163101985:Unit:=()
def PySem.W.Fast.tw3083588281839812256:Unit:=()
def PySem.W.Fast.tw3446517055563726734:Unit:=()
def PySem.W.Fast.tw8564552767025129151:Unit:=()
def PySem.W.Fast.tw17714232919870524213:Unit:=()
def PySem.W.Fast.tw8855277561324935397:Unit:=()
def PySem.W.Fast.tw13642598749309456180:Unit:=()
def PySem.W.Fast.tw15036371698746812398:Unit:=()
def PySem.W.Fast.tw600397672444500604:Unit:=()
def PySem.W.Fast.tw4639402291830052964:Unit:=()
def PySem.W.Fast.tw11704077925201995509:Unit:=()
def PySem.W.Fast.tw7554956014866133715:Unit:=()
def PySem.W.Fast.tw15788684420899061292:Unit:=()
def PySem.W.Fast.tw7221959974770615562:Unit:=()
def PySem.W.Fast.tw16698976832157226628:Unit:=()
def PySem.W.Fast.tw8493861685386148249:Unit:=()
def PySem.W.Fast.tw3912380716589408708:Unit:=()
def PySem.W.Fast.tw1456974504067539111:Unit:=()
def PySem.W.Fast.tw9731970644263501453:Unit:=()
def PySem.W.Fast.tw4313456687445460467:Unit:=()
def PySem.W.Fast.tw11033664847253338980:Unit:=()
def PySem.W.Fast.tw16427905922772533041:Unit:=()
def PySem.W.Fast.tw7508874171228292809:Unit:=()
def PySem.W.Fast.tw17437141957419872649:Unit:=()
def PySem.W.Fast.tw9013499941221490736:Unit:=()
def PySem.W.Fast.tw5395335070695184614:Unit:=()
def PySem.W.Fast.tw12186352764322031391:Unit:=()
def PySem.W.Fast.tw3893252906811675098:Unit:=()
def PySem.W.Fast.tw3958892949926657868:Unit:=()
def PySem.W.Fast.tw2694641682530864606:Unit:=()
def PySem.W.Fast.tw6450978778590566256:Unit:=()
def PySem.W.Fast.tw6491422137031478113:Unit:=()
def PySem.W.Fast.tw8620516438988010038:Unit:=()
def PySem.W.Fast.tw3883142396281638014:Unit:=()
def PySem.W.Fast.tw1989927576998671991:Unit:=()
def PySem.W.Fast.tw17142442615129758984:Unit:=()
def PySem.W.Fast.tw5588978688584386186:Unit:=()
def PySem.W.Fast.tw8067314370519303511:Unit:=()
def PySem.W.Fast.tw13909532389242944804:Unit:=()
def PySem.W.Fast.tw4921422517325278837:Unit:=()
def PySem.W.Fast.tw5985705501280854100:Unit:=()
def PySem.W.Fast.tw6993785542869641495:Unit:=()
def PySem.W.Fast.tw18285676529320331240:Unit:=()
def PySem.W.Fast.tw13674950700779370865:Unit:=()
def PySem.W.Fast.tw12021693992862411642:Unit:=()
def PySem.W.Fast.tw9531162268119697703:Unit:=()
def PySem.W.Fast.tw3239191766220337233:Unit:=()
def PySem.W.Fast.tw6975825065475501583:Unit:=()
def PySem.W.Fast.tw4187782369452162646:Unit:=()
def PySem.W.Fast.tw2118113692359613968:Unit:=()
def PySem.W.Fast.tw3143871441100764687:Unit:=()
def PySem.W.Fast.tw18139174909049629510:Unit:=()
def PySem.W.Fast.tw613040988050644127:Unit:=()
def PySem.W.Fast.tw1071592270012281123:Unit:=()
def PySem.W.Fast.tw17562940719987044154:Unit:=()
def PySem.W.Fast.tw17433389367848200539:Unit:=()
def PySem.W.Fast.tw10301176712348389314:Unit:=()
def PySem.W.Fast.tw14935582823828629872:Unit:=()
def PySem.W.Fast.tw14755979196992428485:Unit:=()
def PySem.W.Fast.tw16570076402326322771:Unit:=()
def PySem.W.Fast.tw1882373193942044534:Unit:=()
def PySem.W.Fast.tw15532131467024427939:Unit:=()
def PySem.W.Fast.tw6588139269061651451:Unit:=()
def PySem.W.Fast.tw15290622499397072648:Unit:=()
def PySem.W.Fast.tw6135635518609452270:Unit:=()
def PySem.W.Fast.tw16919396104161495895:Unit:=()
def PySem.W.Fast.tw12484757866164191745:Unit:=()
def PySem.W.Fast.tw14371095331831858837:Unit:=()
def PySem.W.Fast.tw8033839060916124943:Unit:=()
def PySem.W.Fast.tw14635322949552085007:Unit:=()
def PySem.W.Fast.tw14884837729740161684:Unit:=()
def PySem.W.Fast.tw9624886163565924497:Unit:=()
def PySem.W.Fast.tw11715535760419803535:Unit:=()
def PySem.W.Fast.tw8020259300770478070:Unit:=()
def PySem.W.Fast.tw1033122726764657107:Unit:=()
def PySem.W.Fast.tw14674078914770711465:Unit:=()
def PySem.W.Fast.tw5774607763219650894:Unit:=()
def PySem.W.Fast.tw3547777941150874745:Unit:=()
def PySem.W.Fast.tw14417121792962586695:Unit:=()
def PySem.W.Fast.tw6384606385582905708:Unit:=()
def PySem.W.Fast.tw6838097210743839806:Unit:=()
def PySem.W.Fast.tw9428090786585941942:Unit:=()
def PySem.W.Fast.tw16820475506753513931:Unit:=()
def PySem.W.Fast.tw16246842844295275501:Unit:=()
def PySem.W.Fast.tw18327893369769935558:Unit:=()
def PySem.W.Fast.tw3436728630410150418:Unit:=()
def PySem.W.Fast.tw3548590571742911506:Unit:=()
def PySem.W.Fast.tw10371590233059671381:Unit:=()
def PySem.W.Fast.tw16968171626033306703:Unit:=()
def PySem.W.Fast.tw12436805561163527304:Unit:=()
def PySem.W.Fast.tw15938313291879572352:Unit:=()
def PySem.W.Fast.tw12939350170447866876:Unit:=()
def PySem.W.Fast.tw4544214303525188904:Unit:=()
def PySem.W.Fast.tw15760730615816683952:Unit:=()
def PySem.W.Fast.tw14049536356955462043:Unit:=()
def PySem.W.Fast.tw17438981114905415529:Unit:=()
def PySem.W.Fast.tw11900739688637492495:Unit:=()
def PySem.W.Fast.tw6608168527194446298:Unit:=()
def PySem.W.Fast.tw4615404559083937370:Unit:=()
def PySem.W.Fast.tw209289304997593033:Unit:=()
def PySem.W.Fast.tw3741368061960175953:Unit:=()
def PySem.W.Fast.tw17158656606404776444:Unit:=()
def PySem.W.Fast.tw3288945958466659673:Unit:=()
def PySem.W.Fast.tw11133359008902418525:Unit:=()
def PySem.W.Fast.tw929941654185517002:Unit:=()
def PySem.W.Fast.tw17285768905408341709:Unit:=()
def PySem.W.Fast.tw16224746828692117743:Unit:=()
def PySem.W.Fast.tw5770306262732027808:Unit:=()
def PySem.W.Fast.tw10048912131168590126:Unit:=()
def PySem.W.Fast.tw17629385189958263118:Unit:=()
def PySem.W.Fast.tw9656820401875641570:Unit:=()
def PySem.W.Fast.tw8517233496899826516:Unit:=()
def PySem.W.Fast.tw3677744045223190371:Unit:=()
def PySem.W.Fast.tw18014141371434964578:Unit:=()
def PySem.W.Fast.tw12361014645881519755:Unit:=()
def PySem.W.Fast.tw3197034817430357859:Unit:=()
def PySem.W.Fast.tw16200320645616529562:Unit:=()
def PySem.W.Fast.tw16465254780715426579:Unit:=()
def PySem.W.Fast.tw2604386170528981513:Unit:=()
def PySem.W.Fast.tw16412019164102043489:Unit:=()
def PySem.W.Fast.tw12213945429149384785:Unit:=()
def PySem.W.Fast.tw1269094229620969390:Unit:=()
def PySem.W.Fast.tw2691214183796797487:Unit:=()
def PySem.W.Fast.tw18095047137214337783:Unit:=()
def PySem.W.Fast.tw17012358036161490166:Unit:=()
def PySem.W.Fast.tw9116224973649126974:Unit:=()
def PySem.W.Fast.tw16857873558363341723:Unit:=()
def PySem.W.Fast.tw12306655749057675297:Unit:=()
def PySem.W.Fast.tw4733278158920690035:Unit:=()
def PySem.W.Fast.tw5412000618949718347:Unit:=()
def PySem.W.Fast.tw15904036624246293938:Unit:=()
def PySem.W.Fast.tw8759541905849677850:Unit:=()
def PySem.W.Fast.tw395732220761414143:Unit:=()
def PySem.W.Fast.tw12099367483326380732:Unit:=()
def PySem.W.Fast.tw2629294354787002542:Unit:=()
def PySem.W.Fast.tw11251472817176378593:Unit:=()
def PySem.W.Fast.tw13295354837765382332:Unit:=()
def PySem.W.Fast.tw9250815758078405208:Unit:=()
def PySem.W.Fast.tw13053781104924721930:Unit:=()
def PySem.W.Fast.tw18005590329734398621:Unit:=()
def PySem.W.Fast.tw428431636883414301:Unit:=()
def PySem.W.Fast.tw11824962216729820039:Unit:=()
def PySem.W.Fast.tw15023345507958965457:Unit:=()
def PySem.W.Fast.tw18367230477544047717:Unit:=()
def PySem.W.Fast.tw2064550257803001285:Unit:=()
def PySem.W.Fast.tw13445309482785972546:Unit:=()
def PySem.W.Fast.tw9812419700810197189:Unit:=()
def PySem.W.Fast.tw7374547283339387107:Unit:=()
def PySem.W.Fast.tw10874177583959059356:Unit:=()
def PySem.W.Fast.tw14917563736233902569:Unit:=()
def PySem.W.Fast.tw8323336940554444855:Unit:=()
def PySem.W.Fast.tw5784905068542086:Unit:=()
def PySem.W.Fast.tw3376740196085882505:Unit:=()
def PySem.W.Fast.tw3098194608202619452:Unit:=()
def PySem.W.Fast.tw2417524954720843356:Unit:=()
def PySem.W.Fast.tw9296855397503834480:Unit:=()
def PySem.W.Fast.tw8858787312196915168:Unit:=()
def PySem.W.Fast.tw12220542834292855557:Unit:=()
def PySem.W.Fast.tw9792463015051016251:Unit:=()
def PySem.W.Fast.tw13881678252180303136:Unit:=()
def PySem.W.Fast.tw15924976947627542076:Unit:=()
def PySem.W.Fast.tw14569041540357006125:Unit:=()
def PySem.W.Fast.tw12168791668463090262:Unit:=()
def PySem.W.Fast.tw18311125464781469002:Unit:=()
def PySem.W.Fast.tw7136488011034831820:Unit:=()
def PySem.W.Fast.tw3969002291057277015:Unit:=()
def PySem.W.Fast.tw16459653863891154473:Unit:=()
def PySem.W.Fast.tw15784853586034225678:Unit:=()
def PySem.W.Fast.tw1949503023362794544:Unit:=()
def PySem.W.Fast.tw13276266732996170263:Unit:=()
def PySem.W.Fast.tw7530852541538698955:Unit:=()
def PySem.W.Fast.tw8191411027668534204:Unit:=()
def PySem.W.Fast.tw9020124994045706854:Unit:=()
def PySem.W.Fast.tw9359188214128368282:Unit:=()
def PySem.W.Fast.tw3450790070142408037:Unit:=()
def PySem.W.Fast.tw5767199532466201595:Unit:=()
def PySem.W.Fast.tw17448320086964017712:Unit:=()
def PySem.W.Fast.tw10756772025355835726:Unit:=()
def PySem.W.Fast.tw163734933613778219:Unit:=()
def PySem.W.Fast.tw5232628693106145295:Unit:=()
def PySem.W.Fast.tw2471423046658378536:Unit:=()
def PySem.W.Fast.tw3277288061896868678:Unit:=()
def PySem.W.Fast.tw8889047660356570340:Unit:=()
def PySem.W.Fast.tw8000865740851364817:Unit:=()
def PySem.W.Fast.tw9490355266524197273:Unit:=()
def PySem.W.Fast.tw6059683930336619540:Unit:=()
def PySem.W.Fast.tw5470848953892209742:Unit:=()
def PySem.W.Fast.tw4245675044493059956:Unit:=()
def PySem.W.Fast.tw14976036082515908131:Unit:=()
def PySem.W.Fast.tw17563838088704916412:Unit:=()
def PySem.W.Fast.tw4159839548732574655:Unit:=()
def PySem.W.Fast.tw13035553476115722459:Unit:=()
def PySem.W.Fast.tw9383227531269322152:Unit:=()
def PySem.W.Fast.tw2237870651702133810:Unit:=()
def PySem.W.Fast.tw2040907800804109479:Unit:=()
def PySem.W.Fast.tw6884445918300521094:Unit:=()
def PySem.W.Fast.tw462953026722312953:Unit:=()
def PySem.W.Fast.tw11527292786631525114:Unit:=()
def PySem.W.Fast.tw11420070486895828299:Unit:=()
def PySem.W.Fast.tw14352462025985334700:Unit:=()
def PySem.W.Fast.tw237021273921537249:Unit:=()
def PySem.W.Fast.tw11890012169068806754:Unit:=()
def PySem.W.Fast.tw8009208229427552912:Unit:=()
def PySem.W.Fast.tw1840676458642260447:Unit:=()
def PySem.W.Fast.tw11992113428184734520:Unit:=()
def PySem.W.Fast.tw6355963323354087605:Unit:=()
def PySem.W.Fast.tw14569453147083114941:Unit:=()
def PySem.W.Fast.tw15263220209018387003:Unit:=()
def PySem.W.Fast.tw2021615977081555866:Unit:=()
def PySem.W.Fast.tw5075033263467649138:Unit:=()
def PySem.W.Fast.tw12879055376209424643:Unit:=()
def PySem.W.Fast.tw15843989532587076926:Unit:=()
def PySem.W.Fast.tw6586268484684536159:Unit:=()
def PySem.W.Fast.tw10941118598531798190:Unit:=()
def PySem.W.Fast.tw16637899710469507959:Unit:=()
def PySem.W.Fast.tw8932410869268915782:Unit:=()
def PySem.W.Fast.tw17336574845395174205:Unit:=()
def PySem.W.Fast.tw7994663286173456873:Unit:=()
def PySem.W.Fast.tw15272859532675728749:Unit:=()
def PySem.W.Fast.tw2122415632565769999:Unit:=()
def PySem.W.Fast.tw10720791437090461788:Unit:=()
def PySem.W.Fast.tw13675535791573766321:Unit:=()
def PySem.W.Fast.tw1851581242717374431:Unit:=()
def PySem.W.Fast.tw3689238239485303682:Unit:=()
def PySem.W.Fast.tw9269153215736377912:Unit:=()
def PySem.W.Fast.tw14877544210350718063:Unit:=()
def PySem.W.Fast.tw9614946027489655634:Unit:=()
def PySem.W.Fast.tw7517556013538688251:Unit:=()
def PySem.W.Fast.tw16547380243399686771:Unit:=()
def PySem.W.Fast.tw7157956500909070215:Unit:=()
def PySem.W.Fast.tw5019589379269934885:Unit:=()
def PySem.W.Fast.tw9887882275795433555:Unit:=()
def PySem.W.Fast.tw3095232396299014560:Unit:=()
def PySem.W.Fast.tw12811953665177608720:Unit:=()
def PySem.W.Fast.tw13303498934112572512:Unit:=()
def PySem.W.Fast.tw16093159444395065943:Unit:=()
def PySem.W.Fast.tw5720727158800174198:Unit:=()
def PySem.W.Fast.tw509535584192211333:Unit:=()
def PySem.W.Fast.tw15788069634559109127:Unit:=()
def PySem.W.Fast.tw11375002472142036323:Unit:=()
def PySem.W.Fast.tw17239613566067950275:Unit:=()
def PySem.W.Fast.tw15418161731918942009:Unit:=()
def PySem.W.Fast.tw8240245976735777155:Unit:=()
def PySem.W.Fast.tw421530967489115797:Unit:=()
def PySem.W.Fast.tw7601404163932029589:Unit:=()
def PySem.W.Fast.tw1408666363666033240:Unit:=()
def PySem.W.Fast.tw8929747081895287441:Unit:=()
def PySem.W.Fast.tw14581226948272861305:Unit:=()
def PySem.W.Fast.tw8046223001398742680:Unit:=()
def PySem.W.Fast.tw11742858772327993336:Unit:=()
def PySem.W.Fast.tw9888295644816556843:Unit:=()
def PySem.W.Fast.tw13471672471141537519:Unit:=()
def PySem.W.Fast.tw12133553853187988745:Unit:=()
def PySem.W.Fast.tw16166140732496975085:Unit:=()
def PySem.W.Fast.tw9624365051092463258:Unit:=()
def PySem.W.Fast.tw5994745851792072928:Unit:=()
def PySem.W.Fast.tw17416928205661509739:Unit:=()
def PySem.W.Fast.tw1566226945388897457:Unit:=()
def PySem.W.Fast.tw7294674808956684376:Unit:=()
def PySem.W.Fast.tw1485612383418953622:Unit:=()
def PySem.W.Fast.tw17333445920397621890:Unit:=()
def PySem.W.Fast.tw4796774558658029450:Unit:=()
def PySem.W.Fast.tw14717559558738709270:Unit:=()
def PySem.W.Fast.tw1797711178969782304:Unit:=()
def PySem.W.Fast.tw15698012114528577658:Unit:=()
def PySem.W.Fast.tw8534600301684201786:Unit:=()
def PySem.W.Fast.tw4354838997780412967:Unit:=()
def PySem.W.Fast.tw14480766561078494871:Unit:=()
def PySem.W.Fast.tw1120394526185688141:Unit:=()
def PySem.W.Fast.tw768166145938056470:Unit:=()
def PySem.W.Fast.tw16196287982583486758:Unit:=()
def PySem.W.Fast.tw3030407376988475416:Unit:=()
def PySem.W.Fast.tw2450244791286053258:Unit:=()
def PySem.W.Fast.tw16536802368905825306:Unit:=()
def PySem.W.Fast.tw17101581375763868189:Unit:=()
def PySem.W.Fast.tw17365804169139441818:Unit:=()
def PySem.W.Fast.tw7961661564723845191:Unit:=()
def PySem.W.Fast.tw11788526249340625755:Unit:=()
def PySem.W.Fast.tw17630840434281479685:Unit:=()
def PySem.W.Fast.tw10574665267747843739:Unit:=()
def PySem.W.Fast.tw8646796546475582898:Unit:=()
def PySem.W.Fast.tw7849724827835985548:Unit:=()
def PySem.W.Fast.tw6461874782023239089:Unit:=()
def PySem.W.Fast.tw10128693314099355002:Unit:=()
def PySem.W.Fast.tw5717508887236210164:Unit:=()
def PySem.W.Fast.tw8173178567843008323:Unit:=()
def PySem.W.Fast.tw9043913124831893504:Unit:=()
def PySem.W.Fast.tw12114603491356545253:Unit:=()
def PySem.W.Fast.tw12440150104787382246:Unit:=()
def PySem.W.Fast.tw2124995111650368992:Unit:=()
def PySem.W.Fast.tw10096278407948522201:Unit:=()
def PySem.W.Fast.tw4482109742742904793:Unit:=()
def PySem.W.Fast.tw10868206583757540689:Unit:=()
def PySem.W.Fast.tw5247419566310065798:Unit:=()
def PySem.W.Fast.tw12985881654783130036:Unit:=()
def PySem.W.Fast.tw1876923030687194928:Unit:=()
def PySem.W.Fast.tw7540444160013557670:Unit:=()
def PySem.W.Fast.tw2380461960256822048:Unit:=()
def PySem.W.Fast.tw16610642253389217483:Unit:=()
def PySem.W.Fast.tw11541571200559123115:Unit:=()
def PySem.W.Fast.tw15596953608694938771:Unit:=()
def PySem.W.Fast.tw16376895724651532878:Unit:=()
def PySem.W.Fast.tw12259703601990811203:Unit:=()
def PySem.W.Fast.tw11391546875559242669:Unit:=()
def PySem.W.Fast.tw3632092856359034128:Unit:=()
def PySem.W.Fast.tw11301411922664061765:Unit:=()
def PySem.W.Fast.tw17457156412396152382:Unit:=()
def PySem.W.Fast.tw4917361841834783267:Unit:=()
def PySem.W.Fast.tw72684460584638479:Unit:=()
def PySem.W.Fast.tw6831419327588719246:Unit:=()
def PySem.W.Fast.tw5395831455315813018:Unit:=()
def PySem.W.Fast.tw18163448163794497440:Unit:=()
def PySem.W.Fast.tw3091297025422175837:Unit:=()
def PySem.W.Fast.tw7313706822129181566:Unit:=()
def PySem.W.Fast.tw13160714256113484983:Unit:=()
def PySem.W.Fast.tw12208986050164989698:Unit:=()
def PySem.W.Fast.tw7377214187063001283:Unit:=()
def PySem.W.Fast.tw1715508763963759996:Unit:=()
def PySem.W.Fast.tw16954975343132473630:Unit:=()
def PySem.W.Fast.tw5577833200135405053:Unit:=()
def PySem.W.Fast.tw9972705892006316530:Unit:=()
def PySem.W.Fast.tw2225692602559857357:Unit:=()
def PySem.W.Fast.tw18187583558183911534:Unit:=()
def PySem.W.Fast.tw17984431669654104101:Unit:=()
def PySem.W.Fast.tw7779276201562549961:Unit:=()
def PySem.W.Fast.tw1739266299124744865:Unit:=()
def PySem.W.Fast.tw2853080979049414009:Unit:=()
def PySem.W.Fast.tw8045739015360129523:Unit:=()
def PySem.W.Fast.tw10564033553460322431:Unit:=()
def PySem.W.Fast.tw15542395088241195593:Unit:=()
def PySem.W.Fast.tw11891642692630645870:Unit:=()
def PySem.W.Fast.tw6989191120902777628:Unit:=()
def PySem.W.Fast.tw13624736629901107201:Unit:=()
def PySem.W.Fast.tw7274615716074203713:Unit:=()
def PySem.W.Fast.tw18040188238867030318:Unit:=()
def PySem.W.Fast.tw11519094189907570818:Unit:=()
def PySem.W.Fast.tw17689534763421808221:Unit:=()
def PySem.W.Fast.tw13905938498902289631:Unit:=()
def PySem.W.Fast.tw4232567952854634546:Unit:=()
def PySem.W.Fast.tw10576843160706293220:Unit:=()
def PySem.W.Fast.tw15534685291802023400:Unit:=()
def PySem.W.Fast.tw7531871250025886433:Unit:=()
def PySem.W.Fast.tw16660883074481837230:Unit:=()
def PySem.W.Fast.tw12540235441686089701:Unit:=()
def PySem.W.Fast.tw12367811220474297419:Unit:=()
def PySem.W.Fast.tw1284829525461889751:Unit:=()
def PySem.W.Fast.tw13136094742765934128:Unit:=()
def PySem.W.Fast.tw3472836845439235325:Unit:=()
def PySem.W.Fast.tw9111579910507291530:Unit:=()
def PySem.W.Fast.tw347680647233944301:Unit:=()
def PySem.W.Fast.tw16188185766131647490:Unit:=()
def PySem.W.Fast.tw11887313231491894494:Unit:=()
def PySem.W.Fast.tw10914105037426094810:Unit:=()
def PySem.W.Fast.tw4273837483046539587:Unit:=()
def PySem.W.Fast.tw9145853122052772325:Unit:=()
def PySem.W.Fast.tw14732098662038937473:Unit:=()
def PySem.W.Fast.tw9283881227872279802:Unit:=()
def PySem.W.Fast.tw9166195213643066293:Unit:=()
def PySem.W.Fast.tw13093997657901599235:Unit:=()
def PySem.W.Fast.tw10256753878078972266:Unit:=()
def PySem.W.Fast.tw17827988894537314884:Unit:=()
def PySem.W.Fast.tw4589064182856360138:Unit:=()
def PySem.W.Fast.tw14380064218337521573:Unit:=()
def PySem.W.Fast.tw3633496152103420752:Unit:=()
def PySem.W.Fast.tw13352506588377052309:Unit:=()
def PySem.W.Fast.tw4197414997306347555:Unit:=()
def PySem.W.Fast.tw4309037971163706272:Unit:=()
def PySem.W.Fast.tw14546981331990028921:Unit:=()
def PySem.W.Fast.tw10212340099503231579:Unit:=()
def PySem.W.Fast.tw15595405709462974470:Unit:=()
def PySem.W.Fast.tw14307763550954558312:Unit:=()
def PySem.W.Fast.tw4940665489125187926:Unit:=()
def PySem.W.Fast.tw11036385099787845101:Unit:=()
def PySem.W.Fast.tw17178739346084123869:Unit:=()
def PySem.W.Fast.tw14591797871239183678:Unit:=()
def PySem.W.Fast.tw8505977296387576159:Unit:=()
def PySem.W.Fast.tw1262066044551546334:Unit:=()
def PySem.W.Fast.tw3042169345811232069:Unit:=()
def PySem.W.Fast.tw6375315944710032097:Unit:=()
def PySem.W.Fast.tw8584162680060001568:Unit:=()
def PySem.W.Fast.tw4975425511974357839:Unit:=()
def PySem.W.Fast.tw9711908878114085158:Unit:=()
def PySem.W.Fast.tw12119718629265186407:Unit:=()
def PySem.W.Fast.tw3749428452072147453:Unit:=()
def PySem.W.Fast.tw1397543503301777519:Unit:=()
def PySem.W.Fast.tw6508061951721925768:Unit:=()
def PySem.W.Fast.tw4212035884844455706:Unit:=()
def PySem.W.Fast.tw7644255643069246580:Unit:=()
def PySem.W.Fast.tw2185518900194553970:Unit:=()
def PySem.W.Fast.tw8943419444986165558:Unit:=()
def PySem.W.Fast.tw12320995479770479523:Unit:=()
def PySem.W.Fast.tw13811537500960158435:Unit:=()
def PySem.W.Fast.tw9209218866089152758:Unit:=()
def PySem.W.Fast.tw16066196513100754030:Unit:=()
def PySem.W.Fast.tw13742220827217242344:Unit:=()
def PySem.W.Fast.tw5778799835039539144:Unit:=()
def PySem.W.Fast.tw10064370623357281223:Unit:=()
def PySem.W.Fast.tw4758038363784780588:Unit:=()
def PySem.W.Fast.tw15257967340894103686:Unit:=()
def PySem.W.Fast.tw8548832047650566549:Unit:=()
def PySem.W.Fast.tw18106333242571064873:Unit:=()
def PySem.W.Fast.tw7248866486641802157:Unit:=()
def PySem.W.Fast.tw17992903610738154484:Unit:=()
def PySem.W.Fast.tw14452952576721512714:Unit:=()
def PySem.W.Fast.tw17987944968995988434:Unit:=()
def PySem.W.Fast.tw12377122322463787477:Unit:=()
def PySem.W.Fast.tw9169755924531306805:Unit:=()
def PySem.W.Fast.tw7942464173123973638:Unit:=()
def PySem.W.Fast.tw18042609390403017764:Unit:=()
def PySem.W.Fast.tw14502427036426337424:Unit:=()
def PySem.W.Fast.tw18399050054777030193:Unit:=()
def PySem.W.Fast.tw6943343245303477439:Unit:=()
def PySem.W.Fast.tw13608345814086653746:Unit:=()
def PySem.W.Fast.tw16291759260455909031:Unit:=()
def PySem.W.Fast.tw7836130387020632137:Unit:=()
def PySem.W.Fast.tw5782187838671049132:Unit:=()
def PySem.W.Fast.tw18058641885992802915:Unit:=()
def PySem.W.Fast.tw6610079877676798111:Unit:=()
def PySem.W.Fast.tw14015569410112537080:Unit:=()
def PySem.W.Fast.tw6200789544364077995:Unit:=()
def PySem.W.Fast.tw18354307495019711476:Unit:=()
def PySem.W.Fast.tw10167837107314099200:Unit:=()
def PySem.W.Fast.tw6330849622073070966:Unit:=()
def PySem.W.Fast.tw12685649418465885281:Unit:=()
def PySem.W.Fast.tw8078196354189672148:Unit:=()
def PySem.W.Fast.tw15250233350470729126:Unit:=()
def PySem.W.Fast.tw17999774942490440688:Unit:=()
def PySem.W.Fast.tw11512402261735141144:Unit:=()
def PySem.W.Fast.tw14070438710556358667:Unit:=()
def PySem.W.Fast.tw8311854478027509858:Unit:=()
def PySem.W.Fast.tw2774777037711482504:Unit:=()
def PySem.W.Fast.tw17800809182675991447:Unit:=()
def PySem.W.Fast.tw17918076845910487446:Unit:=()
def PySem.W.Fast.tw13254799952415688590:Unit:=()
def PySem.W.Fast.tw3013580129034048809:Unit:=()
def PySem.W.Fast.tw7171908698439179290:Unit:=()
def PySem.W.Fast.tw12062303875221684101:Unit:=()
def PySem.W.Fast.tw17811461571115574929:Unit:=()
def PySem.W.Fast.tw2869462598612610633:Unit:=()
def PySem.W.Fast.tw8536027593220370805:Unit:=()
def PySem.W.Fast.tw9805392971647742177:Unit:=()
def PySem.W.Fast.tw9000626143078912851:Unit:=()
def PySem.W.Fast.tw12796812583475195864:Unit:=()
def PySem.W.Fast.tw14858030804252091236:Unit:=()
def PySem.W.Fast.tw10635686326169551142:Unit:=()
def PySem.W.Fast.tw8240486623874814712:Unit:=()
def PySem.W.Fast.tw327678307193089334:Unit:=()
def PySem.W.Fast.tw12504967751981969959:Unit:=()
def PySem.W.Fast.tw11746875235237462219:Unit:=()
def PySem.W.Fast.tw11125475856118683820:Unit:=()
def PySem.W.Fast.tw173716730075360081:Unit:=()
def PySem.W.Fast.tw14516593863162099336:Unit:=()
def PySem.W.Fast.tw16938160198002448937:Unit:=()
set_option maxRecDepth 100000 in
set_option maxHeartbeats 0 in
theorem PySem.Challenge.cw_forerun_k42_no_hand_holds : PySem.Challenge.rw_forerun_k42_no_hand.Holds := by
  w_on; o_law; k_head; (case hw => w_witness2)
  k_fill
  refine L2.walk_ofX (l := PySem.Challenge.rw_forerun_k42_no_hand) (n := 63) (k := 7) (x := "script") (sp := K42.sp_law) rfl (by decide) rfl ⟨rfl, by decide, by decide⟩ (fun w h Y => PySem.W.kIn_of Y) ?F ?S
  case F =>
    intro w mg fa h KX G hmg
    have T : ∃ t, K42.Txt (L2.KOf KX) mg t := by
      dsimp only [L2.KOf]
      refine' K42.txt_mk KX G ?qa0 ?qi0 ?ql0 ?qc0 ?qk0 ?qa1 ?qi1 ?ql1 ?qc1 ?qk1 ?qa2 ?qi2 ?ql2 ?qc2 ?qk2 ?qd2 ?qa3 ?qi3 ?ql3 ?qc3 ?qk3 ?qa4 ?qi4 ?ql4 ?qc4 ?qk4 ?qa5 ?qi5 ?ql5 ?qc5 ?qk5 ?qa6 ?qi6 ?ql6 ?qc6 ?qk6 ?qa7 ?qi7 ?ql7 ?qc7 ?qk7 ?qa8 ?qi8 ?ql8 ?qc8 ?qk8 ?qd8 ?qa9 ?qi9 ?ql9 ?qc9 ?qk9 ?qa10 ?qi10 ?ql10 ?qc10 ?qk10 ?qa11 ?qi11 ?ql11 ?qc11 ?qk11 ?qa12 ?qi12 ?ql12 ?qc12 ?qk12 ?qa13 ?qi13 ?ql13 ?qc13 ?qk13 ?qa14 ?qi14 ?ql14 ?qc14 ?qk14 ?qa15 ?qi15 ?ql15 ?qc15 ?qk15 ?qa16 ?ql16 ?qc16 ?qk16 ?qa17 ?qi17 ?ql17 ?qc17 ?qk17 ?qa18 ?qi18 ?ql18 ?qc18 ?qk18 ?qa19 ?qi19 ?ql19 ?qc19 ?qk19 ?qa20 ?qi20 ?ql20 ?qc20 ?qk20 ?qa21 ?ql21 ?qc21 ?qk21 ?qa22 ?ql22 ?qc22 ?qk22 ?qa23 ?qi23 ?ql23 ?qc23 ?qk23 ?qa24 ?qi24 ?ql24 ?qc24 ?qk24 ?qa25 ?qi25 ?ql25 ?qc25 ?qk25 ?qa26 ?qi26 ?ql26 ?qc26 ?qk26 ?qa27 ?ql27 ?qc27 ?qk27 ?qa28 ?qi28 ?ql28 ?qc28 ?qk28 ?qa29 ?qi29 ?ql29 ?qc29 ?qk29 ?qa30 ?ql30 ?qc30 ?qk30 ?qa31 ?ql31 ?qc31 ?qk31 ?qa32 ?ql32 ?qc32 ?qk32 ?qz0 ?qz1 ?qz2 ?qz3 ?qz4 ?qz5 ?qz6 ?qz7 ?qz8 ?qz9 ?qz10 ?qz11 ?qv0 ?qv1 ?qv2 ?qv3 ?qv4 ?qv5 ?qv6 ?qv7 ?qv8 ?qv9 ?qv10 ?qv11 ?qv12 ?qv13 ?qv14 ?qv15 ?pg0 ?pd0 ?po0 ?pe0 ?pm0_ ?pk0 ?pn0_0 ?pn0_1 ?pn0_2 ?pn0_3 ?pn0_4 ?pn0_5 ?pn0_6 ?pn0_7 ?pn0_8 ?pg4 ?pd4 ?po4 ?pe4 ?pm4_ ?pk4 ?pn4_0 ?pn4_1 ?pn4_2 ?pn4_3 ?pg5 ?pd5 ?po5 ?pe5 ?pm5_ ?pk5 ?pn5_0 ?pn5_1 ?pn5_2 ?pn5_3 ?pg14 ?pd14 ?po14 ?pe14 ?pm14_ ?pk14 ?pn14_0 ?pn14_1 ?pn14_2 ?pn14_3 ?pn14_4 ?pn14_5 ?pn14_6 ?pi15 ?pg15 ?pd15 ?po15 ?pe15 ?pm15_ ?pk15 ?rx0 ?ry0_0 ?ry0_1 ?ry0_2 ?ry0_3 ?ry0_4 ?ry0_5 ?ry0_6 ?ry0_7 ?re0_0 ?re0_1 ?ri0_0 ?ri0_1 ?rj0_0 ?rj0_1
      (case qv0 => k_is)
      (case qv1 => k_is)
      (case qv2 => k_is)
      (case qv3 => k_is)
      (case qv4 => k_is)
      (case qv5 => k_is)
      (case qv6 => k_is)
      (case qv7 => k_is)
      (case qv8 => k_is)
      (case qv9 => k_is)
      (case qv10 => k_is)
      (case qv11 => k_is)
      (case qv12 => k_is)
      (case qv13 => k_is)
      (case qv14 => k_is)
      (case qv15 => k_is)
      (case qa0 => k_is)
      (case qi0 => k_is)
      (case ql0 => k_is)
      (case qc0 => k_is)
      (case qk0 => k_is)
      (case qa1 => k_is)
      (case qi1 => k_is)
      (case ql1 => k_is)
      (case qc1 => k_is)
      (case qk1 => k_is)
      (case qa2 => k_is)
      (case qi2 => k_is)
      (case ql2 => k_is)
      (case qc2 => k_is)
      (case qk2 => k_is)
      (case qd2 => k_is)
      (case qa3 => k_is)
      (case qi3 => k_is)
      (case ql3 => k_is)
      (case qc3 => k_is)
      (case qk3 => k_is)
      (case qa4 => k_is)
      (case qi4 => k_is)
      (case ql4 => k_is)
      (case qc4 => k_is)
      (case qk4 => k_is)
      (case qa5 => k_is)
      (case qi5 => k_is)
      (case ql5 => k_is)
      (case qc5 => k_is)
      (case qk5 => k_is)
      (case qa6 => k_is)
      (case qi6 => k_is)
      (case ql6 => k_is)
      (case qc6 => k_is)
      (case qk6 => k_is)
      (case qa7 => k_is)
      (case qi7 => k_is)
      (case ql7 => k_is)
      (case qc7 => k_is)
      (case qk7 => k_is)
      (case qa8 => k_is)
      (case qi8 => k_is)
      (case ql8 => k_is)
      (case qc8 => k_is)
      (case qk8 => k_is)
      (case qd8 => k_is)
      (case qa9 => k_is)
      (case qi9 => k_is)
      (case ql9 => k_is)
      (case qc9 => k_is)
      (case qk9 => k_is)
      (case qa10 => k_is)
      (case qi10 => k_is)
      (case ql10 => k_is)
      (case qc10 => k_is)
      (case qk10 => k_is)
      (case qa11 => k_is)
      (case qi11 => k_is)
      (case ql11 => k_is)
      (case qc11 => k_is)
      (case qk11 => k_is)
      (case qa12 => k_is)
      (case qi12 => k_is)
      (case ql12 => k_is)
      (case qc12 => k_is)
      (case qk12 => k_is)
      (case qa13 => k_is)
      (case qi13 => k_is)
      (case ql13 => k_is)
      (case qc13 => k_is)
      (case qk13 => k_is)
      (case qa14 => k_is)
      (case qi14 => k_is)
      (case ql14 => k_is)
      (case qc14 => k_is)
      (case qk14 => k_is)
      (case qa15 => k_is)
      (case qi15 => k_is)
      (case ql15 => k_is)
      (case qc15 => k_is)
      (case qk15 => k_is)
      (case qa16 => k_is)
      (case ql16 => k_is)
      (case qc16 => k_is)
      (case qk16 => k_is)
      (case qa17 => k_is)
      (case qi17 => k_is)
      (case ql17 => k_is)
      (case qc17 => k_is)
      (case qk17 => k_is)
      (case qa18 => k_is)
      (case qi18 => k_is)
      (case ql18 => k_is)
      (case qc18 => k_is)
      (case qk18 => k_is)
      (case qa19 => k_is)
      (case qi19 => k_is)
      (case ql19 => k_is)
      (case qc19 => k_is)
      (case qk19 => k_is)
      (case qa20 => k_is)
      (case qi20 => k_is)
      (case ql20 => k_is)
      (case qc20 => k_is)
      (case qk20 => k_is)
      (case qa21 => k_is)
      (case ql21 => k_is)
      (case qc21 => k_is)
      (case qk21 => k_is)
      (case qa22 => k_is)
      (case ql22 => k_is)
      (case qc22 => k_is)
      (case qk22 => k_is)
      (case qa23 => k_is)
      (case qi23 => k_is)
      (case ql23 => k_is)
      (case qc23 => k_is)
      (case qk23 => k_is)
      (case qa24 => k_is)
      (case qi24 => k_is)
      (case ql24 => k_is)
      (case qc24 => k_is)
      (case qk24 => k_is)
      (case qa25 => k_is)
      (case qi25 => k_is)
      (case ql25 => k_is)
      (case qc25 => k_is)
      (case qk25 => k_is)
      (case qa26 => k_is)
      (case qi26 => k_is)
      (case ql26 => k_is)
      (case qc26 => k_is)
      (case qk26 => k_is)
      (case qa27 => k_is)
      (case ql27 => k_is)
      (case qc27 => k_is)
      (case qk27 => k_is)
      (case qa28 => k_is)
      (case qi28 => k_is)
      (case ql28 => k_is)
      (case qc28 => k_is)
      (case qk28 => k_is)
      (case qa29 => k_is)
      (case qi29 => k_is)
      (case ql29 => k_is)
      (case qc29 => k_is)
      (case qk29 => k_is)
      (case qa30 => k_is)
      (case ql30 => k_is)
      (case qc30 => k_is)
      (case qk30 => k_is)
      (case qa31 => k_is)
      (case ql31 => k_is)
      (case qc31 => k_is)
      (case qk31 => k_is)
      (case qa32 => k_is)
      (case ql32 => k_is)
      (case qc32 => k_is)
      (case qk32 => k_is)
      (case qz0 => k_is)
      (case qz1 => k_is)
      (case qz2 => k_is)
      (case qz3 => k_is)
      (case qz4 => k_is)
      (case qz5 => k_is)
      (case qz6 => k_is)
      (case qz7 => k_is)
      (case qz8 => k_is)
      (case qz9 => k_is)
      (case qz10 => k_is)
      (case qz11 => k_is)
      (case pg0 => k_is)
      (case pd0 => k_is)
      (case po0 => k_is)
      (case pe0 => k_is)
      (case pm0_ => k_is)
      (case pk0 => k_is)
      (case pn0_0 => k_is)
      (case pn0_1 => k_is)
      (case pn0_2 => k_is)
      (case pn0_3 => k_is)
      (case pn0_4 => k_is)
      (case pn0_5 => k_is)
      (case pn0_6 => k_is)
      (case pn0_7 => k_is)
      (case pn0_8 => k_is)
      (case pg4 => k_is)
      (case pd4 => k_is)
      (case po4 => k_is)
      (case pe4 => k_is)
      (case pm4_ => k_is)
      (case pk4 => k_is)
      (case pn4_0 => k_is)
      (case pn4_1 => k_is)
      (case pn4_2 => k_is)
      (case pn4_3 => k_is)
      (case pg5 => k_is)
      (case pd5 => k_is)
      (case po5 => k_is)
      (case pe5 => k_is)
      (case pm5_ => k_is)
      (case pk5 => k_is)
      (case pn5_0 => k_is)
      (case pn5_1 => k_is)
      (case pn5_2 => k_is)
      (case pn5_3 => k_is)
      (case pg14 => k_is)
      (case pd14 => k_is)
      (case po14 => k_is)
      (case pe14 => k_is)
      (case pm14_ => k_is)
      (case pk14 => k_is)
      (case pn14_0 => k_is)
      (case pn14_1 => k_is)
      (case pn14_2 => k_is)
      (case pn14_3 => k_is)
      (case pn14_4 => k_is)
      (case pn14_5 => k_is)
      (case pn14_6 => k_is)
      (case pi15 => k_is)
      (case pg15 => k_is)
      (case pd15 => k_is)
      (case po15 => k_is)
      (case pe15 => k_is)
      (case pm15_ => k_is)
      (case pk15 => k_is)
      (case rx0 => k_exc)
      (case ry0_0 => k_is)
      (case ry0_1 => k_is)
      (case ry0_2 => k_is)
      (case ry0_3 => k_is)
      (case ry0_4 => k_is)
      (case ry0_5 => k_is)
      (case ry0_6 => k_is)
      (case ry0_7 => k_is)
      (case re0_0 => kernel_rfl)
      (case re0_1 => kernel_rfl)
      (case ri0_0 => kit_is)
      (case ri0_1 => kit_is)
      (case rj0_0 => kit_is)
      (case rj0_1 => kit_is)
    obtain ⟨t, T⟩ := T
    have e0 := hmg.symm.trans T.m_law
    cases e0
    exact ⟨_, T.w_law, fun base _ _ => K42.ok_law T⟩
  case S => exact fun K H a ns hl _ hS => ⟨a, ns, rfl, hS, hl, fun _ => rfl⟩
