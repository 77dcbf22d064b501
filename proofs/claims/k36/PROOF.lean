import PyProof.Rows.All
import Wide.All
import OpenK.AllK
import Wide.FinOn
import Lean
import PyProof.EqAt
import PyProof.EqKinds
import PyProof.TupleCall
import PySem.Challenge.RW_forerun_k36_ways
import KE.IntBitsLaws
import KE.KDictList
import KE.KDictOf
import KE.KEqDict
import KE.KIntText
import KE.KItemsList
import KE.KRevIter
import KE.KSortAsk
import KE.KSortTup
import KE.KSorted
import KE.KTryMore
import KE.LcSums
import PyProof.AttrMissHeap
import PyProof.Conv_int_bool
import PyProof.DictItems
import PyProof.DictKinds
import PyProof.DictWalks
import PyProof.EnumFor
import PyProof.EnumMake
import PyProof.EqKinds
import PyProof.ListIndexNeg
import PyProof.MeetsStr
import PyProof.NeKinds
import PyProof.NsDelKeeps
import PyProof.P3Eq
import PyProof.Rows.EqDataRows
import PyProof.Rows.Range3
import PyProof.StrCalls2
import PyProof.StrLaws
import PyProof.StrLawsTight
import PyProof.StrOps
import PyProof.StrOps2
import PyProof.TupleIter
import PyProof.TupleKey
import PyProof.TupleOfSeq
import PyProof.ZipIter
import Wide.ObjOpen
import Wide.RegSB
set_option Elab.async false
set_option linter.all false
set_option maxRecDepth 100000
/-! THE HAND LAYER, for ints, bools, texts, own classes, LISTS and tuples (index, slices, in, append, pop ..), calls, loops. Paste it whole ahead of your own text; what your proof does not reach may be deleted. -/
namespace L2
open PySem PySem.Spec PyProof.Rows

/-- a key: an int or a str -/
abbrev Key := Sum Int Str
def keyIs : Key → Value → Bool
  | .inl k, v => Value.isInt k v
  | .inr x, v => Value.isStrOf x v
def keyH (w : World) : Key → Int
  | .inl k => hashInt k
  | .inr x => hashStr w x
theorem keyIs_shape : ∀ {k : Key} {v : Value}, keyIs k v = true → (∃ i t, k = Sum.inl i ∧ v = Value.int i t) ∨ (∃ x t, k = Sum.inr x ∧ v = Value.str x t)
  | .inl i, v, h => by
    obtain ⟨t, e⟩ := Value.isInt_shape (k := i) (v := v) h
    exact .inl ⟨i, t, rfl, e⟩
  | .inr x, v, h => by
    obtain ⟨t, e⟩ := Value.isStrOf_shape (x := x) (v := v) h
    exact .inr ⟨x, t, rfl, e⟩
theorem key_ll (a b : Int) : decide ((Sum.inl a : Key) = Sum.inl b) = (a == b) := by
  by_cases e : a = b
  · subst e; simp
  · have h : ¬ (Sum.inl a : Key) = Sum.inl b := fun q => e (Sum.inl.inj q)
    rw [decide_eq_false h]
    exact (beq_eq_false_iff_ne.mpr e).symm
theorem key_rr (a b : Str) : decide ((Sum.inr a : Key) = Sum.inr b) = decide (a = b) := by
  by_cases e : a = b
  · subst e; simp
  · have h : ¬ (Sum.inr a : Key) = Sum.inr b := fun q => e (Sum.inr.inj q)
    rw [decide_eq_false h, decide_eq_false e]
theorem key_lr (a : Int) (b : Str) : decide ((Sum.inl a : Key) = Sum.inr b) = false := decide_eq_false (fun q => nomatch q)
theorem key_rl (a : Str) (b : Int) : decide ((Sum.inr a : Key) = Sum.inl b) = false := decide_eq_false (fun q => nomatch q)

def mixKind (prog : Program) (w : World) : PySem.KeyKind prog w Key where
  is := keyIs
  hash := keyH w
  inj := fun v a b ha hb => by
    rcases keyIs_shape ha with ⟨i, t, rfl, rfl⟩ | ⟨x, t, rfl, rfl⟩
    · rcases keyIs_shape hb with ⟨j, u, rfl, e⟩ | ⟨y, u, rfl, e⟩
      · injection e with e1 _; rw [e1]
      · exact nomatch e
    · rcases keyIs_shape hb with ⟨j, u, rfl, e⟩ | ⟨y, u, rfl, e⟩
      · exact nomatch e
      · injection e with e1 _; rw [e1]
  byValue := fun k v h => by
    rcases keyIs_shape h with ⟨i, t, rfl, rfl⟩ | ⟨x, t, rfl, rfl⟩ <;> rfl
  pyHash := fun hv h => by
    rcases keyIs_shape hv with ⟨i, t, rfl, rfl⟩ | ⟨x, t, rfl, rfl⟩
    · exact wpAny_pyHash_int h
    · exact wpAny_pyHash_str h
  eqBool := fun hu hv h => by
    rcases keyIs_shape hu with ⟨i, t, rfl, rfl⟩ | ⟨x, t, rfl, rfl⟩
    · rcases keyIs_shape hv with ⟨j, u, rfl, rfl⟩ | ⟨y, u, rfl, rfl⟩
      · rw [key_ll] at h; exact wpAny_eqBool_int h
      · rw [key_lr] at h; exact SeqAt.EqAt.int_str i t y u _ _ _ _ h
    · rcases keyIs_shape hv with ⟨j, u, rfl, rfl⟩ | ⟨y, u, rfl, rfl⟩
      · rw [key_rl] at h; exact SeqAt.EqAt.str_int x t j u _ _ _ _ h
      · rw [key_rr] at h; exact wpAny_eqBool_str h
  «strs» := fun k x t v h => by
    rcases keyIs_shape h with ⟨i, u, rfl, e⟩ | ⟨y, u, rfl, e⟩
    · exact nomatch e
    · injection e with e1 _
      subst e1
      cases v <;> rfl

end L2

namespace L2
open PySem PySem.Spec PyProof.Rows

/-- a value, without the heap -/
inductive V where
  | non | bl (b : Bool) | int (i : Int) | str (x : Str) | byt (b : Array UInt8) | flt (b : UInt64) | ref (a : Addr) | ty (n : String)
  deriving DecidableEq

def RelV : V → Value → Prop
  | .non, u => u = Value.none
  | .bl b, u => u = Value.bool b
  | .int i, u => ∃ t, u = Value.int i t
  | .str x, u => ∃ t, u = Value.str x t
  | .byt b, u => ∃ t, u = Value.bytes b t
  | .flt b, u => ∃ t, u = Value.float b t
  | .ref a, u => u = Value.ref a
  | .ty n, u => u = Value.type n

abbrev Vals : List V → List Value → Prop := Paired RelV
theorem Vals.length {xs : List V} {us : List Value} (r : Vals xs us) : xs.length = us.length := Paired.length r
theorem Vals.get : ∀ {xs : List V} {us : List Value} {i : Nat} {x : V}, Vals xs us → xs[i]? = some x → ∃ u, us[i]? = some u ∧ RelV x u
  | _, _, _, _, .nil, e => by simp at e
  | _, _, 0, _, .cons r _, e => by simp at e; subst e; exact ⟨_, rfl, r⟩
  | _, _, i + 1, x, .cons _ t, e => by
    obtain ⟨u, h1, h2⟩ := Vals.get (i := i) (x := x) t (by simpa using e)
    exact ⟨u, by simpa using h1, h2⟩
theorem Vals.append : ∀ {xs ys : List V} {us ws : List Value}, Vals xs us → Vals ys ws → Vals (xs ++ ys) (us ++ ws)
  | _, _, _, _, .nil, s => s
  | _, _, _, _, .cons r t, s => .cons r (Vals.append t s)
def RelO : Option V → Option Value → Prop
  | some v, some u => RelV v u
  | none, none => True
  | _, _ => False
def KV {κ : Type} : List (κ × V) → List (κ × Value) → Prop := Paired fun (p : κ × V) (q : κ × Value) => p.1 = q.1 ∧ RelV p.2 q.2

/-- a key of a dict (00_mix): an int or a text -/
def kV : Key → V
  | .inl i => .int i
  | .inr x => .str x

/-- what stands at a tracked address -/
inductive HO where
  /-- a list -/
  | lst (xs : List V)
  /-- a tuple (never changes) -/
  | tup (xs : List V)
  /-- a dict whose keys are ints and texts; one whose keys are tuples of ints and texts (the empty one is both) -/
  | dK (kvs : List (Key × V)) | dT (kvs : List (List Key × V))
  /-- a set of ints: its members, its size -/
  | set (S : Int → Bool) (n : Nat)
  /-- an instance of the class at C, its dict at dx, its attributes -/
  | ins (C dx : Addr) (fs : List (Str × V))
  /-- the dict of the instance at x -/
  | own (x : Addr)
  /-- the dict of an exception -/
  | xd (fs : List (Str × V))
  /-- a bound method, f of x -/
  | met (f x : Addr)
  /-- a range object lo, lo + 1, .. below hi -/
  | rng (lo hi : Int)
  /-- a thing that is known to the object (the script; a dict while a loop walks it): read, never written while it is so -/
  | frz (o : Obj) (u : HO)
  /-- a code object's table -/
  | tbl (ps : Array Value)
  /-- any other thing, by what is true of its one object (a def of one's own: SetO a S n := HO.ext fun h => ..) -/
  | ext (φ : Heap → Prop)

abbrev Hp := Addr → Option HO
def upd (H : Hp) (a : Addr) (o : HO) : Hp := fun b => if b = a then some o else H b
theorem upd_same {H : Hp} {a : Addr} {o : HO} : upd H a o a = some o := by unfold upd; rw [if_pos rfl]
theorem upd_ne {H : Hp} {a b : Addr} {o : HO} (h : b ≠ a) : upd H a o b = H b := by unfold upd; rw [if_neg h]
/-- two objects of different content stand apart -/
theorem ne_of {H : Hp} {a b : Addr} {o u : HO} (h : H a = some o) (h' : H b = some u) (d : o ≠ u) : a ≠ b := by
  intro e; subst e; rw [h] at h'; exact d (Option.some.inj h')
theorem ne_of_none {H : Hp} {a b : Addr} {o : HO} (h : H a = some o) (h' : H b = none) : a ≠ b := by
  intro e; subst e; rw [h] at h'; cases h'

section
variable (P : Program) (w : World)
def ObjOk (H : Hp) (h : Heap) (a : Addr) : HO → Prop
  | .lst xs => xs.length ≤ sizeLine ∧ ∃ (its : List Value) (n : Nat), Vals xs its ∧ h.get? a = some { cls := .type "list", data := .seq its.toArray n }
  | .tup xs => xs.length ≤ sizeLine ∧ ∃ its : List Value, Vals xs its ∧ IsTup h a its.toArray
  | .dK kvs => kvs.length ≤ sizeLine ∧ (a == sysModules) = false ∧ ∃ vs, KV kvs vs ∧ h.DictOf (mixKind P w) a vs
  | .dT kvs => kvs.length ≤ sizeLine ∧ (a == sysModules) = false ∧ ∃ xs : List (List Key × Addr × Value),
      Paired (fun (p : List Key × V) (q : List Key × Addr × Value) => p.1 = q.1 ∧ H q.2.1 = some (.tup (p.1.map kV)) ∧ RelV p.2 q.2.2) kvs xs ∧
      ∃ o es ep, h.get? a = some o ∧ o.ExactDict ∧ o.data = .dict es ep ∧ es.toList = xs.map (entryOfKey (tupleKind (mixKind P w))) ∧ (xs.map (·.1)).Nodup
  | .set S n => h.SetOf (intKind P w) a S n
  | .ins C dx fs => H dx = some (.own a) ∧ fs.length ≤ 1000 ∧ dx ≠ a ∧ h.get? a = some (PySem.W.instObj C dx) ∧
      ∃ mA, h.Ns1 dx mA ∧ (∀ f, RelO (fs.lookup f) (mA f)) ∧ PySem.Within mA (fs.map (·.1))
  | .own _ => ∃ o, h.get? a = some o
  | .xd fs => ∃ mA, h.Ns1 a mA ∧ ∀ f, RelO (fs.lookup f) (mA f)
  | .rng lo hi => ∃ t u v, h.get? a = some { cls := .type "range", data := .fields #[.int lo t, .int hi u, .int 1 v] }
  | .frz o u => h.get? a = some o ∧ ObjOk H h a u
  | .tbl ps => h.get? a = some { cls := .none, data := .fields ps }
  | .met f x => h.get? a = some (PySem.W.methodObj (.ref f) (.ref x))
  | .ext φ => φ h ∧ (∃ o, h.get? a = some o) ∧ ∀ h1 h2 : Heap, φ h1 → (∀ o, h1.get? a = some o → h2.get? a = some o) → φ h2
/-- the abstract heap is held -/
def HOk (H : Hp) (h : Heap) : Prop := ∀ a o, H a = some o → ObjOk P w H h a o
end

section
variable {P : Program} {w : World} {H H' : Hp} {h h' : Heap} {a : Addr} {o : HO}
theorem ObjOk.lt (x : ObjOk P w H h a o) : a < h.objs.size := by
  cases o with
  | lst xs => obtain ⟨_, _, _, _, e⟩ := x; exact Heap.lt_size e
  | tup xs => obtain ⟨_, _, _, p⟩ := x; exact p.lt
  | dK kvs => obtain ⟨_, _, _, _, o, _, _, e, _⟩ := x; exact Heap.lt_size e
  | dT kvs => obtain ⟨_, _, _, _, o, _, _, e, _⟩ := x; exact Heap.lt_size e
  | set S n => obtain ⟨o, _, _, _, e, _⟩ := x; exact Heap.lt_size e
  | ins C dx fs => obtain ⟨_, _, _, e, _⟩ := x; exact Heap.lt_size e
  | own y => obtain ⟨_, e⟩ := x; exact Heap.lt_size e
  | xd fs => obtain ⟨_, ⟨_, _, _, e, _⟩, _⟩ := x; exact Heap.lt_size e
  | rng lo hi => obtain ⟨_, _, _, e⟩ := x; exact Heap.lt_size e
  | frz ob u => obtain ⟨e, _⟩ := x; exact Heap.lt_size e
  | tbl ps => exact Heap.lt_size (show h.get? a = some _ from x)
  | met f y => exact Heap.lt_size (show h.get? a = some _ from x)
  | ext φ => obtain ⟨_, ⟨_, e⟩, _⟩ := x; exact Heap.lt_size e
theorem Paired.mapP {α β : Type} {F G : α → β → Prop} : ∀ {l₁ : List α} {l₂ : List β}, Paired F l₁ l₂ → (∀ a b, F a b → G a b) → Paired G l₁ l₂
  | _, _, .nil, _ => .nil
  | _, _, .cons r t, f => .cons (f _ _ r) (Paired.mapP t f)
/-- what an object's description leans on: its own object, its own dict, the tuples -/
theorem ObjOk.stay (x : ObjOk P w H h a o) (k : ∀ b u, (b = a ∨ H b = some (.own a)) → h.get? b = some u → h'.get? b = some u)
    (ho : ∀ b, H b = some (.own a) → H' b = some (.own a)) (ht : ∀ b xs, H b = some (.tup xs) → H' b = some (.tup xs)) : ObjOk P w H' h' a o := by
  induction o with
  | lst xs => obtain ⟨z, its, n, r, e⟩ := x; exact ⟨z, its, n, r, k _ _ (.inl rfl) e⟩
  | tup xs => obtain ⟨z, its, r, ob, e, c⟩ := x; exact ⟨z, its, r, ob, k _ _ (.inl rfl) e, c⟩
  | dK kvs => obtain ⟨z, y, vs, r, ob, es, ep, e, c⟩ := x; exact ⟨z, y, vs, r, ob, es, ep, k _ _ (.inl rfl) e, c⟩
  | dT kvs =>
    obtain ⟨z, y, xs, r, ob, es, ep, e, c⟩ := x
    exact ⟨z, y, xs, Paired.mapP r fun p q z => ⟨z.1, ht _ _ z.2.1, z.2.2⟩, ob, es, ep, k _ _ (.inl rfl) e, c⟩
  | set S n => obtain ⟨ob, es, ep, t, e, c⟩ := x; exact ⟨ob, es, ep, t, k _ _ (.inl rfl) e, c⟩
  | ins C dx fs =>
    obtain ⟨d, z, ne, e, mA, ⟨od, es, ep, e2, c⟩, r⟩ := x
    exact ⟨ho _ d, z, ne, k _ _ (.inl rfl) e, mA, ⟨od, es, ep, k _ _ (.inr d) e2, c⟩, r⟩
  | own y => obtain ⟨ob, e⟩ := x; exact ⟨ob, k _ _ (.inl rfl) e⟩
  | xd fs => obtain ⟨mA, ⟨od, es, ep, e, c⟩, r⟩ := x; exact ⟨mA, ⟨od, es, ep, k _ _ (.inl rfl) e, c⟩, r⟩
  | rng lo hi => obtain ⟨t, u, v, e⟩ := x; exact ⟨t, u, v, k _ _ (.inl rfl) e⟩
  | frz ob u ih => obtain ⟨e, q⟩ := x; exact ⟨k _ _ (.inl rfl) e, ih q⟩
  | tbl ps =>
    have e : h.get? a = some { cls := .none, data := .fields ps } := x
    show h'.get? a = some { cls := .none, data := .fields ps }
    exact k a _ (.inl rfl) e
  | met f y =>
    have e : h.get? a = some (PySem.W.methodObj (.ref f) (.ref y)) := x
    show h'.get? a = some (PySem.W.methodObj (.ref f) (.ref y))
    exact k a _ (.inl rfl) e
  | ext φ => obtain ⟨p, ⟨o, e⟩, st⟩ := x; exact ⟨st _ _ p fun o q => k _ _ (.inl rfl) q, ⟨o, k _ _ (.inl rfl) e⟩, st⟩
theorem HOk.lt (x : HOk P w H h) (e : H a = some o) : a < h.objs.size := (x a o e).lt
theorem HOk.fresh (x : HOk P w H h) (e : h.objs.size ≤ a) : H a = none := by
  cases q : H a with
  | none => rfl
  | some u => exact absurd (Nat.lt_of_lt_of_le (x.lt q) e) (Nat.lt_irrefl _)
/-- every object of the heap is kept -/
theorem HOk.kept (x : HOk P w H h) (k : ∀ b u, h.get? b = some u → h'.get? b = some u) : HOk P w H h' := fun a o e =>
  (x a o e).stay (fun b u _ q => k b u q) (fun _ q => q) fun _ _ q => q
/-- a new object is laid and tracked -/
theorem HOk.laid (x : HOk P w H h) (k : ∀ b u, h.get? b = some u → h'.get? b = some u) (hp : h.objs.size ≤ a) (new : ObjOk P w (upd H a o) h' a o) : HOk P w (upd H a o) h' := fun b u e => by
  have hn := x.fresh hp
  by_cases hb : b = a
  · subst hb; rw [upd_same] at e; cases e; exact new
  · rw [upd_ne hb] at e
    exact (x b u e).stay (fun c v _ q => k c v q) (fun c q => by rw [upd_ne (ne_of_none q hn)]; exact q) fun c xs q => by rw [upd_ne (ne_of_none q hn)]; exact q
end

/-- what may be read as u: it is u, or a known u -/
def Rd (H : Hp) (a : Addr) (u : HO) : Prop := H a = some u ∨ ∃ o, H a = some (.frz o u)
theorem Rd.ok {P : Program} {w : World} {H : Hp} {h : Heap} {a : Addr} {u : HO} (r : Rd H a u) (x : HOk P w H h) : ObjOk P w H h a u := by
  rcases r with r | ⟨o, r⟩
  · exact x a u r
  · obtain ⟨_, q⟩ := x a _ r
    exact q
/-- what may be written -/
def Mut : Option HO → Prop
  | some (.lst _) => True
  | some (.dK _) => True
  | some (.dT _) => True
  | some (.set _ _) => True
  | some (.ins _ _ _) => True
  | some (.ext _) => True
  | _ => False
section
variable {P : Program} {w : World} {H : Hp} {h h' : Heap} {x e : Addr} {o' : HO}
/-- the object at e is changed: x itself, or the dict of the instance x -/
theorem HOk.write (ok : HOk P w H h) (mu : Mut (H x)) (he : e = x ∨ H e = some (.own x)) (k : ∀ b u, b ≠ e → h.get? b = some u → h'.get? b = some u) (heo : ∃ u, h'.get? e = some u)
    (new : ObjOk P w (upd H x o') h' x o') : HOk P w (upd H x o') h' := fun b u q => by
  have nown : ∀ c y, H c = some (.own y) → c ≠ x := fun c y r z => by subst z; rw [r] at mu; exact mu
  have ntup : ∀ c xs, H c = some (.tup xs) → c ≠ x := fun c xs r z => by subst z; rw [r] at mu; exact mu
  by_cases hb : b = x
  · subst hb; rw [upd_same] at q; cases q; exact new
  · rw [upd_ne hb] at q
    by_cases hbe : b = e
    · have q' : H b = some (.own x) := by
        rcases he with z | z
        · exact absurd (hbe.trans z) hb
        · rw [hbe]; exact z
      rw [q] at q'; cases q'
      obtain ⟨v, hv⟩ := heo
      exact ⟨v, by rw [hbe]; exact hv⟩
    · refine (ok b u q).stay (fun c v hc r => k c v ?_ r) (fun c r => by rw [upd_ne (nown c b r)]; exact r) fun c xs r => by rw [upd_ne (ntup c xs r)]; exact r
      rcases hc with rfl | hc
      · exact hbe
      · rintro rfl
        rcases he with z | z
        · exact nown c b hc z
        · rw [hc] at z; cases z; exact hb rfl
end

/-! ### kept unless tracked; of the frames at fs (the callers') the slots may change (an exception that passes writes there); of the records at ex (iterators) nothing is said -/
structure Un (fs ex : List Addr) (H H' : Hp) (h h' : Heap) : Prop where
  keep : ∀ b o, h.get? b = some o → H b = none → b ∉ fs → b ∉ ex → h'.get? b = some o
  slot : ∀ b o, h.get? b = some o → H b = none → b ∈ fs → b ∉ ex → ∃ sl, h'.get? b = some { o with slots := sl }
  free : ∀ b o, h.get? b = some o → H b = none → b ∉ ex → H' b = none
  there : ∀ b o, h.get? b = some o → b ∉ ex → ∃ o', h'.get? b = some o'
  tups : ∀ b xs, H b = some (.tup xs) → H' b = some (.tup xs)
  frzs : ∀ b o u, H b = some (.frz o u) → H' b = some (.frz o u)
  tbls : ∀ b ps, H b = some (.tbl ps) → ∃ more, H' b = some (.tbl (ps ++ more))
section
variable {fs fs' ex ex' : List Addr} {H H1 H2 : Hp} {h h1 h2 h' : Heap} {a x e : Addr} {o : HO}
theorem Un.any (u : Un fs ex H H1 h h1) {b : Addr} {ob : Obj} (q : h.get? b = some ob) (n : H b = none) (hx : b ∉ ex) : ∃ sl, h1.get? b = some { ob with slots := sl } := by
  by_cases hb : b ∈ fs
  · exact u.slot b ob q n hb hx
  · exact ⟨ob.slots, u.keep b ob q n hb hx⟩
theorem Un.kept (k : ∀ b u, h.get? b = some u → h'.get? b = some u) : Un fs ex H H h h' :=
  ⟨fun b ob q _ _ _ => k b ob q, fun b ob q _ _ _ => ⟨ob.slots, k b ob q⟩, fun _ _ _ n _ => n, fun b ob q _ => ⟨ob, k b ob q⟩, fun _ _ q => q, fun _ _ _ q => q, fun _ ps q => ⟨#[], by rw [q]; simp⟩⟩
theorem Un.refl : Un fs ex H H h h := Un.kept fun _ _ q => q
theorem Un.laid (k : ∀ b u, h.get? b = some u → h'.get? b = some u) (hp : h.objs.size ≤ a) (hn : H a = none) : Un fs ex H (upd H a o) h h' where
  keep := fun b u q _ _ _ => k b u q
  slot := fun b u q _ _ _ => ⟨u.slots, k b u q⟩
  free := fun b u q n _ => by rw [upd_ne (Nat.ne_of_lt (Nat.lt_of_lt_of_le (Heap.lt_size q) hp))]; exact n
  there := fun b u q _ => ⟨u, k b u q⟩
  tups := fun b xs q => by rw [upd_ne (ne_of_none q hn)]; exact q
  frzs := fun b u xs q => by rw [upd_ne (ne_of_none q hn)]; exact q
  tbls := fun b ps q => ⟨#[], by rw [upd_ne (ne_of_none q hn), q]; simp⟩
theorem Un.write (mu : Mut (H x)) (he : e = x ∨ H e = some (.own x)) (k : ∀ b u, b ≠ e → h.get? b = some u → h'.get? b = some u) (heo : ∃ u, h'.get? e = some u) : Un fs ex H (upd H x o) h h' := by
  have hx : ∀ b, H b = none → b ≠ x := fun b n z => by subst z; rw [n] at mu; exact mu
  have hb : ∀ b, H b = none → b ≠ e := fun b n z => by
    subst z
    rcases he with r | r
    · exact hx b n r
    · rw [n] at r; cases r
  have hm : ∀ b u, H b = some u → ¬ Mut (some u) → b ≠ x := fun b u q nm z => by subst z; rw [q] at mu; exact nm mu
  refine ⟨fun b u q n _ _ => k b u (hb b n) q, fun b u q n _ _ => ⟨u.slots, k b u (hb b n) q⟩, fun b u q n _ => by rw [upd_ne (hx b n)]; exact n, fun b u q _ => ?_,
    fun b xs q => by rw [upd_ne (hm b _ q fun z => z)]; exact q, fun b u xs q => by rw [upd_ne (hm b _ q fun z => z)]; exact q, fun b ps q => ⟨#[], by rw [upd_ne (hm b _ q fun z => z), q]; simp⟩⟩
  by_cases hbe : b = e
  · subst hbe; exact heo
  · exact ⟨u, k b u hbe q⟩
end

/-! ### the heap without what is tracked -/
def trk (h : Heap) (H : Hp) : List Addr := (List.range h.objs.size).filter fun a => (H a).isSome
def hidT (h : Heap) (H : Hp) : Heap := PySem.W.hideAll h (trk h H)
theorem hidT_size (h : Heap) (H : Hp) : (hidT h H).objs.size = h.objs.size := PySem.W.hideAll_size _ _
theorem hidT_get {h : Heap} {H : Hp} {b : Addr} {o : Obj} (e : h.get? b = some o) (n : H b = none) : (hidT h H).get? b = some o :=
  PySem.W.hideAll_get _ e fun hm => by
    have q : (H b).isSome = true := (List.mem_filter.mp hm).2
    rw [n] at q; simp at q
theorem of_hidT {h : Heap} {H : Hp} {b : Addr} {o : Obj} (e : (hidT h H).get? b = some o) : h.get? b = some o ∧ H b = none := by
  have e' : h.get? b = some o := PySem.W.of_hideAll (trk h H) e
  refine ⟨e', ?_⟩
  cases q : H b with
  | none => rfl
  | some x =>
    have hm : b ∈ trk h H := List.mem_filter.mpr ⟨List.mem_range.mpr (Heap.lt_size e'), by simp [q]⟩
    have z : (hidT h H).get? b = none := PySem.W.hideAll_none (trk h H) hm
    rw [z] at e; cases e

/-! ### OpenK's ledger, filled with every new object but one -/
def allNews (g h : Heap) (L : Addr) : List (Addr × Obj) := (List.range h.objs.size).filterMap fun a => if a = L ∨ (g.get? a).isSome = true then none else (h.get? a).map fun o => (a, o)
def rest (g h : Heap) (L d : Addr) : List (Addr × Obj) := (allNews g h L).filter fun p => decide (p.1 ≠ d)
end L2

namespace L2
open PySem PySem.Spec PyProof.Rows

/-- the module's facts, over the base: the heap at the law's entry without what is tracked there -/
structure Mod (K : PySem.W.Frag) (mg : Str → Option Value) (base : Heap) : Prop where
  kin : K.In base
  glob : base.Ns mainGlobals mg
  blt : ∃ mb, base.Ns builtinsNs mb ∧ ∀ x : Str, x ≠ "__name__" → mb x = bootBuiltins x
  nolimit : base.NoLimit

set_option genSizeOf false in
set_option genInjectivity false in
structure Cx where
  prog : Program
  w : World
  K : PySem.W.Frag
  mg : Str → Option Value
  base : Heap
  A : Around
  N : List Str
  s₀ : Shared
  H₀ : Hp
  env : Env
  outer : List Env
  stack : List Env
  ex : List Addr
  fn : Str → Bool
  calm : Bool
  pn : List (Addr × Obj)
  xe : Value → Shared → Prop
/-- the callers' frames -/
def frs (l : List Env) : List Addr := l.filterMap (·.frame)
abbrev Cx.fs (X : Cx) : List Addr := frs X.outer

def Vis (sc : Scope) (x : Str) : Prop := sc.names.lookup x = some .local ∨ sc.names.lookup x = some .cell ∨ sc.names.lookup x = some .free
def Loc (sc : Scope) (x : Str) : Prop := sc.names.lookup x = some .local ∨ sc.names.lookup x = some .cell
def Look (env : Env) (h : Heap) (m : Str → Option Value) (x : Str) (u : Value) : Prop :=
  (env.kindOf x = some .local ∧ m x = some u) ∨ ((env.kindOf x = some .cell ∨ env.kindOf x = some .free) ∧ ∃ c, env.cells.lookup x = some c ∧ h.IsCell c (some u))

structure Cx.Ok (X : Cx) : Prop where
  mod : Mod X.K X.mg X.base
  kind : X.env.scope.kind = .function
  glob : X.env.globals = mainGlobals
  blt : X.env.builtins = builtinsNs
  above : X.s₀.heap.objs.size ≤ X.env.locals
  inj : ∀ x y c, X.env.cells.lookup x = some c → X.env.cells.lookup y = some c → x = y
  has : ∀ x, (X.env.kindOf x = some .cell ∨ X.env.kindOf x = some .free) → ∃ c, X.env.cells.lookup x = some c
  cab : ∀ x c, X.fn x = true → X.env.cells.lookup x = some c → X.s₀.heap.objs.size ≤ c
  hd : X.calm = true → X.A.handled = none
  frames : X.A.frames = some X.stack
  stk : X.stack = X.outer ∨ (X.stack = X.env :: X.outer ∧ X.env.frame = some X.env.locals)
  exf : ∀ b ∈ X.ex, b ≠ X.env.locals ∧ ∀ x c, X.env.cells.lookup x = some c → c ≠ b
  bs : ∀ b o, X.base.get? b = some o → X.s₀.heap.get? b = some o ∧ X.H₀ b = none
  bsz : X.base.objs.size ≤ X.s₀.heap.objs.size
  noex : ∀ b o, X.base.get? b = some o → b ∉ X.ex
  exfs : ∀ b ∈ X.ex, b ∉ X.fs
  funs : X.s₀.heap.FunFrames X.base X.outer
  frf : ∀ b ∈ X.fs, X.H₀ b = none

structure Inv (X : Cx) (pins : List (Addr × Obj)) (σ : List (Option V)) (H : Hp) (s : Shared) : Prop where
  ok : X.Ok
  os : s.os = X.s₀.os
  bare : AllBare s.gens
  base : Un X.fs X.ex X.H₀ H X.s₀.heap s.heap
  loc : ∃ m, s.heap.Ns X.env.locals m ∧ ∀ (i : Nat) (x : Str) (v : V), X.N[i]? = some x → σ[i]? = some (some v) → Vis X.env.scope x → ∃ u, RelV v u ∧ Look X.env s.heap m x u
  cell : ∀ x c, X.env.cells.lookup x = some c → ∃ v, s.heap.IsCell c v
  free : H X.env.locals = none
  freeC : ∀ x c, X.env.cells.lookup x = some c → H c = none
  pin : ∀ p ∈ X.pn ++ pins, s.heap.get? p.1 = some p.2 ∧ H p.1 = none ∧ p.1 ≠ X.env.locals ∧ p.1 ∉ X.fs ∧ ∀ v, p.2.data ≠ .cell v
  hok : HOk X.prog X.w H s.heap
  len : σ.length = X.N.length

section
variable {X : Cx} {pins : List (Addr × Obj)} {σ : List (Option V)} {H H' : Hp} {s : Shared} {h' : Heap}

theorem Cx.Ok.nofr (ok : X.Ok) {b : Addr} {o : Obj} (e : X.base.get? b = some o) : b ∉ X.fs := fun hb => by
  have := (ok.funs.mem hb).1
  rw [e] at this; cases this
theorem Inv.bs (I : Inv X pins σ H s) : ∀ b o, X.base.get? b = some o → s.heap.get? b = some o ∧ H b = none := fun b o e =>
  ⟨I.base.keep b o (I.ok.bs b o e).1 (I.ok.bs b o e).2 (I.ok.nofr e) (I.ok.noex b o e), I.base.free b o (I.ok.bs b o e).1 (I.ok.bs b o e).2 (I.ok.noex b o e)⟩
theorem Inv.bk (I : Inv X pins σ H s) : ∀ b o, X.base.get? b = some o → s.heap.get? b = some o := fun b o e => (I.bs b o e).1
theorem Inv.mod (I : Inv X pins σ H s) : Mod X.K X.mg X.base := I.ok.mod
theorem Inv.kIn (I : Inv X pins σ H s) : X.K.In s.heap := I.ok.mod.kin.keeps I.bk
theorem Inv.lt (I : Inv X pins σ H s) : X.env.locals < s.heap.objs.size := let ⟨_, hn, _⟩ := I.loc; hn.lt
theorem Inv.sz (I : Inv X pins σ H s) : X.s₀.heap.objs.size ≤ s.heap.objs.size := Nat.le_trans I.ok.above (Nat.le_of_lt I.lt)
theorem Inv.nofs (I : Inv X pins σ H s) {a : Addr} (h : s.heap.objs.size ≤ a) : a ∉ X.fs := fun hb => by
  obtain ⟨_, o, ho, _⟩ := I.ok.funs.mem hb
  exact absurd (Nat.lt_of_lt_of_le (Heap.lt_size ho) (Nat.le_trans I.sz h)) (Nat.lt_irrefl _)
theorem Inv.cne (I : Inv X pins σ H s) : ∀ x c, X.env.cells.lookup x = some c → c ≠ X.env.locals := fun x c e z => by
  obtain ⟨v, o, ho, hd⟩ := I.cell x c e
  obtain ⟨m, ⟨o', es, ep, ho', hd', _⟩, _⟩ := I.loc
  rw [z, ho'] at ho; cases ho; rw [hd'] at hd; cases hd
theorem Inv.funs (I : Inv X pins σ H s) : s.heap.FunFrames X.base X.outer := by
  have all : ∀ (l : List Env), (∀ b ∈ frs l, b ∈ X.fs) → X.s₀.heap.FunFrames X.base l → s.heap.FunFrames X.base l := by
    intro l
    induction l with
    | nil => intro _ _; trivial
    | cons env r ih =>
      intro hs hl
      obtain ⟨hk, ⟨L, o, hf, hn, ho, hd⟩, hr⟩ := hl
      have hL : L ∈ X.fs := hs L (by unfold frs; rw [List.filterMap_cons, hf]; exact List.mem_cons_self)
      obtain ⟨sl, e⟩ := I.base.slot L o ho (I.ok.frf L hL) hL fun z => I.ok.exfs L z hL
      exact ⟨hk, ⟨L, _, hf, hn, e, hd⟩, ih (fun b hb => hs b (by unfold frs; rw [List.filterMap_cons, hf]; exact List.mem_cons_of_mem _ hb)) hr⟩
  exact all X.outer (fun _ hb => hb) I.ok.funs

/-- the frames that run, for a call -/
theorem Inv.stack (I : Inv X pins σ H s) : s.heap.FunFrames X.base X.stack := by
  rcases I.ok.stk with e | ⟨e, hf⟩
  · rw [e]; exact I.funs
  · rw [e]
    obtain ⟨m, hn, _⟩ := I.loc
    refine .cons (by rw [I.ok.kind]; decide) hf hn ?_ I.funs
    exact Heap.get?_none_of_le (Nat.le_trans I.ok.bsz I.ok.above)
theorem Inv.stkSub (I : Inv X pins σ H s) : ∀ b ∈ frs X.stack, b ∈ X.env.locals :: X.fs := fun b hb => by
  rcases I.ok.stk with e | ⟨e, hf⟩
  · rw [e] at hb; exact List.mem_cons_of_mem _ hb
  · rw [e] at hb
    unfold frs at hb
    rw [List.filterMap_cons, hf] at hb
    exact hb
theorem Inv.stkFree (I : Inv X pins σ H s) : ∀ b ∈ frs X.stack, H b = none := fun b hb => by
  rcases List.mem_cons.mp (I.stkSub b hb) with e | hb
  · rw [e]; exact I.free
  · obtain ⟨_, o, ho, _⟩ := I.ok.funs.mem hb
    exact I.base.free b o ho (I.ok.frf b hb) fun z => I.ok.exfs b z hb

/-- THE STEP: the untracked objects but the frame and the records at ch are kept (the callers' frames up to slots), the frame's map is kept, the new abstract heap is held -/
theorem Inv.step {g' : Array GenState} {t' : Nat} {d' : Drawn} {ch : List Addr} (I : Inv X pins σ H s)
    (hch : ∀ b ∈ ch, (b ∈ X.ex ∨ X.s₀.heap.objs.size ≤ b) ∧ b ≠ X.env.locals ∧ (∀ x c, X.env.cells.lookup x = some c → c ≠ b) ∧ ∀ p ∈ X.pn ++ pins, p.1 ≠ b)
    (keep : ∀ b o, b ≠ X.env.locals → b ∉ X.fs → b ∉ ch → s.heap.get? b = some o → H b = none → h'.get? b = some o)
    (slot : ∀ b o, b ≠ X.env.locals → b ∈ X.fs → b ∉ ch → s.heap.get? b = some o → H b = none → ∃ sl, h'.get? b = some { o with slots := sl }) (free : ∀ b o, b ∉ ch → s.heap.get? b = some o → H b = none → H' b = none)
    (there : ∀ b o, b ∉ ch → s.heap.get? b = some o → ∃ o', h'.get? b = some o')
    (tups : ∀ b xs, H b = some (.tup xs) → H' b = some (.tup xs)) (frzs : ∀ b o u, H b = some (.frz o u) → H' b = some (.frz o u)) (tbls : ∀ b ps, H b = some (.tbl ps) → ∃ more, H' b = some (.tbl (ps ++ more)))
    (ns : ∀ m, s.heap.Ns X.env.locals m → h'.Ns X.env.locals m) (hok : HOk X.prog X.w H' h') (hg : AllBare g') :
    Inv X pins σ H' { s with heap := h', gens := g', drawn := d', toks := t' } := by
  have neL : ∀ b o, X.s₀.heap.get? b = some o → b ≠ X.env.locals := fun b o e => Nat.ne_of_lt (Nat.lt_of_lt_of_le (Heap.lt_size e) I.ok.above)
  have neC : ∀ b o, X.s₀.heap.get? b = some o → b ∉ X.ex → b ∉ ch := fun b o e hx hb => by
    rcases (hch b hb).1 with z | z
    · exact hx z
    · exact absurd (Nat.lt_of_lt_of_le (Heap.lt_size e) z) (Nat.lt_irrefl _)
  have cellK : ∀ x c, X.env.cells.lookup x = some c → ∀ v, s.heap.IsCell c v → h'.IsCell c v := fun x c e v ⟨o, ho, hd⟩ => by
    have nch : c ∉ ch := fun z => (hch c z).2.2.1 x c e rfl
    by_cases hc : c ∈ X.fs
    · obtain ⟨sl, q⟩ := slot c o (I.cne x c e) hc nch ho (I.freeC x c e)
      exact ⟨_, q, hd⟩
    · exact ⟨o, keep c o (I.cne x c e) hc nch ho (I.freeC x c e), hd⟩
  refine ⟨I.ok, I.os, hg, ⟨fun b o e n hb hx => ?_, fun b o e n hb hx => ?_, fun b o e n hx => ?_, fun b o e hx => ?_, fun b xs e => tups b xs (I.base.tups b xs e), fun b o xs e => frzs b o xs (I.base.frzs b o xs e), fun b ps e => ?_⟩, ?_, fun x c e => ?_, ?_, fun x c e => ?_, fun p hp => ?_, hok, I.len⟩
  · exact keep b o (neL b o e) hb (neC b o e hx) (I.base.keep b o e n hb hx) (I.base.free b o e n hx)
  · obtain ⟨sl, e1⟩ := I.base.slot b o e n hb hx
    obtain ⟨sl', e2⟩ := slot b _ (neL b o e) hb (neC b o e hx) e1 (I.base.free b o e n hx)
    exact ⟨sl', e2⟩
  · obtain ⟨o', e1⟩ := I.base.there b o e hx
    exact free b o' (neC b o e hx) e1 (I.base.free b o e n hx)
  · obtain ⟨o', e1⟩ := I.base.there b o e hx
    exact there b o' (neC b o e hx) e1
  · obtain ⟨m1, e1⟩ := I.base.tbls b ps e
    obtain ⟨m2, e2⟩ := tbls b _ e1
    exact ⟨m1 ++ m2, by rw [e2, Array.append_assoc]⟩
  · obtain ⟨m, hn, hl⟩ := I.loc
    refine ⟨m, ns m hn, fun i x v e1 e2 e3 => ?_⟩
    obtain ⟨u, r, l⟩ := hl i x v e1 e2 e3
    refine ⟨u, r, ?_⟩
    rcases l with l | ⟨k, c, e, z⟩
    · exact .inl l
    · exact .inr ⟨k, c, e, cellK x c e _ z⟩
  · obtain ⟨v, z⟩ := I.cell x c e
    exact ⟨v, cellK x c e v z⟩
  · obtain ⟨m, ⟨o, _, _, ho, _⟩, _⟩ := I.loc
    exact free _ o (fun z => (hch _ z).2.1 rfl) ho I.free
  · obtain ⟨v, o, ho, hd⟩ := I.cell x c e
    exact free c o (fun z => (hch c z).2.2.1 x c e rfl) ho (I.freeC x c e)
  · obtain ⟨e, n, ne, nf, d⟩ := I.pin p hp
    have nch : p.1 ∉ ch := fun z => (hch p.1 z).2.2.2 p hp rfl
    exact ⟨keep p.1 p.2 ne nf nch e n, free p.1 p.2 nch e n, ne, nf, d⟩
/-- .. where the frame's own object is kept too -/
theorem Inv.un {t' : Nat} (I : Inv X pins σ H s) (u : Un X.fs [] H H' s.heap h') (hok : HOk X.prog X.w H' h') : Inv X pins σ H' { s with heap := h', toks := t' } := by
  obtain ⟨m, ⟨o, es, ep, ho, r⟩, _⟩ := id I.loc
  obtain ⟨sl, hL⟩ := u.any ho I.free (by simp)
  exact I.step (g' := s.gens) (d' := s.drawn) (ch := []) (fun _ z => nomatch z) (fun b o _ hb _ e n => u.keep b o e n hb (by simp)) (fun b o _ hb _ e n => u.slot b o e n hb (by simp)) (fun b o _ e n => u.free b o e n (by simp)) (fun b o _ e => u.there b o e (by simp)) u.tups u.frzs u.tbls (fun m' hm => by
    obtain ⟨o', es', ep', ho', r'⟩ := hm
    rw [ho] at ho'; cases ho'
    exact ⟨_, es', ep', hL, r'⟩) hok I.bare
/-- behind a call (or a comprehension's block): the slots of this frame may have changed too, the records at ch may have turned -/
theorem Inv.call {g' : Array GenState} {t' : Nat} {d' : Drawn} {ch : List Addr} (I : Inv X pins σ H s) (u : Un (frs X.stack) ch H H' s.heap h') (hok : HOk X.prog X.w H' h') (hg : AllBare g')
    (hch : ∀ b ∈ ch, (b ∈ X.ex ∨ X.s₀.heap.objs.size ≤ b) ∧ b ≠ X.env.locals ∧ (∀ x c, X.env.cells.lookup x = some c → c ≠ b) ∧ ∀ p ∈ X.pn ++ pins, p.1 ≠ b) :
    Inv X pins σ H' { s with heap := h', gens := g', drawn := d', toks := t' } := by
  obtain ⟨m, ⟨o, es, ep, ho, r⟩, _⟩ := id I.loc
  obtain ⟨sl, hL⟩ := u.any ho I.free fun z => (hch _ z).2.1 rfl
  exact I.step (ch := ch) hch (fun b o hL hb hc e n => u.keep b o e n (fun z => (List.mem_cons.mp (I.stkSub b z)).elim hL hb) hc) (fun b o _ _ hc e n => u.any e n hc) (fun b o hc e n => u.free b o e n hc) (fun b o hc e => u.there b o e hc) u.tups u.frzs u.tbls (fun m' hm => by
    obtain ⟨o', es', ep', ho', r'⟩ := hm
    rw [ho] at ho'; cases ho'
    exact ⟨_, es', ep', hL, r'⟩) hok hg
/-- an untracked record of ours (an iterator) has turned -/
theorem Inv.turned {t' : Nat} {it : Addr} (I : Inv X pins σ H s) (k : ∀ b o, b ≠ it → s.heap.get? b = some o → h'.get? b = some o) (hn : H it = none) (hL : it ≠ X.env.locals)
    (h1 : it ∈ X.ex ∨ X.s₀.heap.objs.size ≤ it) (h2 : ∀ x c, X.env.cells.lookup x = some c → c ≠ it) (h3 : ∀ p ∈ X.pn ++ pins, p.1 ≠ it) : Inv X pins σ H { s with heap := h', toks := t' } := by
  have nit : ∀ b u, H b = some u → b ≠ it := fun b u e z => by rw [z, hn] at e; cases e
  refine I.step (g' := s.gens) (d' := s.drawn) (ch := [it]) (fun b hb => ?_) (fun b o _ _ hc e _ => k b o (fun z => hc (by simp [z])) e) (fun b o _ _ hc e _ => ⟨o.slots, k b o (fun z => hc (by simp [z])) e⟩) (fun _ _ _ _ n => n)
    (fun b o hc e => ⟨o, k b o (fun z => hc (by simp [z])) e⟩) (fun _ _ e => e) (fun _ _ _ e => e) (fun b ps e => ⟨#[], by rw [e]; simp⟩) (fun m hm => ?_) (fun b u e => ?_) I.bare
  · have e : b = it := by simpa using hb
    subst e
    exact ⟨h1, hL, h2, h3⟩
  · obtain ⟨o, es, ep, ho, r⟩ := hm
    exact ⟨o, es, ep, k _ o (Ne.symm hL) ho, r⟩
  · refine (I.hok b u e).stay (fun c v hc q => k c v ?_ q) (fun _ q => q) fun _ _ q => q
    rcases hc with z | z
    · rw [z]; exact nit b u e
    · exact nit c _ z
theorem Inv.tok (I : Inv X pins σ H s) (t : Nat) : Inv X pins σ H { s with toks := t } := I.un (h' := s.heap) (t' := t) Un.refl I.hok
/-- all objects kept -/
theorem Inv.kept {t' : Nat} (I : Inv X pins σ H s) (k : ∀ b u, s.heap.get? b = some u → h'.get? b = some u) : Inv X pins σ H { s with heap := h', toks := t' } := I.un (Un.kept k) (I.hok.kept k)
/-- a new object laid and tracked -/
theorem Inv.laid {a : Addr} {o : HO} {t' : Nat} (I : Inv X pins σ H s) (k : ∀ b u, s.heap.get? b = some u → h'.get? b = some u) (hp : s.heap.objs.size ≤ a) (new : ObjOk X.prog X.w (upd H a o) h' a o) :
    Inv X pins σ (upd H a o) { s with heap := h', toks := t' } := I.un (Un.laid k hp (I.hok.fresh hp)) (I.hok.laid k hp new)
/-- an object written -/
theorem Inv.write {x e : Addr} {o : HO} {t' : Nat} (I : Inv X pins σ H s) (mu : Mut (H x)) (he : e = x ∨ H e = some (.own x)) (k : ∀ b u, b ≠ e → s.heap.get? b = some u → h'.get? b = some u) (heo : ∃ u, h'.get? e = some u)
    (new : ObjOk X.prog X.w (upd H x o) h' x o) : Inv X pins σ (upd H x o) { s with heap := h', toks := t' } := I.un (Un.write mu he k heo) (I.hok.write mu he k heo new)
theorem Inv.pins_of {pins' : List (Addr × Obj)} (I : Inv X pins σ H s) (h : ∀ p ∈ pins', s.heap.get? p.1 = some p.2 ∧ H p.1 = none ∧ p.1 ≠ X.env.locals ∧ p.1 ∉ X.fs ∧ ∀ v, p.2.data ≠ .cell v) : Inv X pins' σ H s :=
  ⟨I.ok, I.os, I.bare, I.base, I.loc, I.cell, I.free, I.freeC, fun p hp => (List.mem_append.mp hp).elim (fun z => I.pin p (List.mem_append_left _ z)) (h p), I.hok, I.len⟩

theorem nodup_ix {N : List Str} (hN : N.Nodup) {i j : Nat} {x : Str} (a : N[i]? = some x) (b : N[j]? = some x) : i = j := by
  obtain ⟨h1, e1⟩ := List.getElem?_eq_some_iff.mp a
  obtain ⟨h2, e2⟩ := List.getElem?_eq_some_iff.mp b
  exact (List.getElem_inj hN).mp (e1.trans e2.symm)

/-- a name is stored; what changed -/
theorem store_ok2 {M : Model} {A : Around} {E : Value → Shared → Prop} {i : Nat} {x : Str} {v : V} {u : Value} {Q : Unit → Shared → Prop} (I : Inv X pins σ H s) (hN : X.N.Nodup) (hi : X.N[i]? = some x) (hx : Loc X.env.scope x) (r : RelV v u)
    (h : ∀ s', Inv X pins (σ.set i (some v)) H s' → (∃ a, Heap.SameBut a s.heap s'.heap ∧ (a = X.env.locals ∨ X.env.cells.lookup x = some a)) → Q () s') (hf : X.fn x = true ∨ X.env.scope.names.lookup x = some .local := by first | exact .inl rfl | exact .inr rfl | assumption) : wpAny M A (storeName X.env x u) Q E s := by
  obtain ⟨m, hn, hl⟩ := id I.loc
  have hcls : (X.env.scope.kind == .class || (X.env.scope.kind == .module && X.env.locals != X.env.globals)) = false := by rw [I.ok.kind]; rfl
  have hiσ : i < σ.length := by rw [I.len]; exact (List.getElem?_eq_some_iff.mp hi).1
  have cne := I.cne
  have tracked : ∀ {a : Addr} {h' : Heap}, (∃ o, s.heap.get? a = some o ∧ H a = none) → Heap.SameBut a s.heap h' → HOk X.prog X.w H h' := fun {a h'} ha hs b ob e => by
    obtain ⟨_, _, hfree⟩ := ha
    refine (I.hok b ob e).stay (fun c w' hc q => (hs.2 c ?_).trans q) (fun _ q => q) fun _ _ q => q
    rintro rfl
    rcases hc with rfl | hc
    · rw [hfree] at e; cases e
    · rw [hfree] at hc; cases hc
  rcases hx with hk | hk
  · refine wpAny_storeName_local hk hn (fun h' hn' hs => ?_) hcls
    obtain ⟨oL, _, _, hoL, _⟩ := id hn
    refine h _ ⟨I.ok, I.os, I.bare, ⟨fun b o e n hb hx => ?_, fun b o e n hb hx => ?_, I.base.free, fun b o e hx => ?_, I.base.tups, I.base.frzs, I.base.tbls⟩, ⟨_, hn', fun j y v' e1 e2 e3 => ?_⟩, fun y c e => ?_, I.free, I.freeC, fun p hp => ?_, tracked ⟨oL, hoL, I.free⟩ hs, by simpa using I.len⟩ ⟨_, hs, .inl rfl⟩
    · exact (hs.2 b (Nat.ne_of_lt (Nat.lt_of_lt_of_le (Heap.lt_size e) I.ok.above))).trans (I.base.keep b o e n hb hx)
    · obtain ⟨sl, e1⟩ := I.base.slot b o e n hb hx
      exact ⟨sl, (hs.2 b (Nat.ne_of_lt (Nat.lt_of_lt_of_le (Heap.lt_size e) I.ok.above))).trans e1⟩
    · obtain ⟨o', e1⟩ := I.base.there b o e hx
      exact ⟨o', (hs.2 b (Nat.ne_of_lt (Nat.lt_of_lt_of_le (Heap.lt_size e) I.ok.above))).trans e1⟩
    · by_cases hj : j = i
      · subst hj
        rw [hi] at e1; cases e1
        rw [List.getElem?_set_self hiσ] at e2
        cases e2
        exact ⟨u, r, .inl ⟨hk, by simp⟩⟩
      · rw [List.getElem?_set_ne (Ne.symm hj)] at e2
        obtain ⟨u', r', q⟩ := hl j y v' e1 e2 e3
        refine ⟨u', r', ?_⟩
        rcases q with ⟨k, e⟩ | ⟨k, c, e, z⟩
        · refine .inl ⟨k, ?_⟩
          have : y ≠ x := fun e => hj (nodup_ix hN e1 (e ▸ hi))
          simp [this, e]
        · exact .inr ⟨k, c, e, z.sameBut hs (cne y c e)⟩
    · obtain ⟨w', z⟩ := I.cell y c e
      exact ⟨w', z.sameBut hs (cne y c e)⟩
    · obtain ⟨e, n, ne, nf, d⟩ := I.pin p hp
      exact ⟨(hs.2 p.1 ne).trans e, n, ne, nf, d⟩
  · have hfn : X.fn x = true := by
      rcases hf with z | z
      · exact z
      · rw [z] at hk; cases hk
    obtain ⟨c, hc⟩ := I.ok.has x (.inl hk)
    obtain ⟨w', z⟩ := I.cell x c hc
    refine wpAny_storeName_cell I.ok.kind hk hc z (fun h' hc' hs => ?_)
    obtain ⟨oc, hoc, hocd⟩ := id z
    refine h { s with heap := h' } ⟨I.ok, I.os, I.bare, ⟨fun b o e n hb hx => ?_, fun b o e n hb hx => ?_, I.base.free, fun b o e hx => ?_, I.base.tups, I.base.frzs, I.base.tbls⟩, ⟨m, hn.sameBut hs (Ne.symm (cne x c hc)), fun j y v' e1 e2 e3 => ?_⟩, fun y c' e => ?_, I.free, I.freeC, fun p hp => ?_, tracked ⟨oc, hoc, I.freeC x c hc⟩ hs, by simpa using I.len⟩ ⟨c, hs, .inr hc⟩
    · exact (hs.2 b (Nat.ne_of_lt (Nat.lt_of_lt_of_le (Heap.lt_size e) (I.ok.cab x c hfn hc)))).trans (I.base.keep b o e n hb hx)
    · obtain ⟨sl, e1⟩ := I.base.slot b o e n hb hx
      exact ⟨sl, (hs.2 b (Nat.ne_of_lt (Nat.lt_of_lt_of_le (Heap.lt_size e) (I.ok.cab x c hfn hc)))).trans e1⟩
    · obtain ⟨o', e1⟩ := I.base.there b o e hx
      exact ⟨o', (hs.2 b (Nat.ne_of_lt (Nat.lt_of_lt_of_le (Heap.lt_size e) (I.ok.cab x c hfn hc)))).trans e1⟩
    · by_cases hj : j = i
      · subst hj
        rw [hi] at e1; cases e1
        rw [List.getElem?_set_self hiσ] at e2
        cases e2
        exact ⟨u, r, .inr ⟨.inl hk, c, hc, hc'⟩⟩
      · rw [List.getElem?_set_ne (Ne.symm hj)] at e2
        obtain ⟨u', r', q⟩ := hl j y v' e1 e2 e3
        refine ⟨u', r', ?_⟩
        rcases q with q | ⟨k, c', e, z'⟩
        · exact .inl q
        · refine .inr ⟨k, c', e, z'.sameBut hs ?_⟩
          rintro rfl
          exact hj (nodup_ix hN e1 (I.ok.inj _ _ _ e hc ▸ hi))
    · by_cases hcc : c' = c
      · subst hcc; exact ⟨_, hc'⟩
      · obtain ⟨w2, z2⟩ := I.cell y c' e
        exact ⟨w2, z2.sameBut hs hcc⟩
    · obtain ⟨e, n, ne, nf, d⟩ := I.pin p hp
      refine ⟨(hs.2 p.1 ?_).trans e, n, ne, nf, d⟩
      intro q
      rw [q, hoc] at e
      have q' : oc = p.2 := Option.some.inj e
      exact d w' (by rw [← q']; exact hocd)
theorem store_ok {M : Model} {A : Around} {E : Value → Shared → Prop} {i : Nat} {x : Str} {v : V} {u : Value} {Q : Unit → Shared → Prop} (I : Inv X pins σ H s) (hN : X.N.Nodup) (hi : X.N[i]? = some x) (hx : Loc X.env.scope x) (r : RelV v u)
    (h : ∀ s', Inv X pins (σ.set i (some v)) H s' → Q () s') (hf : X.fn x = true ∨ X.env.scope.names.lookup x = some .local := by first | exact .inl rfl | exact .inr rfl | assumption) : wpAny M A (storeName X.env x u) Q E s :=
  store_ok2 I hN hi hx r (fun s' I' _ => h s' I') hf
end

/-! ### the judgements -/
/-- an exception: its class, its own dict's address (where it has one), the abstract heap behind it -/
abbrev XK := Value → Option Addr → Hp → Prop
abbrev St := List (Option V)
abbrev VK := V → Hp → Prop
/-- an expression's reading; a test's; an argument list's -/
abbrev TE := St → Hp → VK → Prop
abbrev TT := St → Hp → (Bool → Hp → Prop) → Prop
abbrev TA := St → Hp → (List V → Hp → Prop) → Prop
set_option genSizeOf false in
set_option genInjectivity false in
structure Ends where
  nx : St → Hp → Prop
  rt : VK
  bk : St → Hp → Prop := fun _ _ => False
  ct : St → Hp → Prop := fun _ _ => False
abbrev TS := Ends → St → Hp → Prop

def EP (X : Cx) (pins : List (Addr × Obj)) (σ : St) (Q : VK) (u : Value) (s' : Shared) : Prop := ∃ v H', Inv X pins σ H' s' ∧ RelV v u ∧ Q v H'
def TP (X : Cx) (pins : List (Addr × Obj)) (σ : St) (Q : Bool → Hp → Prop) (b : Bool) (s' : Shared) : Prop := ∃ H', Inv X pins σ H' s' ∧ Q b H'
def AP (X : Cx) (pins : List (Addr × Obj)) (σ : St) (Q : List V → Hp → Prop) (us : List Value) (s' : Shared) : Prop := ∃ vs H', Inv X pins σ H' s' ∧ Vals vs us ∧ Q vs H'
def SP (X : Cx) (pins : List (Addr × Obj)) (D : Ends) (f : Flow) (s' : Shared) : Prop :=
  match f with
  | .next => ∃ σ' H', Inv X pins σ' H' s' ∧ D.nx σ' H'
  | .brk => ∃ σ' H', Inv X pins σ' H' s' ∧ D.bk σ' H'
  | .cont => ∃ σ' H', Inv X pins σ' H' s' ∧ D.ct σ' H'
  | .ret u => ∃ v σ' H', Inv X pins σ' H' s' ∧ RelV v u ∧ D.rt v H'

def PE (X : Cx) (e : Expr) (t : TE) : Prop :=
  ∀ (pins : List (Addr × Obj)) (s : Shared) (σ : St) (H : Hp) (Q : VK), Inv X pins σ H s → t σ H Q → wpAny (model X.prog X.w) X.A (eval e X.env) (EP X pins σ Q) X.xe s
def PT (X : Cx) (e : Expr) (t : TT) : Prop :=
  ∀ (pins : List (Addr × Obj)) (s : Shared) (σ : St) (H : Hp) (Q : Bool → Hp → Prop), Inv X pins σ H s → t σ H Q → wpAny (model X.prog X.w) X.A (isTrue e X.env (eval e X.env)) (TP X pins σ Q) X.xe s
/-- a test whatever its 'whole' is (and, or) -/
def PW (X : Cx) (e : Expr) (t : TT) : Prop :=
  ∀ (whole : Sem Value) (pins : List (Addr × Obj)) (s : Shared) (σ : St) (H : Hp) (Q : Bool → Hp → Prop), Inv X pins σ H s → t σ H Q → wpAny (model X.prog X.w) X.A (isTrue e X.env whole) (TP X pins σ Q) X.xe s
theorem PW.pt {X : Cx} {e : Expr} {t : TT} (h : PW X e t) : PT X e t := h _
/-- an argument list (no star), from the left -/
def PA (X : Cx) (es : List Expr) (t : TA) : Prop :=
  ∀ (pos : Pos) (pins : List (Addr × Obj)) (s : Shared) (σ : St) (H : Hp) (Q : List V → Hp → Prop), Inv X pins σ H s → t σ H Q → wpAny (model X.prog X.w) X.A (spliced (backTo pos (starEach es X.env))) (AP X pins σ Q) X.xe s
def PS (X : Cx) (st : Stmt) (t : TS) : Prop :=
  ∀ (pins : List (Addr × Obj)) (s : Shared) (σ : St) (H : Hp) (D : Ends), Inv X pins σ H s → t D σ H → wpAny (model X.prog X.w) X.A (exec st X.env) (SP X pins D) X.xe s
def PSs (X : Cx) (st : List Stmt) (t : TS) : Prop :=
  ∀ (pins : List (Addr × Obj)) (s : Shared) (σ : St) (H : Hp) (D : Ends), Inv X pins σ H s → t D σ H → wpAny (model X.prog X.w) X.A (execs st X.env) (SP X pins D) X.xe s
/-- weaken the end -/
theorem thn {α : Type} {t : Sem α} {Q Q' : α → Shared → Prop} {M : Model} {A : Around} {E : Value → Shared → Prop} {s : Shared} (h : wpAny M A t Q E s) (hQ : ∀ a s, Q a s → Q' a s) : wpAny M A t Q' E s := wpAny_mono h hQ fun _ _ x => x
end L2

namespace L2
open PySem PySem.Spec PyProof.Rows
section
variable {X : Cx}

/-! ### names and constants -/
def tVar (i : Nat) : TE := fun σ H Q => ∃ v, σ[i]? = some (some v) ∧ Q v H
def tC (v : V) : TE := fun _ H Q => Q v H
theorem pe_var {i : Nat} {x : Str} {pos : Pos} (hN : X.N[i]? = some x) (hv : Vis X.env.scope x) (hd : (x == ("__debug__" : Str)) = false := by decide) (hcd : (x == ("__classdict__" : Str)) = false := by decide) : PE X (.Name x pos) (tVar i) := by
  intro pins s σ H Q I h
  obtain ⟨v, e, h⟩ := h
  obtain ⟨m, hn, hl⟩ := I.loc
  obtain ⟨u, r, l⟩ := hl i x v hN e hv
  have fin : EP X pins σ Q u s := ⟨v, H, I, r, h⟩
  rcases l with ⟨hk, hm⟩ | ⟨hk, c, hc, hcell⟩
  · exact wpAny_Name (wpAny_loadName_local I.ok.kind hk hn hm fin) hd
  · rcases hk with hk | hk
    · exact wpAny_Name (wpAny_loadName_cell I.ok.kind hk hc hcell fin) hd
    · exact wpAny_Name (wpAny_loadName_free I.ok.kind hk hc hcell fin hcd) hd
theorem pe_int {i j pos} : PE X (.Constant (.int i) j pos) (tC (.int i)) := fun _ _ _ H _ I h => wpAny_Constant_int ⟨.int i, H, I.tok _, ⟨_, rfl⟩, h⟩
theorem pe_bl {b j pos} : PE X (.Constant (.bool b) j pos) (tC (.bl b)) := fun _ _ _ H _ I h => Constant_bool ⟨.bl b, H, I, rfl, h⟩
/-- a global name of the def -/
def Gl (X : Cx) (x : Str) : Prop := X.env.kindOf x = some .globalImplicit
theorem ld_glob {E : Value → Shared → Prop} {pins : List (Addr × Obj)} {s : Shared} {σ : St} {H : Hp} {x : Str} {u : Value} {pos : Pos} {Q : Value → Shared → Prop} (I : Inv X pins σ H s) (hg : Gl X x) (hm : X.mg x = some u) (h : Q u s)
    (hd : (x == ("__debug__" : Str)) = false := by decide) : wpAny (model X.prog X.w) X.A (eval (.Name x pos) X.env) Q E s :=
  Calls.Name_function_global I.ok.kind hg (Calls.loadGlobal_global (by rw [I.ok.glob]; exact I.mod.glob.keeps I.bk) hm h) hd
theorem ld_blt {E : Value → Shared → Prop} {pins : List (Addr × Obj)} {s : Shared} {σ : St} {H : Hp} {x : Str} {u : Value} {pos : Pos} {Q : Value → Shared → Prop} (I : Inv X pins σ H s) (hg : Gl X x) (hm : X.mg x = none) (hv : bootBuiltins x = some u) (h : Q u s)
    (hn : x ≠ "__name__" := by decide) (hd : (x == ("__debug__" : Str)) = false := by decide) : wpAny (model X.prog X.w) X.A (eval (.Name x pos) X.env) Q E s := by
  obtain ⟨mb, h1, h2⟩ := I.mod.blt
  exact Calls.Name_function_global I.ok.kind hg (Calls.loadGlobal_builtin (by rw [I.ok.glob]; exact I.mod.glob.keeps I.bk) hm (by rw [I.ok.blt]; exact h1.keeps I.bk) ((h2 x hn).trans hv) h) hd
/-- a module's constant, a class, a function, as a value -/
theorem pe_glob {x : Str} {v : V} {u : Value} {pos : Pos} (hg : Gl X x) (hm : X.mg x = some u) (r : RelV v u) (hd : (x == ("__debug__" : Str)) = false := by decide) : PE X (.Name x pos) (tC v) :=
  fun _ _ _ H _ I h => ld_glob I hg hm ⟨v, H, I, r, h⟩ hd
theorem pe_bltn {x : Str} {v : V} {u : Value} {pos : Pos} (hg : Gl X x) (hm : X.mg x = none) (hv : bootBuiltins x = some u) (r : RelV v u) (hn : x ≠ "__name__" := by decide) (hd : (x == ("__debug__" : Str)) = false := by decide) : PE X (.Name x pos) (tC v) :=
  fun _ _ _ H _ I h => ld_blt I hg hm hv ⟨v, H, I, r, h⟩ hn hd

/-! ### arithmetic -/
variable {a b : Expr} {ta tb : TE} {pos : Pos}
/-! ### comparisons -/
/-- a comparison as a value, as a test -/
def tB (t : TE) : TT := fun σ H Q => t σ H fun x H1 => ∃ c, x = .bl c ∧ Q c H1
/-- an expression whose value is a bool, as a test -/
theorem pt_val {e : Expr} {t : TE} (h : PE X e t) (he : ∀ whole, isTrue e X.env whole = (do let v ← whole; standAt e.pos; holding [v] (truthy v)) := by intro _; rfl) : PT X e (tB t) := by
  intro pins s σ H Q I hw
  refine isTrue_plain (thn (h pins s σ H _ I hw) fun v s1 ⟨x, H1, I1, r1, q1⟩ => ?_) (he _)
  obtain ⟨d, rfl, q⟩ := q1
  cases r1
  exact wpAny_truthy_bool ⟨H1, I1, q⟩

/-! ### and, or, not -/
variable {tA tB' : TT} {rest : List Expr}
def tAnd (t u : TT) : TT := fun σ H Q => t σ H fun c H1 => if c = true then u σ H1 Q else Q false H1
def tOr (t u : TT) : TT := fun σ H Q => t σ H fun c H1 => if c = true then Q true H1 else u σ H1 Q
def tNot (t : TT) : TT := fun σ H Q => t σ H fun c H1 => Q (!c) H1
theorem pw_or1 (ha : PT X a tA) : PW X (.BoolOp .Or [a] pos) tA := by
  intro wh pins s σ H Q I h
  refine isTrue_or (thn (ha pins s σ H Q I h) fun c s1 e => ?_)
  cases c with
  | false => exact isTrue_or_nil e
  | true => exact e
theorem pw_or (ha : PT X a tA) (hb : PW X (.BoolOp .Or (b :: rest) pos) tB') : PW X (.BoolOp .Or (a :: b :: rest) pos) (tOr tA tB') := by
  intro wh pins s σ H Q I h
  refine isTrue_or (thn (ha pins s σ H _ I h) fun c s1 ⟨H1, I1, q1⟩ => ?_)
  cases c with
  | true => exact ⟨H1, I1, q1⟩
  | false => exact hb wh pins s1 σ H1 Q I1 q1
theorem pt_not (ha : PT X a tA) : PT X (.UnaryOp .Not a pos) (tNot tA) := by
  intro pins s σ H Q I h
  exact isTrue_not (ha pins s σ H (fun c H1 => Q (!c) H1) I h)
/-- .. as values (bools) -/
def tAndV (ta tb : TE) : TE := fun σ H Q => ta σ H fun x H1 => ∃ c, x = .bl c ∧ if c = true then tb σ H1 Q else Q (.bl false) H1
def tOrV (ta tb : TE) : TE := fun σ H Q => ta σ H fun x H1 => ∃ c, x = .bl c ∧ if c = true then Q (.bl true) H1 else tb σ H1 Q
def tNotV (ta : TE) : TE := fun σ H Q => ta σ H fun x H1 => ∃ c, x = .bl c ∧ Q (.bl (!c)) H1
theorem pe_one {op} {t : TE} (h : PE X a t) : PE X (.BoolOp op [a] pos) t := fun pins s σ H Q I hw => BoolOp_one (h pins s σ H Q I hw)
theorem pe_and (ha : PE X a ta) (hb : PE X (.BoolOp .And (b :: rest) pos) tb) : PE X (.BoolOp .And (a :: b :: rest) pos) (tAndV ta tb) := by
  intro pins s σ H Q I h
  refine BoolOp_and (thn (ha pins s σ H _ I h) fun v s1 ⟨x, H1, I1, r1, q1⟩ => ?_)
  obtain ⟨c, rfl, q1⟩ := q1
  cases r1
  refine wpAny_truthy_bool ?_
  cases c with
  | true => exact hb pins s1 σ H1 Q I1 q1
  | false => exact ⟨.bl false, H1, I1, rfl, q1⟩
theorem pe_not (ha : PE X a ta) : PE X (.UnaryOp .Not a pos) (tNotV ta) := by
  intro pins s σ H Q I h
  refine UnaryOp_ (thn (ha pins s σ H _ I h) fun v s1 ⟨x, H1, I1, r1, q1⟩ => ?_)
  obtain ⟨c, rfl, q1⟩ := q1
  cases r1
  exact not_of (wpAny_truthy_bool ⟨.bl (!c), H1, I1, rfl, q1⟩)
/-- a if t else b -/
def tIf (t : TT) (ta tb : TE) : TE := fun σ H Q => t σ H fun c H1 => if c = true then ta σ H1 Q else tb σ H1 Q
end
end L2

namespace L2
open PySem PySem.Spec PyProof.Rows

/-! ### a list, a tuple that is read: tracked, frozen, or an object of the module -/
def SqL (K : PySem.W.Frag) (H : Hp) (a : Addr) (xs : List V) : Prop :=
  Rd H a (.lst xs) ∨
    ∃ (o : Obj) (its : Array Value) (n : Nat), K.lookup a = some o ∧ o.cls = .type "list" ∧ o.dict = none ∧ o.data = .seq its n ∧ its.size ≤ sizeLine ∧ Vals xs its.toList
def SqT (K : PySem.W.Frag) (H : Hp) (a : Addr) (xs : List V) : Prop :=
  Rd H a (.tup xs) ∨
    ∃ (o : Obj) (its : Array Value) (n : Nat), K.lookup a = some o ∧ o.cls = .type "tuple" ∧ o.data = .seq its n ∧ its.size ≤ sizeLine ∧ Vals xs its.toList
def absV : Value → Option V
  | .none => some .non
  | .bool b => some (.bl b)
  | .int i _ => some (.int i)
  | .str x _ => some (.str x)
  | .bytes b _ => some (.byt b)
  | .float b _ => some (.flt b)
  | .ref a => some (.ref a)
  | .type n => some (.ty n)
  | _ => none
theorem RelV.abs {x : V} {u : Value} (r : RelV x u) : absV u = some x := by
  cases x with
  | non => cases r; rfl
  | bl _ => cases r; rfl
  | int _ => obtain ⟨t, rfl⟩ := r; rfl
  | str _ => obtain ⟨t, rfl⟩ := r; rfl
  | byt _ => obtain ⟨t, rfl⟩ := r; rfl
  | flt _ => obtain ⟨t, rfl⟩ := r; rfl
  | ref _ => cases r; rfl
  | ty _ => cases r; rfl
theorem RelV.inj {x y : V} {u : Value} (r : RelV x u) (q : RelV y u) : x = y := Option.some.inj (r.abs.symm.trans q.abs)
theorem Vals.inj : ∀ {xs ys : List V} {us : List Value}, Vals xs us → Vals ys us → xs = ys
  | _, _, _, .nil, .nil => rfl
  | _, _, _, .cons r t, .cons r' t' => by rw [r.inj r', Vals.inj t t']
section
variable {X : Cx} {pins : List (Addr × Obj)} {σ : St} {H : Hp} {s : Shared} {a : Addr} {xs ys : List V}
theorem SqL.of {K : PySem.W.Frag} (h : H a = some (.lst xs)) : SqL K H a xs := .inl (.inl h)
theorem SqT.of {K : PySem.W.Frag} (h : H a = some (.tup xs)) : SqT K H a xs := .inl (.inl h)
theorem Inv.list (I : Inv X pins σ H s) (h : SqL X.K H a xs) : ∃ its : List Value, Vals xs its ∧ PlainL s.heap a its.toArray ∧ xs.length ≤ sizeLine := by
  rcases h with h | ⟨o, its, n, hk, hc, hd, hs, hz, r⟩
  · obtain ⟨z, its, n, r, e⟩ := h.ok I.hok
    exact ⟨its, r, ⟨_, n, e, rfl, rfl, rfl⟩, z⟩
  · refine ⟨its.toList, r, ⟨o, n, I.kIn a o hk, hc, hd, by simpa using hs⟩, ?_⟩
    have e := r.length
    simp only [Array.length_toList] at e
    omega
theorem Inv.tuple (I : Inv X pins σ H s) (h : SqT X.K H a xs) : ∃ its : List Value, Vals xs its ∧ IsTup s.heap a its.toArray ∧ xs.length ≤ sizeLine := by
  rcases h with h | ⟨o, its, n, hk, hc, hs, hz, r⟩
  · obtain ⟨z, its, r, p⟩ := h.ok I.hok
    exact ⟨its, r, p, z⟩
  · refine ⟨its.toList, r, ⟨o, I.kIn a o hk, hc, n, by simpa using hs⟩, ?_⟩
    have e := r.length
    simp only [Array.length_toList] at e
    omega
theorem Inv.list_inj (I : Inv X pins σ H s) (h : SqL X.K H a xs) (h' : SqL X.K H a ys) : xs = ys := by
  obtain ⟨its, r, ⟨o, n, e, _, _, d⟩, _⟩ := I.list h
  obtain ⟨its', r', ⟨o', n', e', _, _, d'⟩, _⟩ := I.list h'
  rw [e] at e'; cases e'
  rw [d] at d'
  injection d' with d1 _
  have : its = its' := by simpa using congrArg Array.toList d1
  subst this
  exact r.inj r'
end

/-! ### another wish about exceptions -/
abbrev Cx.wish (X : Cx) (E : Value → Shared → Prop) : Cx := { X with xe := E }
/-- no exception leaves -/
abbrev Cx.nox (X : Cx) : Cx := X.wish fun _ _ => False
theorem Cx.Ok.wish {X : Cx} (ok : X.Ok) (E : Value → Shared → Prop) : (X.wish E).Ok :=
  ⟨ok.mod, ok.kind, ok.glob, ok.blt, ok.above, ok.inj, ok.has, ok.cab, ok.hd, ok.frames, ok.stk, ok.exf, ok.bs, ok.bsz, ok.noex, ok.exfs, ok.funs, ok.frf⟩
theorem Cx.Ok.unwish {X : Cx} {E : Value → Shared → Prop} (ok : (X.wish E).Ok) : X.Ok :=
  ⟨ok.mod, ok.kind, ok.glob, ok.blt, ok.above, ok.inj, ok.has, ok.cab, ok.hd, ok.frames, ok.stk, ok.exf, ok.bs, ok.bsz, ok.noex, ok.exfs, ok.funs, ok.frf⟩
section
variable {X : Cx} {pins : List (Addr × Obj)} {σ : St} {H : Hp} {s : Shared} {E : Value → Shared → Prop}
theorem Inv.wish (I : Inv X pins σ H s) (E : Value → Shared → Prop) : Inv (X.wish E) pins σ H s := ⟨I.ok.wish E, I.os, I.bare, I.base, I.loc, I.cell, I.free, I.freeC, I.pin, I.hok, I.len⟩
theorem Inv.unwish (I : Inv (X.wish E) pins σ H s) : Inv X pins σ H s := ⟨I.ok.unwish, I.os, I.bare, I.base, I.loc, I.cell, I.free, I.freeC, I.pin, I.hok, I.len⟩
theorem SP.unwish {D : Ends} {f : Flow} {s' : Shared} (h : SP (X.wish E) pins D f s') : SP X pins D f s' := by
  cases f with
  | next => obtain ⟨σ', H', I, q⟩ := h; exact ⟨σ', H', I.unwish, q⟩
  | brk => obtain ⟨σ', H', I, q⟩ := h; exact ⟨σ', H', I.unwish, q⟩
  | cont => obtain ⟨σ', H', I, q⟩ := h; exact ⟨σ', H', I.unwish, q⟩
  | ret u => obtain ⟨v, σ', H', I, r, q⟩ := h; exact ⟨v, σ', H', I.unwish, r, q⟩
theorem PSs.nox {st : List Stmt} {t : TS} (h : PSs X.nox st t) : PSs X st t := fun pins s σ H D I hw =>
  wpAny_mono (h pins s σ H D (I.wish _) hw) (fun _ _ q => q.unwish) fun _ _ z => False.elim z
end

/-! ### blocks and small statements -/
section
variable {X : Cx} {st : Stmt} {rest : List Stmt} {t u : TS} {e : Expr} {te : TE} {pos : Pos}
def tNext : TS := fun D σ H => D.nx σ H
def tSeq (t u : TS) : TS := fun D σ H => t { D with nx := u D } σ H
theorem pss_nil : PSs X [] tNext := fun _ _ σ H _ I h => wpAny_execs_nil ⟨σ, H, I, h⟩
theorem pss_cons (h1 : PS X st t) (h2 : PSs X rest u) : PSs X (st :: rest) (tSeq t u) := by
  intro pins s σ H D I h
  refine wpAny_execs_cons (thn (h1 pins s σ H { D with nx := u D } I h) fun f s1 q => ?_)
  cases f with
  | next =>
    obtain ⟨σ', H', I', q⟩ := q
    exact h2 pins s1 σ' H' D I' q
  | ret v => exact q
  | brk => exact q
  | cont => exact q
theorem pss_one (h1 : PS X st t) : PSs X [st] t := by
  intro pins s σ H D I h
  refine wpAny_execs_cons (thn (h1 pins s σ H D I h) fun f s1 q => ?_)
  cases f with
  | next => exact wpAny_execs_nil q
  | ret v => exact q
  | brk => exact q
  | cont => exact q
/-- in a def's body nothing is shown -/
theorem Inv.quiet {pins : List (Addr × Obj)} {σ : St} {H : Hp} {s : Shared} (I : Inv X pins σ H s) : interactive X.env = false := by simp [interactive, I.ok.kind]
/-- an expression whose value is dropped -/
def tDrop (te : TE) : TS := fun D σ H => te σ H fun _ H1 => D.nx σ H1
theorem ps_expr (he : PE X e te) (hs : swapsWith e none pos.line X.env = pure false := by rfl) : PS X (.Expr e pos) (tDrop te) := by
  intro pins s σ H D I h
  exact wpAny_Expr_any (thn (he pins s σ H _ I h) fun v s1 ⟨x, H1, I1, r1, q1⟩ => ⟨σ, H1, I1, q1⟩) I.quiet hs
def tRet (te : TE) : TS := fun D σ H => te σ H D.rt
theorem ps_ret (he : PE X e te) : PS X (.Return (some e) pos) (tRet te) := by
  intro pins s σ H D I h
  exact wpAny_Return_some (thn (he pins s σ H _ I h) fun v s1 ⟨x, H1, I1, r1, q1⟩ => ⟨x, σ, H1, I1, r1, q1⟩)
def tRetN : TS := fun D _ H => D.rt .non H
def tIfS (c : TT) (t u : TS) : TS := fun D σ H => c σ H fun b H1 => if b = true then t D σ H1 else u D σ H1
theorem ps_if {c : Expr} {a b : List Stmt} {tc : TT} (hc : PT X c tc) (ha : PSs X a t) (hb : PSs X b u) : PS X (.If c a b pos) (tIfS tc t u) := by
  intro pins s σ H D I h
  refine wpAny_If (thn (hc pins s σ H _ I h) fun d s1 ⟨H1, I1, q1⟩ => ?_)
  cases d with
  | true => exact ha pins s1 σ H1 D I1 q1
  | false => exact hb pins s1 σ H1 D I1 q1
/-- code that the proof never comes to -/
def tNever : TS := fun _ _ _ => False
end

/-! ### targets -/
abbrev TG := V → St → Hp → (St → Hp → Prop) → Prop
abbrev TGs := List V → St → Hp → (St → Hp → Prop) → Prop
def PG (X : Cx) (target : Expr) (t : TG) : Prop :=
  ∀ (pins : List (Addr × Obj)) (s : Shared) (σ : St) (H : Hp) (v : V) (u : Value) (Q : St → Hp → Prop), Inv X pins σ H s → RelV v u → t v σ H Q →
    wpAny (model X.prog X.w) X.A (assign target X.env u) (fun _ s' => ∃ σ' H', Inv X pins σ' H' s' ∧ Q σ' H') X.xe s
/-- a op= b, by values -/
abbrev TIp := V → V → Hp → VK → Prop
section
variable {X : Cx} {pos : Pos}
def gName (i : Nat) : TG := fun v σ H Q => Q (σ.set i (some v)) H
theorem pg_name {i : Nat} {x : Str} (hN : X.N.Nodup) (hi : X.N[i]? = some x) (hx : Loc X.env.scope x) (hf : X.fn x = true ∨ X.env.scope.names.lookup x = some .local := by first | exact .inl rfl | exact .inr rfl | assumption) : PG X (.Name x pos) (gName i) := by
  intro pins s σ H v u Q I r h
  exact wpAny_assign_Name (store_ok I hN hi hx r (fun s' I' => ⟨_, H, I', h⟩) hf)
def gNil : TGs := fun vs σ H Q => vs = [] ∧ Q σ H
def gCons (t : TG) (u : TGs) : TGs := fun vs σ H Q => ∃ v r, vs = v :: r ∧ t v σ H fun σ' H' => u r σ' H' Q
/-- (a, b, ..) = a tuple of that length -/
def gTup (K : PySem.W.Frag) (n : Nat) (t : TGs) : TG := fun v σ H Q => ∃ a xs, v = .ref a ∧ SqT K H a xs ∧ xs.length = n ∧ t xs σ H Q
/-- target = value -/
def tAsg (te : TE) (g : TG) : TS := fun D σ H => te σ H fun x H1 => g x σ H1 D.nx
/-- name = value -/
theorem ps_set {i : Nat} {x : Str} {e : Expr} {te : TE} {pos' : Pos} (hN : X.N.Nodup) (hi : X.N[i]? = some x) (hx : Loc X.env.scope x) (he : PE X e te) (hs : swapsWith e (some (.Name x pos')) pos.line X.env = pure false := by rfl) (hf : X.fn x = true ∨ X.env.scope.names.lookup x = some .local := by first | exact .inl rfl | exact .inr rfl | assumption) :
    PS X (.Assign [.Name x pos'] e pos) (tAsg te (gName i)) := by
  intro pins s σ H D I h
  refine wpAny_Assign_Name (thn (he pins s σ H _ I h) fun v s1 ⟨y, H1, I1, r1, q1⟩ => ?_) hs
  exact store_ok I1 hN hi hx r1 (fun s2 I2 => ⟨_, H1, I2, q1⟩) hf
/-- name op= e -/
def tAug (i : Nat) (te : TE) (ti : TIp) : TS := fun D σ H => ∃ x, σ[i]? = some (some x) ∧ te σ H fun y H1 => ti x y H1 fun z H2 => D.nx (σ.set i (some z)) H2
/-- ints -/
def ipI (f : Int → Int → Int) : TIp := fun x y H Q => ∃ i j, x = .int i ∧ y = .int j ∧ Q (.int (f i j)) H
end

/-! ### while -/
section
variable {X : Cx} {pos : Pos}
end

/-! ### what a loop or a comprehension walks -/
set_option genSizeOf false in
set_option genInjectivity false in
structure It where
  go : Nat → Hp → Prop
  yld : Nat → Hp → V → Hp → Prop
  stop : Nat → Hp → Prop
/-- the iterator's own objects may turn: they are not the frame's, not pinned, younger than the entry (or a comprehension's own) -/
def FpOk (X : Cx) (pins : List (Addr × Obj)) (H : Hp) (b : Addr) : Prop :=
  H b = none ∧ b ≠ X.env.locals ∧ b ∉ X.fs ∧ (b ∈ X.ex ∨ X.s₀.heap.objs.size ≤ b) ∧ (∀ x c, X.env.cells.lookup x = some c → c ≠ b) ∧ ∀ p ∈ X.pn ++ pins, p.1 ≠ b
theorem Inv.fpOk {X : Cx} {pins : List (Addr × Obj)} {σ : St} {H H' : Hp} {s : Shared} {b : Addr} (I : Inv X pins σ H s) (hb : s.heap.objs.size ≤ b) (hn : H' b = none) : FpOk X pins H' b := by
  refine ⟨hn, Nat.ne_of_gt (Nat.lt_of_lt_of_le I.lt hb), I.nofs hb, .inr (Nat.le_trans I.sz hb), fun x c e z => ?_, fun p hp z => ?_⟩
  · obtain ⟨v, q⟩ := I.cell x c e
    exact absurd (Nat.lt_of_lt_of_le q.lt (by rw [z]; exact hb)) (Nat.lt_irrefl _)
  · exact absurd (Nat.lt_of_lt_of_le (Heap.lt_size (I.pin p hp).1) (by rw [z]; exact hb)) (Nat.lt_irrefl _)
structure Turn (P : Program) (w : World) (K : PySem.W.Frag) (tg : Expr) (J : It) (fp : List Addr) (it : Addr) (tn : Nat → Heap → Prop) : Prop where
  mem : it ∈ fp
  obj : ∀ i h, tn i h → ∀ b ∈ fp, ∃ o, h.get? b = some o ∧ ∀ v, o.data ≠ .cell v
  keep : ∀ i h h', tn i h → (∀ b ∈ fp, ∀ o, h.get? b = some o → h'.get? b = some o) → tn i h'
  item : ∀ (X : Cx), X.prog = P → X.w = w → X.K = K → X.calm = true → ∀ (i : Nat) (pins : List (Addr × Obj)) (s : Shared) (σ : St) (H : Hp) (E : Value → Shared → Prop), Inv X pins σ H s → (∀ b ∈ fp, FpOk X pins H b) → tn i s.heap → J.go i H →
    wpAny (model P w) X.A (pyNext (.ref it)) (fun r s1 => ∃ u, r = some u ∧
      wpAny (model P w) X.A (letOwnedTupleGo tg (.ref it) u) (fun _ s2 => ∃ x H', Inv X pins σ H' s2 ∧ RelV x u ∧ J.yld i H x H' ∧ tn (i + 1) s2.heap ∧ ∀ b ∈ fp, H' b = none) E s1) E s
  done : ∀ (X : Cx), X.prog = P → X.w = w → X.K = K → X.calm = true → ∀ (i : Nat) (pins : List (Addr × Obj)) (s : Shared) (σ : St) (H : Hp) (E : Value → Shared → Prop), Inv X pins σ H s → (∀ b ∈ fp, FpOk X pins H b) → tn i s.heap → J.stop i H →
    wpAny (model P w) X.A (pyNext (.ref it)) (fun r s1 => r = none ∧ Inv X pins σ H s1) E s
  self : ∀ (A : Around) (i : Nat) (s : Shared) (Q : Value → Shared → Prop) (E : Value → Shared → Prop), tn i s.heap → Q (.ref it) s → wpAny (model P w) A (pyIter (.ref it)) Q E s
abbrev TI := St → Hp → (It → Hp → Prop) → Prop
/-- an iterator has come -/
def PIE (X : Cx) (pins : List (Addr × Obj)) (σ : St) (tg : Expr) (R : It → Hp → Prop) (itv : Value) (s2 : Shared) : Prop :=
  ∃ (it : Addr) (fp : List Addr) (tn : Nat → Heap → Prop) (J : It) (H' : Hp), itv = .ref it ∧ Inv X pins σ H' s2 ∧ Turn X.prog X.w X.K tg J fp it tn ∧ tn 0 s2.heap ∧ (∀ b ∈ fp, FpOk X pins H' b) ∧ R J H'
def PI (X : Cx) (tg iter : Expr) (wi : TI) : Prop :=
  ∀ (pins : List (Addr × Obj)) (s : Shared) (σ : St) (H : Hp) (R : It → Hp → Prop), Inv X pins σ H s → wi σ H R →
    wpAny (model X.prog X.w) X.A (eval iter X.env) (fun v s1 => wpAny (model X.prog X.w) X.A (pyIter v) (PIE X pins σ tg R) X.xe s1) X.xe s

/-- the step ahead of the store is nothing for an iterator that keeps no tuple -/
theorem go_of {M : Model} {A : Around} {E : Value → Shared → Prop} {s : Shared} {tg : Expr} {it : Addr} {u : Value} {o : Obj} {n : String} {vs : Array Value} {Q : Unit → Shared → Prop} (ho : s.heap.get? it = some o) (hc : o.cls = .type n) (hd : o.data = .fields vs)
    (hn : ["enumerate", "zip", "dict_itemiterator", "dict_reverseitemiterator", "odict_iterator", "itertools.zip_longest", "itertools.pairwise"].contains n = false) (hQ : Q () s) : wpAny M A (letOwnedTupleGo tg (.ref it) u) Q E s := by
  unfold letOwnedTupleGo
  cases tg <;> first
    | exact wpAny_pure hQ
    | (cases u <;> first
        | exact wpAny_pure hQ
        | (refine wpAny_bind (wpAny_load ho ?_)
           rw [hc, hd]
           show wpAny M A (if (["enumerate", "zip", "dict_itemiterator", "dict_reverseitemiterator", "odict_iterator", "itertools.zip_longest", "itertools.pairwise"].contains n && vs[0]? == some (rawInt _)) = true then _ else _) Q E s
           rw [if_neg (by intro h; rw [hn, Bool.false_and] at h; cases h)]
           exact wpAny_pure hQ))

/-- the list at a, as it stands at each turn (a loop may append to it) -/
def Itl (K : PySem.W.Frag) (a : Addr) : It :=
  ⟨fun i H => ∃ xs x, SqL K H a xs ∧ xs[i]? = some x, fun i H x H' => H' = H ∧ ∀ xs, SqL K H a xs → xs[i]? = some x, fun i H => ∃ xs, SqL K H a xs ∧ xs.length ≤ i⟩
def Itt (K : PySem.W.Frag) (a : Addr) : It :=
  ⟨fun i H => ∃ xs x, SqT K H a xs ∧ xs[i]? = some x, fun i H x H' => H' = H ∧ ∀ xs, SqT K H a xs → xs[i]? = some x, fun i H => ∃ xs, SqT K H a xs ∧ xs.length ≤ i⟩
/-- lo, lo + 1, .. (n of them) -/
def Itr (lo : Int) (n : Nat) : It := ⟨fun i _ => i < n, fun i H x H' => H' = H ∧ x = .int (lo + i), fun i _ => n ≤ i⟩
theorem turn_list {P : Program} {w : World} {K : PySem.W.Frag} {tg : Expr} (a it : Addr) : Turn P w K tg (Itl K a) [it] it (fun i h => h.IsListIter it a i) where
  mem := by simp
  obj := fun i h st b hb => by
    have e : b = it := by simpa using hb
    subst e
    obtain ⟨o, e, c, d⟩ := st
    exact ⟨o, e, fun v z => by rw [d] at z; cases z⟩
  keep := fun i h h' st k => st.at fun o e => k it (by simp) o e
  item := by
    intro X hP hw hK hc i pins s σ H E I hf st hg
    subst hP hw hK
    obtain ⟨xs, x, hq, hx⟩ := hg
    obtain ⟨its, rv, p, hz⟩ := I.list hq
    obtain ⟨u, hu, ru⟩ := rv.get hx
    obtain ⟨f0, f1, f2, f3, f4, f5⟩ := hf it (by simp)
    refine wpAny_pyNext_list_item st p.isList (x := u) (by simpa using hu) fun h' st' sb => ?_
    have I1 : Inv X pins σ H { s with heap := h' } := I.turned (t' := s.toks) (fun b o hb e => (sb.2 b hb).trans e) f0 f1 f3 f4 f5
    obtain ⟨o, e, c, d⟩ := id st'
    exact ⟨u, rfl, go_of (s := { s with heap := h' }) e c d (by decide) ⟨x, H, I1, ru, ⟨rfl, fun ys hy => by rw [I.list_inj hy hq]; exact hx⟩, st', fun b hb => (hf b hb).1⟩⟩
  done := by
    intro X hP hw hK hc i pins s σ H E I hf st hg
    subst hP hw hK
    obtain ⟨xs, hq, hx⟩ := hg
    obtain ⟨its, rv, p, hz⟩ := I.list hq
    obtain ⟨f0, f1, f2, f3, f4, f5⟩ := hf it (by simp)
    have hl := rv.length
    exact wpAny_pyNext_list_end (I.ok.hd hc) st p.isList (by simp; omega) fun h' eb => ⟨rfl, I.turned (t' := s.toks) (fun b o hb e => eb b o hb e) f0 f1 f3 f4 f5⟩
  self := fun _ _ _ _ _ st h => wpAny_pyIter_listiter st h
theorem turn_range {P : Program} {w : World} {K : PySem.W.Frag} {tg : Expr} (it : Addr) (lo : Int) (n : Nat) : Turn P w K tg (Itr lo n) [it] it (fun i h => IsRangeIter h it (lo + (i : Nat) * 1) ((n : Int) - (i : Nat)) 1) where
  mem := by simp
  obj := fun i h st b hb => by
    have e : b = it := by simpa using hb
    subst e
    exact ⟨_, st, fun v z => by
      have z' : Data.fields _ = Data.cell v := z
      cases z'⟩
  keep := fun i h h' st k => k it (by simp) _ st
  item := by
    intro X hP hw hK hc i pins s σ H E I hf st hg
    subst hP hw hK
    obtain ⟨f0, f1, f2, f3, f4, f5⟩ := hf it (by simp)
    have W := Walks.range (prog := X.prog) (w := X.w) (I.ok.hd hc) it lo 1 n
    refine W.item i s _ _ hg st fun v h' tk hv st' kk => ?_
    obtain ⟨t, rfl⟩ := hv
    have I1 : Inv X pins σ H { s with heap := h', toks := tk } := I.turned (fun b o hb e => kk b o (by simpa using hb) e) f0 f1 f3 f4 f5
    refine ⟨_, rfl, go_of (s := { s with heap := h', toks := tk }) (n := "range_iterator") st' rfl rfl (by decide) ⟨.int (lo + i), H, I1, ⟨t, ?_⟩, ⟨rfl, rfl⟩, st', fun b hb => (hf b hb).1⟩⟩
    rw [Int.mul_one]
  done := by
    intro X hP hw hK hc i pins s σ H E I hf st hg
    subst hP hw hK
    obtain ⟨f0, f1, f2, f3, f4, f5⟩ := hf it (by simp)
    exact wpAny_pyNext_range_end (I.ok.hd hc) st (by have : n ≤ i := hg; omega) fun h' eb => ⟨rfl, I.turned (t' := s.toks) (fun b o hb e => eb b o hb e) f0 f1 f3 f4 f5⟩
  self := fun _ _ _ _ _ st h => wpAny_pyIter_rangeiter st h
end L2

namespace L2
open PySem PySem.Spec PyProof.Rows
section
variable {X : Cx} {tg : Expr}
def iList (K : PySem.W.Frag) (tl : TE) : TI := fun σ H R => tl σ H fun x H1 => ∃ a, x = .ref a ∧ (∃ xs, SqL K H1 a xs) ∧ R (Itl K a) H1
def iTup (K : PySem.W.Frag) (tl : TE) : TI := fun σ H R => tl σ H fun x H1 => ∃ a, x = .ref a ∧ (∃ xs, SqT K H1 a xs) ∧ R (Itt K a) H1
theorem pi_list {l : Expr} {tl : TE} (hl : PE X l tl) : PI X tg l (iList X.K tl) := by
  intro pins s σ H R I h
  refine thn (hl pins s σ H _ I h) fun v s1 ⟨x, H1, I1, r1, q1⟩ => ?_
  obtain ⟨a, e, ⟨xs, hq⟩, q⟩ := q1
  subst e
  cases r1
  obtain ⟨its, rv, p, hz⟩ := I1.list hq
  refine wpAny_pyIter_list p.isList ?_
  refine ⟨s1.heap.objs.size, [s1.heap.objs.size], _, _, H1, rfl, I1.kept (t' := s1.toks) fun b o e => Heap.get?_push_of_some _ e, turn_list a _, ⟨_, Heap.get?_push_size _ rfl, rfl, rfl⟩, fun b hb => ?_, q⟩
  have e : b = s1.heap.objs.size := by simpa using hb
  subst e
  exact I1.fpOk (Nat.le_refl _) (I1.hok.fresh (Nat.le_refl _))
/-- a range object just made, walked -/
theorem range_it {pins : List (Addr × Obj)} {σ : St} {H : Hp} {s : Shared} {R : It → Hp → Prop} {E : Value → Shared → Prop} {lo hi : Int} {t u v : Tok} {tk : Nat} (I : Inv X pins σ H s) (h1 : -(2 ^ 62) ≤ lo) (h2 : lo < 2 ^ 62) (h3 : -(2 ^ 62) ≤ hi) (h4 : hi < 2 ^ 62)
    (q : R (Itr lo (hi - lo).toNat) H) : wpAny (model X.prog X.w) X.A (pyIter (.ref s.heap.objs.size)) (PIE X pins σ tg R) E { s with heap := s.heap.push { cls := .type "range", data := .fields #[.int lo t, .int hi u, .int 1 v] }, toks := tk } := by
  refine wpAny_pyIter_range (IsRange.new ..) (small_one h1 h2 h3 h4) ?_
  have I1 : Inv X pins σ H { s with heap := s.heap.push { cls := .type "range", data := .fields #[.int lo t, .int hi u, .int 1 v] }, toks := tk } := I.kept fun b o e => Heap.get?_push_of_some _ e
  refine ⟨(s.heap.push { cls := .type "range", data := .fields #[.int lo t, .int hi u, .int 1 v] }).objs.size, [(s.heap.push { cls := .type "range", data := .fields #[.int lo t, .int hi u, .int 1 v] }).objs.size], _, _, H, rfl,
    I1.kept (t' := tk) fun b o e => Heap.get?_push_of_some _ e, turn_range _ lo (hi - lo).toNat, ?_, fun b hb => ?_, q⟩
  · have e1 : lo + ((0 : Nat) : Int) * 1 = lo := by simp
    have e2 : (((hi - lo).toNat : Nat) : Int) - ((0 : Nat) : Int) = Builtin.Range.rangeSize lo hi 1 := by rw [rangeSize_one]; split <;> omega
    show IsRangeIter _ _ (lo + ((0 : Nat) : Int) * 1) ((((hi - lo).toNat : Nat) : Int) - ((0 : Nat) : Int)) 1
    rw [e1, e2]
    exact Heap.get?_push_size _ rfl
  · have e : b = (s.heap.push { cls := .type "range", data := .fields #[.int lo t, .int hi u, .int 1 v] }).objs.size := by simpa using hb
    subst e
    exact I1.fpOk (Nat.le_refl _) (I1.hok.fresh (Nat.le_refl _))
def iRng1 (ta : TA) : TI := fun σ H R => ta σ H fun vs H1 => ∃ j : Int, vs = [.int j] ∧ -(2 ^ 62) ≤ j ∧ j < 2 ^ 62 ∧ R (Itr 0 j.toNat) H1
def iRng2 (ta : TA) : TI := fun σ H R => ta σ H fun vs H1 => ∃ i j : Int, vs = [.int i, .int j] ∧ (-(2 ^ 62) ≤ i ∧ i < 2 ^ 62 ∧ -(2 ^ 62) ≤ j ∧ j < 2 ^ 62) ∧ R (Itr i (j - i).toNat) H1
theorem pi_range1 {a : Expr} {ta : TA} {p pos : Pos} (hg : Gl X "range") (hm : X.mg "range" = none) (ha : PA X [a] ta) (hs : starEach [a] X.env = [(false, eval a X.env)] := by rfl) : PI X tg (.Call (.Name "range" p) [a] [] pos) (iRng1 ta) := by
  intro pins s σ H R I h
  refine Call_ (ld_blt I hg hm boot_range (PyProof.Rows.callWith_type1 (thn (ha pos pins s σ H _ I h) fun us s1 ⟨vs, H1, I1, r1, q1⟩ => ?_) hs rfl))
  obtain ⟨j, e, q1, q2, q⟩ := q1
  subst e
  cases r1 with
  | cons r rr =>
    cases rr
    obtain ⟨t, rfl⟩ := r
    exact call_range_1 (range_it I1 (by omega) (by omega) q1 q2 (by simpa using q))
/-! ### for -/
/-- W: the invariant by the turn and a measure; N: what the body is to reach -/
def tFor (wi : TI) (g : TG) (tb : TS) : TS := fun D σ H => wi σ H fun J H1 => ∃ W : Nat → Nat → St → Hp → Prop, (∃ m, W 0 m σ H1) ∧ ∀ i m σ H, W i m σ H →
  (J.stop i H ∧ D.nx σ H) ∨ (J.go i H ∧ ∃ N : St → Hp → Prop, (∀ σ' H', N σ' H' → ∃ m', m' < m ∧ W (i + 1) m' σ' H') ∧ ∀ x H', J.yld i H x H' → g x σ H' fun σ2 H2 => tb { D with nx := N, ct := N, bk := D.nx } σ2 H2)
/-- the records at fp as they stand -/
def pinsAt (fp : List Addr) (h : Heap) : List (Addr × Obj) := fp.filterMap fun b => (h.get? b).map fun o => (b, o)
theorem mem_pinsAt {fp : List Addr} {h : Heap} {b : Addr} {o : Obj} (hb : b ∈ fp) (e : h.get? b = some o) : (b, o) ∈ pinsAt fp h := List.mem_filterMap.mpr ⟨b, hb, by rw [e]; rfl⟩
theorem of_pinsAt {fp : List Addr} {h : Heap} {p : Addr × Obj} (hp : p ∈ pinsAt fp h) : p.1 ∈ fp ∧ h.get? p.1 = some p.2 := by
  obtain ⟨b, hb, e⟩ := List.mem_filterMap.mp hp
  cases q : h.get? b with
  | none => rw [q] at e; cases e
  | some o =>
    rw [q] at e
    have e' : (b, o) = p := Option.some.inj e
    subst e'
    exact ⟨hb, q⟩
theorem Inv.pinned {pins : List (Addr × Obj)} {σ : St} {H : Hp} {s : Shared} {fp : List Addr} (I : Inv X pins σ H s) (hf : ∀ b ∈ fp, FpOk X pins H b) (ho : ∀ b ∈ fp, ∃ o, s.heap.get? b = some o ∧ ∀ v, o.data ≠ .cell v) : Inv X (pins ++ pinsAt fp s.heap) σ H s :=
  I.pins_of fun p hp => (List.mem_append.mp hp).elim (fun z => I.pin p (List.mem_append_right _ z)) fun z => by
    obtain ⟨hb, e⟩ := of_pinsAt z
    obtain ⟨f0, f1, f2, _⟩ := hf p.1 hb
    obtain ⟨o, e', d⟩ := ho p.1 hb
    rw [e] at e'; cases e'
    exact ⟨e, f0, f1, f2, d⟩
theorem Inv.unpinned {pins pl : List (Addr × Obj)} {σ : St} {H : Hp} {s : Shared} (I : Inv X (pins ++ pl) σ H s) : Inv X pins σ H s := I.pins_of fun p hp => I.pin p (List.mem_append_right _ (List.mem_append_left _ hp))
theorem ps_for {iter : Expr} {body : List Stmt} {wi : TI} {g : TG} {tb : TS} {pos : Pos} (hp : PassesOwn (model X.prog X.w) X.A X.env X.xe) (hc : X.calm = true) (hi : PI X tg iter wi) (hg : PG X tg g) (hb : PSs X body tb)
    (hs : ∀ x, foldedSetIterable iter X.env x = pure x := by intro _; rfl) : PS X (.For tg iter body [] pos) (tFor wi g tb) := by
  intro pins s σ H D I h
  refine wpAny_For (thn (hi pins s σ H _ I h) fun v s1 h1 => thn h1 fun itv s2 h2 => ?_) hs
  obtain ⟨it, fp, tn, J, H2, e, I2, T, st2, f2, W, ⟨m0, w0⟩, turn⟩ := h2
  subst e
  -- what stays true of the iterator's objects through the loop
  have stat : ∀ {H' : Hp}, (∀ b ∈ fp, H' b = none) → ∀ b ∈ fp, FpOk X pins H' b := fun hn b hb => ⟨hn b hb, (f2 b hb).2⟩
  refine codeAny_forLoop_any (fun n s' => ∃ i σ' H', Inv X pins σ' H' s' ∧ tn i s'.heap ∧ (∀ b ∈ fp, H' b = none) ∧ W i n σ' H') ?_ m0 ⟨0, σ, H2, I2, st2, fun b hb => (f2 b hb).1, w0⟩
  rintro n s3 ⟨i, σ3, H3, I3, st3, fr3, w3⟩
  rcases turn i n σ3 H3 w3 with ⟨stop, qn⟩ | ⟨go, N, hN, step⟩
  · refine wpAny_passesOwn hp (thn (T.done X rfl rfl rfl hc i pins s3 σ3 H3 X.xe I3 (stat fr3) st3 stop) fun r s4 ⟨hr, I4⟩ => ?_)
    subst hr
    exact wpAny_execs_nil ⟨σ3, H3, I4, qn⟩
  · refine wpAny_passesOwn hp (thn (T.item X rfl rfl rfl hc i pins s3 σ3 H3 X.xe I3 (stat fr3) st3 go) fun r s4 ⟨u, hr, h4⟩ => ?_)
    subst hr
    refine wpAny_passesOwn hp (thn h4 fun _ s5 ⟨x, H5, I5, r5, y5, st5, fr5⟩ => ?_)
    have I5' := I5.pinned (stat fr5) (T.obj _ _ st5)
    refine wpAny_passesOwn hp (thn (hg _ s5 σ3 H5 x u _ I5' r5 (step x H5 y5)) fun _ s6 ⟨σ6, H6, I6, q6⟩ => ?_)
    refine wpAny_passesOwn hp (thn (hb _ s6 σ6 H6 _ I6 q6) fun f s7 q7 => ?_)
    have again : ∀ {σ7 : St} {H7 : Hp}, Inv X (pins ++ pinsAt fp s5.heap) σ7 H7 s7 → N σ7 H7 → ∃ m, m < n ∧ ∃ i σ' H', Inv X pins σ' H' s7 ∧ tn i s7.heap ∧ (∀ b ∈ fp, H' b = none) ∧ W i m σ' H' := fun {σ7 H7} I7 n7 => by
      obtain ⟨m', hm, w7⟩ := hN σ7 H7 n7
      refine ⟨m', hm, i + 1, σ7, H7, I7.unpinned, T.keep _ _ _ st5 fun b hb o e => (I7.pin (b, o) (List.mem_append_right _ (List.mem_append_right _ (mem_pinsAt hb e)))).1, fun b hb => ?_, w7⟩
      obtain ⟨o, e, d⟩ := T.obj _ _ st5 b hb
      exact (I7.pin (b, o) (List.mem_append_right _ (List.mem_append_right _ (mem_pinsAt hb e)))).2.1
    cases f with
    | next => obtain ⟨σ7, H7, I7, n7⟩ := q7; exact again I7 n7
    | cont => obtain ⟨σ7, H7, I7, n7⟩ := q7; exact again I7 n7
    | brk => obtain ⟨σ7, H7, I7, q7⟩ := q7; exact ⟨σ7, H7, I7.unpinned, q7⟩
    | ret v => obtain ⟨x7, σ7, H7, I7, r7, q7⟩ := q7; exact ⟨x7, σ7, H7, I7.unpinned, r7, q7⟩
end

/-! ### the forms one uses -/
end L2

namespace L2
open PySem PySem.Spec PyProof.Rows

abbrev R2 := V → V → Hp → VK → Prop
/-- a two-place operation on values: f is binaryOp op, inplaceOp op or compareOp op -/
def OpR (X : Cx) (f : Value → Value → Sem Value) (r : R2) : Prop :=
  ∀ (pins : List (Addr × Obj)) (s : Shared) (σ : St) (H : Hp) (x y : V) (v u : Value) (Q : VK), Inv X pins σ H s → RelV x v → RelV y u → r x y H Q →
    wpAny (model X.prog X.w) X.A (f v u) (EP X pins σ Q) X.xe s
/-- a one-place operation -/
def UnR (X : Cx) (f : Value → Sem Value) (r : V → Hp → VK → Prop) : Prop :=
  ∀ (pins : List (Addr × Obj)) (s : Shared) (σ : St) (H : Hp) (x : V) (v : Value) (Q : VK), Inv X pins σ H s → RelV x v → r x H Q →
    wpAny (model X.prog X.w) X.A (f v) (EP X pins σ Q) X.xe s
/-- a call of a value that is known (a builtin, a type) with values -/
def CallR (X : Cx) (f : Value) (r : List V → Hp → VK → Prop) : Prop :=
  ∀ (pins : List (Addr × Obj)) (s : Shared) (σ : St) (H : Hp) (xs : List V) (us : List Value) (Q : VK), Inv X pins σ H s → Vals xs us → r xs H Q →
    wpAny (model X.prog X.w) X.A (call f us) (EP X pins σ Q) X.xe s
def tOp (r : R2) (ta tb : TE) : TE := fun σ H Q => ta σ H fun x H1 => tb σ H1 fun y H2 => r x y H2 Q
def tUn (r : V → Hp → VK → Prop) (ta : TE) : TE := fun σ H Q => ta σ H fun x H1 => r x H1 Q
/-- ints in, under C, and a value out -/
def rI (C : Int → Int → Prop) (g : Int → Int → V) : R2 := fun x y H Q => ∃ i j, x = .int i ∧ y = .int j ∧ C i j ∧ Q (g i j) H
def rI0 (g : Int → Int → V) : R2 := fun x y H Q => ∃ i j, x = .int i ∧ y = .int j ∧ Q (g i j) H
def rU (g : Int → V) : V → Hp → VK → Prop := fun x H Q => ∃ i, x = .int i ∧ Q (g i) H

section
variable {X : Cx} {a b c : Expr} {ta tb tc : TE} {pos : Pos}

theorem binT (ha : PE X a ta) (hb : PE X b tb) {pins : List (Addr × Obj)} {s : Shared} {σ : St} {H : Hp} {R : V → V → Hp → Prop} (I : Inv X pins σ H s)
    (h : ta σ H fun x H1 => tb σ H1 fun y H2 => R x y H2) {Q : Value → Shared → Prop} {f : Value → Value → Sem Value}
    (hf : ∀ v u s2 x y H2, Inv X pins σ H2 s2 → RelV x v → RelV y u → R x y H2 → wpAny (model X.prog X.w) X.A (f v u) Q X.xe s2) :
    wpAny (model X.prog X.w) X.A (eval a X.env) (fun v s₁ => wpAny (model X.prog X.w) X.A (eval b X.env) (fun u s₂ => wpAny (model X.prog X.w) X.A (f v u) Q X.xe s₂) X.xe s₁) X.xe s := by
  refine thn (ha pins s σ H _ I h) fun v s1 ⟨x, H1, I1, r1, q1⟩ => ?_
  refine thn (hb pins s1 σ H1 _ I1 q1) fun u s2 ⟨y, H2, I2, r2, q2⟩ => ?_
  exact hf v u s2 x y H2 I2 r1 r2 q2

theorem pe_op {op : Operator} {r : R2} (ho : OpR X (binaryOp op) r) (ha : PE X a ta) (hb : PE X b tb) : PE X (.BinOp a op b pos) (tOp r ta tb) := by
  intro pins s σ H Q I h
  exact wpAny_BinOp (binT ha hb I h fun v u s2 x y H2 I2 rx ry q => ho pins s2 σ H2 x y v u Q I2 rx ry q)
theorem pe_un {op : UnaryOp} {r : V → Hp → VK → Prop} (ho : UnR X (unaryOp op) r) (ha : PE X a ta) : PE X (.UnaryOp op a pos) (tUn r ta) := by
  intro pins s σ H Q I h
  exact UnaryOp_ (thn (ha pins s σ H _ I h) fun v s1 ⟨x, H1, I1, r1, q1⟩ => ho pins s1 σ H1 x v Q I1 r1 q1)
/-! ### ints -/
theorem opI {f : Value → Value → Sem Value} {C : Int → Int → Prop} {g : Int → Int → Int}
    (rule : ∀ (i j : Int) (t u : Tok) (s : Shared) (Q : Value → Shared → Prop) (E : Value → Shared → Prop), C i j → Q (.int (g i j) s.toks) { s with toks := s.toks + 1 } → wpAny (model X.prog X.w) X.A (f (.int i t) (.int j u)) Q E s) :
    OpR X f (rI C fun i j => .int (g i j)) := by
  intro pins s σ H x y v u Q I rx ry h
  obtain ⟨i, j, rfl, rfl, hc, q⟩ := h
  obtain ⟨t, rfl⟩ := rx
  obtain ⟨t', rfl⟩ := ry
  exact rule i j t t' s _ _ hc ⟨.int (g i j), H, I.tok _, ⟨_, rfl⟩, q⟩
theorem opI0 {f : Value → Value → Sem Value} {g : Int → Int → Int}
    (rule : ∀ (i j : Int) (t u : Tok) (s : Shared) (Q : Value → Shared → Prop) (E : Value → Shared → Prop), Q (.int (g i j) s.toks) { s with toks := s.toks + 1 } → wpAny (model X.prog X.w) X.A (f (.int i t) (.int j u)) Q E s) :
    OpR X f (rI0 fun i j => .int (g i j)) := by
  intro pins s σ H x y v u Q I rx ry h
  obtain ⟨i, j, rfl, rfl, q⟩ := h
  obtain ⟨t, rfl⟩ := rx
  obtain ⟨t', rfl⟩ := ry
  exact rule i j t t' s _ _ ⟨.int (g i j), H, I.tok _, ⟨_, rfl⟩, q⟩
theorem opB0 {f : Value → Value → Sem Value} {g : Int → Int → Bool}
    (rule : ∀ (i j : Int) (t u : Tok) (s : Shared) (Q : Value → Shared → Prop) (E : Value → Shared → Prop), Q (.bool (g i j)) s → wpAny (model X.prog X.w) X.A (f (.int i t) (.int j u)) Q E s) :
    OpR X f (rI0 fun i j => .bl (g i j)) := by
  intro pins s σ H x y v u Q I rx ry h
  obtain ⟨i, j, rfl, rfl, q⟩ := h
  obtain ⟨t, rfl⟩ := rx
  obtain ⟨t', rfl⟩ := ry
  exact rule i j t t' s _ _ ⟨.bl (g i j), H, I, rfl, q⟩

def CPow (i j : Int) : Prop := 0 ≤ j ∧ j ≤ 1000000 ∧ i.natAbs < 2 ^ 64
theorem op_add : OpR X (binaryOp .Add) (rI0 fun i j => .int (i + j)) := opI0 fun _ _ _ _ _ _ _ q => add_int q
theorem op_sub : OpR X (binaryOp .Sub) (rI0 fun i j => .int (i - j)) := opI0 fun _ _ _ _ _ _ _ q => sub_int q
/-- % by a positive divisor of any size -/
theorem op_mod : OpR X (binaryOp .Mod) (rI (fun _ j => 0 < j) fun i j => .int (i % j)) := opI fun i j _ _ _ _ _ hc q => by
  have h1 : (0 : Int) < j := hc
  exact mod_int' (by omega) (by rw [Int.fmod_eq_emod_of_nonneg i (by omega)]; exact q)
theorem op_pow : OpR X (binaryOp .Pow) (rI CPow fun i j => .int (i ^ j.toNat)) := opI fun _ _ _ _ _ _ _ hc q => pow_int_small hc.1 hc.2.1 hc.2.2 q
theorem unI {f : Value → Sem Value} {g : Int → Int}
    (rule : ∀ (i : Int) (t : Tok) (s : Shared) (Q : Value → Shared → Prop) (E : Value → Shared → Prop), Q (.int (g i) s.toks) { s with toks := s.toks + 1 } → wpAny (model X.prog X.w) X.A (f (.int i t)) Q E s) :
    UnR X f (rU fun i => .int (g i)) := by
  intro pins s σ H x v Q I rx h
  obtain ⟨i, rfl, q⟩ := h
  obtain ⟨t, rfl⟩ := rx
  exact rule i t s _ _ ⟨.int (g i), H, I.tok _, ⟨_, rfl⟩, q⟩
theorem un_neg : UnR X (unaryOp .USub) (rU fun i => .int (-i)) := unI fun _ _ _ _ _ q => neg_int q
/-! ### bools among ints: n += (a < b) -/
end

/-! ### comparisons -/
/-- the scalars that == tells apart as data does -/
def scal : V → V → Bool
  | .non, .non => true | .non, .int _ => true | .int _, .non => true | .non, .bl _ => true | .bl _, .non => true | .non, .str _ => true | .str _, .non => true
  | .int _, .int _ => true | .bl _, .bl _ => true | .str _, .str _ => true | .byt _, .byt _ => true
  | .int _, .str _ => true | .str _, .int _ => true | .bl _, .str _ => true | .str _, .bl _ => true
  | _, _ => false
def rEq : R2 := fun x y H Q => scal x y = true ∧ Q (.bl (decide (x = y))) H
def rNe : R2 := fun x y H Q => scal x y = true ∧ Q (.bl (!decide (x = y))) H

theorem dec_int {i j : Int} : decide (V.int i = V.int j) = (i == j) := by
  rw [Bool.eq_iff_iff]
  simp
theorem dec_bl {i j : Bool} : decide (V.bl i = V.bl j) = (i == j) := by
  rw [Bool.eq_iff_iff]
  simp
theorem dec_str {i j : Str} : decide (V.str i = V.str j) = (i == j) := by
  rw [Bool.eq_iff_iff]
  simp
theorem dec_byt {i j : Array UInt8} : decide (V.byt i = V.byt j) = (i.toList == j.toList) := by
  rw [Bool.eq_iff_iff]
  cases i
  cases j
  simp

section
variable {X : Cx} {a b c : Expr} {ta tb tc : TE} {pos : Pos}
theorem fin_bl {pins : List (Addr × Obj)} {σ : St} {H : Hp} {s : Shared} {Q : VK} {k k' : Bool} (I : Inv X pins σ H s) (q : Q (.bl k) H) (e : k = k') : EP X pins σ Q (.bool k') s := by
  subst e
  exact ⟨.bl k, H, I, rfl, q⟩
theorem op_eq : OpR X (compareOp .Eq) rEq := by
  intro pins s σ H x y v u Q I rx ry h
  obtain ⟨hs, q⟩ := h
  cases x with
  | non =>
    cases rx
    cases y with
    | non => cases ry; exact PySem.EqNone.eq_none_none (fin_bl I q (by simp))
    | bl j => cases ry; exact PySem.EqNone.eq_none_bool (fin_bl I q (by simp))
    | int j => obtain ⟨t', rfl⟩ := ry; exact PySem.EqNone.eq_none_int (fin_bl I q (by simp))
    | str j => obtain ⟨t', rfl⟩ := ry; exact PySem.EqNone.eq_none_str (fin_bl I q (by simp))
    | _ => exact absurd (show false = true from hs) Bool.false_ne_true
  | bl i =>
    cases rx
    cases y with
    | non => cases ry; exact PySem.EqNone.eq_bool_none (fin_bl I q (by simp))
    | bl j => cases ry; exact eq_bool (fin_bl I q dec_bl)
    | str j => obtain ⟨t', rfl⟩ := ry; exact PySem.EqMixed.eq_bool_str (fin_bl I q (by simp))
    | _ => exact absurd (show false = true from hs) Bool.false_ne_true
  | int i =>
    obtain ⟨t, rfl⟩ := rx
    cases y with
    | non => cases ry; exact PySem.EqNone.eq_int_none (fin_bl I q (by simp))
    | int j => obtain ⟨t', rfl⟩ := ry; exact eq_int (fin_bl I q dec_int)
    | str j => obtain ⟨t', rfl⟩ := ry; exact PySem.EqMixed.eq_int_str (fin_bl I q (by simp))
    | _ => exact absurd (show false = true from hs) Bool.false_ne_true
  | str i =>
    obtain ⟨t, rfl⟩ := rx
    cases y with
    | non => cases ry; exact PySem.EqNone.eq_str_none (fin_bl I q (by simp))
    | bl j => cases ry; exact PySem.EqMixed.eq_str_bool (fin_bl I q (by simp))
    | int j => obtain ⟨t', rfl⟩ := ry; exact PySem.EqMixed.eq_str_int (fin_bl I q (by simp))
    | str j => obtain ⟨t', rfl⟩ := ry; exact eq_str (fin_bl I q dec_str)
    | _ => exact absurd (show false = true from hs) Bool.false_ne_true
  | byt i =>
    obtain ⟨t, rfl⟩ := rx
    cases y with
    | byt j => obtain ⟨t', rfl⟩ := ry; exact PySem.W.eq_bytes (fin_bl I q dec_byt)
    | _ => exact absurd (show false = true from hs) Bool.false_ne_true
  | _ => cases y <;> exact absurd (show false = true from hs) Bool.false_ne_true
theorem op_ne : OpR X (compareOp .NotEq) rNe := by
  intro pins s σ H x y v u Q I rx ry h
  obtain ⟨hs, q⟩ := h
  cases x with
  | non =>
    cases rx
    cases y with
    | non => cases ry; exact PySem.EqNone.ne_none_none (fin_bl I q (by simp))
    | bl j => cases ry; exact PySem.EqNone.ne_none_bool (fin_bl I q (by simp))
    | int j => obtain ⟨t', rfl⟩ := ry; exact PySem.EqNone.ne_none_int (fin_bl I q (by simp))
    | str j => obtain ⟨t', rfl⟩ := ry; exact PySem.EqNone.ne_none_str (fin_bl I q (by simp))
    | _ => exact absurd (show false = true from hs) Bool.false_ne_true
  | bl i =>
    cases rx
    cases y with
    | non => cases ry; exact PySem.EqNone.ne_bool_none (fin_bl I q (by simp))
    | bl j => cases ry; exact ne_bool (fin_bl I q (congrArg not dec_bl))
    | str j => obtain ⟨t', rfl⟩ := ry; exact PySem.EqMixed.ne_bool_str (fin_bl I q (by simp))
    | _ => exact absurd (show false = true from hs) Bool.false_ne_true
  | int i =>
    obtain ⟨t, rfl⟩ := rx
    cases y with
    | non => cases ry; exact PySem.EqNone.ne_int_none (fin_bl I q (by simp))
    | int j => obtain ⟨t', rfl⟩ := ry; exact ne_int (fin_bl I q (congrArg not dec_int))
    | str j => obtain ⟨t', rfl⟩ := ry; exact PySem.EqMixed.ne_int_str (fin_bl I q (by simp))
    | _ => exact absurd (show false = true from hs) Bool.false_ne_true
  | str i =>
    obtain ⟨t, rfl⟩ := rx
    cases y with
    | non => cases ry; exact PySem.EqNone.ne_str_none (fin_bl I q (by simp))
    | bl j => cases ry; exact PySem.EqMixed.ne_str_bool (fin_bl I q (by simp))
    | int j => obtain ⟨t', rfl⟩ := ry; exact PySem.EqMixed.ne_str_int (fin_bl I q (by simp))
    | str j => obtain ⟨t', rfl⟩ := ry; exact ne_str (fin_bl I q (congrArg not dec_str))
    | _ => exact absurd (show false = true from hs) Bool.false_ne_true
  | byt i =>
    obtain ⟨t, rfl⟩ := rx
    cases y with
    | byt j => obtain ⟨t', rfl⟩ := ry; exact PySem.W.ne_bytes (fin_bl I q (congrArg not dec_byt))
    | _ => exact absurd (show false = true from hs) Bool.false_ne_true
  | _ => cases y <;> exact absurd (show false = true from hs) Bool.false_ne_true

theorem op_lt : OpR X (compareOp .Lt) (rI0 fun i j => .bl (decide (i < j))) := opB0 fun _ _ _ _ _ _ _ q => lt_int q
theorem op_gt : OpR X (compareOp .Gt) (rI0 fun i j => .bl (decide (j < i))) := opB0 fun _ _ _ _ _ _ _ q => gt_int q
theorem nomark (b : Expr) {op : CmpOp} (h : op ≠ .In := by decide) (h2 : op ≠ .NotIn := by decide) : behindInMarks op b = false := by
  have e1 : (op == CmpOp.In) = false := by cases op <;> first | rfl | exact absurd rfl h
  have e2 : (op == CmpOp.NotIn) = false := by cases op <;> first | rfl | exact absurd rfl h2
  cases b <;> simp [behindInMarks, e1, e2]
/-- a reading of a value as a test -/
def tTest (t : TE) : TT := fun σ H Q => t σ H fun x H' => ∃ k, x = .bl k ∧ Q k H'
theorem pt_cmpR {op : CmpOp} {r : R2} (ho : OpR X (compareOp op) r) (ha : PE X a ta) (hb : PE X b tb) (hm : behindInMarks op b = false) : PT X (.Compare a [op] [b] pos) (tTest (tOp r ta tb)) := by
  intro pins s σ H Q I h
  refine wpAny_isTrue_Compare1 (thn (ha pins s σ H _ I h) fun v s1 ⟨x, H1, I1, r1, q1⟩ => thn (hb pins s1 σ H1 _ I1 q1) fun u s2 ⟨y, H2, I2, r2, q2⟩ =>
    thn (ho pins s2 σ H2 x y v u _ I2 r1 r2 q2) fun c s3 ⟨z, H3, I3, r3, k, e, q3⟩ => ?_) hm
  subst e
  cases r3
  exact wpAny_truthy_bool ⟨H3, I3, q3⟩
/-- a op1 b op2 c -/
def tChain (r r' : R2) (ta tb tc : TE) : TE := fun σ H Q => ta σ H fun x H1 => tb σ H1 fun y H2 => r x y H2 fun z H3 => ∃ k, z = .bl k ∧
  (if k = true then tc σ H3 fun w' H4 => r' y w' H4 Q else Q (.bl false) H3)
/-! ### truth -/
theorem line63 : (sizeLine : Nat) < 2 ^ 63 := by rw [sizeLine_eq]; decide
/-! ### strs and bytes -/
/-! ### scalar builtins, by CallR -/
theorem vals1 {x : V} {us : List Value} (r : Vals [x] us) : ∃ u, us = [u] ∧ RelV x u := by
  cases r with
  | cons r1 r2 => cases r2; exact ⟨_, rfl, r1⟩
theorem vals2 {x y : V} {us : List Value} (r : Vals [x, y] us) : ∃ u w', us = [u, w'] ∧ RelV x u ∧ RelV y w' := by
  cases r with
  | cons r1 r2 =>
    cases r2 with
    | cons r3 r4 => cases r4; exact ⟨_, _, rfl, r1, r3⟩
/-- len of a str, a bytes, a list, a tuple -/
def LenV (K : PySem.W.Frag) (x : V) (H : Hp) (n : Nat) : Prop :=
  match x with
  | .str y => y.length ≤ sizeLine ∧ n = y.length
  | .byt y => y.size ≤ sizeLine ∧ n = y.size
  | .ref p => (∃ xs, SqL K H p xs ∧ n = xs.length) ∨ ∃ xs, SqT K H p xs ∧ n = xs.length
  | _ => False
theorem call_len : CallR X (.builtin "len") (fun xs H Q => ∃ x n, xs = [x] ∧ LenV X.K x H n ∧ Q (.int n) H) := by
  intro pins s σ H xs us Q I r h
  obtain ⟨x, n, rfl, e, q⟩ := h
  obtain ⟨u, rfl, rx⟩ := vals1 r
  have hl := line63
  have hs : sizeLine = 16777216 := sizeLine_eq
  cases x with
  | str y =>
    obtain ⟨t, rfl⟩ := rx
    obtain ⟨hy, e'⟩ : y.length ≤ sizeLine ∧ n = y.length := e
    subst e'
    exact len_str (by omega) ⟨.int _, H, I.tok _, ⟨_, rfl⟩, q⟩
  | byt y =>
    obtain ⟨t, rfl⟩ := rx
    obtain ⟨hy, e'⟩ : y.size ≤ sizeLine ∧ n = y.size := e
    subst e'
    exact PySem.W.len_bytes (by omega) ⟨.int _, H, I.tok _, ⟨_, rfl⟩, q⟩
  | ref p =>
    cases rx
    have e' : (∃ xs, SqL X.K H p xs ∧ n = xs.length) ∨ ∃ xs, SqT X.K H p xs ∧ n = xs.length := e
    rcases e' with ⟨xs, hx, e'⟩ | ⟨xs, hx, e'⟩
    · subst e'
      obtain ⟨its, r', pl, hz⟩ := I.list hx
      have hlen := r'.length
      exact Calls.call_len_list pl.isList (by simp only [List.size_toArray]; omega) ⟨.int xs.length, H, I.tok _, ⟨_, by simp only [List.size_toArray]; rw [hlen]⟩, q⟩
    · subst e'
      obtain ⟨its, r', pl, hz⟩ := I.tuple hx
      have hlen := r'.length
      exact len_tuple pl (by simp only [List.size_toArray]; omega) ⟨.int xs.length, H, I.tok _, ⟨_, by simp only [List.size_toArray]; rw [hlen]⟩, q⟩
  | _ => exact (show False from e).elim
end
end L2

namespace L2
open PySem PySem.Spec PyProof.Rows

/-! ### an instance, its attributes a map -/
structure ObjM (h : Heap) (x dx C : Addr) (mA : Str → Option Value) : Prop where
  obj : h.get? x = some (PySem.W.instObj C dx)
  ns : h.Ns1 dx mA
  ne : dx ≠ x

theorem lookIn_ns {h : Heap} {dx : Addr} {mA : Str → Option Value} (n : h.Ns1 dx mA) : ∃ od, h.get? dx = some od ∧ ∀ name, PySem.W.lookIn name od = some (mA name) := by
  obtain ⟨o, es, ep, ho, hd, hk, _, hm⟩ := n
  refine ⟨o, ho, fun name => ?_⟩
  have e := hm name
  unfold nsFind findBy at e
  rw [← Array.find?_toList] at e
  unfold PySem.W.lookIn
  rw [hd]
  dsimp only
  split
  · rename_i y q
    rw [q] at e
    exact congrArg some e
  · rename_i q
    rw [q] at e
    have a : es.toList.any (·.refKey) = false := by
      rw [List.any_eq_false]
      intro y hy
      obtain ⟨z, t, hkey⟩ := hk y (Array.mem_toList_iff.mp hy)
      simp [DictEntry.refKey, hkey]
    have a' : ¬ es.toList.any (·.refKey) = true := by rw [a]; exact Bool.false_ne_true
    rw [if_neg a']
    exact congrArg some e

theorem ObjM.look {h : Heap} {x dx C : Addr} {mA : Str → Option Value} (I : ObjM h x dx C mA) : ∃ od, PySem.W.InstAt h x (PySem.W.instObj C dx) C (some od) ∧ ∀ name, PySem.W.lookIn name od = some (mA name) :=
  let ⟨od, ho, hl⟩ := lookIn_ns I.ns
  ⟨od, ⟨I.obj, rfl, rfl, ho⟩, hl⟩

section
variable {prog : Program} {w : World} {A : Around} {E : Value → Shared → Prop} {s : Shared} {K : PySem.W.Frag} {x dx C f : Addr} {mA : Str → Option Value} {name : Str} {v : Value}

theorem get_map {expr : Bool} {Q : Value → Shared → Prop} (X : K.In s.heap) (I : ObjM s.heap x dx C mA) (hg : PySem.W.plainGet K C name = true) (hh : PySem.W.hasDictIn K C = true)
    (ha : PySem.W.findIn K (.ref C) name = some none) (hv : mA name = some v) (hv' : PySem.W.handedIn v = true) (h : Q v { s with toks := s.toks + 1 }) :
    wpAny (model prog w) A (getAttr (.ref x) name expr) Q E s := by
  obtain ⟨od, J, hl⟩ := I.look
  exact PySem.W.get_value X J (PySem.W.plainGet_of hg).1 (PySem.W.findObj_own hh ha rfl (by rw [hl, hv])) hv' h

theorem get_meth {pl : Sem Bool} {Q : Value × List Value → Shared → Prop} (X : K.In s.heap) (I : ObjM s.heap x dx C mA) (hg : PySem.W.plainGet K C name = true)
    (hf : PySem.W.findIn K (.ref C) name = some (some (.ref f))) (ht : PySem.W.isFn K (.ref f) = true) (hv : mA name = none) (h : Q (.ref f, [.ref x]) s) :
    wpAny (model prog w) A (getMethod (.ref x) name pl) Q E s := by
  obtain ⟨od, J, hl⟩ := I.look
  exact PySem.W.method_fn X J (PySem.W.plainGet_of hg).1 (PySem.W.plainGet_of hg).2 hf (beq_iff_eq.mp ht) (by show (PySem.W.lookIn name od).map (·.isSome) = some false; rw [hl, hv]; rfl) h

theorem set_map {ns : List Str} {Q : Unit → Shared → Prop} (X : K.In s.heap) (I : ObjM s.heap x dx C mA)
    (hs : PySem.W.findIn K (.ref C) "__setattr__" = some (some (.builtin "object.__setattr__"))) (hp : PySem.W.plainOver K C = true) (ht : PySem.W.takerIn K C name = some none) (hh : PySem.W.hasDictIn K C = true)
    (hw : PySem.Within mA ns) (hsz : ns.length ≤ sizeLine)
    (h : ∀ h', ObjM h' x dx C (fun y => if y = name then some v else mA y) → Heap.SameBut dx s.heap h' → Q () { s with heap := h', toks := s.toks + 2 }) :
    wpAny (model prog w) A (setAttr (.ref x) name v) Q E s := by
  obtain ⟨od, J, hl⟩ := I.look
  refine PySem.W.set_plain X J hs (PySem.W.osa_open (s := { s with toks := s.toks + 1 }) (r := none) X J hp ht fun b => ?_)
  obtain ⟨cd, hc, hd'⟩ := PySem.W.any_some hh
  have hx : s.heap.get? x = some ⟨.ref C, some dx, .plain, #[]⟩ := I.obj
  refine wpAny_bind (wpAny_pure (wpAny_bind (wpAny_bind (wpAny_loadPart hx (wpAny_bind (PySem.W.Looks.here (s := { s with toks := s.toks + 1 }) (PySem.W.looks_clsIn X hc) ?_))))))
  rw [hd']
  refine wpAny_pure (a := some dx) (wpAny_bind (wpAny_pure (wpAny_bind ?_)))
  refine wpAny_nsSet1 (s := { s with toks := s.toks + 1 }) I.ns fun h' hn2 hs2 => ?_
  obtain ⟨oD, esD, epD, hoD, hdD, hcD⟩ := hn2.count (PySem.Within.cons name v hw)
  refine wpAny_bind (wpAny_lookBehind hoD (by rw [hdD]; exact pastItsLine_dict (Nat.le_trans hcD (by rw [List.length_cons]; omega))) ?_)
  exact wpAny_pure (h _ ⟨(hs2.2 _ (Ne.symm I.ne)).trans I.obj, hn2, I.ne⟩ hs2)

/-- C(..): the dict at the heap's end, the instance behind it; then its __init__ -/
theorem make_map {R : Result → Shared → Prop} {vs : List Value} {kw : List (Str × Value)} (X : K.In s.heap) (hm : PySem.W.makesIn K C = true)
    (hi : PySem.W.findIn K (.ref C) "__init__" = some (some (.ref f))) (hf : PySem.W.typeIn K (.ref f) = some (.type "function"))
    (h : codeAny (model prog w) (A.under (.builtin "type.__call__" ⟨.ref C :: vs, kw⟩)) (.call (.ref f) ⟨.ref (s.heap.objs.size + 1) :: vs, kw⟩) (PySem.W.InitBack (s.heap.objs.size + 1) R)
      { s with heap := (s.heap.push PySem.W.emptyDict).push (PySem.W.instObj C s.heap.objs.size) }) :
    codeAny (model prog w) A (.call (.ref C) ⟨vs, kw⟩) R s := by
  obtain ⟨hh, g, d, t, os⟩ := s
  exact PySem.W.make_core (PySem.W.makes_of X hm) (PySem.W.looks_findIn X hi) (fun self => PySem.W.bind_fn X self hf) (.inl rfl) h
/-- C() where there is no __init__ but object's -/
theorem make_map0 {R : Result → Shared → Prop} (X : K.In s.heap) (hm : PySem.W.makesIn K C = true)
    (hi : PySem.W.findIn K (.ref C) "__init__" = some (some (.builtin "object.__init__")))
    (hb : ∀ self, PySem.W.Looks (model prog w) s.heap (bindSpecial (.builtin "object.__init__") self) (.builtin "object.__init__", [self]))
    (h : codeAny (model prog w) (A.under (.builtin "type.__call__" ⟨[.ref C], []⟩)) (.call (.builtin "object.__init__") ⟨[.ref (s.heap.objs.size + 1)], []⟩) (PySem.W.InitBack (s.heap.objs.size + 1) R)
      { s with heap := (s.heap.push PySem.W.emptyDict).push (PySem.W.instObj C s.heap.objs.size) }) :
    codeAny (model prog w) A (.call (.ref C) ⟨[], []⟩) R s := by
  obtain ⟨hh, g, d, t, os⟩ := s
  exact PySem.W.make_core (PySem.W.makes_of X hm) (PySem.W.looks_findIn X hi) hb (.inr ⟨rfl, rfl⟩) h
end

/-! ### the attributes as a list of pairs -/
def putF (f : Str) (v : V) : List (Str × V) → List (Str × V)
  | [] => [(f, v)]
  | (g, x) :: r => if g = f then (g, v) :: r else (g, x) :: putF f v r
theorem lookup_putF (f g : Str) (v : V) : ∀ fs : List (Str × V), (putF f v fs).lookup g = if g = f then some v else fs.lookup g
  | [] => by
    show List.lookup g [(f, v)] = _
    by_cases h : g = f
    · have hb : (g == f) = true := beq_iff_eq.mpr h
      simp only [List.lookup, hb, if_pos h]
    · have hb : (g == f) = false := beq_eq_false_iff_ne.mpr h
      simp only [List.lookup, hb, if_neg h]
  | (k, x) :: r => by
    have ih := lookup_putF f g v r
    rw [show putF f v ((k, x) :: r) = (if k = f then (k, v) :: r else (k, x) :: putF f v r) from rfl]
    by_cases hk : k = f
    · rw [if_pos hk]
      by_cases h : g = k
      · have hb : (g == k) = true := beq_iff_eq.mpr h
        simp only [List.lookup, hb, if_pos (h.trans hk)]
      · have hb : (g == k) = false := beq_eq_false_iff_ne.mpr h
        simp only [List.lookup, hb, if_neg (fun e : g = f => h (e.trans hk.symm))]
    · rw [if_neg hk]
      by_cases h : g = k
      · have hb : (g == k) = true := beq_iff_eq.mpr h
        simp only [List.lookup, hb, if_neg (fun e : g = f => hk (h.symm.trans e))]
      · have hb : (g == k) = false := beq_eq_false_iff_ne.mpr h
        simp only [List.lookup, hb]
        exact ih
theorem keys_putF (f : Str) (v : V) : ∀ fs : List (Str × V), f ∈ (putF f v fs).map (·.1) ∧ ∀ g, g ∈ fs.map (·.1) → g ∈ (putF f v fs).map (·.1)
  | [] => ⟨by simp [putF], fun g h => by simp at h⟩
  | (k, x) :: r => by
    obtain ⟨i1, i2⟩ := keys_putF f v r
    rw [show putF f v ((k, x) :: r) = (if k = f then (k, v) :: r else (k, x) :: putF f v r) from rfl]
    by_cases hk : k = f
    · rw [if_pos hk]
      subst hk
      exact ⟨by simp, fun g h => by simpa using h⟩
    · rw [if_neg hk]
      refine ⟨?_, fun g h => ?_⟩
      · rw [List.map_cons]
        exact List.mem_cons_of_mem _ i1
      · rw [List.map_cons] at h ⊢
        rcases List.mem_cons.mp h with e | e
        · exact List.mem_cons.mpr (.inl e)
        · exact List.mem_cons_of_mem _ (i2 g e)
theorem length_putF (f : Str) (v : V) : ∀ fs : List (Str × V), (putF f v fs).length ≤ fs.length + 1
  | [] => by simp [putF]
  | (k, x) :: r => by
    have ih := length_putF f v r
    rw [show putF f v ((k, x) :: r) = (if k = f then (k, v) :: r else (k, x) :: putF f v r) from rfl]
    by_cases hk : k = f
    · rw [if_pos hk, List.length_cons, List.length_cons]; omega
    · rw [if_neg hk, List.length_cons, List.length_cons]; omega

theorem RelO.some_of {v : V} {o : Option Value} (r : RelO (some v) o) : ∃ u, o = some u ∧ RelV v u := by
  cases o with
  | none => exact (show False from r).elim
  | some u => exact ⟨u, rfl, r⟩
theorem RelO.none_of {o : Option Value} (r : RelO none o) : o = none := by
  cases o with
  | none => rfl
  | some u => exact (show False from r).elim
theorem handed_of {v : V} {u : Value} (r : RelV v u) : PySem.W.handedIn u = true := by
  cases v with
  | non => cases (show u = Value.none from r); rfl
  | bl b => cases (show u = Value.bool b from r); rfl
  | int i => obtain ⟨t, e⟩ := (show ∃ t, u = Value.int i t from r); cases e; rfl
  | str x => obtain ⟨t, e⟩ := (show ∃ t, u = Value.str x t from r); cases e; rfl
  | byt b => obtain ⟨t, e⟩ := (show ∃ t, u = Value.bytes b t from r); cases e; rfl
  | flt b => obtain ⟨t, e⟩ := (show ∃ t, u = Value.float b t from r); cases e; rfl
  | ref a => cases (show u = Value.ref a from r); rfl
  | ty n => cases (show u = Value.type n from r); rfl

section
variable {P : Program} {w : World} {H H' : Hp} {h h' : Heap} {a C dx : Addr} {fs fs' : List (Str × V)}
theorem ins_get (hok : HOk P w H h) (e : H a = some (.ins C dx fs)) : ∃ mA, ObjM h a dx C mA ∧ (∀ f, RelO (fs.lookup f) (mA f)) ∧ PySem.Within mA (fs.map (·.1)) ∧ fs.length ≤ 1000 ∧ H dx = some (.own a) := by
  obtain ⟨d, z, ne, ob, mA, n, r, q⟩ := (show ObjOk P w H h a (.ins C dx fs) from hok a _ e)
  exact ⟨mA, ⟨ob, n, ne⟩, r, q, z, d⟩
end

/-! ### what of the text a class must have -/
structure Cls (K : PySem.W.Frag) (C : Addr) : Prop where
  pg : PySem.W.plainGet K C Str.empty = true
  hd : PySem.W.hasDictIn K C = true
  po : PySem.W.plainOver K C = true
  sa : PySem.W.findIn K (.ref C) "__setattr__" = some (some (.builtin "object.__setattr__"))
theorem Cls.get {K : PySem.W.Frag} {C : Addr} (c : Cls K C) (f : Str) : PySem.W.plainGet K C f = true := c.pg
/-- no class of it has the name -/
def NoAttr (K : PySem.W.Frag) (C : Addr) (f : Str) : Prop := PySem.W.findIn K (.ref C) f = some none
theorem NoAttr.taker {K : PySem.W.Frag} {C : Addr} {f : Str} (n : NoAttr K C f) : PySem.W.takerIn K C f = some none := by
  unfold PySem.W.takerIn
  rw [show PySem.W.findIn K (.ref C) f = some none from n]
  rfl
/-- a method: a plain def of the class or of one above it -/
structure Meth (K : PySem.W.Frag) (C : Addr) (m : Str) (f : Addr) : Prop where
  at_ : PySem.W.findIn K (.ref C) m = some (some (.ref f))
  fn : PySem.W.isFn K (.ref f) = true
  kp : PySem.W.keepIn K (.ref f) = true

section
variable {X : Cx} {pins : List (Addr × Obj)} {σ : St} {H : Hp} {s : Shared} {a C dx : Addr} {fs : List (Str × V)} {f : Str} {v : V} {A : Around} {E : Value → Shared → Prop}

theorem getattr_ok {b : Bool} {Q : Value → Shared → Prop} (I : Inv X pins σ H s) (e : H a = some (.ins C dx fs)) (c : Cls X.K C) (n : NoAttr X.K C f) (l : fs.lookup f = some v)
    (h : ∀ u s', Inv X pins σ H s' → RelV v u → Q u s') : wpAny (model X.prog X.w) A (getAttr (.ref a) f b) Q E s := by
  obtain ⟨mA, O, r, _, _, _⟩ := ins_get I.hok e
  obtain ⟨u, hu, ru⟩ := RelO.some_of (v := v) (o := mA f) (by rw [← l]; exact r f)
  exact get_map I.kIn O (c.get f) c.hd n hu (handed_of ru) (h u _ (I.tok _) ru)

theorem getmeth_ok {m : Str} {g : Addr} {pl : Sem Bool} {Q : Value × List Value → Shared → Prop} (I : Inv X pins σ H s) (e : H a = some (.ins C dx fs)) (c : Cls X.K C) (k : Meth X.K C m g) (l : fs.lookup m = none)
    (h : Q (.ref g, [.ref a]) s) : wpAny (model X.prog X.w) A (getMethod (.ref a) m pl) Q E s := by
  obtain ⟨mA, O, r, _, _, _⟩ := ins_get I.hok e
  have hn : mA m = none := RelO.none_of (by rw [← l]; exact r m)
  exact get_meth I.kIn O (c.get m) k.at_ k.fn hn h

theorem setattr_ok {y : V} {u : Value} {Q : Unit → Shared → Prop} (I : Inv X pins σ H s) (e : H a = some (.ins C dx fs)) (c : Cls X.K C) (n : NoAttr X.K C f) (hl : fs.length < 1000) (ry : RelV y u)
    (h : ∀ s', Inv X pins σ (upd H a (.ins C dx (putF f y fs))) s' → Q () s') : wpAny (model X.prog X.w) A (setAttr (.ref a) f u) Q E s := by
  obtain ⟨mA, O, r, wi, _, ho⟩ := ins_get I.hok e
  have hz : (fs.map (·.1)).length ≤ sizeLine := by rw [List.length_map, sizeLine_eq]; omega
  refine set_map I.kIn O c.sa c.po n.taker c.hd wi hz fun h' O' sb => h _ ?_
  have hd : ∃ o, h'.get? dx = some o := let ⟨o, _, _, e', _⟩ := O'.ns; ⟨o, e'⟩
  refine I.write (x := a) (e := dx) (by rw [e]; exact True.intro) (.inr ho) (fun b q hb z => (sb.2 b hb).trans z) hd ?_
  refine ⟨by rw [upd_ne O.ne]; exact ho, ?_, O.ne, O'.obj, _, O'.ns, fun g => ?_, fun g hg => ?_⟩
  · have := length_putF f y fs; omega
  · show RelO ((putF f y fs).lookup g) (if g = f then some u else mA g)
    rw [lookup_putF]
    by_cases q : g = f
    · rw [if_pos q, if_pos q]; exact ry
    · rw [if_neg q, if_neg q]; exact r g
  · by_cases q : g = f
    · rw [q]; exact (keys_putF f y fs).1
    · refine (keys_putF f y fs).2 g (wi g fun z => hg ?_)
      show (if g = f then some u else mA g) = none
      rw [if_neg q]; exact z

/-- a new instance, tracked, without attributes -/
theorem Inv.made (I : Inv X pins σ H s) : Inv X pins σ (upd (upd H s.heap.objs.size (.own (s.heap.objs.size + 1))) (s.heap.objs.size + 1) (.ins C s.heap.objs.size []))
    { s with heap := (s.heap.push PySem.W.emptyDict).push (PySem.W.instObj C s.heap.objs.size) } := by
  have e1 : (s.heap.push PySem.W.emptyDict).get? s.heap.objs.size = some PySem.W.emptyDict := Heap.get?_push_size s.heap rfl
  have e2 : ((s.heap.push PySem.W.emptyDict).push (PySem.W.instObj C s.heap.objs.size)).get? (s.heap.objs.size + 1) = some (PySem.W.instObj C s.heap.objs.size) := by
    have := Heap.get?_push_size (s.heap.push PySem.W.emptyDict) (o := PySem.W.instObj C s.heap.objs.size) rfl
    rwa [Heap.size_push] at this
  have e3 : (s.heap.push PySem.W.emptyDict).Ns s.heap.objs.size (fun _ => none) := ⟨PySem.W.emptyDict, #[], _, e1, rfl, (fun e he => absurd he (by simp)), fun _ => rfl⟩
  have I1 := I.laid (a := s.heap.objs.size) (o := .own (s.heap.objs.size + 1)) (h' := s.heap.push PySem.W.emptyDict) (t' := s.toks) (fun b u q => Heap.get?_push_of_some _ q) (Nat.le_refl _) ⟨_, e1⟩
  refine I1.laid (a := s.heap.objs.size + 1) (o := .ins C s.heap.objs.size []) (t' := s.toks) (fun b u q => Heap.get?_push_of_some _ q) (Nat.le_of_eq (Heap.size_push _ _)) ?_
  have ne : s.heap.objs.size ≠ s.heap.objs.size + 1 := Nat.ne_of_lt (Nat.lt_succ_self _)
  refine ⟨by rw [upd_ne ne, upd_same], Nat.zero_le _, ne, e2, fun _ => none, (Heap.Ns1.of_empty e3).at fun o q => Heap.get?_push_of_some _ q, fun _ => True.intro, fun y hy => absurd rfl hy⟩

/-- e.f where nothing but the object is asked: through attributeBase (super) and the last hold -/
theorem attr_of {prog : Program} {w : World} {env : Env} {e : Expr} {f : Str} {pos : Pos} {s : Shared} {Q : Value → Shared → Prop} (hb : attributeBase e f env (eval e env) = eval e env)
    (h : wpAny (model prog w) A (eval e env) (fun o s₁ => wpAny (model prog w) A (getAttr o f true) Q E s₁) E s) : wpAny (model prog w) A (eval (.Attribute e f pos) env) Q E s :=
  Attribute_any_ h (by rw [arm_eval_Attribute, hb])
end

/-! ### readings and rules -/
/-- e.f, an attribute of the instance -/
def tFld (K : PySem.W.Frag) (ta : TE) (f : Str) : TE := fun σ H Q => ta σ H fun x H1 => ∃ a C dx fs v, x = .ref a ∧ H1 a = some (.ins C dx fs) ∧ Cls K C ∧ NoAttr K C f ∧ fs.lookup f = some v ∧ Q v H1
/-- e.f = value -/
def sFld (K : PySem.W.Frag) (ta tv : TE) (f : Str) : TS := fun D σ H => tv σ H fun y H1 => ta σ H1 fun x H2 => ∃ a C dx fs, x = .ref a ∧ H2 a = some (.ins C dx fs) ∧ Cls K C ∧ NoAttr K C f ∧ fs.length < 1000 ∧
  D.nx σ (upd H2 a (.ins C dx (putF f y fs)))
/-- an augmented operator on two values -/
def InOp (X : Cx) (op : Operator) (rd : V → V → Hp → VK → Prop) : Prop :=
  ∀ (pins : List (Addr × Obj)) (s : Shared) (σ : St) (H : Hp) (x y : V) (u v : Value) (Q : VK), Inv X pins σ H s → RelV x u → RelV y v → rd x y H Q → wpAny (model X.prog X.w) X.A (inplaceOp op u v) (EP X pins σ Q) X.xe s
/-- e.f op= value -/
def sFldAug (K : PySem.W.Frag) (ta tv : TE) (rd : V → V → Hp → VK → Prop) (f : Str) : TS := fun D σ H => ta σ H fun x H1 => ∃ a C dx fs v, x = .ref a ∧ H1 a = some (.ins C dx fs) ∧ Cls K C ∧ NoAttr K C f ∧ fs.lookup f = some v ∧
  tv σ H1 fun y H2 => rd v y H2 fun z H3 => ∃ dx' fs', H3 a = some (.ins C dx' fs') ∧ fs'.length < 1000 ∧ D.nx σ (upd H3 a (.ins C dx' (putF f z fs')))

section
variable {X : Cx} {o e value : Expr} {f : Str} {pos pos' tpos : Pos} {ta tv : TE}
theorem pe_fld (he : PE X e ta) (hb : attributeBase e f X.env (eval e X.env) = eval e X.env) : PE X (.Attribute e f pos) (tFld X.K ta f) := by
  intro pins s σ H Q I h
  refine attr_of hb (thn (he pins s σ H _ I h) fun u s1 ⟨x, H1, I1, rx, a, C, dx, fs, v, ex, ea, c, n, l, q⟩ => ?_)
  subst ex
  obtain rfl : u = Value.ref a := rx
  exact getattr_ok I1 ea c n l fun u' s2 I2 ru => ⟨v, H1, I2, ru, q⟩
theorem ps_fld (ha : PE X o ta) (hv : PE X value tv) (hs : swapsWith value (some (.Attribute o f pos')) pos.line X.env = pure false) : PS X (.Assign [.Attribute o f pos'] value pos) (sFld X.K ta tv f) := by
  intro pins s σ H D I h
  refine plainObj_wpAny_Assign_Attribute (thn (hv pins s σ H _ I h) fun u s1 ⟨y, H1, I1, ry, q⟩ => thn (ha pins s1 σ H1 _ I1 q) fun ov s2 ⟨x, H2, I2, rx, a, C, dx, fs, ex, ea, c, n, l, q2⟩ => ?_) hs
  subst ex
  obtain rfl : ov = Value.ref a := rx
  exact setattr_ok I2 ea c n l ry fun s3 I3 => ⟨σ, _, I3, q2⟩
theorem ps_fldaug {op : Operator} {rd : V → V → Hp → VK → Prop} (ha : PE X o ta) (hv : PE X value tv) (hop : InOp X op rd) : PS X (.AugAssign (.Attribute o f tpos) op value pos) (sFldAug X.K ta tv rd f) := by
  intro pins s σ H D I h
  refine wpAny_AugAssign_AttributeAny (thn (ha pins s σ H _ I h) fun ov s1 ⟨x, H1, I1, rx, a, C, dx, fs, v, ex, ea, c, n, l, q⟩ => ?_)
  subst ex
  obtain rfl : ov = Value.ref a := rx
  refine getattr_ok I1 ea c n l fun u s2 I2 ru => thn (hv pins s2 σ H1 _ I2 q) fun w3 s3 ⟨y, H2, I3, ry, q3⟩ => thn (hop pins s3 σ H2 v y u w3 _ I3 ru ry q3) fun w4 s4 ⟨z, H3, I4, rz, dx', fs', ea', l', q4⟩ => ?_
  exact setattr_ok I4 ea' c n l' rz fun s5 I5 => ⟨σ, _, I5, q4⟩
def rAdd : V → V → Hp → VK → Prop := fun x y H Q => ∃ i j, x = .int i ∧ y = .int j ∧ Q (.int (i + j)) H
theorem in_add : InOp X .Add rAdd := by
  rintro pins s σ H x y u v Q I rx ry ⟨i, j, rfl, rfl, q⟩
  obtain ⟨t, rfl⟩ := (show ∃ t, u = Value.int i t from rx)
  obtain ⟨t', rfl⟩ := (show ∃ t', v = Value.int j t' from ry)
  exact PyProof.Rows.iadd_int ⟨.int (i + j), H, I.tok _, ⟨_, rfl⟩, q⟩
end

/-! ### isinstance -/
section
variable {X : Cx} {pins : List (Addr × Obj)} {σ : St} {H : Hp} {s : Shared} {A : Around} {E : Value → Shared → Prop} {Q : Value → Shared → Prop} {c : Value} {b : Bool}
/-- the type of a value, as the fragment's deciders take it; for an instance its class -/
inductive TyOf (K : PySem.W.Frag) (H : Hp) : V → Value → Prop where
  | non : TyOf K H .non (.type "NoneType")
  | bl (x : Bool) : TyOf K H (.bl x) (.type "bool")
  | int (i : Int) : TyOf K H (.int i) (.type "int")
  | str (x : Str) : TyOf K H (.str x) (.type "str")
  | flt (x : UInt64) : TyOf K H (.flt x) (.type "float")
  | lst {a : Addr} {xs : List V} (e : H a = some (.lst xs)) : TyOf K H (.ref a) (.type "list")
  | frz {a : Addr} {o : Obj} {xs : List V} (e : H a = some (.frz o (.lst xs))) : TyOf K H (.ref a) (.type "list")
  | tup {a : Addr} {xs : List V} (e : H a = some (.tup xs)) : TyOf K H (.ref a) (.type "tuple")
  | dK {a : Addr} {kvs : List (Key × V)} (e : H a = some (.dK kvs)) : TyOf K H (.ref a) (.type "dict")
  | dT {a : Addr} {kvs : List (List Key × V)} (e : H a = some (.dT kvs)) : TyOf K H (.ref a) (.type "dict")
  | ins {a C dx : Addr} {fs : List (Str × V)} (e : H a = some (.ins C dx fs)) (cl : Cls K C) (ha : PySem.W.findIn K (.ref C) "__class__" = some (some (.builtin "object.__class__")))
      (hn : PySem.W.specialIn K (.builtin "object.__class__") "__get__" = some (some (.builtin "getset_descriptor.__get__"))) (htk : PySem.W.takesIn K (.builtin "object.__class__") = some true)
      (hm : PySem.W.mroIn K C (.type "object") = some true) : TyOf K H (.ref a) (.ref C)
/-- isinstance(x, c) for one class c, a built-in or an own one: kitOne's answer -/
theorem isinst_ok {x : V} {u t : Value} (I : Inv X pins σ H s) (rx : RelV x u) (ty : TyOf X.K H x t) (e : PySem.W.kitOne X.K t c = some b) (h : ∀ tk, Q (.bool b) { s with toks := tk }) :
    wpAny (model X.prog X.w) A (call (.builtin "isinstance") [u, c]) Q E s := by
  cases ty with
  | non => cases (show u = Value.none from rx); exact PySem.W.kia_one PySem.W.kitx_none I.kIn True.intro e (fun z => nomatch z) h
  | bl y => cases (show u = Value.bool y from rx); exact PySem.W.kia_one PySem.W.kitx_bool I.kIn True.intro e (fun z => nomatch z) h
  | int i => obtain ⟨t, q⟩ := (show ∃ t, u = Value.int i t from rx); cases q; exact PySem.W.kia_one PySem.W.kitx_int I.kIn True.intro e (fun z => nomatch z) h
  | str y => obtain ⟨t, q⟩ := (show ∃ t, u = Value.str y t from rx); cases q; exact PySem.W.kia_one PySem.W.kitx_str I.kIn True.intro e (fun z => nomatch z) h
  | flt y => obtain ⟨t, q⟩ := (show ∃ t, u = Value.float y t from rx); cases q; exact PySem.W.kia_one PySem.W.kitx_float I.kIn True.intro e (fun z => nomatch z) h
  | @lst a xs ea =>
    cases (show u = Value.ref a from rx)
    obtain ⟨_, _, n, _, h1⟩ := (show ObjOk X.prog X.w H s.heap a (.lst xs) from I.hok a _ ea)
    exact PySem.W.kia_one PySem.W.kitx_list I.kIn ⟨_, h1, rfl⟩ e (fun z => nomatch z) h
  | @frz a ob xs ea =>
    cases (show u = Value.ref a from rx)
    obtain ⟨_, _, _, n, _, h1⟩ := (show ObjOk X.prog X.w H s.heap a (.frz ob (.lst xs)) from I.hok a _ ea)
    exact PySem.W.kia_one PySem.W.kitx_list I.kIn ⟨_, h1, rfl⟩ e (fun z => nomatch z) h
  | @tup a xs ea =>
    cases (show u = Value.ref a from rx)
    obtain ⟨_, _, _, p⟩ := (show ObjOk X.prog X.w H s.heap a (.tup xs) from I.hok a _ ea)
    obtain ⟨o, h1, h2, _⟩ := p
    exact PySem.W.kia_one PySem.W.kitx_tuple I.kIn ⟨o, h1, h2⟩ e (fun z => nomatch z) h
  | @dK a kvs ea =>
    cases (show u = Value.ref a from rx)
    obtain ⟨_, _, vs, _, p⟩ := (show ObjOk X.prog X.w H s.heap a (.dK kvs) from I.hok a _ ea)
    obtain ⟨o, es, ep, h1, h2, _⟩ := p
    exact PySem.W.kia_one PySem.W.kitx_dict I.kIn ⟨o, h1, h2.1⟩ e (fun z => nomatch z) h
  | @dT a kvs ea =>
    cases (show u = Value.ref a from rx)
    obtain ⟨_, _, xs, _, o, es, ep, h1, h2, _⟩ := (show ObjOk X.prog X.w H s.heap a (.dT kvs) from I.hok a _ ea)
    exact PySem.W.kia_one PySem.W.kitx_dict I.kIn ⟨o, h1, h2.1⟩ e (fun z => nomatch z) h
  | @ins a C dx fs ea cl ha hn htk hm =>
    cases (show u = Value.ref a from rx)
    obtain ⟨mA, O, _⟩ := ins_get I.hok ea
    obtain ⟨od, J, _⟩ := O.look
    exact PySem.W.kia_one (PySem.W.kitx_own (cl.get _) cl.hd ha hn htk hm) I.kIn J e (fun z => nomatch z) h
end
end L2

namespace L2
open PySem PySem.Spec PyProof.Rows

/-! ### room -/
structure Room (k : Nat) (A : Around) : Prop where
  hd : A.handled = none
  dp : A.depth + 3 * k + 5 < recursionLimit
  un : A.units + 16 * k + 200 < cLine
theorem Room.mono {j k : Nat} {A : Around} (r : Room k A) (h : j ≤ k) : Room j A := ⟨r.hd, by have := r.dp; omega, by have := r.un; omega⟩
theorem Room.deeper {k : Nat} {A : Around} (r : Room (k + 1) A) (env : Env) : Room k (A.deeper env) :=
  ⟨r.hd, by have := r.dp; show A.depth + 1 + 3 * k + 5 < _; omega, by have := r.un; show A.units + 3 + 16 * k + 200 < _; omega⟩
theorem make_depth {A : Around} {C : Addr} {us : List Value} {kw : List (Str × Value)} : (A.under (.builtin "type.__call__" ⟨.ref C :: us, kw⟩)).depth = A.depth + 1 := by
  first | rfl | simp [Around.under, Code.weight, Code.isCreation, Code.isGuard, Code.isCaller, Code.frames, Code.isFrame, guardIds]
theorem make_units {A : Around} {C : Addr} {us : List Value} {kw : List (Str × Value)} : (A.under (.builtin "type.__call__" ⟨.ref C :: us, kw⟩)).units = A.units + 1 := by
  first | rfl | simp [Around.under, Code.cUnits, Code.frames, Code.isFrame]
theorem Room.make {k : Nat} {A : Around} (r : Room (k + 1) A) (C : Addr) (us : List Value) (kw : List (Str × Value)) : Room k (A.under (.builtin "type.__call__" ⟨.ref C :: us, kw⟩)) :=
  ⟨r.hd, by have := r.dp; rw [make_depth]; omega, by have := r.un; rw [make_units]; omega⟩
theorem Room.depth {k : Nat} {A : Around} (r : Room k A) : A.depth < recursionLimit := by have := r.dp; omega
/-! ### argument lists and displays -/
def tNil : TA := fun _ H Q => Q [] H
def tCons (ta : TE) (tr : TA) : TA := fun σ H Q => ta σ H fun x H1 => tr σ H1 fun xs H2 => Q (x :: xs) H2
section
variable {X : Cx} {e : Expr} {es : List Expr} {te : TE} {t : TA} {pos : Pos}
theorem pa_nil : PA X [] tNil := fun _ _ _ _ H Q I h => Calls.spliced_nil ⟨[], H, I, .nil, h⟩
theorem pa_cons (ha : PE X e te) (hr : PA X es t) (hs : starEach (e :: es) X.env = (false, eval e X.env) :: starEach es X.env := by rfl) : PA X (e :: es) (tCons te t) := by
  intro pos pins s σ H Q I h
  rw [hs]
  show wpAny _ _ (spliced ((false, eval e X.env) :: backTo pos (starEach es X.env))) _ _ s
  refine Calls.spliced_cons (thn (ha pins s σ H _ I h) fun u s1 ⟨x, H1, I1, r1, q1⟩ => ?_)
  exact thn (hr pos pins s1 σ H1 _ I1 q1) fun us s2 ⟨xs, H2, I2, r2, q2⟩ => ⟨x :: xs, H2, I2, .cons r1 r2, q2⟩

/-- a tuple, a list of written items -/
def tTup (t : TA) : TE := fun σ H Q => t σ H fun xs H1 => xs.length ≤ sizeLine ∧ ∀ p, H1 p = none → Q (.ref p) (upd H1 p (.tup xs))
def tLst (t : TA) : TE := fun σ H Q => t σ H fun xs H1 => xs.length ≤ sizeLine ∧ ∀ p, H1 p = none → Q (.ref p) (upd H1 p (.lst xs))
theorem pe_lst (h : PA X es t) : PE X (.List es pos) (tLst t) := by
  intro pins s σ H Q I hq
  refine wpAny_List_spliced (thn (h pos pins s σ H _ I hq) fun us s1 ⟨xs, H1, I1, r, z, q⟩ => ⟨by rw [← r.length]; exact z, ?_⟩)
  have hf : H1 s1.heap.objs.size = none := I1.hok.fresh (Nat.le_refl _)
  refine ⟨.ref s1.heap.objs.size, upd H1 s1.heap.objs.size (.lst xs), I1.laid (t' := s1.toks) (fun b u e => Heap.get?_push_of_some _ e) (Nat.le_refl _) ?_, rfl, q _ hf⟩
  exact ⟨z, us, 0, r, Heap.get?_push_size _ rfl⟩
end

/-! ### what a def promises -/
/-- a def's promise: the bound arguments in the parameters' order, the heap, the wanted end, the wanted exception -/
abbrev Sp := List V → Hp → VK → XK → Prop
/-- how an exception lies behind a call (file 08 gives it): the callers' frames, abstract heap and state ahead of the call, the wish, the exception, the state -/
abbrev CXT := List Env → Hp → Shared → XK → Value → Shared → Prop

/-- the state at a call -/
structure Env0 (P : Program) (w : World) (K : PySem.W.Frag) (mg : Str → Option Value) (base : Heap) (A : Around) (outer : List Env) (s : Shared) (H : Hp) : Prop where
  frames : A.frames = some outer
  mod : Mod K mg base
  bs : ∀ b o, base.get? b = some o → s.heap.get? b = some o ∧ H b = none
  bsz : base.objs.size ≤ s.heap.objs.size
  funs : s.heap.FunFrames base outer
  frf : ∀ b ∈ frs outer, H b = none
  hok : HOk P w H s.heap
  bare : AllBare s.gens
/-- a call's end -/
def CE (outer : List Env) (P : Program) (w : World) (H : Hp) (s : Shared) (Q : VK) (u : Value) (s' : Shared) : Prop :=
  ∃ v H', s'.os = s.os ∧ AllBare s'.gens ∧ Un (frs outer) [] H H' s.heap s'.heap ∧ HOk P w H' s'.heap ∧ RelV v u ∧ Q v H'
def CR (CX : CXT) (outer : List Env) (P : Program) (w : World) (H : Hp) (s : Shared) (Q : VK) (E : XK) (r : Result) (s' : Shared) : Prop :=
  match r with
  | .ok (.ret u) => CE outer P w H s Q u s'
  | .ok _ => False
  | .error e => CX outer H s E e s'
structure FnOk (P : Program) (w : World) (K : PySem.W.Frag) (mg : Str → Option Value) (base : Heap) (CX : CXT) (k : Nat) (f : Addr) (fd : FuncData) (ps : List Str) (sp : Sp) : Prop where
  len : ∀ vs H Q E, sp vs H Q E → vs.length = ps.length
  run : ∀ (A : Around) (outer : List Env) (s : Shared) (H : Hp) (args : Args) (us : List Value) (vs : List V) (Q : VK) (E : XK), Room k A → Env0 P w K mg base A outer s H → BindsTo s fd args (ps.zip us) → Vals vs us → sp vs H Q E →
    codeAny (model P w) A (.call (.ref f) args) (CR CX outer P w H s Q E) s
theorem FnOk.mono {P : Program} {w : World} {K : PySem.W.Frag} {mg : Str → Option Value} {base : Heap} {CX : CXT} {j k : Nat} {f : Addr} {fd : FuncData} {ps : List Str} {sp : Sp} (F : FnOk P w K mg base CX j f fd ps sp) (h : j ≤ k) :
    FnOk P w K mg base CX k f fd ps sp := ⟨F.len, fun A outer s H args us vs Q E hr => F.run A outer s H args us vs Q E (hr.mono h)⟩
theorem Env0.make {P : Program} {w : World} {K : PySem.W.Frag} {mg : Str → Option Value} {base : Heap} {A : Around} {outer : List Env} {s : Shared} {H : Hp} (e : Env0 P w K mg base A outer s H) (C : Addr) (us : List Value) (kw : List (Str × Value)) :
    Env0 P w K mg base (A.under (.builtin "type.__call__" ⟨.ref C :: us, kw⟩)) outer s H := ⟨by first | exact e.frames | (simpa [Around.under, Code.envs, Code.isFrame, pushEnvs] using e.frames), e.mod, e.bs, e.bsz, e.funs, e.frf, e.hok, e.bare⟩
section
variable {X : Cx} {pins : List (Addr × Obj)} {σ : St} {H : Hp} {s s' : Shared}
/-- from a body: what a callee wants -/
theorem Inv.env0 (I : Inv X pins σ H s) : Env0 X.prog X.w X.K X.mg X.base X.A X.stack s H :=
  ⟨I.ok.frames, I.ok.mod, I.bs, Nat.le_trans I.ok.bsz I.sz, I.stack, I.stkFree, I.hok, I.bare⟩
/-- behind a call -/
theorem Inv.after {Q : VK} {u : Value} (I : Inv X pins σ H s) (h : CE X.stack X.prog X.w H s Q u s') : EP X pins σ Q u s' := by
  obtain ⟨v, H', os, bare, un, hok, r, q⟩ := h
  obtain ⟨hh, g, d, t, os'⟩ := s'
  obtain rfl : os' = s.os := os
  exact ⟨v, H', I.call (h' := hh) (g' := g) (d' := d) (t' := t) (ch := []) un hok bare (fun b z => absurd z (by simp)), r, q⟩
end

/-! ### calls -/
/-- f(..): the written arguments, then the defaults dvs; E: what is wanted of an exception -/
def tCall (sp : Sp) (dvs : List V) (E : XK) (t : TA) : TE := fun σ H Q => t σ H fun vs H1 => sp (vs ++ dvs) H1 Q E
/-- o.m(..) of an instance of the class at C -/
def tMeth (C : Addr) (m : Str) (sp : Sp) (dvs : List V) (E : XK) (ta : TE) (t : TA) : TE := fun σ H Q => ta σ H fun x H1 => ∃ a dx fs, x = .ref a ∧ H1 a = some (.ins C dx fs) ∧ fs.lookup m = none ∧
  t σ H1 fun vs H2 => sp (x :: (vs ++ dvs)) H2 Q E
/-- C(..): a new instance and its dict, then __init__ -/
def tMake (C : Addr) (sp : Sp) (dvs : List V) (E : XK) (t : TA) : TE := fun σ H Q => t σ H fun vs H1 => ∀ x dx, H1 x = none → H1 dx = none → dx ≠ x →
  sp (.ref x :: (vs ++ dvs)) (upd (upd H1 dx (.own x)) x (.ins C dx [])) (fun v H2 => v = .non ∧ Q (.ref x) H2) E

/-- how the parameters are bound: us the positional arguments, kw the keywords' values by name, ds the defaults that fill up -/
def Binds (K : PySem.W.Frag) (fd : FuncData) (ps : List Str) (ds : List Value) : Prop :=
  ∀ (s : Shared) (us : List Value), K.In s.heap → (us ++ ds).length = ps.length → BindsTo s fd ⟨us, []⟩ (ps.zip (us ++ ds))
/-- every parameter is given -/
theorem Binds.all {K : PySem.W.Frag} {fd : FuncData} {ps : List Str} (h : ∀ us : List Value, us.length = ps.length → bindArgs fd ⟨us, []⟩ = pure (ps.zip us)) : Binds K fd ps [] := fun s us _ hl => by
  rw [List.append_nil] at hl ⊢
  exact .of_eq (h us hl)

/-- an exception of a callee reaches what this body wants of exceptions -/
def Passes (CX : CXT) (X : Cx) (E : XK) : Prop := ∀ (pins : List (Addr × Obj)) (σ : St) (H : Hp) (s : Shared) (e : Value) (s' : Shared), Inv X pins σ H s → CX X.stack H s E e s' → X.xe e s'

section
variable {X : Cx} {CX : CXT} {k : Nat} {f C : Addr} {fd : FuncData} {ps : List Str} {sp : Sp} {dvs : List V} {ds : List Value} {E : XK} {x m : Str} {p pos apos : Pos} {e o : Expr} {es : List Expr} {ta : TE} {t : TA}

/-- the callee runs -/
theorem run_fn {pins : List (Addr × Obj)} {σ : St} {H : Hp} {s : Shared} {Q : VK} {us : List Value} {vs : List V} (F : FnOk X.prog X.w X.K X.mg X.base CX k f fd ps sp) (hr : Room k X.A) (hb : Binds X.K fd ps ds) (hd : Vals dvs ds) (hx : Passes CX X E)
    (I : Inv X pins σ H s) (r : Vals vs us) (h : sp (vs ++ dvs) H Q E) : wpAny (model X.prog X.w) X.A (call (.ref f) us) (EP X pins σ Q) X.xe s := by
  have r2 : Vals (vs ++ dvs) (us ++ ds) := r.append hd
  have hl : (us ++ ds).length = ps.length := by rw [← r2.length]; exact F.len _ _ _ _ h
  refine wpAny_call (codeAny_mono (F.run X.A X.stack s H ⟨us, []⟩ (us ++ ds) (vs ++ dvs) Q E hr I.env0 (hb s us I.kIn hl) r2 h) fun r s' hq => ?_)
  cases r with
  | error e => exact hx pins σ H s e s' I hq
  | ok fl =>
    cases fl with
    | ret u => exact I.after hq
    | next => exact False.elim hq
    | brk => exact False.elim hq
    | cont => exact False.elim hq

theorem pe_call (F : FnOk X.prog X.w X.K X.mg X.base CX k f fd ps sp) (hr : Room k X.A) (hg : Gl X x) (hm : X.mg x = some (.ref f)) (hk : PySem.W.keepIn X.K (.ref f) = true) (hb : Binds X.K fd ps ds) (hd : Vals dvs ds) (hx : Passes CX X E)
    (ha : PA X (e :: es) t) (hdb : (x == ("__debug__" : Str)) = false := by decide) (he : starEach (e :: es) X.env = (false, eval e X.env) :: starEach es X.env := by rfl) (hpl : (backTo pos (starEach es X.env)).any (·.1) = false := by rfl) :
    PE X (.Call (.Name x p) (e :: es) [] pos) (tCall sp dvs E t) := by
  intro pins s σ H Q I h
  refine wpAny_Call_Name_kw (ld_glob I hg hm ?_ hdb)
  refine PySem.W.callWith_K (h₀ := X.base) I.ok.mod.kin hk (thn (ha pos pins s σ H _ I h) fun us s1 ⟨vs, H1, I1, r, q⟩ => ⟨I1.kIn, ?_⟩) he hpl
  exact run_fn F hr hb hd hx I1 r q
/-- what a class must have to be made -/
structure Mk (K : PySem.W.Frag) (C f : Addr) : Prop where
  makes : PySem.W.makesIn K C = true
  init : PySem.W.findIn K (.ref C) "__init__" = some (some (.ref f))
  fn : PySem.W.isFn K (.ref f) = true
  kp : PySem.W.keepIn K (.ref C) = true

theorem run_make {pins : List (Addr × Obj)} {σ : St} {H : Hp} {s : Shared} {Q : VK} {us : List Value} {vs : List V} (M : Mk X.K C f) (F : FnOk X.prog X.w X.K X.mg X.base CX k f fd ps sp) (hr : Room (k + 1) X.A) (hb : Binds X.K fd ps ds) (hd : Vals dvs ds)
    (hx : Passes CX X E) (I : Inv X pins σ H s) (r : Vals vs us)
    (h : ∀ x dx, H x = none → H dx = none → dx ≠ x → sp (.ref x :: (vs ++ dvs)) (upd (upd H dx (.own x)) x (.ins C dx [])) (fun v H2 => v = .non ∧ Q (.ref x) H2) E) :
    wpAny (model X.prog X.w) X.A (call (.ref C) us) (EP X pins σ Q) X.xe s := by
  have hq := h (s.heap.objs.size + 1) s.heap.objs.size (I.hok.fresh (Nat.le_succ _)) (I.hok.fresh (Nat.le_refl _)) (Nat.ne_of_lt (Nat.lt_succ_self _))
  have I2 := Inv.made (C := C) I
  have r2 : Vals (V.ref (s.heap.objs.size + 1) :: (vs ++ dvs)) (Value.ref (s.heap.objs.size + 1) :: (us ++ ds)) := .cons rfl (r.append hd)
  have hl : (Value.ref (s.heap.objs.size + 1) :: us ++ ds).length = ps.length := by
    have e := r2.length
    rw [F.len _ _ _ _ hq] at e
    exact e.symm
  refine wpAny_call (make_map (f := f) I.kIn M.makes M.init (beq_iff_eq.mp M.fn) (codeAny_mono (F.run _ X.stack _ _ ⟨Value.ref (s.heap.objs.size + 1) :: us, []⟩ (Value.ref (s.heap.objs.size + 1) :: (us ++ ds)) _ _ E (hr.make C us [])
    (I2.env0.make C us []) (hb _ (Value.ref (s.heap.objs.size + 1) :: us) I2.kIn hl) r2 hq) fun r s' hq' => ?_))
  cases r with
  | error e => exact hx pins σ _ _ e s' I2 hq'
  | ok fl =>
    cases fl with
    | ret u =>
      obtain ⟨v, H', I3, rv, ev, q3⟩ := I2.after hq'
      subst ev
      exact ⟨rv, ⟨V.ref (s.heap.objs.size + 1), H', I3, rfl, q3⟩⟩
    | next => exact False.elim hq'
    | brk => exact False.elim hq'
    | cont => exact False.elim hq'
theorem pe_make0 (M : Mk X.K C f) (F : FnOk X.prog X.w X.K X.mg X.base CX k f fd ps sp) (hr : Room (k + 1) X.A) (hg : Gl X x) (hm : X.mg x = some (.ref C)) (hb : Binds X.K fd ps ds) (hd : Vals dvs ds) (hx : Passes CX X E)
    (hdb : (x == ("__debug__" : Str)) = false := by decide) : PE X (.Call (.Name x p) [] [] pos) (tMake C sp dvs E tNil) := by
  intro pins s σ H Q I h
  refine wpAny_Call_Name_kw (ld_glob I hg hm ?_ hdb)
  exact PySem.W.callWith_K0 I.kIn M.kp (run_make (us := []) M F hr hb hd hx I .nil h)
end

/-! ### keywords -/
section
variable {X : Cx} {CX : CXT} {k : Nat} {f C : Addr} {fd : FuncData} {ps ks : List Str} {sp : Sp} {E : XK} {x m : Str} {p pos apos kpos : Pos} {e o : Expr} {es : List Expr} {kws : List Keyword} {te ta : TE} {t tk : TA} {nm : Option Str}
variable {g : List Value → List Value → List Value} {gV : List V → List V → List V}
end

/-! ### a def's body keeps its promise -/
/-- names: the parameters first -/
structure FnScope (N P : List Str) (sc : Scope) : Prop where
  kind : sc.kind = .function
  co : sc.isCoroutine = false
  gen : sc.isGenerator = false
  nd : N.Nodup
  pre : N.take P.length = P
  par : ∀ x ∈ P, sc.names.lookup x = some .local ∨ sc.names.lookup x = some .cell
  nofree : ∀ y ∈ sc.names, y.2 ≠ .free

theorem bindL_out {kindOf : Str → Option NameKind} {x : Str} : ∀ {binds : List (Str × Value)} {m : Str → Option Value}, (∀ v, (x, v) ∉ binds) → bindL kindOf binds m x = m x
  | [], _, _ => rfl
  | (n, v) :: r, m, h => by
    unfold bindL
    rw [bindL_out fun w hw => h w (List.mem_cons_of_mem _ hw)]
    split
    · have : x ≠ n := by rintro rfl; exact h v List.mem_cons_self
      simp [this]
    · rfl
theorem bindC_out {kindOf : Str → Option NameKind} {x : Str} : ∀ {binds : List (Str × Value)} {m : Str → Option Value}, (∀ v, (x, v) ∉ binds) → bindC kindOf binds m x = m x
  | [], _, _ => rfl
  | (n, v) :: r, m, h => by
    unfold bindC
    rw [bindC_out fun w hw => h w (List.mem_cons_of_mem _ hw)]
    split
    · rfl
    · have : x ≠ n := by rintro rfl; exact h v List.mem_cons_self
      simp [this]
theorem bindL_get {kindOf : Str → Option NameKind} {x : Str} {v : Value} : ∀ {P : List Str} {vs : List Value} {i : Nat} {m : Str → Option Value}, P.Nodup → P[i]? = some x → vs[i]? = some v → kindOf x = some .local →
    bindL kindOf (P.zip vs) m x = some v
  | [], _, _, _, _, h, _, _ => by simp at h
  | _ :: _, [], _, _, _, _, h, _ => by simp at h
  | p :: P, w :: vs, 0, m, nd, h1, h2, hk => by
    simp at h1 h2; subst h1; subst h2
    show bindL kindOf ((p, w) :: P.zip vs) m p = _
    unfold bindL
    rw [bindL_out fun v hv => (List.nodup_cons.mp nd).1 (List.of_mem_zip hv).1, if_pos hk]
    simp
  | p :: P, w :: vs, i + 1, m, nd, h1, h2, hk => by
    show bindL kindOf ((p, w) :: P.zip vs) m x = _
    unfold bindL
    exact bindL_get (i := i) (List.nodup_cons.mp nd).2 (by simpa using h1) (by simpa using h2) hk
theorem bindC_get {kindOf : Str → Option NameKind} {x : Str} {v : Value} : ∀ {P : List Str} {vs : List Value} {i : Nat} {m : Str → Option Value}, P.Nodup → P[i]? = some x → vs[i]? = some v → kindOf x ≠ some .local →
    bindC kindOf (P.zip vs) m x = some v
  | [], _, _, _, _, h, _, _ => by simp at h
  | _ :: _, [], _, _, _, _, h, _ => by simp at h
  | p :: P, w :: vs, 0, m, nd, h1, h2, hk => by
    simp at h1 h2; subst h1; subst h2
    show bindC kindOf ((p, w) :: P.zip vs) m p = _
    unfold bindC
    rw [bindC_out fun v hv => (List.nodup_cons.mp nd).1 (List.of_mem_zip hv).1, if_neg hk]
    simp
  | p :: P, w :: vs, i + 1, m, nd, h1, h2, hk => by
    show bindC kindOf ((p, w) :: P.zip vs) m x = _
    unfold bindC
    exact bindC_get (i := i) (List.nodup_cons.mp nd).2 (by simpa using h1) (by simpa using h2) hk

/-- the names' values at the entry -/
def start (N : List Str) (vs : List V) : St := vs.map some ++ List.replicate (N.length - vs.length) none

/-- the context of a def's body, at its entry; an exception leaves the frame, then lies as CX says -/
def cxOf (CX : CXT) (P : Program) (w : World) (K : PySem.W.Frag) (mg : Str → Option Value) (base : Heap) (N : List Str) (qual : Str) (scope : Scope) (f : Addr) (cd : Value) (A : Around) (outer : List Env) (s : Shared) (H : Hp) (E : XK) : Cx where
  prog := P
  w := w
  K := K
  mg := mg
  base := base
  A := A.deeper (envOfC qual scope s.heap.objs.size f cd)
  N := N
  s₀ := s
  H₀ := H
  env := envOfC qual scope s.heap.objs.size f cd
  outer := outer
  stack := envOfC qual scope s.heap.objs.size f cd :: outer
  ex := []
  calm := true
  fn := fun _ => true
  pn := []
  xe := fun e s' => wpAny (model P w) (A.deeper (envOfC qual scope s.heap.objs.size f cd)) (leaving (envOfC qual scope s.heap.objs.size f cd) e) (fun _ s'' => CX outer H s E e s'') (fun e' s'' => CX outer H s E e' s'') s'

theorem cell_has {sc : Scope} {n : Nat} {x : Str} (h : sc.names.lookup x = some .cell) : ∃ c, (cellsFrom n sc.names []).lookup x = some c := by
  have q := PySem.W.cellsFrom_some sc.names n [] (.inl h)
  exact Option.isSome_iff_exists.mp q

theorem inv_start {CX : CXT} {P : Program} {w : World} {K : PySem.W.Frag} {mg : Str → Option Value} {base : Heap} {N ps : List Str} {qual : Str} {scope : Scope} {f : Addr} {cd : Value} {A : Around} {outer : List Env} {s s1 : Shared} {H : Hp} {E : XK} {us : List Value} {vs : List V}
    (S : FnScope N ps scope) (hd : A.handled = none) (e0 : Env0 P w K mg base A outer s H) (hl : vs.length = ps.length) (r : Vals vs us)
    (x : InCallC s s.heap.objs.size (bindL (envOfC qual scope s.heap.objs.size f cd).kindOf (ps.zip us) fun _ => none) (cellsFrom (s.heap.objs.size + 1) scope.names []) (bindC (envOfC qual scope s.heap.objs.size f cd).kindOf (ps.zip us) fun _ => none) s1) :
    Inv (cxOf CX P w K mg base N qual scope f cd A outer s H E) [] (start N vs) H s1 := by
  have hpl : ps.length ≤ N.length := by have := congrArg List.length S.pre; rw [List.length_take] at this; omega
  obtain ⟨h1, tk, rfl, hk⟩ := x.done
  have noA : ∀ b : Addr, b ∉ (cxOf CX P w K mg base N qual scope f cd A outer s H E).ex := fun b z => absurd (show b ∈ ([] : List Addr) from z) (by simp)
  refine ⟨⟨e0.mod, S.kind, rfl, rfl, Nat.le_refl _, fun y z c h1 h2 => ?_, fun y hy => ?_, fun y c _ h => ?_, fun _ => hd, Around.frames_deeper e0.frames, .inr ⟨rfl, rfl⟩, fun b z => absurd z (noA b), e0.bs, e0.bsz, fun b _ _ => noA b, fun b z => absurd z (noA b), e0.funs, e0.frf⟩,
    rfl, e0.bare, Un.kept hk, ⟨_, x.toInCall.ns, fun i y v h1 h2 h3 => ?_⟩, fun y c h => ⟨_, x.cell y c h⟩, e0.hok.fresh (Nat.le_refl _), fun y c h => ?_, fun p hp => absurd (show p ∈ ([] : List (Addr × Obj)) from hp) (by simp), e0.hok.kept hk, ?_⟩
  · exact name_of_addr x.apart (PySem.mem_of_lookup h1) (PySem.mem_of_lookup h2)
  · have hy : scope.names.lookup y = some .cell ∨ scope.names.lookup y = some .free := hy
    rcases hy with hy | hy
    · exact cell_has hy
    · exact absurd rfl (S.nofree _ (PySem.mem_of_lookup hy))
  · exact Nat.le_of_lt (x.above y c (PySem.mem_of_lookup h))
  · have hi : i < vs.length := by
      unfold start at h2
      by_cases hi : i < vs.length
      · exact hi
      · rw [List.getElem?_append_right (by simpa using hi)] at h2
        rw [List.getElem?_replicate] at h2
        split at h2 <;> cases h2
    have ha : vs[i]? = some v := by
      unfold start at h2
      rw [List.getElem?_append_left (by simpa using hi), List.getElem?_map] at h2
      cases e : vs[i]? with
      | none => rw [e] at h2; cases h2
      | some a => rw [e] at h2; cases h2; rfl
    obtain ⟨u, hu, rv⟩ := r.get ha
    have hp : ps[i]? = some y := by
      rw [← S.pre, List.getElem?_take_of_lt (by omega)]; exact h1
    have ndP : ps.Nodup := by rw [← S.pre]; exact S.nd.sublist (List.take_sublist _ _)
    refine ⟨u, rv, ?_⟩
    rcases S.par y (List.mem_of_getElem? hp) with k | k
    · exact .inl ⟨k, bindL_get ndP hp hu k⟩
    · obtain ⟨c, e⟩ := cell_has (n := s.heap.objs.size + 1) k
      refine .inr ⟨.inl k, c, e, ?_⟩
      have q := x.cell y c e
      rw [bindC_get ndP hp hu (by show scope.names.lookup y ≠ _; rw [k]; decide)] at q
      exact q
  · exact e0.hok.fresh (Nat.le_of_lt (x.above y c (PySem.mem_of_lookup h)))
  · unfold start
    show _ = N.length
    rw [List.length_append, List.length_map, List.length_replicate]
    omega

/-- THE RULE: a def (or a method) of the text, by its body. The body's reading t is chosen for each entry; it is run at the parameters' values -/
theorem fn_of {CX : CXT} {P : Program} {w : World} {K : PySem.W.Frag} {mg : Str → Option Value} {base : Heap} {k : Nat} {f : Addr} {name qual : Str} {params : Arguments} {body : List Stmt} {scope : Scope} {dV kV doc pm cdv ct oc : Value} {an od : Option Addr}
    {osl : Array (Option Value)} {N ps : List Str} {sp : Sp} (lk : K.lookup f = some ⟨oc, od, .func (PySem.W.fnOf name qual params body scope dV kV doc pm an cdv ct), osl⟩) (hcd : PySem.W.codeIn K cdv qual = true) (S : FnScope N ps scope)
    (len : ∀ vs H Q E, sp vs H Q E → vs.length = ps.length)
    (hbody : ∀ (A : Around) (outer : List Env) (s : Shared) (H : Hp) (vs : List V) (Q : VK) (E : XK), Room k (A.deeper (envOfC qual scope s.heap.objs.size f cdv)) → sp vs H Q E →
      ∃ t, PSs (cxOf CX P w K mg base N qual scope f cdv A outer s H E) body t ∧ t { nx := fun _ H' => Q .non H', rt := Q } (start N vs) H) :
    FnOk P w K mg base CX (k + 1) f (PySem.W.fnOf name qual params body scope dV kV doc pm an cdv ct) ps sp := by
  refine ⟨len, fun A outer s H args us vs Q E hr e0 hb r hsp => ?_⟩
  have hl := len _ _ _ _ hsp
  have KX : K.In s.heap := e0.mod.kin.keeps fun b o e => (e0.bs b o e).1
  have lim : s.heap.NoLimit := e0.mod.nolimit.keeps fun b o e => (e0.bs b o e).1
  have hkind : ∀ y ∈ ps.zip us, scope.names.lookup y.1 = some .local ∨ (scope.names.lookup y.1 = some .cell ∧ ((cellsFrom (s.heap.objs.size + 1) scope.names []).lookup y.1).isSome = true) := fun ⟨n, v⟩ hy => by
    rcases S.par n (List.of_mem_zip hy).1 with q | q
    · exact .inl q
    · exact .inr ⟨q, PySem.W.cellsFrom_some _ _ _ (.inl q)⟩
  refine codeAny_call_function hr.depth (KX _ _ lk) rfl S.co S.gen rfl (PySem.W.codeRec_of KX hcd) (hb _ _ _ _ ?_)
  refine wpAny_newFunctionEnv_cells S.kind hkind fun env he s1 x => ?_
  subst he
  refine ⟨lim.keeps x.toInCall.keep, codeAny_func ?_⟩
  obtain ⟨t, ht, hq⟩ := hbody A outer s H vs Q E (hr.deeper _) hsp
  have I : Inv (cxOf CX P w K mg base N qual scope f cdv A outer s H E) [] (start N vs) H s1 := inv_start S hr.hd e0 hl r x
  refine wpAny_mono (ht [] s1 (start N vs) H _ I hq) (fun fl s' hs => ?_) fun e s' hs => hs
  have fin : ∀ {σ' : St} {H' : Hp} {v : V} {u : Value}, Inv (cxOf CX P w K mg base N qual scope f cdv A outer s H E) [] σ' H' s' → RelV v u → Q v H' → CE outer P w H s Q u s' :=
    fun {σ' H' v u} J rv q => ⟨v, H', J.os, J.bare, J.base, J.hok, rv, q⟩
  cases fl with
  | ret u =>
    obtain ⟨v, σ', H', J, rv, q⟩ := hs
    exact fin J rv q
  | next =>
    obtain ⟨σ', H', J, q⟩ := hs
    exact fin (v := V.non) (u := Value.none) J rfl q
  | brk =>
    obtain ⟨_, _, _, q⟩ := hs
    exact False.elim q
  | cont =>
    obtain ⟨_, _, _, q⟩ := hs
    exact False.elim q
end L2

namespace L2
open PySem PySem.Spec PyProof.Rows
section
variable {X : Cx} {x : Str} {p pos : Pos} {e : Expr} {es : List Expr} {t : TA} {id T : String} {r : List V → Hp → VK → Prop}

def tCB (r : List V → Hp → VK → Prop) (t : TA) : TE := fun σ H Q => t σ H fun vs H1 => r vs H1 Q
/-- f(e, ..), f a built-in function -/
theorem pe_callB (hc : CallR X (.builtin id) r) (hg : Gl X x) (hm : X.mg x = none) (hv : bootBuiltins x = some (.builtin id)) (ha : PA X (e :: es) t) (hn : x ≠ "__name__" := by decide) (hdb : (x == ("__debug__" : Str)) = false := by decide)
    (he : starEach (e :: es) X.env = (false, eval e X.env) :: starEach es X.env := by rfl) (hpl : (backTo pos (starEach es X.env)).any (·.1) = false := by rfl) : PE X (.Call (.Name x p) (e :: es) [] pos) (tCB r t) := by
  intro pins s σ H Q I h
  refine wpAny_Call_Name_kw (ld_blt I hg hm hv ?_ hn hdb)
  exact PyProof.Rows.callWith_builtin1 (thn (ha pos pins s σ H _ I h) fun us s1 ⟨vs, H1, I1, r1, q1⟩ => hc pins s1 σ H1 vs us Q I1 r1 q1) he hpl
/-- T(e, ..), T a built-in type -/
theorem pe_callTy (hc : CallR X (.type T) r) (hg : Gl X x) (hm : X.mg x = none) (hv : bootBuiltins x = some (.type T)) (ha : PA X (e :: es) t) (hn : x ≠ "__name__" := by decide) (hdb : (x == ("__debug__" : Str)) = false := by decide)
    (he : starEach (e :: es) X.env = (false, eval e X.env) :: starEach es X.env := by rfl) (hpl : (backTo pos (starEach es X.env)).any (·.1) = false := by rfl) : PE X (.Call (.Name x p) (e :: es) [] pos) (tCB r t) := by
  intro pins s σ H Q I h
  refine wpAny_Call_Name_kw (ld_blt I hg hm hv ?_ hn hdb)
  exact PyProof.Rows.callWith_type1 (thn (ha pos pins s σ H _ I h) fun us s1 ⟨vs, H1, I1, r1, q1⟩ => hc pins s1 σ H1 vs us Q I1 r1 q1) he hpl
end
end L2

namespace HT
open PySem PyProof.Rows

/-- t < u of tuples of ints -/
def lexLt : List Int → List Int → Bool
  | [], [] => false
  | [], _ :: _ => true
  | _ :: _, [] => false
  | x :: xs, y :: ys => if x = y then lexLt xs ys else decide (x < y)
section
open PySem.SeqAt
open PySem.AutoSeq1 (wpAny_loadPart')
open PySem.MeetsSeq PySem.MeetsSeq2 PySem.MeetsSeq3

end

section
variable {prog : Program} {w : World} {A : Around} {E : Value → Shared → Prop} {s : Shared}

/-! ### t[a:b], not the whole -/
/-- a slice's bound as a place among n (d where it is left out) -/
def sIx (n d : Nat) : Option Int → Nat
  | none => d
  | some v => if v < 0 then (v + (n : Int)).toNat else min v.toNat n
end
end HT

namespace L2
open PySem PySem.Spec PyProof.Rows

/-! ### the parts of a slice -/
abbrev TO := St → Hp → (Option Int → Hp → Prop) → Prop
def tNoPart : TO := fun _ H Q => Q none H
def tPart (t : TE) : TO := fun σ H Q => t σ H fun x H1 => ∃ i, x = .int i ∧ Q (some i) H1

section
variable {X : Cx} {e : Expr} {te : TE} {lo hi : Option Expr} {tl th : TO} {pos p2 : Pos}

def tSl (r : V → Option Int → Option Int → Hp → VK → Prop) (te : TE) (tl th : TO) : TE := fun σ H Q => te σ H fun x H1 => tl σ H1 fun l H2 => th σ H2 fun u H3 => r x l u H3 Q
/-- the items of xs[lo:hi] -/
def cutV (xs : List V) (lo hi : Option Int) : List V := (xs.drop (HT.sIx xs.length 0 lo)).take (HT.sIx xs.length xs.length hi - HT.sIx xs.length 0 lo)
/-! ### t < u, t + u -/
/-- t + u, t not empty: u empty gives t itself -/
def rCatT (K : PySem.W.Frag) : R2 := fun x y H Q => ∃ a b xs ys, x = .ref a ∧ y = .ref b ∧ SqT K H a xs ∧ SqT K H b ys ∧ xs ≠ [] ∧ xs.length + ys.length ≤ sizeLine ∧
  (ys = [] → Q (.ref a) H) ∧ (ys ≠ [] → ∀ p, H p = none → Q (.ref p) (upd H p (.tup (xs ++ ys))))
end
end L2

namespace L2
open PySem PySem.Spec PyProof.Rows

/-! ### places -/
/-- the place that an index of any sign means -/
def ixN (n : Nat) (i : Int) : Option Nat := if 0 ≤ i then (if i < n then some i.toNat else none) else if -(n : Int) ≤ i then some (i + n).toNat else none
def atI {α : Type} (xs : List α) (i : Int) : Option α := (ixN xs.length i).bind fun j => xs[j]?
theorem ixN_seq {n : Nat} {i : Int} {j : Nat} (h : ixN n i = some j) : seqIndex? i n = some j ∧ j < n ∧ -(n : Int) ≤ i ∧ i < n := by
  unfold ixN at h
  by_cases h0 : 0 ≤ i
  · rw [if_pos h0] at h
    by_cases h1 : i < n
    · rw [if_pos h1] at h
      have e : i.toNat = j := Option.some.inj h
      exact ⟨by rw [seqIndex_of h0 h1, e], by omega, by omega, h1⟩
    · rw [if_neg h1] at h; cases h
  · rw [if_neg h0] at h
    by_cases h1 : -(n : Int) ≤ i
    · rw [if_pos h1] at h
      have e : (i + n).toNat = j := Option.some.inj h
      exact ⟨by rw [seqIndex_neg (by omega) h1, e], by omega, h1, by omega⟩
    · rw [if_neg h1] at h; cases h
theorem atI_get {α : Type} {xs : List α} {i : Int} {v : α} (h : atI xs i = some v) : ∃ j, seqIndex? i xs.length = some j ∧ xs[j]? = some v ∧ j < xs.length ∧ -(xs.length : Int) ≤ i ∧ i < xs.length := by
  unfold atI at h
  cases e : ixN xs.length i with
  | none => rw [e] at h; cases h
  | some j =>
    rw [e] at h
    obtain ⟨h1, h2, h3, h4⟩ := ixN_seq e
    exact ⟨j, h1, h, h2, h3, h4⟩
theorem atI_nat {α : Type} {xs : List α} {j : Nat} {v : α} (h : xs[j]? = some v) : atI xs (j : Int) = some v := by
  have hj : j < xs.length := (List.getElem?_eq_some_iff.mp h).1
  have e : ixN xs.length (j : Int) = some j := by
    unfold ixN
    rw [if_pos (by omega), if_pos (by omega)]; simp
  unfold atI; rw [e]; exact h
/-! ### what may be subscripted -/
/-- what stands as an index of a plain subscript -/
def PlainIx (b : Expr) : Prop := ∀ o i, subscripted b false o i = operate [o, i] (getItem o i)
/-- a subscript by values -/
def IxR (X : Cx) (r : R2) : Prop :=
  ∀ (value slice : Expr) (pins : List (Addr × Obj)) (s : Shared) (σ : St) (H : Hp) (x y : V) (v u : Value) (Q : VK), Inv X pins σ H s → RelV x v → RelV y u → r x y H Q →
    subscripted slice false v u = operate [v, u] (getItem v u) → wpAny (model X.prog X.w) X.A (subscriptTail value slice v u) (EP X pins σ Q) X.xe s
/-- a call of a builtin's method by values: the receiver, the arguments -/
def MtR (X : Cx) (id : String) (r : V → List V → Hp → VK → Prop) : Prop :=
  ∀ (pins : List (Addr × Obj)) (s : Shared) (σ : St) (H : Hp) (x : V) (xs : List V) (v : Value) (us : List Value) (Q : VK), Inv X pins σ H s → RelV x v → Vals xs us → r x xs H Q →
    wpAny (model X.prog X.w) X.A (call (.builtin id) (v :: us)) (EP X pins σ Q) X.xe s
section
variable {X : Cx} {a b : Expr} {ta tb : TE} {pos : Pos}
/-- a[b] -/
theorem pe_ix {r : R2} (hr : IxR X r) (ha : PE X a ta) (hb : PE X b tb) (hs : PlainIx b) : PE X (.Subscript a b pos) (tOp r ta tb) := by
  intro pins s σ H Q I h
  exact Subscript_ (binT ha hb I h fun v u s2 x y H2 I2 rx ry q => hr a b pins s2 σ H2 x y v u Q I2 rx ry q (hs _ _))

def rIxL (K : PySem.W.Frag) : R2 := fun x y H Q => ∃ p xs i v, x = .ref p ∧ y = .int i ∧ SqL K H p xs ∧ atI xs i = some v ∧ Q v H
def rIxT (K : PySem.W.Frag) : R2 := fun x y H Q => ∃ p xs i v, x = .ref p ∧ y = .int i ∧ SqT K H p xs ∧ atI xs i = some v ∧ Q v H
def rIxS : R2 := fun x y H Q => ∃ z i c, x = .str z ∧ y = .int i ∧ z.length ≤ sizeLine ∧ atI z.cps.toList i = some c ∧ Q (.str ⟨#[c]⟩) H
theorem ix_list : IxR X (rIxL X.K) := by
  intro value slice pins s σ H x y v u Q I rx ry h hs
  obtain ⟨p, xs, i, z, rfl, rfl, hq, he, q⟩ := h
  cases rx
  obtain ⟨t, rfl⟩ := ry
  obtain ⟨its, r, pl, hz⟩ := I.list hq
  obtain ⟨j, h1, h2, h3, h4, h5⟩ := atI_get he
  obtain ⟨w, ew, rw'⟩ := r.get h2
  have hl := r.length
  have hn := line63
  have fin : EP X pins σ Q w s := ⟨z, H, I, rw', q⟩
  by_cases h0 : 0 ≤ i
  · have hj : i.toNat = j := by
      rw [seqIndex_of h0 h5] at h1
      exact Option.some.inj h1
    exact item_listR pl.isList h0 (by omega) (by rw [hj]; simpa using ew) fin hs
  · have hj : (i + (its.toArray.size : Int)).toNat = j := by
      rw [seqIndex_neg (by omega) h4] at h1
      rw [List.size_toArray, ← hl]
      exact Option.some.inj h1
    exact subscriptTail_builtinR (x := w) pl.isList.typeIs slot_list_getitem.lookup
      (wpAny_getItem_list_neg (Q := fun r s' => r = w ∧ EP X pins σ Q r s') pl.isList (by omega) (by rw [List.size_toArray] <;> omega) (by omega) (by rw [hj]; simpa using ew) ⟨rfl, fin⟩) hs
/-! ### xs[i] = v, any sign -/
/-! ### slices -/
/-- xs[lo:hi] of a list: a new list -/
def rSlL (K : PySem.W.Frag) : V → Option Int → Option Int → Hp → VK → Prop := fun x lo hi H Q => ∃ a xs, x = .ref a ∧ SqL K H a xs ∧ ∀ p, H p = none → Q (.ref p) (upd H p (.lst (cutV xs lo hi)))
/-! ### in, not in: flat items -/
def flatV : V → Bool
  | .non => true
  | .bl _ => true
  | .int _ => true
  | .str _ => true
  | _ => false
/-- == of flat values -/
def eqV : V → V → Bool
  | .non, .non => true
  | .bl a, .bl b => a == b
  | .bl a, .int b => (if a then 1 else 0) == b
  | .int a, .bl b => a == (if b then 1 else 0)
  | .int a, .int b => a == b
  | .str a, .str b => a == b
  | _, _ => false
def inV (x : V) (xs : List V) : Bool := xs.any fun y => eqV y x
/-- x in a list or tuple of flat items -/
def rIn (K : PySem.W.Frag) (neg : Bool) : R2 := fun x y H Q => ∃ p xs, y = .ref p ∧ (SqL K H p xs ∨ SqT K H p xs) ∧ flatV x = true ∧ xs.all flatV = true ∧ Q (.bl (if neg then !inV x xs else inV x xs)) H
/-! ### len, list(x), tuple(x) of any list or tuple that is read -/
theorem call_list_of : CallR X (.type "list") (fun xs H Q => ∃ p ys, xs = [.ref p] ∧ (SqL X.K H p ys ∨ SqT X.K H p ys) ∧ ∀ l, H l = none → Q (.ref l) (upd H l (.lst ys))) := by
  intro pins s σ H xs us Q I r h
  obtain ⟨p, ys, rfl, hq, q⟩ := h
  obtain ⟨u, rfl, rx⟩ := vals1 r
  cases rx
  have fin : ∀ (its : List Value), Vals ys its → ys.length ≤ sizeLine → ∀ (h' : Heap) (c' : Nat), (∀ b o', s.heap.get? b = some o' → h'.get? b = some o') →
      h'.get? s.heap.objs.size = some { cls := .type "list", dict := none, data := .seq its.toArray c', slots := #[] } → EP X pins σ Q (.ref s.heap.objs.size) { s with heap := h' } := fun its r' hz h' c' kp e =>
    ⟨.ref s.heap.objs.size, _, I.laid (t' := s.toks) kp (Nat.le_refl _) (show ObjOk X.prog X.w _ h' _ (.lst ys) from ⟨hz, its, c', r', e⟩), rfl, q _ (I.hok.fresh (Nat.le_refl _))⟩
  rcases hq with hq | hq
  · obtain ⟨its, r', pl, hz⟩ := I.list hq
    have hlen := r'.length
    obtain ⟨o, ho, hc, n, hd⟩ := pl.isList
    exact call_list_seq p (.inl rfl) ho hc hd (fun h' c' kp e => fin its r' hz h' c' kp e) (by simp only [List.size_toArray] <;> omega)
  · obtain ⟨its, r', pl, hz⟩ := I.tuple hq
    have hlen := r'.length
    obtain ⟨o, ho, hc, n, hd⟩ := pl
    exact call_list_seq p (.inr rfl) ho hc hd (fun h' c' kp e => fin its r' hz h' c' kp e) (by simp only [List.size_toArray] <;> omega)
/-! ### the call of a builtin's method: o.m(..) -/
/-- the value is of that builtin type -/
def tyV (K : PySem.W.Frag) (T : String) (x : V) (H : Hp) : Prop := match x with
  | .str _ => T = "str"
  | .int _ => T = "int"
  | .ref p => (T = "list" ∧ ∃ xs, SqL K H p xs) ∨ (T = "tuple" ∧ ∃ o, K.lookup p = some o ∧ o.cls = .type "tuple" ∧ o.dict = none) ∨
      (T = "dict" ∧ ((∃ kvs, H p = some (.dK kvs)) ∨ ∃ kvs, H p = some (.dT kvs))) ∨ (T = "set" ∧ ∃ S n, H p = some (.set S n))
  | _ => False
theorem tyV_is {pins : List (Addr × Obj)} {σ : St} {H : Hp} {s : Shared} {T : String} {x : V} {v : Value} (I : Inv X pins σ H s) (r : RelV x v) (ty : tyV X.K T x H) :
    s.TypeIs v T ∧ ∀ a, v = .ref a → ∃ ob, s.heap.get? a = some ob ∧ ob.dict = none := by
  cases x with
  | str z =>
    obtain ⟨t, rfl⟩ := r
    cases (show T = "str" from ty)
    exact ⟨typeIs_str s z t, fun _ e => nomatch e⟩
  | int i =>
    obtain ⟨t, rfl⟩ := r
    cases (show T = "int" from ty)
    exact ⟨typeIs_int s i t, fun _ e => nomatch e⟩
  | ref p =>
    cases r
    rcases ty with ⟨rfl, xs, hq⟩ | ⟨rfl, o, hk, hc, hd⟩ | ⟨rfl, hk⟩ | ⟨rfl, S, n, hk⟩
    · obtain ⟨its, _, pl, _⟩ := I.list hq
      refine ⟨pl.isList.typeIs, fun a e => ?_⟩
      cases e
      obtain ⟨o, n, e, c, hd, _⟩ := pl
      exact ⟨o, e, hd⟩
    · refine ⟨⟨o, I.kIn p o hk, hc⟩, fun a e => ?_⟩
      cases e
      exact ⟨o, I.kIn _ o hk, hd⟩
    · have z : ∃ o, s.heap.get? p = some o ∧ o.ExactDict := by
        rcases hk with ⟨kvs, hk⟩ | ⟨kvs, hk⟩
        · obtain ⟨_, _, _, _, o, _, _, e, ex, _⟩ := I.hok p _ hk
          exact ⟨o, e, ex⟩
        · obtain ⟨_, _, _, _, o, _, _, e, ex, _⟩ := I.hok p _ hk
          exact ⟨o, e, ex⟩
      obtain ⟨o, e, ex⟩ := z
      refine ⟨⟨o, e, ex.1⟩, fun a e2 => ?_⟩
      cases e2
      exact ⟨o, e, ex.2.1⟩
    · obtain ⟨o, _, _, _, e, ex, _⟩ := I.hok p _ hk
      refine ⟨⟨o, e, ex.1⟩, fun a e2 => ?_⟩
      cases e2
      exact ⟨o, e, ex.2.1⟩
  | _ => exact False.elim ty
def tBM0 (K : PySem.W.Frag) (T : String) (r : V → List V → Hp → VK → Prop) (to : TE) : TE := fun σ H Q => to σ H fun x H1 => tyV K T x H1 ∧ r x [] H1 Q
def tBM (K : PySem.W.Frag) (T : String) (r : V → List V → Hp → VK → Prop) (to : TE) (t : TA) : TE := fun σ H Q => to σ H fun x H1 => tyV K T x H1 ∧ t σ H1 fun xs H2 => r x xs H2 Q
variable {o e : Expr} {es : List Expr} {to : TE} {t : TA} {name : Str} {apos cpos : Pos} {T id : String} {r : V → List V → Hp → VK → Prop}
theorem pe_bm0 (pa : PlainAttrs T) (slot : Slot T name id) (hty : typeOf (.builtin id) = pure (.type "method_descriptor")) (hm : MtR X id r) (ho : PE X o to)
    (hbase : attributeBase o name X.env (eval o X.env) = eval o X.env := by rfl) (hline : (apos.endLine == cpos.line) = true := by rfl) : PE X (.Call (.Attribute o name apos) [] [] cpos) (tBM0 X.K T r to) := by
  intro pins s σ H Q I h
  refine wpAny_Call_method0_late hbase hline (thn (ho pins s σ H _ I h) fun v s1 ⟨x, H1, I1, r1, ty, q1⟩ => ?_)
  obtain ⟨h1, h2⟩ := tyV_is I1 r1 ty
  exact ⟨T, id, pa, slot, hty, h1, h2, Calls.callWith_builtin rfl (PySem.evalArgs_none (hm pins s1 σ H1 x [] v [] Q I1 r1 .nil q1))⟩
theorem pe_bm (pa : PlainAttrs T) (slot : Slot T name id) (hty : typeOf (.builtin id) = pure (.type "method_descriptor")) (hm : MtR X id r) (ho : PE X o to) (ha : PA X (e :: es) t)
    (hbase : attributeBase o name X.env (eval o X.env) = eval o X.env := by rfl)
    (hfew : ((backTo cpos (starEach (e :: es) X.env)).all (fun x => !x.1) && (backToKw cpos (keywordEach [] X.env)).all (fun x => x.1.isSome)
      && decide ((e :: es).length + ([] : List Keyword).length + (if ([] : List Keyword).isEmpty then 0 else 1) < 30)) = true := by rfl)
    (hline : (apos.endLine == cpos.line) = true := by rfl) (hs : starEach (e :: es) X.env = (false, eval e X.env) :: starEach es X.env := by rfl) (hplain : (backTo cpos (starEach es X.env)).any (·.1) = false := by rfl) :
    PE X (.Call (.Attribute o name apos) (e :: es) [] cpos) (tBM X.K T r to t) := by
  intro pins s σ H Q I h
  refine wpAny_Call_method_late hbase hfew hline rfl (thn (ho pins s σ H _ I h) fun v s1 ⟨x, H1, I1, r1, ty, q1⟩ => ?_)
  obtain ⟨h1, h2⟩ := tyV_is I1 r1 ty
  refine ⟨T, id, pa, slot, hty, h1, h2, ?_⟩
  have hA := ha cpos pins s1 σ H1 _ I1 q1
  rw [hs] at hA ⊢
  refine Calls.callWith_builtin (by show (false || (backTo cpos (starEach es X.env)).any (·.1)) = false; rw [hplain] <;> rfl) (Calls.evalArgs_plain ?_)
  exact thn hA fun us s2 ⟨vs, H2, I2, r2, q2⟩ => hm pins s2 σ H2 x vs v us Q I2 r1 r2 q2
/- xs.append(e), list.index on a module's tuple .. are MtR facts of 06m -/
end
end L2

namespace L2
open PySem PySem.Spec PyProof.Rows

def MtM (X : Cx) (id : String) (r : V → List V → Hp → VK → Prop) : Prop :=
  ∀ (pins : List (Addr × Obj)) (s : Shared) (σ : St) (H : Hp) (x : V) (xs : List V) (v : Value) (us : List Value) (Q : VK), Inv X pins σ H s → RelV x v → Vals xs us → r x xs H Q →
    wpAny (model X.prog X.w) X.A (call (.builtin id) (v :: us)) (EP X pins σ Q) X.xe s

/-! ### lists of values -/
theorem Vals.one : ∀ {x : V} {us : List Value}, Vals [x] us → ∃ u, us = [u] ∧ RelV x u
  | _, _, .cons r .nil => ⟨_, rfl, r⟩
theorem Vals.zero : ∀ {us : List Value}, Vals [] us → us = []
  | _, .nil => rfl
section
variable {X : Cx} {pins : List (Addr × Obj)} {σ : St} {H : Hp} {s : Shared} {l b : Addr} {xs ys zs : List V}

/-! ### the two steps: a tracked list is rewritten, a new list is laid -/
theorem Inv.lset {its its' : List Value} {n : Nat} {f : Array Value → Array Value} {t' : Nat} (I : Inv X pins σ H s) (hH : H l = some (.lst xs))
    (e : s.heap.get? l = some { cls := .type "list", data := .seq its.toArray n }) (hf : f its.toArray = its'.toArray) (hv : Vals ys its') (hz : ys.length ≤ sizeLine) :
    Inv X pins σ (upd H l (.lst ys)) { s with heap := s.heap.update l (Obj.mapSeq f), toks := t' } := by
  have q := PySem.IsL.update e f
  rw [hf] at q
  refine I.write (x := l) (e := l) (by rw [hH]; exact trivial) (.inl rfl) (fun b' u hb hu => (Heap.get?_update_other s.heap (Obj.mapSeq f) (Ne.symm hb)).trans hu) ⟨_, q⟩ ?_
  exact ⟨hz, its', _, hv, q⟩
theorem Inv.lstM (I : Inv X pins σ H s) (hH : H l = some (.lst xs)) : xs.length ≤ sizeLine ∧ ∃ (its : List Value) (n : Nat), Vals xs its ∧ xs.length = its.length ∧ s.heap.get? l = some { cls := .type "list", data := .seq its.toArray n } := by
  obtain ⟨z, its, n, r, e⟩ := I.hok l _ hH
  exact ⟨z, its, n, r, r.length, e⟩

end

section
variable {X : Cx}

/-! ### methods -/
def rAppend : V → List V → Hp → VK → Prop := fun x vs H Q => ∃ l xs y, x = .ref l ∧ vs = [y] ∧ H l = some (.lst xs) ∧ xs.length < sizeLine ∧ Q .non (upd H l (.lst (xs ++ [y])))
theorem mt_append : MtM X "list.append" rAppend := by
  intro pins s σ H x vs v us Q I rx rv h
  obtain ⟨l, xs, y, rfl, rfl, hH, hz, q⟩ := h
  cases rx
  obtain ⟨u, rfl, ru⟩ := rv.one
  obtain ⟨z, its, n, r, hl, e⟩ := I.lstM hH
  refine call_meets F.slot_list_append ⟨_, e, rfl⟩ F.entry_list_append (F.args_list_append_2 _ _) (PySem.list_append l its.toArray n u (by rw [List.size_toArray]; omega)) ⟨e, ?_⟩
  refine ⟨.non, _, I.lset (its' := its ++ [u]) hH e (by simp) (r.append (.cons ru .nil)) ?_, rfl, q⟩
  rw [List.length_append, List.length_singleton]
  omega

def rExtend : V → List V → Hp → VK → Prop := fun x vs H Q => ∃ l b xs zs, x = .ref l ∧ vs = [.ref b] ∧ H l = some (.lst xs) ∧ H b = some (.lst zs) ∧ xs.length + zs.length ≤ sizeLine ∧ Q .non (upd H l (.lst (xs ++ zs)))
def rPop : V → List V → Hp → VK → Prop := fun x vs H Q => ∃ l xs y, x = .ref l ∧ vs = [] ∧ H l = some (.lst xs) ∧ xs[xs.length - 1]? = some y ∧ Q y (upd H l (.lst xs.dropLast))
def rClear : V → List V → Hp → VK → Prop := fun x vs H Q => ∃ l xs, x = .ref l ∧ vs = [] ∧ H l = some (.lst xs) ∧ Q .non (upd H l (.lst []))
theorem mt_clear : MtM X "list.clear" rClear := by
  intro pins s σ H x vs v us Q I rx rv h
  obtain ⟨l, xs, rfl, rfl, hH, q⟩ := h
  cases rx
  have hus := rv.zero
  subst hus
  obtain ⟨z, its, n, r, hl, e⟩ := I.lstM hH
  refine call_meets F.slot_list_clear ⟨_, e, rfl⟩ F.entry_list_clear (F.args_list_clear_1 _) (AutoSeq1.list_clear_list_0 l its.toArray n (by rw [List.size_toArray]; omega)) ⟨e, ?_⟩
  exact ⟨.non, _, I.lset (its' := []) (ys := []) hH e rfl .nil (Nat.zero_le _), rfl, q⟩

/-! ### list + list, list += list, list * int -/
def rCat : R2 := fun x y H Q => ∃ l b xs zs, x = .ref l ∧ y = .ref b ∧ H l = some (.lst xs) ∧ H b = some (.lst zs) ∧ xs.length + zs.length ≤ sizeLine ∧ ∀ p, H p = none → Q (.ref p) (upd H p (.lst (xs ++ zs)))
/-- a list times an int (a negative one is nothing) -/
def rRep : R2 := fun x y H Q => ∃ l k xs, x = .ref l ∧ y = .int k ∧ H l = some (.lst xs) ∧ -(2 ^ 63) ≤ k ∧ k < 2 ^ 63 ∧ xs.length * k.toNat ≤ sizeLine ∧
  ∀ p, H p = none → Q (.ref p) (upd H p (.lst (List.replicate k.toNat xs).flatten))
/-! ### del xs[i] -/
end

/-! ### xs[a:b] = ys -/
section
variable {prog : Program} {w : World} {A : Around} {E : Value → Shared → Prop} {s : Shared}
set_option maxRecDepth 100000 in
end

section
variable {X : Cx}
end
end L2

namespace L2
open PySem PySem.Spec PyProof.Rows

/-! ### lists of pairs as tables -/
section
variable {κ : Type} [DecidableEq κ]
def valV (kvs : List (κ × V)) (k : κ) : Option V := (kvs.find? fun kv => decide (kv.1 = k)).map (·.2)
/-- in its place, or at the end -/
def putK (kvs : List (κ × V)) (k : κ) (v : V) : List (κ × V) :=
  if (kvs.any fun kv => decide (kv.1 = k)) = true then kvs.map (fun kv => if kv.1 = k then (kv.1, v) else kv) else kvs ++ [(k, v)]
def dropK (kvs : List (κ × V)) (k : κ) : List (κ × V) := kvs.filter fun kv => decide (kv.1 ≠ k)

theorem valV_pos {p : κ × V} {r : List (κ × V)} {k : κ} (e : p.1 = k) : valV (p :: r) k = some p.2 := by simp [valV, List.find?_cons, e]
theorem valV_neg {p : κ × V} {r : List (κ × V)} {k : κ} (e : ¬ p.1 = k) : valV (p :: r) k = valV r k := by simp [valV, List.find?_cons, e]
theorem valV_any (k : κ) : ∀ kvs : List (κ × V), (kvs.any fun kv => decide (kv.1 = k)) = (valV kvs k).isSome
  | [] => rfl
  | p :: r => by
    rw [List.any_cons]
    by_cases e : p.1 = k
    · simp only [valV_pos e, decide_eq_true e, Bool.true_or, Option.isSome_some]
    · rw [valV_neg e, decide_eq_false e, Bool.false_or]; exact valV_any k r
theorem valV_map (k j : κ) (y : V) : ∀ kvs : List (κ × V), valV (kvs.map fun kv => if kv.1 = k then (kv.1, y) else kv) j = (valV kvs j).map fun x => if j = k then y else x
  | [] => rfl
  | p :: r => by
    have ih := valV_map k j y r
    rw [List.map_cons]
    by_cases h : p.1 = k
    · rw [if_pos h]
      by_cases e : p.1 = j
      · rw [valV_pos (p := (p.1, y)) e, valV_pos e, Option.map_some, if_pos (e.symm.trans h)]
      · rw [valV_neg (p := (p.1, y)) e, valV_neg e, ih]
    · rw [if_neg h]
      by_cases e : p.1 = j
      · rw [valV_pos (p := p) e, valV_pos e, Option.map_some, if_neg (fun z => h (e.trans z))]
      · rw [valV_neg (p := p) e, valV_neg e, ih]
theorem valV_snoc (k j : κ) (y : V) : ∀ kvs : List (κ × V), valV kvs k = none → valV (kvs ++ [(k, y)]) j = if j = k then some y else valV kvs j
  | [], _ => by
    by_cases e : k = j
    · rw [if_pos e.symm]; exact valV_pos (p := (k, y)) e
    · rw [if_neg (fun z => e z.symm)]; exact valV_neg (p := (k, y)) e
  | p :: r, hn => by
    rw [List.cons_append]
    have hk : ¬ p.1 = k := fun z => by rw [valV_pos z] at hn; cases hn
    rw [valV_neg hk] at hn
    have ih := valV_snoc k j y r hn
    by_cases e : p.1 = j
    · rw [valV_pos e, valV_pos e, if_neg (fun z => hk (e.trans z))]
    · rw [valV_neg e, valV_neg e, ih]
end


/-! ### a tracked dict, its keys ints and texts or tuples of these -/
section
variable {P : Program} {w : World} {H : Hp} {h : Heap} {a : Addr}
end

/-- what the dict at a holds at the key y -/
def DGet (H : Hp) (a : Addr) (y : V) (r : Option V) : Prop :=
  (∃ kvs k, Rd H a (.dK kvs) ∧ y = kV k ∧ r = valV kvs k) ∨ ∃ kvs k b, Rd H a (.dT kvs) ∧ y = .ref b ∧ H b = some (.tup (k.map kV)) ∧ r = valV kvs k
/-- the heap behind a[y] = v -/
def DPut (H : Hp) (a : Addr) (y v : V) (H' : Hp) : Prop :=
  (∃ kvs k, H a = some (.dK kvs) ∧ y = kV k ∧ kvs.length < sizeLine ∧ H' = upd H a (.dK (putK kvs k v))) ∨
  ∃ kvs k b, H a = some (.dT kvs) ∧ y = .ref b ∧ H b = some (.tup (k.map kV)) ∧ kvs.length < sizeLine ∧ H' = upd H a (.dT (putK kvs k v))
section
variable {X : Cx} {pins : List (Addr × Obj)} {σ : St} {H : Hp} {s : Shared} {a : Addr} {y v : V} {u r : Value} {o : Option V} {A : Around} {E : Value → Shared → Prop}

end

section
variable {X : Cx} {pins : List (Addr × Obj)} {σ : St} {H : Hp} {s : Shared} {a : Addr} {kvs : List (Key × V)} {k : Key} {u : Value} {A : Around} {E : Value → Shared → Prop}
end


/-! ### readings and rules -/
/-- d[y] -/
def tDGet (td ty : TE) : TE := fun σ H Q => td σ H fun x H1 => ty σ H1 fun y H2 => ∃ a v, x = .ref a ∧ DGet H2 a y (some v) ∧ Q v H2
/-- d[y] = v -/
def sDPut (td ty tv : TE) : TS := fun D σ H => tv σ H fun v H1 => td σ H1 fun x H2 => ty σ H2 fun y H3 => ∃ a H4, x = .ref a ∧ DPut H3 a y v H4 ∧ D.nx σ H4
section
variable {X : Cx} {o i e value : Expr} {pos pos' tpos : Pos} {td ty tv : TE}
end


/-! ### displays -/
/-- {}, to be a dict of the kind that is wanted -/
def tDNewK : TE := fun _ H Q => ∀ p, H p = none → Q (.ref p) (upd H p (.dK []))
def tDNewT : TE := fun _ H Q => ∀ p, H p = none → Q (.ref p) (upd H p (.dT []))
section
variable {X : Cx} {pos : Pos}
end

/-- the pairs of a display, from the left -/
def tPairs : List (TE × TE) → St → Hp → (List (V × V) → Hp → Prop) → Prop
  | [], _, H, Q => Q [] H
  | (tk, tv) :: r, σ, H, Q => tk σ H fun x H1 => tv σ H1 fun y H2 => tPairs r σ H2 fun ps H3 => Q ((x, y) :: ps) H3
def mergeK (kvs more : List (Key × V)) : List (Key × V) := more.foldl (fun acc kv => putK acc kv.1 kv.2) kvs
/-- {k: v, ..} with keys ints and texts; the new dict stands empty while the pairs are made -/
def tDisp (trs : List (TE × TE)) : TE := fun σ H Q => ∀ p, H p = none → tPairs trs σ (upd H p (.dK [])) fun ps H2 => H2 p = some (.dK []) ∧ ∃ kvs : List (Key × V), ps = kvs.map (fun kv => (kV kv.1, kv.2)) ∧ kvs.length ≤ 15 ∧ Q (.ref p) (upd H2 p (.dK (mergeK [] kvs)))
/-! ### methods -/
/-- a is a dict, whatever its keys -/
def IsD (H : Hp) (a : Addr) : Prop := (∃ kvs, Rd H a (.dK kvs)) ∨ ∃ kvs, Rd H a (.dT kvs)
section
variable {X : Cx} {pins : List (Addr × Obj)} {σ : St} {H : Hp} {s : Shared} {a : Addr} {y d : V} {u r : Value} {o : Option V} {A : Around} {E : Value → Shared → Prop}
end

def tDGet2 (td ty tx : TE) : TE := fun σ H Q => td σ H fun x H1 => ∃ a, x = .ref a ∧ IsD H1 a ∧ ty σ H1 fun y H2 => tx σ H2 fun z H3 => ∃ o, DGet H3 a y o ∧ Q (o.getD z) H3
def tDPop2 (td ty tx : TE) : TE := fun σ H Q => td σ H fun x H1 => ∃ a, x = .ref a ∧ IsD H1 a ∧ ty σ H1 fun y H2 => tx σ H2 fun z H3 => ∃ kvs k, H3 a = some (.dK kvs) ∧ y = kV k ∧
  (∀ v, valV kvs k = some v → Q v (upd H3 a (.dK (dropK kvs k)))) ∧ (valV kvs k = none → Q z H3)
section
variable {X : Cx} {o e f : Expr} {apos cpos : Pos} {td ty tx : TE}
end

/-! ### dict(d): a copy -/
section
variable {X : Cx} {pins : List (Addr × Obj)} {σ : St} {H : Hp} {s : Shared} {a : Addr} {kvs : List (Key × V)} {A : Around} {E : Value → Shared → Prop}
end


section
variable {X : Cx} {pins : List (Addr × Obj)} {σ : St} {H : Hp} {s : Shared} {a : Addr} {y : V} {u : Value} {A : Around} {E : Value → Shared → Prop}
end
end L2


namespace Att
open PySem PySem.W PySem.Calls PyProof.Rows

/-! ### the script -/
theorem ints_of_wellAll {P : Params} {h : Heap} : ∀ (ns : List Int) (vs : List Value), WellAll P h vs (ns.map WData.int) → IntsAre vs ns := by
  intro ns
  induction ns with
  | nil =>
    intro vs w
    rw [List.map_nil] at w
    cases w
    exact .nil
  | cons n ns ih =>
    intro vs w
    rw [List.map_cons] at w
    cases w with
    | cons a b =>
      cases a
      exact .cons _ _ (ih _ b)

theorem script_of {l : OpenLaw} {n : Nat} (hn : l.most = some n) {P : Params} {h : Heap} {args : List WData} {vals : List Value}
    (hpre : l.row.toRowW.claim.pre args = true) (hwl : WellAll P h vals args) :
    ∃ a vs ns, vals = [Value.ref a] ∧ args = [WData.list (ns.map WData.int)] ∧ h.get? a = some { cls := .type "list", data := .seq vs.toArray } ∧ IntsAre vs ns ∧ ns.length ≤ n := by
  have hsh : WShape.hasAll [] args [.list .int] = true := (pre_splitW hpre).1
  have hc : l.pre.holds [] { args := args } = true := (pre_splitW hpre).2
  obtain ⟨d, r, rfl, h1, h2⟩ := hasAllW_cons hsh
  obtain rfl := hasAllW_nil h2
  obtain ⟨xs, rfl, h3⟩ := hasW_list h1
  obtain ⟨ns, rfl⟩ := items_int h3
  have hlen : ns.length ≤ n := by
    unfold OpenLaw.pre at hc
    have h4 : (WTm.not (.lt (.lit (.int (n : Int))) (.len (.arg 0)))).holds [] { args := [.list (ns.map .int)] } = true := by
      have h4 := (holds_andW hc).1
      rw [hn] at h4
      exact h4
    have h5 := condW_of h4 (w_not (w_lt w_lit (w_len_list (w_arg rfl))))
    rw [List.length_map] at h5
    refine Nat.le_of_not_lt fun q => ?_
    have q' : (n : Int) < ((ns.length : Nat) : Int) := by omega
    first
      | (rw [decide_eq_true q'] at h5; exact absurd h5 (by decide))
      | (simp at h5; omega)
  cases hwl with
  | cons w1 w2 =>
    cases w2
    cases w1 with
    | list ho hall => exact ⟨_, _, ns, rfl, rfl, ho, ints_of_wellAll ns _ hall, hlen⟩

theorem post_true (l : OpenLaw) (args : List WData) : l.row.toRowW.claim.post args (.bool true) args = true :=
  postW_of (r := l.row.toRowW) (X := (true == true))
    (show WShape.has [] (.bool true) .bool = true by first | rfl | decide | simp [WShape.has, WShape.arms, WShape.armsAll])
    (show (WTm.eq .res (.lit (.bool true))).value [] { args := args, res := some (.bool true), after := args } = some (.bool (true == true)) from w_eq_bool (w_res rfl) w_lit) rfl

/-! ### the attachment: holds_open's last premise (the goal 'hc' behind k_head) from a wpAny of the law's body -/
/-- the same from a codeAny of the CALL (for a layer whose function contracts speak of calls) -/
theorem attach_call {l : OpenLaw} {n : Nat} {q : Program} {loose : List Str} {XP : (Str → Option Value) → Heap → Prop} {YP : World → Heap → Prop} {d : DefRec}
    (hn : l.most = some n) (hdf : d.params.defaults = [])
    (call : ∀ (w : World) (s₀ s₁ : Shared) (mg mb : Str → Option Value) (fa : Addr) (o : Obj) (pm cd doc : Value) (a : Addr) (vs : List Value) (ns : List Int),
      Ground q loose [] XP w s₀ mg mb s₁.heap → YP w s₁.heap →
      s₁.heap.get? fa = some o → o.data = .func (docDef d.name d.params d.body d.scope pm cd doc) → s₁.heap.CodeRec cd d.name → mg d.name = some (.ref fa) →
      s₁.heap.get? a = some { cls := .type "list", data := .seq vs.toArray } → IntsAre vs ns → ns.length ≤ n → s₁.gens = #[] →
      codeAny (model l.prog w) callerA (.call (.ref fa) ⟨[.ref a], []⟩) (fun r s' => r = .ok (.ret (.bool true)) ∧ OldK s₁.heap s'.heap ∧ s'.os = s₁.os ∧ AllBare s'.gens) s₁) :
    WalkO q loose XP YP l.row.toRowW d [] (fun f vs => PySem.call f vs) := by
  intro w s₀ s₁ mg mb G Y fa o pm cd doc dV kV ho hd hcd hD hmg hg args vals as hpre hlay hrd hwl hlo
  obtain rfl : dV = .none := Dflts.none hD hdf
  obtain rfl : kV = .none := Dflts.noKw hD
  obtain ⟨a, vs, ns, rfl, rfl, hobj, hints, hlen⟩ := script_of hn hpre hwl
  refine enter_call (codeAny_mono (call w s₀ s₁ mg mb fa o pm cd doc a vs ns G Y ho (fd_plain hd) hcd hmg hobj hints hlen hg) fun r s' hq => ?_)
  obtain ⟨rfl, h2, h3, h4⟩ := hq
  exact ⟨.inl ⟨.bool true, .bool true, [], rfl, fun _ => rfl, .bool true, post_true l _, fun _ => ⟨List.Pairwise.nil, fun _ hm => (nomatch hm)⟩⟩, h2, h3, h4⟩

/-! ### rules over ANY heap (no ledger) from facts about the written part K: the library's own take a ledger (News) for what they write -/
section
variable {prog : Program} {w : World} {A : Around} {E : Value → Shared → Prop} {s : Shared} {K : Frag}

/-! the whole heap as the ledger: makes every rule that writes through a ledger a rule over any heap -/
def ledger (h : Heap) (L d : Addr) : List (Addr × Obj) := (List.range h.objs.size).filterMap fun a => if a = L ∨ a = d then none else (h.get? a).map fun o => (a, o)
end
end Att

namespace L2
open PySem PySem.Spec PyProof.Rows

theorem vals_ints : ∀ {vs : List Value} {ns : List Int}, IntsAre vs ns → Vals (ns.map V.int) vs
  | _, _, .nil => .nil
  | _, _, .cons n t h => .cons ⟨t, rfl⟩ (vals_ints h)

/-- nothing is tracked but the script, known to the object (or it is an object of the module) -/
def Only (H : Hp) : Prop := ∀ b, H b = none ∨ ∃ o xs, H b = some (.frz o (.lst xs))

/-- THE HEAD: the law's promise, at the heap behind the top. F, the promise of the law's def, may use that base is part of the heap (so K.In base, base.Ns mainGlobals mg stand in Mod) -/
theorem law_call {P : Program} {w : World} {K : PySem.W.Frag} {mg mb : Str → Option Value} {CX : CXT} {k : Nat} {fa a : Addr} {fd : FuncData} {x : Str} {sp : Sp} {s₁ : Shared} {vs : List Value} {ns : List Int}
    (KX : K.In s₁.heap) (hns : s₁.heap.Ns mainGlobals mg) (hb : s₁.heap.Ns builtinsNs mb) (hbb : ∀ x : Str, x ≠ "__name__" → mb x = bootBuiltins x) (hlim : s₁.heap.NoLimit) (hg : s₁.gens = #[])
    (ha : s₁.heap.get? a = some { cls := .type "list", data := .seq vs.toArray }) (hi : IntsAre vs ns) (hl : ns.length ≤ sizeLine) (hr : Room k callerA)
    (F : ∀ base : Heap, K.In base → base.Ns mainGlobals mg → FnOk P w K mg base CX k fa fd [x] sp) (hbind : ∀ (s : Shared) (u : Value), BindsTo s fd ⟨[u], []⟩ [(x, u)])
    (hsp : ∀ H : Hp, Only H → SqL K H a (ns.map V.int) → sp [.ref a] H (fun v _ => v = .bl true) fun _ _ _ => False)
    (hCX : ∀ H e s', CX [] H s₁ (fun _ _ _ => False) e s' → False) :
    codeAny (model P w) callerA (.call (.ref fa) ⟨[.ref a], []⟩) (fun r s' => r = .ok (.ret (.bool true)) ∧ OldK s₁.heap s'.heap ∧ s'.os = s₁.os ∧ AllBare s'.gens) s₁ := by
  have rv := vals_ints hi
  have lenV := hi.length
  -- from an abstract heap in which nothing but the script may be tracked
  have core : ∀ H : Hp, Only H → SqL K H a (ns.map V.int) → HOk P w H s₁.heap → (∀ b, H b ≠ none → b = a) → (H a ≠ none → K.lookup a = none) →
      codeAny (model P w) callerA (.call (.ref fa) ⟨[.ref a], []⟩) (fun r s' => r = .ok (.ret (.bool true)) ∧ OldK s₁.heap s'.heap ∧ s'.os = s₁.os ∧ AllBare s'.gens) s₁ := by
    intro H hO hS hok hA hK
    have base_of : ∀ {b : Addr} {o : Obj}, s₁.heap.get? b = some o → H b = none → (hidT s₁.heap H).get? b = some o := fun e n => hidT_get e n
    have noA : ∀ {b : Addr} {o : Obj} {es : Array DictEntry} {ep : Nat}, s₁.heap.get? b = some o → o.data = .dict es ep → H b = none := fun {b o es ep} e d => by
      cases q : H b with
      | none => rfl
      | some u =>
        have e' : b = a := hA b (by rw [q]; simp)
        subst e'
        rw [ha] at e; cases e
        have d' : Data.seq vs.toArray _ = Data.dict es ep := d
        cases d'
    have nsK : ∀ {b : Addr} {m : Str → Option Value}, s₁.heap.Ns b m → (hidT s₁.heap H).Ns b m := fun {b m} ⟨o, es, ep, e, d, r⟩ => ⟨o, es, ep, base_of e (noA e d), d, r⟩
    have hKb : K.In (hidT s₁.heap H) := fun b o e => base_of (KX b o e) (by
      cases q : H b with
      | none => rfl
      | some u =>
        have e' : b = a := hA b (by rw [q]; simp)
        subst e'
        rw [hK (by rw [q]; simp)] at e; cases e)
    have hM : Mod K mg (hidT s₁.heap H) := ⟨hKb, nsK hns, ⟨mb, nsK hb, hbb⟩, let ⟨mc, h1, h2⟩ := hlim; ⟨mc, nsK h1, h2⟩⟩
    have e0 : Env0 P w K mg (hidT s₁.heap H) callerA [] s₁ H := ⟨rfl, hM, fun b o e => of_hidT e, Nat.le_of_eq (hidT_size _ _), trivial, fun b hb => absurd (show b ∈ ([] : List Addr) from hb) (by simp), hok, .of_eq hg⟩
    refine codeAny_mono ((F _ hKb (nsK hns)).run callerA [] s₁ H ⟨[.ref a], []⟩ [.ref a] [.ref a] _ _ hr e0 (hbind s₁ (.ref a)) (.cons rfl .nil) (hsp H hO hS)) fun r s' h => ?_
    cases r with
    | error e => exact (hCX H e s' h).elim
    | ok fl =>
      cases fl with
      | next => exact False.elim h
      | brk => exact False.elim h
      | cont => exact False.elim h
      | ret u =>
        obtain ⟨v, H', os, bare, un, hok', r', q⟩ := h
        have q' : v = .bl true := q
        subst q'
        obtain rfl : u = Value.bool true := r'
        refine ⟨rfl, OldK.of_keep fun b o e => ?_, os, bare⟩
        cases q : H b with
        | none => exact un.keep b o e q (by intro z; exact absurd (show b ∈ ([] : List Addr) from z) (by simp)) (by simp)
        | some u =>
          rcases hO b with z | ⟨ob, xs, z⟩
          · rw [q] at z; cases z
          · have z2 := un.frzs b ob _ z
            obtain ⟨e1, _⟩ := hok b _ z
            obtain ⟨e2, _⟩ := hok' b _ z2
            rw [e] at e1; cases e1
            exact e2
  cases hk : K.lookup a with
  | some o =>
    -- the script is one of the module's own objects
    have e := KX a o hk
    rw [ha] at e
    cases e
    refine core (fun _ => none) (fun _ => .inl rfl) (.inr ⟨_, vs.toArray, _, hk, rfl, rfl, rfl, by rw [List.size_toArray, lenV]; exact hl, by simpa using rv⟩) (fun b u z => by have z' : (none : Option HO) = some u := z; cases z') (fun b z => absurd rfl z) fun z => absurd rfl z
  | none =>
    refine core (fun b => if b = a then some (.frz { cls := .type "list", data := .seq vs.toArray } (.lst (ns.map V.int))) else none) (fun b => ?_) (.inl (.inr ⟨{ cls := .type "list", data := .seq vs.toArray }, if_pos rfl⟩)) (fun b u z => ?_) (fun b z => ?_) fun _ => hk
    · by_cases hb : b = a
      · exact .inr ⟨_, _, if_pos hb⟩
      · exact .inl (if_neg hb)
    · by_cases hb : b = a
      · have z' := (if_pos hb).symm.trans z
        cases z'
        subst hb
        exact ⟨ha, by rw [List.length_map]; exact hl, vs, _, rv, ha⟩
      · have z' := (if_neg hb).symm.trans z
        cases z'
    · by_cases hb : b = a
      · exact hb
      · exact absurd (if_neg hb) z
end L2

namespace L2
open PySem PySem.Spec PyProof.Rows

abbrev KOf {K : PySem.W.Frag} {h : Heap} (_ : K.In h) : PySem.W.Frag := K

/-- the goal that k_head leaves (case hc), from the law's promise. F gives the function object fd (K's own) once, then the promise over every base -/
theorem walk_of {l : PySem.W.OpenLaw} {n k : Nat} {q : Program} {loose : List Str} {XP : (Str → Option Value) → Heap → Prop} {YP : World → Heap → Prop} {d : DefRec} {K : Params → PySem.W.Frag} {CX : World → CXT} {sp : World → Sp} {x : Str}
    (hn : l.most = some n) (hn2 : n ≤ sizeLine) (hdf : d.params.defaults = []) (hr : Room k callerA)
    (hY : ∀ (w : World) (h : Heap), YP w h → (K w.params).In h)
    (F : ∀ (w : World) (mg : Str → Option Value) (fa : Addr) (h : Heap), (K w.params).In h → h.Ns mainGlobals mg → mg d.name = some (.ref fa) →
      ∃ fd : FuncData, (∀ (s : Shared) (u : Value), BindsTo s fd ⟨[u], []⟩ [(x, u)]) ∧
        ∀ base : Heap, (K w.params).In base → base.Ns mainGlobals mg → FnOk l.prog w (K w.params) mg base (CX w) k fa fd [x] (sp w))
    (hsp : ∀ (w : World) (H : Hp) (a : Addr) (ns : List Int), ns.length ≤ n → Only H → SqL (K w.params) H a (ns.map V.int) → sp w [.ref a] H (fun v _ => v = .bl true) fun _ _ _ => False)
    (hCX : ∀ (w : World) (H : Hp) (s : Shared) (e : Value) (s' : Shared), CX w [] H s (fun _ _ _ => False) e s' → False) :
    PySem.W.WalkO q loose XP YP l.row.toRowW d [] (fun f vs => PySem.call f vs) := by
  refine Att.attach_call hn hdf fun w s₀ s₁ mg mb fa o pm cd doc a vs ns G Y ho hd hcd hmg hobj hints hlen hg => ?_
  have KX := hY w _ Y
  obtain ⟨fd, hb, hF⟩ := F w mg fa _ KX G.T.g hmg
  exact law_call KX G.T.g G.T.b G.T.builtins G.T.nolimit hg hobj hints (Nat.le_trans hlen hn2) hr hF hb (fun H hO hS => hsp w H a ns hlen hO hS) fun H e s' => hCX w H s₁ e s'
/-- the same where the promise hangs on the written part alone: (sp := My.sp_law), no hole under a binder -/
theorem walk_ofK {l : PySem.W.OpenLaw} {n k : Nat} {q : Program} {loose : List Str} {XP : (Str → Option Value) → Heap → Prop} {YP : World → Heap → Prop} {d : DefRec} {K : Params → PySem.W.Frag} {CX : CXT} {sp : PySem.W.Frag → Sp} {x : Str}
    (hn : l.most = some n) (hn2 : n ≤ sizeLine) (hdf : d.params.defaults = []) (hr : Room k callerA)
    (hY : ∀ (w : World) (h : Heap), YP w h → (K w.params).In h)
    (F : ∀ (w : World) (mg : Str → Option Value) (fa : Addr) (h : Heap), (K w.params).In h → h.Ns mainGlobals mg → mg d.name = some (.ref fa) →
      ∃ fd : FuncData, (∀ (s : Shared) (u : Value), BindsTo s fd ⟨[u], []⟩ [(x, u)]) ∧
        ∀ base : Heap, (K w.params).In base → base.Ns mainGlobals mg → FnOk l.prog w (K w.params) mg base CX k fa fd [x] (sp (K w.params)))
    (hsp : ∀ (K : PySem.W.Frag) (H : Hp) (a : Addr) (ns : List Int), ns.length ≤ n → Only H → SqL K H a (ns.map V.int) → sp K [.ref a] H (fun v _ => v = .bl true) fun _ _ _ => False)
    (hCX : ∀ (H : Hp) (s : Shared) (e : Value) (s' : Shared), CX [] H s (fun _ _ _ => False) e s' → False) :
    PySem.W.WalkO q loose XP YP l.row.toRowW d [] (fun f vs => PySem.call f vs) :=
  walk_of (K := K) (CX := fun _ => CX) (sp := fun w => sp (K w.params)) hn hn2 hdf hr hY F (fun w H a ns h1 h2 h3 => hsp (K w.params) H a ns h1 h2 h3) fun _ H s e s' => hCX H s e s'
end L2



/-! SHORT WORDS over the layer: a def of the text, its body, what a loop and a test want. -/
namespace L2
open PySem PySem.Spec PyProof.Rows

/-! ### the text by places -/
/-- the j-th statement of a class's body -/
def inClass (s : Stmt) (j : Nat) : Stmt := match s with
  | .ClassDef _ _ _ body _ _ _ _ _ _ _ => body.getD j (.Pass ⟨0, 0, 0, 0⟩)
  | _ => .Pass ⟨0, 0, 0, 0⟩
def defArgs (s : Stmt) : Arguments := match s with
  | .FunctionDef _ a _ _ _ _ _ _ _ _ => a
  | _ => { posonlyargs := [], args := [], vararg := none, kwonlyargs := [], kw_defaults := [], kwarg := none, defaults := [] }
def defBody (s : Stmt) : List Stmt := match s with
  | .FunctionDef _ _ b _ _ _ _ _ _ _ => b
  | _ => []
def defScope (s : Stmt) : Scope := match s with
  | .FunctionDef _ _ _ _ _ _ sc _ _ _ => sc
  | _ => { kind := .function, names := [], isGenerator := false, isCoroutine := false }

/-! ### no exception leaves a def -/
abbrev CX0 : CXT := fun _ _ _ _ _ _ => False
abbrev E0 : XK := fun _ _ _ => False
theorem pass0 {X : Cx} : Passes CX0 X E0 := fun _ _ _ _ _ _ _ h => h.elim

/-! ### a def (or method) of the text as it stands behind the top -/
structure Fun (K : PySem.W.Frag) (x qual : Str) (st : Stmt) (f : Addr) (fd : FuncData) : Prop where
  ex : ∃ (oc : Value) (od : Option Addr) (kV doc pm : Value) (an : Option Addr) (cdv ct : Value) (osl : Array (Option Value)),
    fd = PySem.W.fnOf x qual (defArgs st) (defBody st) (defScope st) .none kV doc pm an cdv ct ∧ K.lookup f = some ⟨oc, od, .func fd, osl⟩ ∧ PySem.W.codeIn K cdv qual = true
  kp : PySem.W.keepIn K (.ref f) = true
section
variable {P : Program} {w : World} {K : PySem.W.Frag} {mg : Str → Option Value} {base : Heap}
/-- THE RULE for a def: its body as a term of rules, and the reading of that term -/
theorem Fun.ok {x qual : Str} {st : Stmt} {f : Addr} {fd : FuncData} {N ps : List Str} {k : Nat} {sp : Sp} (F : Fun K x qual st f fd) (S : FnScope N ps (defScope st)) (len : ∀ vs H Q E, sp vs H Q E → vs.length = ps.length)
    (hbody : ∀ (cdv : Value) (A : Around) (outer : List Env) (s : Shared) (H : Hp) (vs : List V) (Q : VK) (E : XK), Room k (A.deeper (envOfC qual (defScope st) s.heap.objs.size f cdv)) → sp vs H Q E →
      ∃ t, PSs (cxOf CX0 P w K mg base N qual (defScope st) f cdv A outer s H E).nox (defBody st) t ∧ t { nx := fun _ H' => Q .non H', rt := Q } (start N vs) H) : FnOk P w K mg base CX0 (k + 1) f fd ps sp := by
  obtain ⟨oc, od, kV, doc, pm, an, cdv, ct, osl, rfl, lk, hcd⟩ := F.ex
  refine fn_of lk hcd S len fun A outer s H vs Q E hr hsp => ?_
  obtain ⟨t, h, q⟩ := hbody cdv A outer s H vs Q E hr hsp
  exact ⟨t, h.nox, q⟩
/-- how its arguments bind (no defaults): h is «fun _ _ _ _ _ _ us hl => match us, hl with | [_, _], _ => rfl», one _ a parameter -/
theorem Fun.binds {x qual : Str} {st : Stmt} {f : Addr} {fd : FuncData} {ps : List Str} (F : Fun K x qual st f fd)
    (h : ∀ (kV doc pm : Value) (an : Option Addr) (cdv ct : Value) (us : List Value), us.length = ps.length → bindArgs (PySem.W.fnOf x qual (defArgs st) (defBody st) (defScope st) .none kV doc pm an cdv ct) ⟨us, []⟩ = pure (ps.zip us)) : Binds K fd ps [] := by
  obtain ⟨oc, od, kV, doc, pm, an, cdv, ct, osl, rfl, lk, hcd⟩ := F.ex
  exact .all (h kV doc pm an cdv ct)
theorem fun_mk {x qual : Str} {st : Stmt} {f : Addr} {oc : Value} {od an : Option Addr} {osl : Array (Option Value)} {kV doc pm cdv ct : Value} (l : K.lookup f = some ⟨oc, od, .func (PySem.W.fnOf x qual (defArgs st) (defBody st) (defScope st) .none kV doc pm an cdv ct), osl⟩)
    (c : PySem.W.codeIn K cdv qual = true) (k : PySem.W.keepIn K (.ref f) = true) : Fun K x qual st f (PySem.W.fnOf x qual (defArgs st) (defBody st) (defScope st) .none kV doc pm an cdv ct) := ⟨⟨oc, od, kV, doc, pm, an, cdv, ct, osl, rfl, l, c⟩, k⟩
end
/-! ### expressions in short: the name that stands in the i-th slot -/
section
variable {X : Cx}
theorem pv (i : Nat) {x : Str} {pos : Pos} (hN : X.N[i]? = some x := by rfl) (hv : Vis X.env.scope x := by first | exact Or.inl rfl | exact Or.inr (Or.inl rfl) | exact Or.inr (Or.inr rfl)) (hd : (x == ("__debug__" : Str)) = false := by decide)
    (hcd : (x == ("__classdict__" : Str)) = false := by decide) : PE X (.Name x pos) (tVar i) := pe_var hN hv hd hcd
end

/-! ### tests -/
theorem ite2 {c A B : Prop} [Decidable c] (h1 : c → A) (h2 : ¬ c → B) : if c then A else B := by
  by_cases h : c
  · rw [if_pos h]
    exact h1 h
  · rw [if_neg h]
    exact h2 h
/-! ### heaps -/
/-- all that was tracked is as it was -/
def Same (H H' : Hp) : Prop := ∀ b o, H b = some o → H' b = some o
theorem Same.refl (H : Hp) : Same H H := fun _ _ h => h
theorem Same.trans {H H1 H2 : Hp} (a : Same H H1) (b : Same H1 H2) : Same H H2 := fun c o h => b c o (a c o h)
end L2
namespace L2
open PySem PySem.Spec PyProof.Rows
section
variable {X : Cx}
end
/-! ### a dict's pairs: keys that differ -/
section
variable {κ : Type} [DecidableEq κ]
theorem nd_snoc : ∀ {l : List κ} {k : κ}, l.Nodup → ¬ k ∈ l → (l ++ [k]).Nodup
  | [], k, _, _ => by simp
  | a :: r, k, h, hk => by
    obtain ⟨h1, h2⟩ := List.nodup_cons.mp h
    show (a :: (r ++ [k])).Nodup
    refine List.nodup_cons.mpr ⟨fun m => ?_, nd_snoc h2 fun m => hk (List.mem_cons.mpr (Or.inr m))⟩
    rcases List.mem_append.mp m with q | q
    · exact h1 q
    · exact hk (List.mem_cons.mpr (Or.inl (List.mem_singleton.mp q).symm))
theorem dropK_neg {p : κ × V} {r : List (κ × V)} {k : κ} (e : ¬ p.1 = k) : dropK (p :: r) k = p :: dropK r k := by
  unfold dropK
  rw [List.filter_cons, if_pos (by simp [e])]
theorem dropK_no : ∀ {kvs : List (κ × V)} {k : κ}, ¬ k ∈ kvs.map (·.1) → dropK kvs k = kvs
  | [], _, _ => rfl
  | p :: r, k, h => by
    have h' : ¬ k ∈ r.map (·.1) := fun m => by
      obtain ⟨q, hq, e⟩ := List.mem_map.mp m
      exact h (List.mem_map.mpr ⟨q, List.mem_cons.mpr (Or.inr hq), e⟩)
    rw [dropK_neg fun e => h (List.mem_map.mpr ⟨p, List.mem_cons.mpr (Or.inl rfl), e⟩), dropK_no h']
end
end L2

set_option Elab.async false
set_option linter.all false
set_option maxRecDepth 100000
set_option maxHeartbeats 4000000
namespace L2
open PySem PySem.Spec PyProof.Rows

/-! ### comprehensions -/
/-- the values of the slots at ix -/
def capV (ix : List Nat) (σ : St) : St := ix.map fun i => (σ[i]?).getD none
section
variable {X : Cx} {pins : List (Addr × Obj)} {σ : St} {H : Hp} {s : Shared} {scope : Scope} {cl : List (Str × Addr)} {ix : List Nat} {fp : List Addr} {C : Addr} {xs : List Str}
end

def tYes : TT := fun _ H Q => Q true H
section
variable {prog : Program} {w : World} {A : Around} {R : Result → Shared → Prop} {s : Shared}
end

/-- [elt for g in wi if tt]: the list at D grows; W: what holds between the turns, by the turn, a measure, the list -/
def tComp (wi : TI) (g : TG) (tt : TT) (te : TE) (k : Nat) (ix : List Nat) : TE := fun σ H Q => wi σ H fun J H1 => ∀ D, H1 D = none →
  ∃ W : Nat → Nat → List V → St → Hp → Prop, (∃ m, W 0 m [] (List.replicate k none ++ capV ix σ) (upd H1 D (.lst []))) ∧ ∀ i m ys τ H, W i m ys τ H → H D = some (.lst ys) ∧
    ((J.stop i H ∧ Q (.ref D) H) ∨ (J.go i H ∧ ys.length < sizeLine ∧ ∃ N : V → St → Hp → Prop,
      (∀ v τ' H', N v τ' H' → H' D = some (.lst ys) ∧ ∃ m', m' < m ∧ W (i + 1) m' (ys ++ [v]) τ' (upd H' D (.lst (ys ++ [v])))) ∧ ∃ Nf : St → Hp → Prop, (∀ τ' H', Nf τ' H' → ∃ m', m' < m ∧ W (i + 1) m' ys τ' H') ∧
      ∀ x H', J.yld i H x H' → g x τ H' fun τ2 H2 => tt τ2 H2 fun b H3 => if b = true then te τ2 H3 fun v H4 => N v τ2 H4 else Nf τ2 H3))
section
variable {X : Cx} {elt iter tg : Expr} {ifs : List Expr} {scope : Scope} {pos : Pos} {cl : List (Str × Addr)} {ix : List Nat} {xs : List Str} {wi : TI} {g : TG} {tt : TT} {te : TE}
end
end L2

namespace L2
open PySem PySem.Spec PyProof.Rows
/-! ### readings: short names -/
abbrev rAddS : R2 := fun x y H Q => ∃ i j, x = .str i ∧ y = .str j ∧ i.length + j.length ≤ sizeLine ∧ Q (.str (i ++ j)) H
abbrev rInS : R2 := fun x y H Q => ∃ i j, x = .str i ∧ y = .str j ∧ Q (.bl (!(Builtin.Str.occurrences j i 0 j.length 1).isEmpty)) H
abbrev rNotInS : R2 := fun x y H Q => ∃ i j, x = .str i ∧ y = .str j ∧ Q (.bl (!(!(Builtin.Str.occurrences j i 0 j.length 1).isEmpty))) H
abbrev rIsB : R2 := fun x y H Q => ∃ a b, x = .bl a ∧ y = .bl b ∧ Q (.bl (a == b)) H
abbrev rIsNotB : R2 := fun x y H Q => ∃ a b, x = .bl a ∧ y = .bl b ∧ Q (.bl (a != b)) H
abbrev rIsN : R2 := fun x y H Q => y = .non ∧ Q (.bl (decide (x = .non))) H
abbrev rNotN : R2 := fun x y H Q => y = .non ∧ Q (.bl (!decide (x = .non))) H
abbrev RC := List V → Hp → VK → Prop
abbrev cLen (K : PySem.W.Frag) : RC := fun xs H Q => ∃ x n, xs = [x] ∧ LenV K x H n ∧ Q (.int n) H
abbrev cIsi (K : PySem.W.Frag) : RC := fun xs H Q => ∃ x c t b, xs = [x, c] ∧ TyOf K H x t ∧ (∃ T, c = .ty T ∧ PySem.W.kitOne K t (.type T) = some b) ∧ Q (.bl b) H
abbrev cAll (K : PySem.W.Frag) : RC := fun xs H Q => ∃ (a : Addr) (bs : List Bool), xs = [.ref a] ∧ SqL K H a (bs.map V.bl) ∧ Q (.bl (bs.all id)) H
abbrev cAbs : RC := fun xs H Q => ∃ i, xs = [.int i] ∧ Q (.int (if i < 0 then -i else i)) H
abbrev cStr : RC := fun xs H Q => ∃ i, xs = [.int i] ∧ i.natAbs.log2 < 1920 ∧ Q (.str (toString i)) H
abbrev RM := V → List V → Hp → VK → Prop
abbrev r_mt_startswith : RM := fun x xs H Q => ∃ a b, x = .str a ∧ xs = [.str b] ∧ Q (.bl (0 + b.length ≤ a.length && Builtin.Str.subAt a b 0)) H
/-! ### promises -/
/-- what is asked of the arguments and the heap; what is told; all that was tracked stays -/
def spP (pre : List V → Hp → Prop) (post : List V → Hp → V → Hp → Prop) : Sp := fun vs H Q _ => pre vs H ∧ ∀ r H', post vs H r H' → Same H H' → Q r H'
abbrev cInt : RC := fun xs H Q => ∃ (x : Str) (n : Int), xs = [.str x] ∧ PySem.intText? x = some n ∧ x.length ≤ 640 ∧ Q (.int n) H
abbrev r_mt_upper : RM := fun x xs H Q => ∃ a : Str, x = .str a ∧ xs = [] ∧ (∀ c ∈ a.cps.toList, c < 128) ∧ a.length ≤ sizeLine ∧ ∀ y : Str, y.length = a.length → Q (.str y) H
theorem isV (p : Addr) {H : Hp} {o : HO} (h : H p = none) : Same H (upd H p o) := fun b u e => by rw [upd_ne (ne_of_none e h)]; exact e
/-! ### the built-in names -/
theorem bt_len : bootBuiltins "len" = some (.builtin "len") := by decide +kernel
theorem bt_isinstance : bootBuiltins "isinstance" = some (.builtin "isinstance") := by decide +kernel
theorem bt_int : bootBuiltins "int" = some (.type "int") := by decide +kernel
theorem bt_bool : bootBuiltins "bool" = some (.type "bool") := by decide +kernel
theorem bt_list : bootBuiltins "list" = some (.type "list") := by decide +kernel
section
variable {X : Cx}

/-! ### bigger numbers -/
def big : Int := 10 ^ 200
def CDivB (_ j : Int) : Prop := 0 < j ∧ j < big
def CMulB (i j : Int) : Prop := (-big < i ∧ i < big) ∧ (-big < j ∧ j < big)
theorem log2_big {j : Int} (h : j.natAbs < 10 ^ 200) : j.natAbs.log2 < 700 := by
  by_cases h0 : j.natAbs = 0
  · rw [h0]; decide
  · exact (Nat.log2_lt h0).mpr (Nat.lt_of_lt_of_le h (by decide +kernel))
theorem abs_big {j : Int} (h : -big < j ∧ j < big) : j.natAbs < 10 ^ 200 := by
  have e : big = ((10 ^ 200 : Nat) : Int) := by decide +kernel
  rw [e] at h
  omega
theorem CMulB.ok {i j : Int} (h : CMulB i j) : IntMulOk i j := by
  have b : ∀ k : Int, (-big < k ∧ k < big) → Builtin.Int.intBits k ≤ 2 ^ 20 := fun k hk => by
    have q := log2_big (abs_big hk)
    unfold Builtin.Int.intBits
    split <;> omega
  exact .of_bits (b i h.1) (b j h.2)
theorem op_mulB : OpR X (binaryOp .Mult) (rI CMulB fun i j => .int (i * j)) := opI fun _ _ _ _ _ _ _ hc q => mul_int q hc.ok
theorem op_fdivB : OpR X (binaryOp .FloorDiv) (rI CDivB fun i j => .int (i / j)) := opI fun i j _ _ _ _ _ hc q => by
  have h1 : (0 : Int) < j := hc.1
  refine floordiv_int (by omega) ?_ (.inl (PyProof.noPylong_of_log2 (Nat.lt_trans (log2_big (abs_big ⟨by have := hc.2; omega, hc.2⟩)) (by decide))))
  rw [Int.fdiv_eq_ediv_of_nonneg i (by omega)]
  exact q

/-! ### is, of truths -/
/-! ### isinstance -/
theorem call_isi : CallR X (.builtin "isinstance") (cIsi X.K) := by
  intro pins s σ H xs us Q I r h
  obtain ⟨x, c, t, b, rfl, ty, ⟨T, rfl, e⟩, q⟩ := h
  obtain ⟨u, w', rfl, r1, r2⟩ := vals2 r
  cases r2
  exact isinst_ok I r1 ty e fun tk => ⟨.bl b, H, I.tok tk, rfl, q⟩

/-! ### signs of a text -/
def Its (x : Str) : It := ⟨fun i _ => i < x.cps.size, fun i H v H' => H' = H ∧ ∃ c, x.cps[i]? = some c ∧ v = .str ⟨#[c]⟩, fun i _ => x.cps.size ≤ i⟩
def iStr (tl : TE) : TI := fun σ H R => tl σ H fun x H1 => ∃ z, x = .str z ∧ R (Its z) H1
/-! ### all of a list of truths -/
/-! ### texts -/
def rSlS : V → Option Int → Option Int → Hp → VK → Prop := fun x lo hi H Q => ∃ z, x = .str z ∧ z.length ≤ sizeLine ∧ Q (.str (Txt.slice z lo hi)) H
end
end L2

namespace L2
open PySem PySem.Spec PyProof.Rows

/-! ### exceptions of the text's own classes -/
/-- an exception that flies: its record and its traceback's newest entry, both new since g, not tracked -/
def XF (g h : Heap) (H : Hp) (e : Addr) (cls : Value) : Prop :=
  ∃ oe vs a0 T oT ts, h.get? e = some oe ∧ (oe.cls = cls ∧ vs[0]? = some a0) ∧ oe.data = .fields vs ∧ vs[1]? = some (.ref T) ∧ T ≠ e ∧ h.get? T = some oT ∧ oT.data = .fields ts ∧ ts[3]? = some .none ∧
    g.get? e = none ∧ g.get? T = none ∧ H e = none ∧ H T = none
def CX1 (P : Program) (w : World) : CXT := fun outer H s E ev s' => ∃ e cls H', ev = .ref e ∧ s'.os = s.os ∧ AllBare s'.gens ∧ Un (frs outer) [] H H' s.heap s'.heap ∧ HOk P w H' s'.heap ∧ XF s.heap s'.heap H' e cls ∧ E cls none H'
section
variable {X : Cx} {pins : List (Addr × Obj)} {σ : St} {H : Hp} {s : Shared}
end

section
variable {P : Program} {w : World} {K : PySem.W.Frag} {mg : Str → Option Value} {base : Heap} {N : List Str} {qual : Str} {scope : Scope} {f : Addr} {cd : Value} {A : Around} {outer : List Env} {s₀ : Shared} {H₀ : Hp} {E : XK}
end

/-! ### raise -/
def tRaise (C : Addr) (ta : TA) (E : XK) : TS := fun _ σ H => ta σ H fun vs H1 => vs.length ≤ sizeLine ∧ E (.ref C) none H1
section
variable {X : Cx} {x : Str} {C : Addr} {np cpos pos : Pos} {e₀ : Expr} {rest : List Expr} {ta : TA} {E : XK}
end

/-! ### texts of messages -/
/-- signs that a text may have -/
def Asc (x : Str) : Prop := ∀ c ∈ x.cps.toList, c < 128
section
variable {X : Cx} {e : Expr} {te : TE} {a : Str} {j : Nat} {p1 p2 p3 : Pos}
/-- f'.. {e!r}' -/
def tMsgR (te : TE) : TE := fun σ H Q => te σ H fun v H1 => ∃ x : Str, v = .str x ∧ x.length ≤ 100000 ∧ Asc x ∧ ∀ y : Str, Q (.str y) H1
/-- f'{e} ..' -/
def tMsgS (te : TE) : TE := fun σ H Q => te σ H fun v H1 => ∃ x : Str, v = .str x ∧ x.length ≤ 100000 ∧ ∀ y : Str, Q (.str y) H1
end
end L2

namespace L2
open PySem PySem.Spec PyProof.Rows
structure ExC (K : PySem.W.Frag) (C : Addr) : Prop where
  ga : PySem.W.findIn K (.ref C) "__getattribute__" = some (some (.builtin "BaseException.__getattribute__"))
  gx : PySem.W.findIn K (.ref C) "__getattr__" = some none
  cl : PySem.W.findIn K (.ref C) "__class__" = some (some (.builtin "object.__class__"))
  ob : PySem.W.mroIn K C (.type "object") = some true
  be : PySem.W.mroIn K C (.type "BaseException") = some true
  ge : PySem.W.specialIn K (.builtin "object.__class__") "__get__" = some (some (.builtin "getset_descriptor.__get__"))
  tk : PySem.W.takesIn K (.builtin "object.__class__") = some true
section
variable {prog : Program} {w : World} {A : Around} {E : Value → Shared → Prop} {K : PySem.W.Frag} {e C : Addr} {s : Shared}
open PySem.Builtin PySem.Builtin.Getset_descriptor in
end
end L2

namespace L2
open PySem PySem.Spec PyProof.Rows
/-! ### try, except C as n -/
section
variable {X : Cx} {pins : List (Addr × Obj)} {σ : St} {H : Hp} {s : Shared}
end
/-- what stands where an exception lies that is held by a name -/
def exO (e C : Addr) : HO := .ext fun h => ∃ o, h.get? e = some o ∧ o.cls = .ref C
section
variable {X : Cx} {pins : List (Addr × Obj)} {σ : St} {H : Hp} {s : Shared} {e : Addr}
end
abbrev EXK := Value → St → Hp → Prop
section
variable {X : Cx} {k : Nat} {f : Addr} {fd : FuncData} {ps : List Str} {sp : Sp} {x : Str} {p pos : Pos} {e : Expr} {es : List Expr} {t : TA}
def tCallX (sp : Sp) (ta : TA) (EX : EXK) : TE := fun σ H Q => ta σ H fun vs H1 => sp (vs ++ []) H1 Q fun cls _ H2 => EX cls σ H2
end
section
variable {X : Cx} {ex : Expr} {tx : EXK → TE} {pos p1 : Pos} {i : Nat} {y : Str}
def tDropX (tx : EXK → TE) (EX : EXK) : TS := fun D σ H => tx EX σ H fun _ H1 => D.nx σ H1
def tRetX (tx : EXK → TE) (EX : EXK) : TS := fun D σ H => tx EX σ H D.rt
def tAsgX (tx : EXK → TE) (i : Nat) (EX : EXK) : TS := fun D σ H => tx EX σ H fun v H1 => D.nx (σ.set i (some v)) H1
end
/-- all that a class must have so that its exceptions are looked at -/
structure ExK (K : PySem.W.Frag) (C : Addr) : Prop extends ExC K C where
  has : (PySem.W.clsIn K C).isSome = true
/-- the ends of an except suite: the name goes -/
def endT (i : Nat) (D : Ends) : Ends := { nx := fun σ H => D.nx (σ.set i none) H, rt := D.rt, bk := fun σ H => D.bk (σ.set i none) H, ct := fun σ H => D.ct (σ.set i none) H }
def tTry (K : PySem.W.Frag) (tb : EXK → TS) (C0 : Addr) (i : Nat) (th : TS) : TS := fun D σ H => tb (fun cls σ1 H1 => ∃ C, cls = .ref C ∧ ExK K C ∧ PySem.W.exmOne K (.ref C) (.ref C0) = some true ∧
  ∀ e, H1 e = none → th (endT i D) (σ1.set i (some (.ref e))) (upd H1 e (exO e C))) D σ H
section
variable {X : Cx} {st b₀ : Stmt} {suite : List Stmt} {tb : EXK → TS} {th : TS} {c n : Str} {C0 : Addr} {i : Nat} {np hpos pos : Pos}
end
end L2

namespace L2
open PySem PySem.Spec PyProof.Rows
/-! ### isinstance of an exception -/
def clsV : V → Option Value
  | .ty T => some (.type T)
  | .ref D => some (.ref D)
  | _ => none
abbrev cIsx (K : PySem.W.Frag) : RC := fun xs H Q => ∃ a C c cv b, xs = [.ref a, c] ∧ H a = some (exO a C) ∧ ExK K C ∧ clsV c = some cv ∧ PySem.W.kitOne K (.ref C) cv = some b ∧ Q (.bl b) H
abbrev cIsxT (K : PySem.W.Frag) : RC := fun xs H Q => ∃ a C p, ∃ cs : List Addr, ∃ b, xs = [.ref a, .ref p] ∧ H a = some (exO a C) ∧ ExK K C ∧ H p = some (.tup (cs.map V.ref)) ∧ PySem.W.kitAny K (.ref C) (cs.map Value.ref) = some b ∧ Q (.bl b) H
section
variable {X : Cx}
end
/-! ### defs over CX1 -/
section
variable {P : Program} {w : World} {K : PySem.W.Frag} {mg : Str → Option Value} {base : Heap}
end
theorem walk_ofX {l : PySem.W.OpenLaw} {n k : Nat} {q : Program} {loose : List Str} {XP : (Str → Option Value) → Heap → Prop} {YP : World → Heap → Prop} {d : DefRec} {K : Params → PySem.W.Frag} {sp : PySem.W.Frag → Sp} {x : Str}
    (hn : l.most = some n) (hn2 : n ≤ sizeLine) (hdf : d.params.defaults = []) (hr : Room k callerA)
    (hY : ∀ (w : World) (h : Heap), YP w h → (K w.params).In h)
    (F : ∀ (w : World) (mg : Str → Option Value) (fa : Addr) (h : Heap), (K w.params).In h → h.Ns mainGlobals mg → mg d.name = some (.ref fa) →
      ∃ fd : FuncData, (∀ (s : Shared) (u : Value), BindsTo s fd ⟨[u], []⟩ [(x, u)]) ∧
        ∀ base : Heap, (K w.params).In base → base.Ns mainGlobals mg → FnOk l.prog w (K w.params) mg base (CX1 l.prog w) k fa fd [x] (sp (K w.params)))
    (hsp : ∀ (K : PySem.W.Frag) (H : Hp) (a : Addr) (ns : List Int), ns.length ≤ n → Only H → SqL K H a (ns.map V.int) → sp K [.ref a] H (fun v _ => v = .bl true) fun _ _ _ => False) :
    PySem.W.WalkO q loose XP YP l.row.toRowW d [] (fun f vs => PySem.call f vs) :=
  walk_of (K := K) (CX := fun w => CX1 l.prog w) (sp := fun w => sp (K w.params)) hn hn2 hdf hr hY F (fun w H a ns h1 h2 h3 => hsp (K w.params) H a ns h1 h2 h3) fun _ _ _ _ _ z => by
    obtain ⟨_, _, _, _, _, _, _, _, _, y⟩ := z
    exact y
end L2

namespace L2
open PySem
/-! ### loops, as they stand behind the unfolding of their readings -/
section
variable {σ : St} {H : Hp} {nx : St → Hp → Prop} {B : V → St → Hp → (St → Hp → Prop) → Prop}
theorem loop_range {lo : Int} {n : Nat} (Pv : Nat → St → Hp → Prop) (h0 : Pv 0 σ H) (hs : ∀ i σ H, i < n → Pv i σ H → B (.int (lo + i)) σ H (Pv (i + 1))) (hd : ∀ σ H, Pv n σ H → nx σ H) :
    ∃ W : Nat → Nat → St → Hp → Prop, (∃ m, W 0 m σ H) ∧ ∀ i m σ H, W i m σ H → ((Itr lo n).stop i H ∧ nx σ H) ∨ ((Itr lo n).go i H ∧ ∃ N : St → Hp → Prop, (∀ σ' H', N σ' H' → ∃ m', m' < m ∧ W (i + 1) m' σ' H') ∧ ∀ x H', (Itr lo n).yld i H x H' → B x σ H' N) := by
  refine ⟨fun i m σ H => m = n - i ∧ i ≤ n ∧ Pv i σ H, ⟨n, by simp, Nat.zero_le _, h0⟩, ?_⟩
  rintro i m σ H ⟨rfl, hi, p⟩
  by_cases hlt : i < n
  · refine .inr ⟨hlt, Pv (i + 1), fun σ' H' p' => ⟨n - (i + 1), by omega, rfl, hlt, p'⟩, ?_⟩
    rintro x H' ⟨rfl, rfl⟩
    exact hs i σ _ hlt p
  · obtain rfl : i = n := by omega
    exact .inl ⟨Nat.le_refl _, hd σ H p⟩
theorem loop_list {K : PySem.W.Frag} {a : Addr} (xs : List V) (Pv : Nat → St → Hp → Prop) (h0 : Pv 0 σ H) (hl : ∀ i σ H, Pv i σ H → SqL K H a xs) (hs : ∀ i x σ H, xs[i]? = some x → Pv i σ H → B x σ H (Pv (i + 1))) (hd : ∀ σ H, Pv xs.length σ H → nx σ H) :
    ∃ W : Nat → Nat → St → Hp → Prop, (∃ m, W 0 m σ H) ∧ ∀ i m σ H, W i m σ H → ((Itl K a).stop i H ∧ nx σ H) ∨ ((Itl K a).go i H ∧ ∃ N : St → Hp → Prop, (∀ σ' H', N σ' H' → ∃ m', m' < m ∧ W (i + 1) m' σ' H') ∧ ∀ x H', (Itl K a).yld i H x H' → B x σ H' N) := by
  refine ⟨fun i m σ H => m = xs.length - i ∧ i ≤ xs.length ∧ Pv i σ H, ⟨xs.length, by simp, Nat.zero_le _, h0⟩, ?_⟩
  rintro i m σ H ⟨rfl, hi, p⟩
  have q := hl i σ H p
  by_cases hlt : i < xs.length
  · refine .inr ⟨⟨xs, xs[i], q, by simp [hlt]⟩, Pv (i + 1), fun σ' H' p' => ⟨xs.length - (i + 1), by omega, rfl, hlt, p'⟩, ?_⟩
    rintro x H' ⟨rfl, y⟩
    exact hs i x σ _ (y xs q) p
  · obtain rfl : i = xs.length := by omega
    exact .inl ⟨⟨xs, q, Nat.le_refl _⟩, hd σ H p⟩
end
/-! ### texts as lists of codes -/
/-! ### numerals -/
open PySem.NumText in
section
def numS (w : Int) : Str := Str.ofString (toString w)
/-- the signs 0 to 9 -/
def inF (c : Nat) : Bool := !(Builtin.Str.occurrences "0123456789" ⟨#[c]⟩ 0 (Str.length "0123456789") 1).isEmpty
def isFig (x : Str) : Bool := !decide (x = "") && x.cps.toList.all inF
def inW (i : Int) : Bool := decide (-1000000000000000000000000000000 ≤ i ∧ i ≤ 1000000000000000000000000000000)
/-- the text without its minus -/
def fpart (x : Str) : Str := if (x.cps.toList.take 1 == [45]) = true then Txt.slice x (some 1) none else x
def valOf (x : Str) : Int := (intText? x).getD 0
def isNum (x : Str) : Bool := !(decide (31 < (fpart x).length) || !isFig (fpart x)) && (inW (valOf x) && decide (numS (valOf x) = x))
end
end L2

namespace L2
open PySem PySem.Spec PyProof.Rows
/-! ### more of texts -/
/-- where y lies in x -/
def findS (x y : Str) : Int := match Builtin.Str.occurrences x y 0 x.length 1 with | i :: _ => (i : Int) | [] => -1
abbrev r_mt_find : RM := fun x xs H Q => ∃ a b, x = .str a ∧ xs = [.str b] ∧ Q (.int (findS a b)) H
def joinS (sep : Str) : List Str → Str
  | [p] => p
  | l => Builtin.Str.glued sep l
def sumL (sep : Str) (ls : List Str) : Nat := ls.foldl (fun n p => n + p.length + sep.length) 0
abbrev r_mt_join (K : PySem.W.Frag) : RM := fun x xs H Q => ∃ sep a ls, x = .str sep ∧ xs = [.ref a] ∧ SqL K H a (ls.map V.str) ∧ sumL sep ls ≤ sizeLine ∧ Q (.str (joinS sep ls)) H
/-- x * n -/
def repS (x : Str) (n : Int) : Str := if n < 1 then Str.empty else if (n == 1 || x.length == 0) = true then x else ⟨(List.replicate n.toNat x.cps).foldl (· ++ ·) #[]⟩
abbrev rMulS : R2 := fun x y H Q => ∃ a n, x = .str a ∧ y = .int n ∧ (n < 1000000 ∧ -1000000 < n ∧ a.length * n.toNat ≤ 1000000) ∧ Q (.str (repS a n)) H
section
variable {X : Cx}
end
/-! ### signs that stay among the first 128 -/
end L2
namespace L2
open PySem PySem.Spec PyProof.Rows
/-! ### numerals, read sign by sign -/
section
open PySem.NumText
end
end L2

namespace L2
open PySem PySem.Spec PyProof.Rows
/-! ### floor division by any number but 0 -/
section
variable {X : Cx}
abbrev cIntB : RC := fun xs H Q => ∃ b : Bool, xs = [.bl b] ∧ Q (.int (if b then 1 else 0)) H
end
/-! ### == of lists and tuples of flat values -/
theorem hu64 {k : Nat} {A : Around} (r : Room k A) : A.units + 64 < cLine := by have := r.un; omega
def datV : V → PyData
  | .non => .none
  | .bl b => .bool b
  | .int i => .int i
  | .str x => .str x
  | _ => .none
def isFlat : V → Bool
  | .non => true
  | .bl _ => true
  | .int _ => true
  | .str x => PyData.strOk x
  | _ => false
/-- no truth beside a whole number -/
def mixV : V → V → Bool
  | .bl _, .int _ => false
  | .int _, .bl _ => false
  | _, _ => true
def mixAll : List V → List V → Bool
  | x :: xs, y :: ys => mixV x y && mixAll xs ys
  | _, _ => true
theorem carried_of : ∀ {xs : List V} {us : List Value}, xs.all isFlat = true → Vals xs us → CarriedAll us (xs.map datV)
  | [], _, _, .nil => .nil
  | x :: r, _, h, .cons rx t => by
    rw [List.all_cons, Bool.and_eq_true] at h
    refine .cons ?_ (carried_of h.2 t)
    cases x with
    | non => cases rx; exact .none
    | bl b => cases rx; exact .bool b
    | int i => obtain ⟨t, rfl⟩ := rx; exact .int i t
    | str x => obtain ⟨t, rfl⟩ := rx; exact .str x t
    | byt b => exact absurd h.1 (by simp [isFlat])
    | flt b => exact absurd h.1 (by simp [isFlat])
    | ref a => exact absurd h.1 (by simp [isFlat])
    | ty n => exact absurd h.1 (by simp [isFlat])
theorem same_dat {x y : V} (hx : isFlat x = true) (hy : isFlat y = true) : PySem.Spec.same (datV x) (datV y) = decide (x = y) := by
  cases x <;> cases y <;> simp_all [isFlat, datV, PySem.Spec.same] <;> (rename_i a b; by_cases e : a = b <;> simp [e])
theorem sameAll_dat : ∀ {xs ys : List V}, xs.all isFlat = true → ys.all isFlat = true → PySem.Spec.sameAll (xs.map datV) (ys.map datV) = decide (xs = ys)
  | [], [], _, _ => by simp [PySem.Spec.sameAll]
  | [], _ :: _, _, _ => by simp [PySem.Spec.sameAll]
  | _ :: _, [], _, _ => by simp [PySem.Spec.sameAll]
  | x :: r, y :: t, hx, hy => by
    rw [List.all_cons, Bool.and_eq_true] at hx hy
    rw [List.map_cons, List.map_cons, PySem.Spec.sameAll, same_dat hx.1 hy.1, sameAll_dat hx.2 hy.2]
    by_cases a : x = y <;> by_cases b : r = t <;> simp [a, b]
theorem noMix_dat {x y : V} (hx : isFlat x = true) (hy : isFlat y = true) (h : mixV x y = true) : SeqAt.noMix (datV x) (datV y) = true := by
  cases x <;> cases y <;> simp_all [isFlat, datV, SeqAt.noMix, mixV]
theorem noMixAll_dat : ∀ {xs ys : List V}, xs.all isFlat = true → ys.all isFlat = true → mixAll xs ys = true → SeqAt.noMixAll (xs.map datV) (ys.map datV) = true
  | [], [], _, _, _ => by simp [SeqAt.noMixAll]
  | [], _ :: _, _, _, _ => by simp [SeqAt.noMixAll]
  | _ :: _, [], _, _, _ => by simp [SeqAt.noMixAll]
  | x :: r, y :: t, hx, hy, h => by
    rw [List.all_cons, Bool.and_eq_true] at hx hy
    rw [mixAll, Bool.and_eq_true] at h
    rw [List.map_cons, List.map_cons, SeqAt.noMixAll, noMix_dat hx.1 hy.1 h.1, noMixAll_dat hx.2 hy.2 h.2]
    rfl
theorem shaped_dat {xs : List V} (h : xs.all isFlat = true) : SeqAt.shaped (.list (xs.map datV)) = true ∧ SeqAt.shaped (.tuple (xs.map datV)) = true := by
  have a : ∀ x, isFlat x = true → (datV x).canLay0 = true ∧ (datV x).depth = 0 := fun x => by cases x <;> simp [datV, PyData.canLay0, PyData.depth, isFlat]
  have l : ∀ ys : List V, ys.all isFlat = true → PyData.canLayAll0 (ys.map datV) = true ∧ PyData.depthAll (ys.map datV) = 0 := by
    intro ys
    induction ys with
    | nil => exact fun _ => ⟨rfl, rfl⟩
    | cons y r ih =>
      intro h
      rw [List.all_cons, Bool.and_eq_true] at h
      exact ⟨by rw [List.map_cons, PyData.canLayAll0, (a y h.1).1, (ih h.2).1]; rfl, by rw [List.map_cons, PyData.depthAll, (a y h.1).2, (ih h.2).2]; rfl⟩
  exact ⟨by simp [SeqAt.shaped, PyData.canLay0, PyData.depth, (l xs h).1, (l xs h).2], by simp [SeqAt.shaped, PyData.canLay0, PyData.depth, (l xs h).1, (l xs h).2]⟩
abbrev rEqL (K : PySem.W.Frag) (neg : Bool) : R2 := fun x y H Q => ∃ a b xs ys, x = .ref a ∧ y = .ref b ∧ SqL K H a xs ∧ SqL K H b ys ∧ (xs.all isFlat = true ∧ ys.all isFlat = true ∧ mixAll xs ys = true) ∧ Q (.bl (if neg then !decide (xs = ys) else decide (xs = ys))) H
section
variable {X : Cx}
theorem op_neL (hu : X.A.units + 64 < cLine) : OpR X (compareOp .NotEq) (rEqL X.K true) := by
  intro pins s σ H x y v u Q I rx ry h
  obtain ⟨a, b, xs, ys, rfl, rfl, ha, hb, ⟨f1, f2, f3⟩, q⟩ := h
  cases rx
  cases ry
  obtain ⟨us, r1, p1, _⟩ := I.list ha
  obtain ⟨ws, r2, p2, _⟩ := I.list hb
  refine ne_dataH_same (reads_newData p1.isList (carried_of f1 r1)) (reads_newData p2.isList (carried_of f2 r2)) (shaped_dat f1).1 (shaped_dat f2).1 hu (by rw [SeqAt.noMix]; exact noMixAll_dat f1 f2 f3) ?_
  rw [PySem.Spec.same, sameAll_dat f1 f2]
  exact ⟨.bl _, H, I, rfl, q⟩
abbrev rEqNil (K : PySem.W.Frag) : R2 := fun x y H Q => ∃ a b xs, x = .ref a ∧ y = .ref b ∧ SqL K H a xs ∧ SqL K H b [] ∧ Q (.bl (decide (xs = []))) H
end
end L2

namespace L2
open PySem PySem.Spec PyProof.Rows
abbrev r_mt_append : RM := rAppend
abbrev r_mt_pop : RM := rPop
/-! ### terms, told with their parts ahead of their word -/
def jw : List V := [.str "plus", .str "minus", .str "times", .str "over", .str "rest", .str "under", .str "same"]
def isJ (v : V) : Bool := inV v jw
inductive Er where
  | nought | great | stuck
  deriving DecidableEq
def comeV (w : Str) (a b : Int) : Int :=
  if w = "plus" then a + b else if w = "minus" then a - b else if w = "times" then a * b else if w = "under" then (if a < b then 1 else 0) else if w = "same" then (if a = b then 1 else 0) else if w = "over" then a.fdiv b else a.fmod b
def isDiv (w : Str) : Prop := ¬ w = "plus" ∧ ¬ w = "minus" ∧ ¬ w = "times" ∧ ¬ w = "under" ∧ ¬ w = "same"
instance (w : Str) : Decidable (isDiv w) := by unfold isDiv; infer_instance
def joinE (w : Str) (a b : Int) : Except Er Int := if isDiv w ∧ b = 0 then .error .nought else if inW (comeV w a b) = true then .ok (comeV w a b) else .error .great
def wrth (kvs : List (Key × V)) : V → Int
  | .int i => i
  | .str x => (match valV kvs (.inr x) with | some (.int i) => i | _ => 0)
  | _ => 0
def stepE (kvs : List (Key × V)) (st : List Int) (v : V) : Except Er (List Int) :=
  if isJ v = true then (match v, st.reverse with | .str w, b :: a :: r => (match joinE w a b with | .ok c => .ok (r.reverse ++ [c]) | .error e => .error e) | _, _ => .error .stuck) else .ok (st ++ [wrth kvs v])
def runE (kvs : List (Key × V)) : List V → List Int → Except Er (List Int)
  | [], st => .ok st
  | v :: r, st => match stepE kvs st v with | .ok st' => runE kvs r st' | .error e => .error e
section
variable {kvs : List (Key × V)}
def Good (kvs : List (Key × V)) (ps : List V) (r : Except Er Int) : Prop := (∀ st, runE kvs ps st = match r with | .ok i => .ok (st ++ [i]) | .error e => .error e) ∧ r ≠ .error .stuck
end
def okPart (v : V) : Prop := (∃ i, v = .int i ∧ inW i = true) ∨ ∃ x : Str, v = .str x ∧ x.length ≤ 1000
def SlotsOk (kvs : List (Key × V)) : Prop := ∀ k v, valV kvs k = some v → ∃ i, v = .int i ∧ inW i = true
theorem wrth_inW {kvs : List (Key × V)} (h : SlotsOk kvs) {v : V} (hv : okPart v) : inW (wrth kvs v) = true := by
  rcases hv with ⟨i, rfl, hi⟩ | ⟨x, rfl, _⟩
  · exact hi
  · show inW (match valV kvs (.inr x) with | some (.int i) => i | _ => 0) = true
    cases e : valV kvs (.inr x) with
    | none => rfl
    | some u =>
      obtain ⟨i, rfl, hi⟩ := h _ _ e
      exact hi
end L2

namespace L2
open PySem PySem.Spec PyProof.Rows
/-! ### for x in reversed(list) -/
def Itv (K : PySem.W.Frag) (a : Addr) (xs : List V) : It := ⟨fun i H => i < xs.length ∧ SqL K H a xs, fun i H x H' => H' = H ∧ xs[xs.length - 1 - i]? = some x, fun i _ => xs.length ≤ i⟩
def iRev (K : PySem.W.Frag) (ta : TA) : TI := fun σ H R => ta σ H fun vs H1 => ∃ a xs, vs = [.ref a] ∧ SqL K H1 a xs ∧ R (Itv K a xs) H1
section
variable {X : Cx} {tg : Expr}
end
section
variable {σ : St} {H : Hp} {nx : St → Hp → Prop} {B : V → St → Hp → (St → Hp → Prop) → Prop}
end
end L2

namespace L2
open PySem PySem.Spec PyProof.Rows
abbrev cLst (K : PySem.W.Frag) : RC := fun xs H Q => ∃ p ys, xs = [.ref p] ∧ (SqL K H p ys ∨ SqT K H p ys) ∧ ∀ l, H l = none → Q (.ref l) (upd H l (.lst ys))
abbrev cMin : RC := fun xs H Q => ∃ i j, xs = [.int i, .int j] ∧ Q (.int (if j < i then j else i)) H
/-! ### names -/
def inL (c : Nat) : Bool := !(Builtin.Str.occurrences "abcdefghijklmnopqrstuvwxyz" ⟨#[c]⟩ 0 (Str.length "abcdefghijklmnopqrstuvwxyz") 1).isEmpty
def wl : List V := [.str "take", .str "give", .str "let", .str "say", .str "off", .str "if", .str "else", .str "end", .str "as"]
def isName (x : Str) : Bool := !(decide (x = "") || decide (6 < x.length)) && !(inV (.str x) jw || inV (.str x) wl) && x.cps.toList.all inL
/-! ### terms read: words as trees -/
def partW (w : Str) : Option V := if isName w = true then some (.str w) else if isNum w = true then some (.int (valOf w)) else none
inductive Tw where
  | leaf (w : Str) | node (w : Str) (a b : Tw)
def pre : Tw → List Str
  | .leaf w => [w]
  | .node w a b => w :: (pre a ++ pre b)
def wfT : Tw → Prop
  | .leaf w => isJ (.str w) = false
  | .node w a b => isJ (.str w) = true ∧ wfT a ∧ wfT b
def okT : Tw → Bool
  | .leaf w => (partW w).isSome
  | .node _ a b => okT a && okT b
def pvw (w : Str) : V := (partW w).getD (.str w)
def pst : Tw → List V
  | .leaf w => [pvw w]
  | .node w a b => pst a ++ pst b ++ [.str w]
def scanE : List Str → Nat → Option Nat
  | _, 0 => some 0
  | [], _ + 1 => none
  | w :: r, d + 1 => (scanE r (if isJ (.str w) = true then d + 2 else d)).map (· + 1)
/-- walked from the end; error true: a word that is no part -/
def stepR (st : List (List V)) (w : Str) : Except Bool (List (List V)) :=
  if isJ (.str w) = true then (match st.reverse with | a :: b :: r => .ok (r.reverse ++ [a ++ b ++ [.str w]]) | _ => .error false) else (match partW w with | some v => .ok (st ++ [[v]]) | none => .error true)
def runR : List Str → List (List V) → Except Bool (List (List V))
  | [], st => .ok st
  | w :: r, st => match stepR st w with | .ok st' => runR r st' | .error e => .error e
theorem runR_app : ∀ (p q : List Str) (st : List (List V)), runR (p ++ q) st = match runR p st with | .ok st' => runR q st' | .error e => .error e
  | [], q, st => rfl
  | v :: r, q, st => by
    show (match stepR st v with | .ok st' => runR (r ++ q) st' | .error e => .error e) = match (match stepR st v with | .ok st' => runR r st' | .error e => .error e) with | .ok st' => runR q st' | .error e => .error e
    cases stepR st v with
    | error e => rfl
    | ok st' => exact runR_app r q st'
/-! ### a text among the items -/
end L2

namespace L2
open PySem PySem.Spec PyProof.Rows
/-! ### dict(d); d != e of alike dicts of whole numbers -/
abbrev cDct : RC := fun xs H Q => ∃ a kvs, xs = [.ref a] ∧ H a = some (.dK kvs) ∧ ∀ p, H p = none → Q (.ref p) (upd H p (.dK kvs))
abbrev rNeD : R2 := fun x y H Q => ∃ a b kvs, x = .ref a ∧ y = .ref b ∧ H a = some (.dK kvs) ∧ H b = some (.dK kvs) ∧ (∀ p ∈ kvs, ∃ i, p.2 = V.int i) ∧ Q (.bl false) H
section
variable {X : Cx}
end
/-! ### names: letters, one to six -/
end L2

namespace L2
open PySem PySem.Spec PyProof.Rows
/-! ### zip of two tuples -/
section
variable {P : Program} {w : World} {A : Around} {E : Value → Shared → Prop} {s : Shared}
end
section
variable {P : Program} {w : World} {A : Around} {E : Value → Shared → Prop} {s : Shared}
end
section
variable {P : Program} {w : World} {A : Around} {E : Value → Shared → Prop} {s : Shared}
end
/-- zip of two tuples of one length: each turn tells a new pair -/
def Itz (K : PySem.W.Frag) (p q : Addr) (xs ys : List V) : It := ⟨fun i H => i < xs.length ∧ SqT K H p xs ∧ SqT K H q ys, fun i H x H' => ∃ T u v, x = .ref T ∧ H T = none ∧ H' = upd H T (.tup [u, v]) ∧ xs[i]? = some u ∧ ys[i]? = some v, fun i H => xs.length ≤ i ∧ SqT K H p xs ∧ SqT K H q ys⟩
def iZip (K : PySem.W.Frag) (ta : TA) : TI := fun σ H R => ta σ H fun vs H1 => ∃ p q xs ys, vs = [.ref p, .ref q] ∧ SqT K H1 p xs ∧ SqT K H1 q ys ∧ xs.length = ys.length ∧ R (Itz K p q xs ys) H1
section
variable {X : Cx}
end
section
variable {σ : St} {H : Hp} {nx : St → Hp → Prop} {B : V → St → Hp → (St → Hp → Prop) → Prop}
end
abbrev cTup (K : PySem.W.Frag) : RC := fun xs H Q => ∃ p ys, xs = [.ref p] ∧ ((SqL K H p ys ∧ ∀ l, H l = none → Q (.ref l) (upd H l (.tup ys))) ∨ (SqT K H p ys ∧ Q (.ref p) H))
/-! ### terms written: what is read of a tree's words is the tree again -/
def stepA (st : List (List V)) (v : V) : Option (List (List V)) := if isJ v = true then (match st.reverse with | b :: a :: r => some (r.reverse ++ [v :: (a ++ b)]) | _ => none) else some (st ++ [[v]])
def runA : List V → List (List V) → Option (List (List V))
  | [], st => some st
  | v :: r, st => (stepA st v).bind (runA r)
theorem runA_app : ∀ (p q : List V) (st : List (List V)), runA (p ++ q) st = (runA p st).bind (runA q)
  | [], q, st => rfl
  | v :: r, q, st => by
    show (stepA st v).bind (runA (r ++ q)) = ((stepA st v).bind (runA r)).bind (runA q)
    cases stepA st v with
    | none => rfl
    | some st' => exact runA_app r q st'
end L2

namespace L2
open PySem PySem.W PyProof.Rows
/-! ### the sort's tree of questions, answered by a strict order -/
section
variable {α β : Type} {lt : Nat → Nat → Bool} {n : Nat}
def kOk (lt : Nat → Nat → Bool) (n : Nat) : KasT α → (α → Prop) → Prop
  | .ret a, R => R a
  | .ask i j k, R => i < n ∧ j < n ∧ i ≠ j ∧ kOk lt n (k (lt i j)) R
theorem kOk_bind : ∀ {t : KasT α} {f : α → KasT β} {R : β → Prop}, kOk lt n t (fun a => kOk lt n (f a) R) → kOk lt n (t.bind f) R
  | .ret _, _, _, h => h
  | .ask _ _ _, _, _, h => ⟨h.1, h.2.1, h.2.2.1, kOk_bind h.2.2.2⟩
theorem kOk_mono : ∀ {t : KasT α} {R R' : α → Prop}, kOk lt n t R → (∀ a, R a → R' a) → kOk lt n t R'
  | .ret _, _, _, h, m => m _ h
  | .ask _ _ _, _, _, h, m => ⟨h.1, h.2.1, h.2.2.1, kOk_mono h.2.2.2 m⟩
structure SO (lt : Nat → Nat → Bool) (n : Nat) : Prop where
  irr : ∀ i, i < n → lt i i = false
  trans : ∀ i j k, i < n → j < n → k < n → lt i j = true → lt j k = true → lt i k = true
  tot : ∀ i j, i < n → j < n → i ≠ j → lt i j = false → lt j i = true
def PP (n : Nat) (p : Array Nat) : Prop := p.Perm (List.range n).toArray
def gt (p : Array Nat) (k : Nat) : Nat := p.getD k 0
theorem gt_eq {p : Array Nat} {k : Nat} (h : k < p.size) : p[k]? = some (gt p k) := by
  unfold gt
  rw [Array.getD_eq_getD_getElem?, Array.getElem?_eq_getElem h]
  rfl
theorem PP.size {p : Array Nat} (h : PP n p) : p.size = n := by
  have := h.size_eq
  simpa using this
theorem PP.blt {p : Array Nat} (h : PP n p) {k : Nat} (hk : k < n) : gt p k < n := by
  have hs := h.size
  have m : gt p k ∈ p := Array.mem_of_getElem? (gt_eq (by omega))
  have m2 : gt p k ∈ (List.range n).toArray := (Array.Perm.mem_iff h).mp m
  simpa using m2
theorem PP.inj {p : Array Nat} (h : PP n p) {i j : Nat} (hi : i < n) (hj : j < n) (e : gt p i = gt p j) : i = j := by
  have hs := h.size
  have nd : p.toList.Nodup := by
    have : p.toList.Perm (List.range n) := by
      have := Array.perm_iff_toList_perm.mp h
      simpa using this
    exact this.nodup_iff.mpr List.nodup_range
  have e1 := gt_eq (p := p) (k := i) (by omega)
  have e2 := gt_eq (p := p) (k := j) (by omega)
  rw [← e] at e2
  have e1' : p.toList[i]? = some (gt p i) := by simpa using e1
  have e2' : p.toList[j]? = some (gt p i) := by simpa using e2
  obtain ⟨a1, b1⟩ := List.getElem?_eq_some_iff.mp e1'
  obtain ⟨a2, b2⟩ := List.getElem?_eq_some_iff.mp e2'
  exact (List.getElem_inj nd).mp (b1.trans b2.symm)
def Rise (lt : Nat → Nat → Bool) (p : Array Nat) (m : Nat) : Prop := ∀ i j, i < j → j < m → lt (gt p i) (gt p j) = true
theorem place_ok (S : SO lt n) {p : Array Nat} (hp : PP n p) {k : Nat} (hk : k < n) (hr : Rise lt p k) : ∀ (f l r : Nat), l ≤ r → r ≤ k → r - l ≤ f → (∀ i, i < l → lt (gt p i) (gt p k) = true) → (∀ i, r ≤ i → i < k → lt (gt p k) (gt p i) = true) →
    kOk lt n (kas_place p k f l r) fun m => m ≤ k ∧ (∀ i, i < m → lt (gt p i) (gt p k) = true) ∧ ∀ i, m ≤ i → i < k → lt (gt p k) (gt p i) = true
  | 0, l, r, h1, h2, h3, h4, h5 => ⟨by omega, h4, fun i hi hik => h5 i (by omega) hik⟩
  | f + 1, l, r, h1, h2, h3, h4, h5 => by
    unfold kas_place
    by_cases c : l ≥ r
    · rw [if_pos c]
      exact ⟨by omega, h4, fun i hi hik => h5 i (by omega) hik⟩
    · rw [if_neg c]
      refine ⟨hp.blt (by omega), hp.blt (by omega), (fun z => by have := hp.inj (by omega) (by omega) z; omega), ?_⟩
      show kOk lt n (if lt (gt p k) (gt p ((l + r) / 2)) = true then _ else _) _
      by_cases d : lt (gt p k) (gt p ((l + r) / 2)) = true
      · rw [if_pos d]
        refine place_ok S hp hk hr f l ((l + r) / 2) (by omega) (by omega) (by omega) h4 fun i hi hik => ?_
        by_cases e : i = (l + r) / 2
        · rw [e]; exact d
        · exact S.trans _ _ _ (hp.blt (by omega)) (hp.blt (by omega)) (hp.blt (by omega)) d (hr _ i (by omega) hik)
      · rw [if_neg d]
        have up : lt (gt p ((l + r) / 2)) (gt p k) = true := S.tot _ _ (hp.blt (by omega)) (hp.blt (by omega)) (fun z => by have := hp.inj (by omega) (by omega) z; omega) (Bool.eq_false_iff.mpr d)
        refine place_ok S hp hk hr f ((l + r) / 2 + 1) r (by omega) (by omega) (by omega) (fun i hi => ?_) h5
        by_cases e : i = (l + r) / 2
        · rw [e]; exact up
        · exact S.trans _ _ _ (hp.blt (by omega)) (hp.blt (by omega)) (hp.blt (by omega)) (hr i _ (by omega) (by omega)) up
end
end L2

namespace L2
open PySem PySem.W PyProof.Rows
section
variable {P : Program} {w : World} {A : Around} {E : Value → Shared → Prop} {s : Shared}
end
end L2

namespace L2
open PySem PySem.W PyProof.Rows
def placeLt (a b : Str × Int) : Bool := if a.1 = b.1 then decide (a.2 < b.2) else decide (a.1.cps.toList < b.1.cps.toList)
section
variable {P : Program} {w : World} {A : Around} {E : Value → Shared → Prop} {s : Shared}
end
end L2

namespace L2
open PySem
/-! ### walking a dict's keys, whatever they are -/
section
variable {P : Program} {w : World} {A : Around} {E : Value → Shared → Prop} {s : Shared}
end
end L2

namespace L2
open PySem PySem.Spec PyProof.Rows
section
open PySem.SeqAt
open PySem.AutoSeq1 (wpAny_loadPart')
open PySem.MeetsSeq PySem.MeetsSeq2 PySem.MeetsSeq3
end
end L2

namespace L2
open PySem PySem.Spec PyProof.Rows
section
variable {P : Program} {w : World} {A : Around} {E : Value → Shared → Prop} {s : Shared}
end
end L2

namespace L2
open PySem PySem.Spec PyProof.Rows
def plKey (q : Str × Int) : List Key := [.inr q.1, .inl q.2]
abbrev cSrtD : RC := fun xs H Q => ∃ (a : Addr) (kvs : List (List Key × V)) (qs : List (Str × Int)), xs = [.ref a] ∧ H a = some (.dT kvs) ∧ kvs.map (·.1) = qs.map plKey ∧ kvs.length < 64 ∧
  ∀ (l : Addr) (ps : List (Addr × (Str × Int))), H l = none → (ps.map (·.2)).Perm qs → (ps.map (·.2)).Pairwise (fun a b => placeLt a b = true) → (∀ n ∈ ps, H n.1 = some (.tup [.str n.2.1, .int n.2.2])) → Q (.ref l) (upd H l (.lst (ps.map fun n => V.ref n.1)))
theorem paired_get {α β : Type} {F : α → β → Prop} : ∀ {l₁ : List α} {l₂ : List β}, Paired F l₁ l₂ → ∀ {i : Nat} {a : α} {b : β}, l₁[i]? = some a → l₂[i]? = some b → F a b
  | _, _, .nil, i, a, b, h, _ => by simp at h
  | _, _, .cons x r, 0, a, b, h1, h2 => by
    simp only [List.getElem?_cons_zero, Option.some.injEq] at h1 h2
    subst h1 h2
    exact x
  | _, _, .cons x r, i + 1, a, b, h1, h2 => paired_get r (by simpa using h1) (by simpa using h2)
section
variable {X : Cx}
end
end L2

namespace L2
open PySem PySem.Spec PyProof.Rows
/-! ### walking the keys of a dict of tuples: the dict is frozen while the loop walks it -/
def Itd (a : Addr) (o : Obj) (kvs : List (List Key × V)) : It :=
  ⟨fun i H => H a = some (.frz o (.dT kvs)) ∧ i < kvs.length, fun i H x H' => H' = H ∧ ∃ k v p, kvs[i]? = some (k, v) ∧ x = .ref p ∧ H p = some (.tup (k.map kV)), fun i H => H a = some (.frz o (.dT kvs)) ∧ kvs.length ≤ i⟩
section
variable {X : Cx}
def iDT (tl : TE) : TI := fun σ H R => tl σ H fun x H1 => ∃ a o kvs, x = .ref a ∧ H1 a = some (.frz o (.dT kvs)) ∧ R (Itd a o kvs) H1
/-! ### frozen and thawed -/
end
section
variable {σ : St} {H : Hp} {nx : St → Hp → Prop} {B : V → St → Hp → (St → Hp → Prop) → Prop}
end
end L2

namespace L2
open PySem PySem.Spec PyProof.Rows
/-! ### values that hold others: what they are all through -/
mutual
inductive Dat (K : PySem.W.Frag) (H : Hp) : V → PyData → Prop
  | non : Dat K H .non .none
  | bl (b : Bool) : Dat K H (.bl b) (.bool b)
  | int (i : Int) : Dat K H (.int i) (.int i)
  | str (x : Str) : Dat K H (.str x) (.str x)
  | lst {a : Addr} {xs : List V} {ds : List PyData} : SqL K H a xs → DatAll K H xs ds → Dat K H (.ref a) (.list ds)
  | tup {a : Addr} {xs : List V} {ds : List PyData} : SqT K H a xs → DatAll K H xs ds → Dat K H (.ref a) (.tuple ds)
inductive DatAll (K : PySem.W.Frag) (H : Hp) : List V → List PyData → Prop
  | nil : DatAll K H [] []
  | cons {x : V} {d : PyData} {xs : List V} {ds : List PyData} : Dat K H x d → DatAll K H xs ds → DatAll K H (x :: xs) (d :: ds)
end
section
variable {X : Cx} {pins : List (Addr × Obj)} {σ : St} {H : Hp} {s : Shared}
end
section
variable {K : PySem.W.Frag} {H H' : Hp}
theorem SqL.mono {a : Addr} {xs : List V} (k : Same H H') (h : SqL K H a xs) : SqL K H' a xs := by
  rcases h with (h | ⟨o, h⟩) | h
  · exact .inl (.inl (k _ _ h))
  · exact .inl (.inr ⟨o, k _ _ h⟩)
  · exact .inr h
end
section
variable {X : Cx} {pins : List (Addr × Obj)} {σ : St} {H : Hp} {s : Shared}
end
mutual
def plainD : PyData → Bool
  | .none => true
  | .int _ => true
  | .str x => PyData.strOk x
  | .list xs => plainDs xs
  | .tuple xs => plainDs xs
  | .bool _ => false
  | .dict _ => false
def plainDs : List PyData → Bool
  | [] => true
  | x :: xs => plainD x && plainDs xs
end
/-- both read whole: ne tells whether they differ -/
abbrev rEqD (K : PySem.W.Frag) (neg : Bool) : R2 := fun x y H Q => ∃ d e, Dat K H x d ∧ Dat K H y e ∧ (plainD d = true ∧ plainD e = true ∧ d.depth ≤ 64 ∧ e.depth ≤ 64) ∧ ∀ b : Bool, (b = true ↔ d = e) → Q (.bl (if neg then !b else b)) H
section
variable {X : Cx}
end
end L2

namespace L2
open PySem PySem.Spec PyProof.Rows
abbrev rGtS : R2 := fun x y H Q => ∃ i j, x = .str i ∧ y = .str j ∧ Q (.bl (decide (j.cps.toList < i.cps.toList))) H
abbrev rInD (neg : Bool) : R2 := fun x y H Q => ∃ a o, y = .ref a ∧ DGet H a x o ∧ Q (.bl (if neg then !o.isSome else o.isSome)) H
section
variable {X : Cx}
end
end L2

namespace L2
open PySem
/-! ### tables: what the last row of each place tells -/
abbrev Pl := Str × Int
abbrev Row := Pl × Int
def lastW : List Row → Pl → Option Int
  | [], _ => none
  | r :: t, p => (lastW t p).or (if r.1 = p then some r.2 else none)
def dStep (kvs : List (List Key × V)) (q : Row) : List (List Key × V) := putK kvs (plKey q.1) (.int q.2)
def dOf (rows : List Row) : List (List Key × V) := rows.foldl dStep []
/-- strictly rising by place -/
def Rising (l : List Row) : Prop := l.Pairwise fun a b => placeLt a.1 b.1 = true
def IsTab (rows out : List Row) : Prop := Rising out ∧ ∀ p w, (p, w) ∈ out ↔ lastW rows p = some w ∧ w ≠ 0
theorem last_none {p : Pl} : ∀ {l : List Row}, (∀ r ∈ l, r.1 ≠ p) → lastW l p = none
  | [], _ => rfl
  | r :: t, h => by
    rw [lastW, last_none fun r hr => h r (List.mem_cons_of_mem _ hr), if_neg (h r List.mem_cons_self)]; rfl
end L2

namespace L2
open PySem PySem.Spec PyProof.Rows
/-! ### zip of two lists -/
def Itzl (K : PySem.W.Frag) (p q : Addr) (xs ys : List V) : It := ⟨fun i H => i < xs.length ∧ SqL K H p xs ∧ SqL K H q ys, fun i H x H' => ∃ T u v, x = .ref T ∧ H T = none ∧ H' = upd H T (.tup [u, v]) ∧ xs[i]? = some u ∧ ys[i]? = some v, fun i H => xs.length ≤ i ∧ SqL K H p xs ∧ SqL K H q ys⟩
def iZipL (K : PySem.W.Frag) (ta : TA) : TI := fun σ H R => ta σ H fun vs H1 => ∃ p q xs ys, vs = [.ref p, .ref q] ∧ SqL K H1 p xs ∧ SqL K H1 q ys ∧ xs.length = ys.length ∧ R (Itzl K p q xs ys) H1
section
variable {X : Cx}
end
section
variable {σ : St} {H : Hp} {nx : St → Hp → Prop} {B : V → St → Hp → (St → Hp → Prop) → Prop}
end
end L2

namespace L2
open PySem PySem.Spec PyProof.Rows
/-! ### dict(list of pairs), the keys places -/
section
variable {X : Cx} {A : Around} {R : Result → Shared → Prop}
/-- a row of the list -/
def PrAt (H : Hp) (v : V) (q : Row) : Prop := ∃ r p, v = .ref r ∧ H r = some (.tup [.ref p, .int q.2]) ∧ H p = some (.tup [.str q.1.1, .int q.1.2])
end
end L2

namespace L2
open PySem PySem.Spec PyProof.Rows
section
variable {prog : Program} {w : World} {A : Around} {E : Value → Shared → Prop} {s : Shared} {a : Addr} {o : Obj} {xs : Array Value} {k : Nat}
end
abbrev cDctP : RC := fun vs H Q => ∃ (a : Addr) (xs : List V) (rows : List Row), vs = [.ref a] ∧ H a = some (.lst xs) ∧ Paired (PrAt H) xs rows ∧ rows.length ≤ 1000 ∧ ∀ p, H p = none → Q (.ref p) (upd H p (.dT (dOf rows)))
section
variable {X : Cx}
end
end L2

namespace L2
open PySem PySem.Spec PyProof.Rows
/-! ### a method of an instance that may raise, within a try -/
section
variable {X : Cx} {k : Nat} {f C : Addr} {fd : FuncData} {ps : List Str} {sp : Sp} {m : Str} {pos apos : Pos} {e o : Expr} {es : List Expr} {ta : TE} {t : TA}
def tMethX (C : Addr) (m : Str) (sp : Sp) (ta : TE) (t : TA) (EX : EXK) : TE := fun σ H Q => ta σ H fun x H1 => ∃ a dx fs, x = .ref a ∧ H1 a = some (.ins C dx fs) ∧ fs.lookup m = none ∧
  t σ H1 fun vs H2 => sp (x :: (vs ++ [])) H2 Q fun cls _ H3 => EX cls σ H3
end
/-! ### try, except C: .. except D: .., without names -/
def tTryN (K : PySem.W.Frag) (tb : EXK → TS) (C1 : Addr) (th1 : TS) : TS := fun D σ H => tb (fun cls σ1 H1 => ∃ C, cls = .ref C ∧ PySem.W.exmOne K (.ref C) (.ref C1) = some true ∧ th1 D σ1 H1) D σ H
def tTryNN (K : PySem.W.Frag) (tb : EXK → TS) (C1 : Addr) (th1 : TS) (C2 : Addr) (th2 : TS) : TS := fun D σ H => tb (fun cls σ1 H1 => ∃ C, cls = .ref C ∧
  ((PySem.W.exmOne K (.ref C) (.ref C1) = some true ∧ th1 D σ1 H1) ∨ (PySem.W.exmOne K (.ref C) (.ref C1) = some false ∧ PySem.W.exmOne K (.ref C) (.ref C2) = some true ∧ th2 D σ1 H1))) D σ H
section
variable {X : Cx} {st b₀ b₁ : Stmt} {suite suite1 : List Stmt} {tb : EXK → TS} {th1 th2 : TS} {c1 c2 : Str} {C1 C2 : Addr} {np hpos np2 hpos2 pos : Pos}
end
/-! ### a def that is called within an except suite -/
section
variable {X : Cx} {k : Nat} {f : Addr} {fd : FuncData} {ps : List Str} {sp : Sp} {x : Str} {p pos : Pos} {e : Expr} {es : List Expr} {t : TA}
end
end L2

namespace L2
open PySem
/-! ### dealings done: their rows, and what becomes of them -/
def rk (kvs : List (Key × V)) (ps : List V) : Except Er Int := match runE kvs ps [] with
  | .ok [i] => .ok i
  | .ok _ => .error .stuck
  | .error e => .error e
theorem step_inW {kvs : List (Key × V)} (hs : SlotsOk kvs) {v : V} (hv : okPart v) {st st' : List Int} (h : ∀ x ∈ st, inW x = true) (e : stepE kvs st v = .ok st') : ∀ x ∈ st', inW x = true := by
  unfold stepE at e
  split at e
  · split at e
    · rename_i w b a r hr hj
      unfold joinE at e
      by_cases c1 : isDiv w ∧ b = 0
      · rw [if_pos c1] at e; cases e
      · rw [if_neg c1] at e
        by_cases c2 : inW (comeV w a b) = true
        · rw [if_pos c2] at e
          cases e
          intro x hx
          rcases List.mem_append.mp hx with hx | hx
          · refine h x (List.mem_reverse.mp ?_)
            rw [hr]
            exact List.mem_cons_of_mem _ (List.mem_cons_of_mem _ (List.mem_reverse.mp hx))
          · rw [List.mem_singleton.mp hx]; exact c2
        · rw [if_neg c2] at e; cases e
    · cases e
  · cases e
    intro x hx
    rcases List.mem_append.mp hx with hx | hx
    · exact h x hx
    · rw [List.mem_singleton.mp hx]; exact wrth_inW hs hv
theorem run_inW {kvs : List (Key × V)} (hs : SlotsOk kvs) : ∀ {ps : List V} {st st' : List Int}, (∀ v ∈ ps, okPart v) → (∀ x ∈ st, inW x = true) → runE kvs ps st = .ok st' → ∀ x ∈ st', inW x = true
  | [], st, st', _, h, e => by cases e; exact h
  | v :: r, st, st', hp, h, e => by
    unfold runE at e
    split at e
    · rename_i st1 e1
      exact run_inW hs (fun v hv => hp v (List.mem_cons_of_mem _ hv)) (step_inW hs (hp v List.mem_cons_self) h e1) e
    · cases e
/-- a term that comes to something, whatever the slots hold -/
def TermOk (e : List V) : Prop := (∀ kvs, ∃ r, Good kvs e r) ∧ (∀ v ∈ e, okPart v) ∧ e.length ≤ 1000
mutual
inductive Rw where
  | take (sh : Str) (e : List V) (sl : Str)
  | give (sh : Str) (e f : List V)
  | lt (sl : Str) (e : List V)
  | say (e : List V)
  | off (e : List V)
  | iff (e : List V) (a b : Rws)
inductive Rws where
  | nil
  | cons (r : Rw) (rs : Rws)
end
set_option genSizeOf false in
set_option genInjectivity false in
structure Sta where
  sl : List (Key × V)
  wo : List Row
  sa : List Int
inductive Res where
  | go (s : Sta)
  | off
  | er (e : Er)
mutual
def goR : Rw → Sta → Res
  | .take sh e sl, s => match rk s.sl e with
    | .ok n => .go { s with sl := putK s.sl (.inr sl) (.int ((lastW s.wo (sh, n)).getD 0)) }
    | .error x => .er x
  | .give sh e f, s => match rk s.sl e with
    | .ok n => (match rk s.sl f with
      | .ok w => .go { s with wo := s.wo ++ [((sh, n), w)] }
      | .error x => .er x)
    | .error x => .er x
  | .lt sl e, s => match rk s.sl e with
    | .ok n => .go { s with sl := putK s.sl (.inr sl) (.int n) }
    | .error x => .er x
  | .say e, s => match rk s.sl e with
    | .ok n => .go { s with sa := s.sa ++ [n] }
    | .error x => .er x
  | .off e, s => match rk s.sl e with
    | .ok n => if n = 0 then .go s else .off
    | .error x => .er x
  | .iff e a b, s => match rk s.sl e with
    | .ok n => if n = 0 then goRs b s else goRs a s
    | .error x => .er x
def goRs : Rws → Sta → Res
  | .nil, s => .go s
  | .cons r rs, s => match goR r s with
    | .go s' => goRs rs s'
    | x => x
end
mutual
/-- a row as it stands in the heap, all its things at addresses with F -/
def RwAt (F : Addr → Prop) (H : Hp) (v : V) : Rw → Prop
  | .take sh e sl => ∃ r te, v = .ref r ∧ F r ∧ F te ∧ H r = some (.tup [.str "take", .str sh, .ref te, .str sl]) ∧ H te = some (.tup e)
  | .give sh e f => ∃ r te tf, v = .ref r ∧ F r ∧ F te ∧ F tf ∧ H r = some (.tup [.str "give", .str sh, .ref te, .ref tf]) ∧ H te = some (.tup e) ∧ H tf = some (.tup f)
  | .lt sl e => ∃ r te, v = .ref r ∧ F r ∧ F te ∧ H r = some (.tup [.str "let", .str sl, .ref te]) ∧ H te = some (.tup e)
  | .say e => ∃ r te, v = .ref r ∧ F r ∧ F te ∧ H r = some (.tup [.str "say", .ref te]) ∧ H te = some (.tup e)
  | .off e => ∃ r te, v = .ref r ∧ F r ∧ F te ∧ H r = some (.tup [.str "off", .ref te]) ∧ H te = some (.tup e)
  | .iff e a b => ∃ r te la lb xs ys, v = .ref r ∧ F r ∧ F te ∧ F la ∧ F lb ∧ H r = some (.tup [.str "if", .ref te, .ref la, .ref lb]) ∧ H te = some (.tup e) ∧ H la = some (.lst xs) ∧ RwsAt F H xs a ∧ H lb = some (.lst ys) ∧ RwsAt F H ys b
def RwsAt (F : Addr → Prop) (H : Hp) (vs : List V) : Rws → Prop
  | .nil => vs = []
  | .cons r rs => ∃ v ws, vs = v :: ws ∧ RwAt F H v r ∧ RwsAt F H ws rs
end
mutual
def RwOk : Rw → Prop
  | .take _ e _ => TermOk e
  | .give _ e f => TermOk e ∧ TermOk f
  | .lt _ e => TermOk e
  | .say e => TermOk e
  | .off e => TermOk e
  | .iff e a b => TermOk e ∧ RwsOk a ∧ RwsOk b
def RwsOk : Rws → Prop
  | .nil => True
  | .cons r rs => RwOk r ∧ RwsOk rs
end
mutual
def Rw.deep : Rw → Nat
  | .iff _ a b => max a.deep b.deep + 1
  | _ => 0
def Rws.deep : Rws → Nat
  | .nil => 0
  | .cons r rs => max r.deep rs.deep
end
mutual
def Rw.cnt : Rw → Nat
  | .iff _ a b => max a.cnt b.cnt + 1
  | _ => 1
def Rws.cnt : Rws → Nat
  | .nil => 0
  | .cons r rs => r.cnt + rs.cnt
end
end L2

namespace L2
open PySem
/-! ### walking a dict's pairs, whatever the keys are -/
section
variable {P : Program} {w : World} {A : Around} {E : Value → Shared → Prop} {s : Shared}
end
end L2

namespace L2
open PySem PySem.Spec PyProof.Rows
/-! ### d.items(), and list of it -/
def viewO (r d : Addr) : HO := .ext fun h => h.IsItemsView r d
def tItems (td : TE) : TE := fun σ H Q => td σ H fun x H1 => ∃ d kvs, x = .ref d ∧ H1 d = some (.dT kvs) ∧ ∀ r, H1 r = none → Q (.ref r) (upd H1 r (viewO r d))
section
variable {X : Cx} {o : Expr} {apos cpos : Pos} {td : TE}
end
/-- a pair of the list that is made -/
def KvAt (H : Hp) (v : V) (kv : List Key × V) : Prop := ∃ r p, v = .ref r ∧ H r = some (.tup [.ref p, kv.2]) ∧ H p = some (.tup (kv.1.map kV))
section
variable {X : Cx} {A : Around} {R : Result → Shared → Prop}
end
end L2

namespace L2
open PySem PySem.Spec PyProof.Rows
abbrev cLstI : RC := fun vs H Q => ∃ r d kvs, vs = [.ref r] ∧ H r = some (viewO r d) ∧ H d = some (.dT kvs) ∧ kvs.length ≤ 1000 ∧ ∀ l ys H', Same H H' → H l = none → H' l = some (.lst ys) → Paired (KvAt H') ys kvs → Q (.ref l) H'
section
variable {X : Cx}
end
end L2

namespace L2
open PySem PySem.Spec PyProof.Rows PySem.W
/-! ### sorted(d.items()) -/
section
variable {X : Cx}
end
section
variable {P : Program} {w : World} {A : Around} {E : Value → Shared → Prop} {s : Shared}
end
end L2

namespace L2
open PySem PySem.Spec PyProof.Rows PySem.W
def d0 : Row := (("", 0), 0)
abbrev cSrtI : RC := fun vs H Q => ∃ r d rows, vs = [.ref r] ∧ H r = some (viewO r d) ∧ H d = some (.dT (dOf rows)) ∧ (dOf rows).length < 64 ∧
  ∀ l ys srt H', Same H H' → H l = none → H' l = some (.lst ys) → Paired (PrAt H') ys srt → Rising srt → (∀ p w, (p, w) ∈ srt ↔ lastW rows p = some w) → Q (.ref l) H'
section
variable {X : Cx}
end
end L2

namespace L2
open PySem PySem.Spec PyProof.Rows
/-! ### range(i, j, c), c above 0 -/
def Itr3 (lo c : Int) (n : Nat) : It := ⟨fun i _ => i < n, fun i H x H' => H' = H ∧ x = .int (lo + i * c), fun i _ => n ≤ i⟩
def cntR (i j c : Int) : Nat := if i < j then ((j - i - 1) / c + 1).toNat else 0
def iRng3 (ta : TA) : TI := fun σ H R => ta σ H fun vs H1 => ∃ i j c : Int, vs = [.int i, .int j, .int c] ∧ (0 ≤ i ∧ i < 1073741824 ∧ 0 ≤ j ∧ j < 1073741824 ∧ 0 < c ∧ c < 1073741824) ∧ R (Itr3 i c (cntR i j c)) H1
section
variable {X : Cx} {tg : Expr}
end
end L2

namespace L2
open PySem
/-! ### dealings done: what stays true, and what comes out -/
structure StOk (n : Nat) (s : Sta) : Prop where
  so : SlotsOk s.sl
  wo : ∀ r ∈ s.wo, inW r.2 = true
  l1 : s.sl.length ≤ n
  l2 : s.wo.length ≤ n
  l3 : s.sa.length ≤ n
theorem StOk.mono {n m : Nat} {s : Sta} (h : StOk n s) (l : n ≤ m) : StOk m s := ⟨h.so, h.wo, Nat.le_trans h.l1 l, Nat.le_trans h.l2 l, Nat.le_trans h.l3 l⟩
theorem last_in {P : Row → Prop} {p : Pl} {w : Int} : ∀ {l : List Row}, (∀ r ∈ l, P r) → lastW l p = some w → P (p, w)
  | [], _, h => by cases h
  | r :: t, hp, h => by
    rw [lastW] at h
    cases e : lastW t p with
    | some w' =>
      rw [e] at h
      have : w' = w := by simpa using h
      subst this
      exact last_in (fun r hr => hp r (List.mem_cons_of_mem _ hr)) e
    | none =>
      rw [e] at h
      by_cases c : r.1 = p
      · rw [if_pos c] at h
        have : r.2 = w := by simpa using h
        rw [← c, ← this]; exact hp r List.mem_cons_self
      · rw [if_neg c] at h; cases h
/-! a place that a dealing may give to -/
mutual
def RwIn (P : Pl → Prop) : Rw → Prop
  | .give sh e _ => ∀ kvs n, rk kvs e = .ok n → P (sh, n)
  | .iff _ a b => RwsIn P a ∧ RwsIn P b
  | _ => True
def RwsIn (P : Pl → Prop) : Rws → Prop
  | .nil => True
  | .cons r rs => RwIn P r ∧ RwsIn P rs
end
inductive Oc where
  | done (sa : List Int)
  | off (why : Str)
def whyOf : Er → Str
  | .great => "great"
  | _ => "nought"
def AloneR (rws : Rws) (tab : List Row) (oc : Oc) (out : List Row) : Prop := match goRs rws ⟨[], tab, []⟩ with
  | .go s => oc = .done s.sa ∧ IsTab s.wo out
  | .off => oc = .off "told" ∧ out = tab
  | .er e => oc = .off (whyOf e) ∧ out = tab
inductive SeqR : List Rws → List Row → List Oc → List Row → Prop
  | nil {tab : List Row} : SeqR [] tab [] tab
  | cons {d : Rws} {ds : List Rws} {tab mid out : List Row} {oc : Oc} {ocs : List Oc} : AloneR d tab oc mid → SeqR ds mid ocs out → SeqR (d :: ds) tab (oc :: ocs) out
/-! ### rows as data -/
def partD : V → PyData
  | .int i => .int i
  | .str x => .str x
  | _ => .none
def plV (v : V) : Prop := (∃ i, v = .int i) ∨ ∃ x, v = .str x ∧ PyData.strOk x = true
def termD (e : List V) : PyData := .tuple (e.map partD)
mutual
def rwD : Rw → PyData
  | .take sh e sl => .tuple [.str "take", .str sh, termD e, .str sl]
  | .give sh e f => .tuple [.str "give", .str sh, termD e, termD f]
  | .lt sl e => .tuple [.str "let", .str sl, termD e]
  | .say e => .tuple [.str "say", termD e]
  | .off e => .tuple [.str "off", termD e]
  | .iff e a b => .tuple [.str "if", termD e, .list (rwsD a), .list (rwsD b)]
def rwsD : Rws → List PyData
  | .nil => []
  | .cons r rs => rwD r :: rwsD rs
end
def tmP (e : List V) : Prop := ∀ v ∈ e, plV v
mutual
def RwPl : Rw → Prop
  | .take sh e sl => PyData.strOk sh = true ∧ tmP e ∧ PyData.strOk sl = true
  | .give sh e f => PyData.strOk sh = true ∧ tmP e ∧ tmP f
  | .lt sl e => PyData.strOk sl = true ∧ tmP e
  | .say e => tmP e
  | .off e => tmP e
  | .iff e a b => tmP e ∧ RwsPl a ∧ RwsPl b
def RwsPl : Rws → Prop
  | .nil => True
  | .cons r rs => RwPl r ∧ RwsPl rs
end
section
variable {K : PySem.W.Frag} {H : Hp} {F : Addr → Prop}
theorem part_dat {v : V} (h : plV v) : Dat K H v (partD v) := by
  rcases h with ⟨i, rfl⟩ | ⟨x, rfl, _⟩
  · exact .int i
  · exact .str x
theorem parts_dat : ∀ {e : List V}, tmP e → DatAll K H e (e.map partD)
  | [], _ => .nil
  | v :: r, h => .cons (part_dat (h v List.mem_cons_self)) (parts_dat fun u hu => h u (List.mem_cons_of_mem _ hu))
end
theorem parts_plain : ∀ {e : List V}, tmP e → plainDs (e.map partD) = true
  | [], _ => by simp [plainDs]
  | v :: r, h => by
    rw [List.map_cons, plainDs, parts_plain fun u hu => h u (List.mem_cons_of_mem _ hu), Bool.and_true]
    rcases h v List.mem_cons_self with ⟨i, rfl⟩ | ⟨x, rfl, hx⟩
    · rw [partD, plainD]
    · rw [partD, plainD]; exact hx
theorem parts_deep : ∀ (e : List V), PyData.depthAll (e.map partD) = 0
  | [] => by simp [PyData.depthAll]
  | v :: r => by
    rw [List.map_cons, PyData.depthAll, parts_deep r]
    cases v <;> simp [partD, PyData.depth]
/-! ### rows, one more behind -/
def Rws.snoc : Rws → Rw → Rws
  | .nil, x => .cons x .nil
  | .cons r rs, x => .cons r (rs.snoc x)
def Rws.app : Rws → Rws → Rws
  | .nil, x => x
  | .cons r rs, x => .cons r (rs.app x)
/-! ### terms of one part, and of two -/
/-! ### pairs of lists -/
end L2

namespace L2
open PySem PySem.Spec PyProof.Rows
/-! ### split -/
abbrev r_mt_split : RM := fun x xs H Q => ∃ a b, x = .str a ∧ xs = [.str b] ∧ (b.length == 0) = false ∧ a.length ≤ 100000 ∧ (Txt.split a b).length ≤ 100000 ∧ ∀ l, H l = none → Q (.ref l) (upd H l (.lst ((Txt.split a b).map V.str)))
section
variable {X : Cx}
end
/-! ### enumerate of a list -/
def Itel (K : PySem.W.Frag) (p : Addr) (xs : List V) : It := ⟨fun i H => i < xs.length ∧ SqL K H p xs, fun i H x H' => ∃ T u, x = .ref T ∧ H T = none ∧ H' = upd H T (.tup [.int i, u]) ∧ xs[i]? = some u, fun i H => xs.length ≤ i ∧ SqL K H p xs⟩
def iEnm (K : PySem.W.Frag) (ta : TA) : TI := fun σ H R => ta σ H fun vs H1 => ∃ p xs, vs = [.ref p] ∧ SqL K H1 p xs ∧ R (Itel K p xs) H1
section
variable {X : Cx}
end
section
variable {σ : St} {H : Hp} {nx : St → Hp → Prop} {B : V → St → Hp → (St → Hp → Prop) → Prop}
end
end L2

namespace L2
open PySem PySem.Spec PyProof.Rows
/-! ### parts put together and parted again -/
theorem cut_eq {c : Nat} : ∀ {a b r s : List Nat}, c ∉ a → c ∉ b → a ++ c :: r = b ++ c :: s → a = b ∧ r = s
  | [], [], r, s, _, _, h => by simpa using h
  | [], y :: b, r, s, _, hb, h => by
    simp only [List.nil_append, List.cons_append, List.cons.injEq] at h
    exact absurd h.1 (fun z => hb (by rw [z]; exact List.mem_cons_self))
  | x :: a, [], r, s, ha, _, h => by
    simp only [List.nil_append, List.cons_append, List.cons.injEq] at h
    exact absurd h.1.symm (fun z => ha (by rw [z]; exact List.mem_cons_self))
  | x :: a, y :: b, r, s, ha, hb, h => by
    simp only [List.cons_append, List.cons.injEq] at h
    obtain ⟨e1, e2⟩ := cut_eq (fun z => ha (List.mem_cons_of_mem _ z)) (fun z => hb (List.mem_cons_of_mem _ z)) h.2
    exact ⟨by rw [h.1, e1], e2⟩
end L2

namespace L2
open PySem PySem.Spec PyProof.Rows
/-! ### isinstance(x, (T, U)) of built-in types -/
abbrev cIsiT (K : PySem.W.Frag) : RC := fun xs H Q => ∃ (x : V) (p : Addr) (t : Value) (Ts : List String) (b : Bool), xs = [x, .ref p] ∧ TyOf K H x t ∧ H p = some (.tup (Ts.map V.ty)) ∧ PySem.W.kitAny K t (Ts.map Value.type) = some b ∧ Q (.bl b) H
section
variable {X : Cx}
end
/-! ### l[-k] = v -/
section
variable {prog : Program} {w : World} {A : Around} {E : Value → Shared → Prop} {s : Shared}
theorem setItem_neg {l : Addr} {items : Array Value} {n : Nat} {k : Int} {t : Tok} {v : Value} {Q : Unit → Shared → Prop} (hl : s.heap.get? l = some { cls := .type "list", data := .seq items n })
    (h0 : k < 0) (h1 : -(items.size : Int) ≤ k) (hfit : -(2 ^ 63) ≤ k) (hQ : Q () { s with heap := s.heap.update l (Obj.mapSeq (·.setIfInBounds (k + items.size).toNat v)) }) :
    wpAny (model prog w) A (setItem (.ref l) (.int k t) v) Q E s := by
  have hL : s.heap.IsList l items := ⟨_, hl, rfl, n, rfl⟩
  unfold setItem
  try with_reducible refine wpAny_holding ?_
  first | refine wpAny_bind (wpAny_pure ?_) | skip
  refine wpAny_bind (wpAny_sequenceKey hL.typeIs (by decide) ?_)
  refine wpAny_bind (wpAny_callSpecial?_slot (name := Str.ofString "__setitem__") hL.typeIs slot_list_setitem
    (wpAny_call_entry slot_list_setitem hL.typeIs entry_list_setitem ?_ (args_list_setitem _ _ _)))
  show wpAny _ _ (Builtin.List.listSubscript? (.int k t) >>= _) _ _ s
  refine wpAny_bind (wpAny_listSubscript_int (fitsIndex_neg h0 hfit) ?_)
  clear hfit
  have hidx := seqIndex_neg h0 h1
  have hx : items[(k + items.size).toNat]? = some (items[(k + items.size).toNat]'(by omega)) := Array.getElem?_eq_getElem (by omega)
  obtain ⟨j, rfl⟩ : ∃ j : Nat, k = Int.negSucc j := by
    cases k with
    | ofNat n => exact absurd h0 (Int.not_lt.mpr (Int.ofNat_nonneg n))
    | negSucc n => exact ⟨n, rfl⟩
  show wpAny _ _ ((Builtin.List.listItems (.ref l) >>= fun xs => pure ((seqIndex? (Int.negSucc j) xs.size).bind fun i => xs[i]?.map (i, ·))) >>= _) _ _ s
  refine wpAny_bind (wpAny_bind ?_)
  show wpAny _ _ (seqItems? (.ref l) >>= _) _ _ s
  refine wpAny_bind (wpAny_seqItems hl rfl (wpAny_pure (wpAny_pure ?_)))
  rw [hidx]
  simp only [Option.bind_some, hx, Option.map_some]
  refine wpAny_bind (wpAny_setSeqItemAt hl rfl ?_)
  first
    | exact wpAny_bind (wpAny_pure (wpAny_pure ⟨.none, rfl, wpAny_pure hQ⟩))
    | exact wpAny_pure ⟨.none, rfl, wpAny_pure hQ⟩
theorem setItem_pos {l : Addr} {items : Array Value} {n j : Nat} {k : Int} {t : Tok} {v : Value} {Q : Unit → Shared → Prop} (hl : s.heap.get? l = some { cls := .type "list", data := .seq items n })
    (h0 : 0 ≤ k) (hfit : k < 2 ^ 63) (hkj : k.toNat = j) (hn : j < items.size) (hQ : Q () { s with heap := s.heap.update l (Obj.mapSeq (·.setIfInBounds j v)) }) :
    wpAny (model prog w) A (setItem (.ref l) (.int k t) v) Q E s := by
  have hL : s.heap.IsList l items := ⟨_, hl, rfl, n, rfl⟩
  unfold setItem
  try with_reducible refine wpAny_holding ?_
  first | refine wpAny_bind (wpAny_pure ?_) | skip
  refine wpAny_bind (wpAny_sequenceKey hL.typeIs (by decide) ?_)
  refine wpAny_bind (wpAny_callSpecial?_slot (name := Str.ofString "__setitem__") hL.typeIs slot_list_setitem
    (wpAny_call_entry slot_list_setitem hL.typeIs entry_list_setitem ?_ (args_list_setitem _ _ _)))
  show wpAny _ _ (Builtin.List.listSubscript? (.int k t) >>= _) _ _ s
  refine wpAny_bind (wpAny_listSubscript_int (fitsIndex_of h0 hfit) ?_)
  clear hfit
  obtain ⟨j', rfl⟩ := Int.eq_ofNat_of_zero_le h0
  have hkj : j' = j := hkj
  subst hkj
  have hx' : items[j']? = some items[j'] := Array.getElem?_eq_getElem hn
  show wpAny _ _ ((seqItemAt l j' >>= fun r => pure (r.map (j', ·))) >>= _) _ _ s
  refine wpAny_bind (wpAny_bind (wpAny_seqItemAt hl rfl (wpAny_pure ?_)))
  rw [hx']
  refine wpAny_bind (wpAny_setSeqItemAt hl rfl ?_)
  first
    | exact wpAny_bind (wpAny_pure (wpAny_pure ⟨.none, rfl, wpAny_pure hQ⟩))
    | exact wpAny_pure ⟨.none, rfl, wpAny_pure hQ⟩
end
def sLPut (td ty tv : TE) : TS := fun D σ H => tv σ H fun v H1 => td σ H1 fun x H2 => ty σ H2 fun y H3 => ∃ a xs i j, x = .ref a ∧ y = .int i ∧ H3 a = some (.lst xs) ∧ ixN xs.length i = some j ∧ (-1000 ≤ i ∧ i ≤ 1000) ∧ D.nx σ (upd H3 a (.lst (xs.set j v)))
theorem vals_set {v : V} {u : Value} (r : RelV v u) : ∀ {xs : List V} {us : List Value}, Vals xs us → ∀ j : Nat, Vals (xs.set j v) (us.set j u)
  | _, _, .nil, _ => .nil
  | _, _, .cons _ t, 0 => .cons r t
  | _, _, .cons a t, j + 1 => .cons a (vals_set r t j)
section
variable {X : Cx} {o i value : Expr} {pos pos' : Pos} {td ty tv : TE}
theorem ps_lput (ho : PE X o td) (hi : PE X i ty) (hv : PE X value tv) (hs : swapsWith value (some (.Subscript o i pos')) pos.line X.env = pure false) :
    PS X (.Assign [.Subscript o i pos'] value pos) (sLPut td ty tv) := by
  intro pins s σ H D I h
  refine wpAny_Assign_Subscript (thn (hv pins s σ H _ I h) fun r s1 ⟨v, H1, I1, rv, q1⟩ => thn (ho pins s1 σ H1 _ I1 q1) fun u s2 ⟨x, H2, I2, rx, q2⟩ => thn (hi pins s2 σ H2 _ I2 q2) fun iv s3 ⟨y, H3, I3, ry, a, xs, k, j, ex, ey, ea, hj, hk, q3⟩ => ?_) hs
  subst ex ey
  obtain rfl : u = Value.ref a := rx
  obtain ⟨t, rfl⟩ := ry
  obtain ⟨z, its, n, rl, hl, e⟩ := I3.lstM ea
  have fin : SP X pins D .next { s3 with heap := s3.heap.update a (Obj.mapSeq (·.setIfInBounds j r)) } := ⟨σ, _, I3.lset (its' := its.set j r) (t' := s3.toks) ea e (by simp) (vals_set rv rl _) (by rw [List.length_set]; exact z), q3⟩
  unfold ixN at hj
  by_cases h0 : 0 ≤ k
  · rw [if_pos h0] at hj
    split at hj
    · rename_i h1
      cases hj
      exact setItem_pos e h0 (by omega) rfl (by rw [List.size_toArray, ← hl]; omega) fin
    · cases hj
  · rw [if_neg h0] at hj
    split at hj
    · rename_i h1
      cases hj
      refine setItem_neg e (by omega) (by rw [List.size_toArray, ← hl]; exact h1) (by omega) ?_
      rw [List.size_toArray, ← hl]
      exact fin
    · cases hj
end
/-! ### a try whose body lets nothing out -/
section
variable {X : Cx} {st : Stmt} {hs : List ExceptHandler} {pos : Pos} {tb : TS}
end
end L2

namespace L2
open PySem PySem.Spec PyProof.Rows
/-! ### zip of two lists, or of two tuples -/
def iZipB (K : PySem.W.Frag) (ta : TA) : TI := fun σ H R => ta σ H fun vs H1 => ∃ p q xs ys, vs = [.ref p, .ref q] ∧ xs.length = ys.length ∧ ((SqL K H1 p xs ∧ SqL K H1 q ys ∧ R (Itzl K p q xs ys) H1) ∨ (SqT K H1 p xs ∧ SqT K H1 q ys ∧ R (Itz K p q xs ys) H1))
section
variable {X : Cx}
/-! ### l != [] -/
abbrev rNeNil (K : PySem.W.Frag) : R2 := fun x y H Q => ∃ a b xs, x = .ref a ∧ y = .ref b ∧ SqL K H a xs ∧ SqL K H b [] ∧ Q (.bl (!decide (xs = []))) H
end
/-! ### values in the heap, all through -/
mutual
inductive DatS (H : Hp) : V → PyData → Prop
  | int (i : Int) : DatS H (.int i) (.int i)
  | str (x : Str) : DatS H (.str x) (.str x)
  | lst {a : Addr} {xs : List V} {ds : List PyData} : H a = some (.lst xs) → DatSs H xs ds → DatS H (.ref a) (.list ds)
  | tup {a : Addr} {xs : List V} {ds : List PyData} : H a = some (.tup xs) → DatSs H xs ds → DatS H (.ref a) (.tuple ds)
inductive DatSs (H : Hp) : List V → List PyData → Prop
  | nil : DatSs H [] []
  | cons {x : V} {d : PyData} {xs : List V} {ds : List PyData} : DatS H x d → DatSs H xs ds → DatSs H (x :: xs) (d :: ds)
end
end L2

namespace L2
open PySem
end L2

namespace L2
open PySem
abbrev r_mt_extend : RM := rExtend
end L2

namespace L2
open PySem PySem.Spec PyProof.Rows
abbrev r_mt_clear : RM := rClear
abbrev cSumL (K : PySem.W.Frag) : RC := fun xs H Q => ∃ a, ∃ ns : List Int, xs = [.ref a] ∧ SqL K H a (ns.map V.int) ∧ Q (.int ns.sum) H
abbrev cMaxL (K : PySem.W.Frag) : RC := fun xs H Q => ∃ a, ∃ ns : List Int, xs = [.ref a] ∧ SqL K H a (ns.map V.int) ∧ 0 < ns.length ∧ ∀ M, M ∈ ns → (∀ x ∈ ns, x ≤ M) → Q (.int M) H
section
variable {X : Cx}
end
end L2

namespace L2
open PySem PySem.Spec PyProof.Rows
abbrev cMax2 : RC := fun xs H Q => ∃ i j, xs = [.int i, .int j] ∧ Q (.int (if j > i then j else i)) H
/-! ### in, not in, of things that hold others -/
/-- x among the items of a list or a tuple, all read whole -/
abbrev rInA (K : PySem.W.Frag) (neg : Bool) : R2 := fun x y H Q => ∃ (p : Addr) (xs : List V) (d : PyData) (ds : List PyData), y = .ref p ∧ (SqL K H p xs ∨ SqT K H p xs) ∧ Dat K H x d ∧ DatAll K H xs ds ∧ (plainD d = true ∧ d.depth ≤ 50 ∧ ∀ e ∈ ds, plainD e = true) ∧
  ∀ b : Bool, (b = true ↔ d ∈ ds) → Q (.bl (if neg then !b else b)) H
section
variable {X : Cx}
open Classical in
/-- whether a value is read as d -/
noncomputable def hitD (K : PySem.W.Frag) (H : Hp) (d : PyData) (u : Value) : Bool := decide (∃ x, RelV x u ∧ Dat K H x d)
open Classical in
end
/-! ### sorted(list of rows) -/
abbrev cSrtL (K : PySem.W.Frag) : RC := fun vs H Q => ∃ r xs its, vs = [.ref r] ∧ SqL K H r xs ∧ Paired (PrAt H) xs its ∧ (its.map (·.1)).Nodup ∧ its.length < 64 ∧
  ∀ l ys srt H', Same H H' → H l = none → H' l = some (.lst ys) → Paired (PrAt H') ys srt → Rising srt → srt.Perm its → Q (.ref l) H'
section
variable {X : Cx}
end
/-! ### numbers of the script: how large they may be -/
def Cb (i : Int) : Prop := Builtin.Int.intBits i ≤ 1048576
section
variable {X : Cx}
end
open Att PySem.W PySem.Calls in
/-- as walk_of; the law is told besides how large the script's numbers may be -/
theorem walk_ofB {l : PySem.W.OpenLaw} {n k : Nat} {q : Program} {loose : List Str} {XP : (Str → Option Value) → Heap → Prop} {YP : World → Heap → Prop} {d : DefRec} {K : Params → PySem.W.Frag} {CX : World → CXT} {sp : World → Sp} {x : Str}
    (hn : l.most = some n) (hn2 : n ≤ sizeLine) (hdf : d.params.defaults = []) (hr : Room k callerA) (hY : ∀ (w : World) (h : Heap), YP w h → (K w.params).In h)
    (F : ∀ (w : World) (mg : Str → Option Value) (fa : Addr) (h : Heap), (K w.params).In h → h.Ns mainGlobals mg → mg d.name = some (.ref fa) →
      ∃ fd : FuncData, (∀ (s : Shared) (u : Value), BindsTo s fd ⟨[u], []⟩ [(x, u)]) ∧
        ∀ base : Heap, (K w.params).In base → base.Ns mainGlobals mg → FnOk l.prog w (K w.params) mg base (CX w) k fa fd [x] (sp w))
    (hsp : ∀ (w : World) (H : Hp) (a : Addr) (ns : List Int), ns.length ≤ n → (∀ i ∈ ns, Cb i) → Only H → SqL (K w.params) H a (ns.map V.int) → sp w [.ref a] H (fun v _ => v = .bl true) fun _ _ _ => False)
    (hCX : ∀ (w : World) (H : Hp) (s : Shared) (e : Value) (s' : Shared), CX w [] H s (fun _ _ _ => False) e s' → False) :
    PySem.W.WalkO q loose XP YP l.row.toRowW d [] (fun f vs => PySem.call f vs) := by
  intro w s₀ s₁ mg mb G Y fa o pm cd doc dV kV ho hd hcd hD hmg hg args vals as hpre hlay hrd hwl hlo
  obtain rfl : dV = .none := Dflts.none hD hdf
  obtain rfl : kV = .none := Dflts.noKw hD
  obtain ⟨a, vs, ns, rfl, rfl, hobj, hints, hlen⟩ := script_of hn hpre hwl
  have hb : ∀ i ∈ ns, Cb i := fun i hi => intBits_le_of_layable (layable_of_mem (lay0_int (layableW_item (layableW_arg hlay _ List.mem_cons_self) _ (List.mem_map.mpr ⟨i, hi, rfl⟩))) List.mem_cons_self)
  have KX := hY w _ Y
  obtain ⟨fd, hbd, hF⟩ := F w mg fa _ KX G.T.g hmg
  refine enter_call (codeAny_mono (law_call KX G.T.g G.T.b G.T.builtins G.T.nolimit hg hobj hints (Nat.le_trans hlen hn2) hr hF hbd (fun H hO hS => hsp w H a ns hlen hb hO hS) fun H e s' => hCX w H s₁ e s') fun r s' hq => ?_)
  obtain ⟨rfl, h2, h3, h4⟩ := hq
  exact ⟨.inl ⟨.bool true, .bool true, [], rfl, fun _ => rfl, .bool true, post_true l _, fun _ => ⟨List.Pairwise.nil, fun _ hm => (nomatch hm)⟩⟩, h2, h3, h4⟩
/-- .. where exceptions may fly within -/
theorem walk_ofXB {l : PySem.W.OpenLaw} {n k : Nat} {q : Program} {loose : List Str} {XP : (Str → Option Value) → Heap → Prop} {YP : World → Heap → Prop} {d : DefRec} {K : Params → PySem.W.Frag} {sp : PySem.W.Frag → Sp} {x : Str}
    (hn : l.most = some n) (hn2 : n ≤ sizeLine) (hdf : d.params.defaults = []) (hr : Room k callerA) (hY : ∀ (w : World) (h : Heap), YP w h → (K w.params).In h)
    (F : ∀ (w : World) (mg : Str → Option Value) (fa : Addr) (h : Heap), (K w.params).In h → h.Ns mainGlobals mg → mg d.name = some (.ref fa) →
      ∃ fd : FuncData, (∀ (s : Shared) (u : Value), BindsTo s fd ⟨[u], []⟩ [(x, u)]) ∧
        ∀ base : Heap, (K w.params).In base → base.Ns mainGlobals mg → FnOk l.prog w (K w.params) mg base (CX1 l.prog w) k fa fd [x] (sp (K w.params)))
    (hsp : ∀ (K : PySem.W.Frag) (H : Hp) (a : Addr) (ns : List Int), ns.length ≤ n → (∀ i ∈ ns, Cb i) → Only H → SqL K H a (ns.map V.int) → sp K [.ref a] H (fun v _ => v = .bl true) fun _ _ _ => False) :
    PySem.W.WalkO q loose XP YP l.row.toRowW d [] (fun f vs => PySem.call f vs) :=
  walk_ofB (K := K) (CX := fun w => CX1 l.prog w) (sp := fun w => sp (K w.params)) hn hn2 hdf hr hY F (fun w H a ns h1 hb h2 h3 => hsp (K w.params) H a ns h1 hb h2 h3) fun _ _ _ _ _ z => by
    obtain ⟨_, _, _, _, _, _, _, _, _, y⟩ := z
    exact y
end L2

namespace L2
open PySem PySem.Spec PyProof.Rows
/-! ### walking the keys of a dict of numbers or texts -/
def Itk (a : Addr) (o : Obj) (kvs : List (Key × V)) : It :=
  ⟨fun i H => H a = some (.frz o (.dK kvs)) ∧ i < kvs.length, fun i H x H' => H' = H ∧ ∃ k v, kvs[i]? = some (k, v) ∧ x = kV k, fun i H => H a = some (.frz o (.dK kvs)) ∧ kvs.length ≤ i⟩
section
variable {X : Cx}
def iDK (tl : TE) : TI := fun σ H R => tl σ H fun x H1 => ∃ a o kvs, x = .ref a ∧ H1 a = some (.frz o (.dK kvs)) ∧ R (Itk a o kvs) H1
end
section
variable {σ : St} {H : Hp} {nx : St → Hp → Prop} {B : V → St → Hp → (St → Hp → Prop) → Prop}
end
end L2

namespace L2
open PySem PySem.Spec PyProof.Rows
/-! ### sorted(list of places) -/
def PcAt (H : Hp) (v : V) (q : Pl) : Prop := ∃ p, v = .ref p ∧ H p = some (.tup [.str q.1, .int q.2])
abbrev cSrtP (K : PySem.W.Frag) : RC := fun vs H Q => ∃ r xs its, vs = [.ref r] ∧ SqL K H r xs ∧ Paired (PcAt H) xs its ∧ its.Nodup ∧ its.length < 64 ∧
  ∀ l ys srt H', Same H H' → H l = none → H' l = some (.lst ys) → Paired (PcAt H') ys srt → srt.Pairwise (fun a b => placeLt a b = true) → srt.Perm its → Q (.ref l) H'
section
variable {X : Cx}
end
end L2

namespace L2
open PySem PySem.Spec PyProof.Rows
/-! dicts by tuples: pop, setdefault, len, list -/
section
variable {K : Type} [DecidableEq K]
end
section
variable {prog : Program} {w : World} {K : Type} [DecidableEq K] {knd : HeapKind prog w K} {A : Around} {E : Value → Shared → Prop} {s : Shared} {d a : Addr} {xs : List (K × Addr × Value)} {k : K}
end
section
variable {X : Cx} {pins : List (Addr × Obj)} {σ : St} {H : Hp} {s : Shared} {a b : Addr} {kvs : List (List Key × V)} {k : List Key} {A : Around} {E : Value → Shared → Prop}
end
def tDPopT (td ty : TE) : TE := fun σ H Q => td σ H fun x H1 => ∃ a, x = .ref a ∧ IsD H1 a ∧ ty σ H1 fun y H2 => ∃ kvs k b v, H2 a = some (.dT kvs) ∧ y = .ref b ∧ H2 b = some (.tup (k.map kV)) ∧ valV kvs k = some v ∧ Q v (upd H2 a (.dT (dropK kvs k)))
def tDSetD (td ty tx : TE) : TE := fun σ H Q => td σ H fun x H1 => ∃ a, x = .ref a ∧ IsD H1 a ∧ ty σ H1 fun y H2 => tx σ H2 fun z H3 => ∃ kvs k b, H3 a = some (.dT kvs) ∧ y = .ref b ∧ H3 b = some (.tup (k.map kV)) ∧ kvs.length < sizeLine ∧
  (∀ v, valV kvs k = some v → Q v H3) ∧ (valV kvs k = none → Q z (upd H3 a (.dT (putK kvs k z))))
section
variable {X : Cx} {o e f : Expr} {apos cpos : Pos} {td ty tx : TE}
end
/-! list.insert, list.remove -/
abbrev r_mt_insert : RM := fun x vs H Q => ∃ (l : Addr) (xs : List V) (k : Nat) (y : V), x = .ref l ∧ vs = [.int k, y] ∧ H l = some (.lst xs) ∧ k ≤ xs.length ∧ xs.length < 1000000 ∧ Q .non (upd H l (.lst (xs.take k ++ y :: xs.drop k)))
abbrev r_mt_remove : RM := fun x vs H Q => ∃ (l : Addr) (ns : List Int) (i : Int), x = .ref l ∧ vs = [.int i] ∧ H l = some (.lst (ns.map V.int)) ∧ i ∈ ns ∧ Q .non (upd H l (.lst ((ns.erase i).map V.int)))
section
variable {X : Cx}
end
/-! list(d), len(d) of dicts by tuples -/
def KyAt (H : Hp) (y : V) (kv : List Key × V) : Prop := ∃ p, y = .ref p ∧ H p = some (.tup (kv.1.map kV))
abbrev cLstD : RC := fun vs H Q => ∃ a kvs, vs = [.ref a] ∧ H a = some (.dT kvs) ∧ ∀ l ys, H l = none → Paired (KyAt H) ys kvs → Q (.ref l) (upd H l (.lst ys))
abbrev cLenT : RC := fun vs H Q => ∃ a kvs, vs = [.ref a] ∧ H a = some (.dT kvs) ∧ Q (.int (kvs.length : Nat)) H
section
variable {X : Cx}
end
end L2

namespace L2
open PySem PySem.Spec PyProof.Rows
section
variable {X : Cx} {c : Expr} {s₁ s₂ : Stmt} {tc : TT} {t1 t2 : EXK → TS} {pos : Pos}
end
section
variable {X : Cx} {e : Expr} {te : TE} {a b : Str} {j k : Nat} {p1 p2 p3 p4 : Pos}
end
end L2

namespace L2
open PySem PySem.Spec PyProof.Rows
/-! a def with defaults -/
section
variable {P : Program} {w : World} {K : PySem.W.Frag} {mg : Str → Option Value} {base : Heap} {x qual : Str} {st : Stmt} {f : Addr} {fd : FuncData} {N ps : List Str} {k : Nat} {sp : Sp}
end
/-! a field set in a try -/
section
variable {X : Cx} {o value : Expr} {f : Str} {pos pos' : Pos} {ta : TE} {tx : EXK → TE}
def sFldX (K : PySem.W.Frag) (ta : TE) (tx : EXK → TE) (f : Str) (EX : EXK) : TS := sFld K ta (tx EX) f
end
/-! try, except (C, D): .., without a name -/
def tTryT (K : PySem.W.Frag) (tb : EXK → TS) (C1 C2 : Addr) (th : TS) : TS := fun D σ H => tb (fun cls σ1 H1 => ∃ C, cls = .ref C ∧ PySem.W.exmAny K (.ref C) [.ref C1, .ref C2] = some true ∧ th D σ1 H1) D σ H
section
variable {X : Cx} {st b₀ : Stmt} {suite : List Stmt} {tb : EXK → TS} {th : TS} {c1 c2 : Str} {C1 C2 : Addr} {np np2 hpos tpos pos : Pos} {x1 : Nat}
end
/-! a method whose defaults are left out -/
section
variable {X : Cx} {CX : CXT} {k : Nat} {f C : Addr} {fd : FuncData} {ps : List Str} {sp : Sp} {dvs : List V} {E : XK} {m : Str} {pos apos : Pos} {o : Expr} {ta : TE}
end
end L2

namespace L2
open PySem PySem.Spec PyProof.Rows
/-! < of places -/
abbrev rLtP : R2 := fun x y H Q => ∃ a b p r, x = .ref a ∧ y = .ref b ∧ H a = some (.tup [.str p.1, .int p.2]) ∧ H b = some (.tup [.str r.1, .int r.2]) ∧ Q (.bl (placeLt p r)) H
section
variable {X : Cx}
open PySem.SeqAt
open PySem.AutoSeq1 (wpAny_loadPart')
open PySem.MeetsSeq PySem.MeetsSeq2 PySem.MeetsSeq3
end
end L2

namespace L2
open PySem PySem.Spec PyProof.Rows
/-! a class without an __init__ of its own is made -/
structure MkO (K : PySem.W.Frag) (C : Addr) : Prop where
  makes : PySem.W.makesIn K C = true
  init : PySem.W.findIn K (.ref C) "__init__" = some (some (.builtin "object.__init__"))
  kp : PySem.W.keepIn K (.ref C) = true
def tMakeO (C : Addr) : TE := fun _ H Q => ∀ x dx, H x = none → H dx = none → dx ≠ x → Q (.ref x) (upd (upd H dx (.own x)) x (.ins C dx []))
section
variable {X : Cx} {C : Addr} {x : Str} {p pos : Pos}
theorem run_makeO {pins : List (Addr × Obj)} {σ : St} {H : Hp} {s : Shared} {Q : VK} (M : MkO X.K C) (I : Inv X pins σ H s) (h : ∀ x dx, H x = none → H dx = none → dx ≠ x → Q (.ref x) (upd (upd H dx (.own x)) x (.ins C dx []))) :
    wpAny (model X.prog X.w) X.A (call (.ref C) []) (EP X pins σ Q) X.xe s := by
  have hq := h (s.heap.objs.size + 1) s.heap.objs.size (I.hok.fresh (Nat.le_succ _)) (I.hok.fresh (Nat.le_refl _)) (Nat.ne_of_lt (Nat.lt_succ_self _))
  have I2 := Inv.made (C := C) I
  refine wpAny_call (make_map0 I.kIn M.makes M.init (fun self => PySem.W.Looks.of_pure (PySem.W.oi_bind self)) ?_)
  have Y := PySem.W.makes_of (M := model X.prog X.w) I.kIn M.makes
  have g1 : PySem.W.Looks (model X.prog X.w) ((s.heap.push PySem.W.emptyDict).push (PySem.W.instObj C s.heap.objs.size)) (typeOf (.ref (s.heap.objs.size + 1))) (.ref C) := by
    have := Heap.get?_push_size (s.heap.push PySem.W.emptyDict) (o := PySem.W.instObj C s.heap.objs.size) rfl
    rw [Heap.size_push] at this
    exact (PySem.W.Looks.ld this).andThen .now
  have g2 : PySem.W.Looks (model X.prog X.w) ((s.heap.push PySem.W.emptyDict).push (PySem.W.instObj C s.heap.objs.size)) (isInstance (.ref (s.heap.objs.size + 1)) (.type "object")) true := g1.andThen (Y.top.keeps fun b o e => Heap.get?_push_of_some (PySem.W.instObj C s.heap.objs.size) (Heap.get?_push_of_some PySem.W.emptyDict e))
  refine codeAny_call_builtin PySem.W.oi_plain PySem.W.entry_oi (PySem.W.check_slot (rest := []) (kw := []) PySem.W.oi_kind PySem.W.oi_split g2 (PySem.W.oi_args _) ?_)
  rw [PySem.W.oi_run]
  exact wpAny_pure ⟨rfl, V.ref (s.heap.objs.size + 1), _, I2, rfl, hq⟩
theorem pe_makeO (M : MkO X.K C) (hg : Gl X x) (hm : X.mg x = some (.ref C)) (hdb : (x == ("__debug__" : Str)) = false := by decide) : PE X (.Call (.Name x p) [] [] pos) (tMakeO C) := by
  intro pins s σ H Q I h
  refine wpAny_Call_Name_kw (ld_glob I hg hm ?_ hdb)
  exact PySem.W.callWith_K0 I.kIn M.kp (run_makeO M I h)
end
/-! o.m(..) where o is of one of some classes -/
def tMethU (L : List (Addr × Sp)) (m : Str) (E : XK) (ta : TE) (t : TA) : TE := fun σ H Q => ta σ H fun x H1 => ∃ a dx fs C sp, x = .ref a ∧ H1 a = some (.ins C dx fs) ∧ fs.lookup m = none ∧ (C, sp) ∈ L ∧ t σ H1 fun vs H2 => sp (x :: vs) H2 Q E
structure MOk (X : Cx) (CX : CXT) (m : Str) (C : Addr) (sp : Sp) : Prop where
  cl : Cls X.K C
  fn : ∃ k f fd ps, Meth X.K C m f ∧ FnOk X.prog X.w X.K X.mg X.base CX k f fd ps sp ∧ Room k X.A ∧ Binds X.K fd ps []
section
variable {X : Cx} {CX : CXT} {E : XK} {m : Str} {pos apos : Pos} {e o : Expr} {es : List Expr} {ta : TE} {t : TA} {L : List (Addr × Sp)} {C : Addr} {sp : Sp}
theorem mu_mk {k : Nat} {f : Addr} {fd : FuncData} {ps : List Str} (c : Cls X.K C) (hm : Meth X.K C m f) (F : FnOk X.prog X.w X.K X.mg X.base CX k f fd ps sp) (hr : Room k X.A) (hb : Binds X.K fd ps []) : MOk X CX m C sp := ⟨c, k, f, fd, ps, hm, F, hr, hb⟩
theorem mu_nil : ∀ z ∈ ([] : List (Addr × Sp)), MOk X CX m z.1 z.2 := fun z h => nomatch h
theorem mu_cons (h : MOk X CX m C sp) (r : ∀ z ∈ L, MOk X CX m z.1 z.2) : ∀ z ∈ (C, sp) :: L, MOk X CX m z.1 z.2 := fun z hz => by
  rcases List.mem_cons.mp hz with rfl | hz
  · exact h
  · exact r z hz
theorem pe_methU {pl : Sem Bool} (he : PE X o ta) (hL : ∀ z ∈ L, MOk X CX m z.1 z.2) (hx : Passes CX X E) (ha : PA X (e :: es) t)
    (hst : starEach (e :: es) X.env = (false, eval e X.env) :: starEach es X.env := by rfl) (hpl : (backTo pos (starEach es X.env)).any (·.1) = false := by rfl)
    (ht : eval (.Call (.Attribute o m apos) (e :: es) [] pos) X.env = (do
      let ov ← eval o X.env
      standAt apos.atName
      let (f, first) ← holding [ov] (getMethod ov m pl)
      callWith pos f first (backTo pos (starEach (e :: es) X.env)) (backToKw pos (keywordEach [] X.env))) := by rfl) :
    PE X (.Call (.Attribute o m apos) (e :: es) [] pos) (tMethU L m E ta t) := by
  intro pins s σ H Q I h
  refine PySem.W.methodCall_KW (pl := pl) (thn (he pins s σ H _ I h) fun u s1 ⟨x, H1, I1, rx, a, dx, fs, C, sp, ex, ea, l, hz, q⟩ => ?_) ht
  subst ex
  obtain rfl : u = Value.ref a := rx
  obtain ⟨c, k, f, fd, ps, hm, F, hr, hb⟩ := hL _ hz
  refine getmeth_ok I1 ea c hm l ?_
  refine PySem.W.callWith_K (first := [.ref a]) (h₀ := X.base) I.ok.mod.kin hm.kp (thn (ha pos pins s1 σ H1 _ I1 q) fun us s2 ⟨vs, H2, I2, r, q2⟩ => ⟨I2.kIn, ?_⟩) hst hpl
  exact run_fn (us := .ref a :: us) (vs := .ref a :: vs) (dvs := []) F hr hb .nil hx I2 (.cons rfl r) (by rw [List.append_nil]; exact q2)
end
/-! isinstance of an instance of a class of the text, and such a class -/
structure InsK (K : PySem.W.Frag) (C : Addr) : Prop where
  cl : Cls K C
  ha : PySem.W.findIn K (.ref C) "__class__" = some (some (.builtin "object.__class__"))
  hn : PySem.W.specialIn K (.builtin "object.__class__") "__get__" = some (some (.builtin "getset_descriptor.__get__"))
  tk : PySem.W.takesIn K (.builtin "object.__class__") = some true
  hm : PySem.W.mroIn K C (.type "object") = some true
abbrev cIsn (K : PySem.W.Frag) : RC := fun xs H Q => ∃ a C dx fs D b, xs = [.ref a, .ref D] ∧ H a = some (.ins C dx fs) ∧ InsK K C ∧ PySem.W.kitOne K (.ref C) (.ref D) = some b ∧ Q (.bl b) H
section
variable {X : Cx}
theorem call_isn : CallR X (.builtin "isinstance") (cIsn X.K) := by
  intro pins s σ H xs us Q I r h
  obtain ⟨a, C, dx, fs, D, b, rfl, ha, k, hk, q⟩ := h
  obtain ⟨u, w', rfl, r1, r2⟩ := vals2 r
  cases r2
  exact isinst_ok I r1 (.ins ha k.cl k.ha k.hn k.tk k.hm) hk fun tk => ⟨.bl b, H, I.tok _, rfl, q⟩
end
end L2

namespace K36
open PySem L2
def top (i : Nat) : Stmt := PySem.Challenge.pw_forerun_k36_ways.main.body.getD i (.Pass ⟨0, 0, 0, 0⟩)
abbrev s_Turning_init : Stmt := inClass (top 3) 0
abbrev s__law_drawn : Stmt := top 6
abbrev s__law_ranks : Stmt := top 7
abbrev s_Highest_chosen : Stmt := inClass (top 2) 0
abbrev s_Turning_chosen : Stmt := inClass (top 3) 1
abbrev s_Way_chosen : Stmt := inClass (top 1) 0
abbrev s__law_due : Stmt := top 8
abbrev s__law_whole : Stmt := top 5
abbrev s_law : Stmt := top 9
theorem sc_Turning_init : FnScope ["self"] ["self"] (defScope s_Turning_init) := ⟨rfl, rfl, rfl, by decide +kernel, rfl, by decide +kernel, by decide +kernel⟩
theorem sc__law_drawn : FnScope ["cell", "many", "low", "high", "found", "k"] ["cell", "many"] (defScope s__law_drawn) := ⟨rfl, rfl, rfl, by decide +kernel, rfl, by decide +kernel, by decide +kernel⟩
theorem sc__law_ranks : FnScope ["cell", "xs", "many", "at", "ranks", "k"] ["cell"] (defScope s__law_ranks) := ⟨rfl, rfl, rfl, by decide +kernel, rfl, by decide +kernel, by decide +kernel⟩
theorem sc_Highest_chosen : FnScope ["self", "ranks"] ["self", "ranks"] (defScope s_Highest_chosen) := ⟨rfl, rfl, rfl, by decide +kernel, rfl, by decide +kernel, by decide +kernel⟩
theorem sc_Turning_chosen : FnScope ["self", "ranks", "at"] ["self", "ranks"] (defScope s_Turning_chosen) := ⟨rfl, rfl, rfl, by decide +kernel, rfl, by decide +kernel, by decide +kernel⟩
theorem sc_Way_chosen : FnScope ["self", "ranks"] ["self", "ranks"] (defScope s_Way_chosen) := ⟨rfl, rfl, rfl, by decide +kernel, rfl, by decide +kernel, by decide +kernel⟩
theorem sc__law_due : FnScope ["which", "ranks", "turns"] ["which", "ranks", "turns"] (defScope s__law_due) := ⟨rfl, rfl, rfl, by decide +kernel, rfl, by decide +kernel, by decide +kernel⟩
theorem sc__law_whole : FnScope ["found"] ["found"] (defScope s__law_whole) := ⟨rfl, rfl, rfl, by decide +kernel, rfl, by decide +kernel, by decide +kernel⟩
theorem sc_law : FnScope ["script", "ways", "turns", "way", "cell", "which", "ranks", "handed", "found"] ["script"] (defScope s_law) := ⟨rfl, rfl, rfl, by decide +kernel, rfl, by decide +kernel, by decide +kernel⟩
set_option genSizeOf false in
set_option genInjectivity false in
structure Adr where
  a_Turning_init : Addr
  d_Turning_init : FuncData
  a__law_drawn : Addr
  d__law_drawn : FuncData
  a__law_ranks : Addr
  d__law_ranks : FuncData
  a_Highest_chosen : Addr
  d_Highest_chosen : FuncData
  a_Turning_chosen : Addr
  d_Turning_chosen : FuncData
  a_Way_chosen : Addr
  d_Way_chosen : FuncData
  a__law_due : Addr
  d__law_due : FuncData
  a__law_whole : Addr
  d__law_whole : FuncData
  a_law : Addr
  d_law : FuncData
  c_Highest : Addr
  c_Turning : Addr
  c_Way : Addr
structure Txt (K : PySem.W.Frag) (mg : Str → Option Value) (t : Adr) : Prop where
  f_Turning_init : Fun K "__init__" "Turning.__init__" s_Turning_init t.a_Turning_init t.d_Turning_init
  b_Turning_init : Binds K t.d_Turning_init ["self"] []
  f__law_drawn : Fun K "_law_drawn" "_law_drawn" s__law_drawn t.a__law_drawn t.d__law_drawn
  b__law_drawn : Binds K t.d__law_drawn ["cell", "many"] []
  m__law_drawn : mg "_law_drawn" = some (.ref t.a__law_drawn)
  f__law_ranks : Fun K "_law_ranks" "_law_ranks" s__law_ranks t.a__law_ranks t.d__law_ranks
  b__law_ranks : Binds K t.d__law_ranks ["cell"] []
  m__law_ranks : mg "_law_ranks" = some (.ref t.a__law_ranks)
  f_Highest_chosen : Fun K "chosen" "Highest.chosen" s_Highest_chosen t.a_Highest_chosen t.d_Highest_chosen
  b_Highest_chosen : Binds K t.d_Highest_chosen ["self", "ranks"] []
  me_Highest_chosen : Meth K t.c_Highest "chosen" t.a_Highest_chosen
  f_Turning_chosen : Fun K "chosen" "Turning.chosen" s_Turning_chosen t.a_Turning_chosen t.d_Turning_chosen
  b_Turning_chosen : Binds K t.d_Turning_chosen ["self", "ranks"] []
  me_Turning_chosen : Meth K t.c_Turning "chosen" t.a_Turning_chosen
  f_Way_chosen : Fun K "chosen" "Way.chosen" s_Way_chosen t.a_Way_chosen t.d_Way_chosen
  b_Way_chosen : Binds K t.d_Way_chosen ["self", "ranks"] []
  me_Way_chosen : Meth K t.c_Way "chosen" t.a_Way_chosen
  f__law_due : Fun K "_law_due" "_law_due" s__law_due t.a__law_due t.d__law_due
  b__law_due : Binds K t.d__law_due ["which", "ranks", "turns"] []
  m__law_due : mg "_law_due" = some (.ref t.a__law_due)
  f__law_whole : Fun K "_law_whole" "_law_whole" s__law_whole t.a__law_whole t.d__law_whole
  b__law_whole : Binds K t.d__law_whole ["found"] []
  m__law_whole : mg "_law_whole" = some (.ref t.a__law_whole)
  f_law : Fun K "law" "law" s_law t.a_law t.d_law
  b_law : Binds K t.d_law ["script"] []
  m_law : mg "law" = some (.ref t.a_law)
  w_law : ∀ (s : Shared) (v : Value), BindsTo s t.d_law ⟨[v], []⟩ [("script", v)]
  b_bool : mg "bool" = none
  b_int : mg "int" = none
  b_isinstance : mg "isinstance" = none
  b_len : mg "len" = none
  b_list : mg "list" = none
  b_range : mg "range" = none
  g_Highest : mg "Highest" = some (.ref t.c_Highest)
  g_Turning : mg "Turning" = some (.ref t.c_Turning)
  g_Way : mg "Way" = some (.ref t.c_Way)
  cl_Highest : Cls K t.c_Highest
  mo_Highest : MkO K t.c_Highest
  ik_Highest : InsK K t.c_Highest
  in_Highest_Way : PySem.W.kitOne K (.ref t.c_Highest) (.ref t.c_Way) = some true
  cl_Turning : Cls K t.c_Turning
  mk_Turning : Mk K t.c_Turning t.a_Turning_init
  ik_Turning : InsK K t.c_Turning
  in_Turning_Way : PySem.W.kitOne K (.ref t.c_Turning) (.ref t.c_Way) = some true
  na_Turning_times : NoAttr K t.c_Turning "times"
  cl_Way : Cls K t.c_Way
  mo_Way : MkO K t.c_Way
  ik_Way : InsK K t.c_Way
  in_Way_Way : PySem.W.kitOne K (.ref t.c_Way) (.ref t.c_Way) = some true
theorem txt_mk {K : PySem.W.Frag} {h : Heap} {mg : Str → Option Value} (X : K.In h) (G : h.Ns mainGlobals mg)
    {f0 : Addr} {od0 an0 : Option Addr} {sl0 : Array (Option Value)} {oc0 kV0 dc0 pm0 cd0 ct0 : Value}
    {f1 : Addr} {od1 an1 : Option Addr} {sl1 : Array (Option Value)} {oc1 kV1 dc1 pm1 cd1 ct1 : Value}
    {f2 : Addr} {od2 an2 : Option Addr} {sl2 : Array (Option Value)} {oc2 kV2 dc2 pm2 cd2 ct2 : Value}
    {f3 : Addr} {od3 an3 : Option Addr} {sl3 : Array (Option Value)} {oc3 kV3 dc3 pm3 cd3 ct3 : Value}
    {f4 : Addr} {od4 an4 : Option Addr} {sl4 : Array (Option Value)} {oc4 kV4 dc4 pm4 cd4 ct4 : Value}
    {f5 : Addr} {od5 an5 : Option Addr} {sl5 : Array (Option Value)} {oc5 kV5 dc5 pm5 cd5 ct5 : Value}
    {f6 : Addr} {od6 an6 : Option Addr} {sl6 : Array (Option Value)} {oc6 kV6 dc6 pm6 cd6 ct6 : Value}
    {f7 : Addr} {od7 an7 : Option Addr} {sl7 : Array (Option Value)} {oc7 kV7 dc7 pm7 cd7 ct7 : Value}
    {f8 : Addr} {od8 an8 : Option Addr} {sl8 : Array (Option Value)} {oc8 kV8 dc8 pm8 cd8 ct8 : Value}
    {ca0 : Addr}
    {ca1 : Addr}
    {ca2 : Addr}
    (qa0 : PySem.W.findIn K (.ref ca1) "__init__" = some (some (.ref f0))) (qi0 : PySem.W.isFn K (.ref f0) = true) (ql0 : K.lookup f0 = some ⟨oc0, od0, .func (PySem.W.fnOf "__init__" "Turning.__init__" (defArgs s_Turning_init) (defBody s_Turning_init) (defScope s_Turning_init) .none kV0 dc0 pm0 an0 cd0 ct0), sl0⟩) (qc0 : PySem.W.codeIn K cd0 "Turning.__init__" = true) (qk0 : PySem.W.keepIn K (.ref f0) = true)
    (qa1 : PySem.W.nsIn K mainGlobals "_law_drawn" = some (some (.ref f1))) (ql1 : K.lookup f1 = some ⟨oc1, od1, .func (PySem.W.fnOf "_law_drawn" "_law_drawn" (defArgs s__law_drawn) (defBody s__law_drawn) (defScope s__law_drawn) .none kV1 dc1 pm1 an1 cd1 ct1), sl1⟩) (qc1 : PySem.W.codeIn K cd1 "_law_drawn" = true) (qk1 : PySem.W.keepIn K (.ref f1) = true)
    (qa2 : PySem.W.nsIn K mainGlobals "_law_ranks" = some (some (.ref f2))) (ql2 : K.lookup f2 = some ⟨oc2, od2, .func (PySem.W.fnOf "_law_ranks" "_law_ranks" (defArgs s__law_ranks) (defBody s__law_ranks) (defScope s__law_ranks) .none kV2 dc2 pm2 an2 cd2 ct2), sl2⟩) (qc2 : PySem.W.codeIn K cd2 "_law_ranks" = true) (qk2 : PySem.W.keepIn K (.ref f2) = true)
    (qa3 : PySem.W.findIn K (.ref ca0) "chosen" = some (some (.ref f3))) (qi3 : PySem.W.isFn K (.ref f3) = true) (ql3 : K.lookup f3 = some ⟨oc3, od3, .func (PySem.W.fnOf "chosen" "Highest.chosen" (defArgs s_Highest_chosen) (defBody s_Highest_chosen) (defScope s_Highest_chosen) .none kV3 dc3 pm3 an3 cd3 ct3), sl3⟩) (qc3 : PySem.W.codeIn K cd3 "Highest.chosen" = true) (qk3 : PySem.W.keepIn K (.ref f3) = true)
    (qa4 : PySem.W.findIn K (.ref ca1) "chosen" = some (some (.ref f4))) (qi4 : PySem.W.isFn K (.ref f4) = true) (ql4 : K.lookup f4 = some ⟨oc4, od4, .func (PySem.W.fnOf "chosen" "Turning.chosen" (defArgs s_Turning_chosen) (defBody s_Turning_chosen) (defScope s_Turning_chosen) .none kV4 dc4 pm4 an4 cd4 ct4), sl4⟩) (qc4 : PySem.W.codeIn K cd4 "Turning.chosen" = true) (qk4 : PySem.W.keepIn K (.ref f4) = true)
    (qa5 : PySem.W.findIn K (.ref ca2) "chosen" = some (some (.ref f5))) (qi5 : PySem.W.isFn K (.ref f5) = true) (ql5 : K.lookup f5 = some ⟨oc5, od5, .func (PySem.W.fnOf "chosen" "Way.chosen" (defArgs s_Way_chosen) (defBody s_Way_chosen) (defScope s_Way_chosen) .none kV5 dc5 pm5 an5 cd5 ct5), sl5⟩) (qc5 : PySem.W.codeIn K cd5 "Way.chosen" = true) (qk5 : PySem.W.keepIn K (.ref f5) = true)
    (qa6 : PySem.W.nsIn K mainGlobals "_law_due" = some (some (.ref f6))) (ql6 : K.lookup f6 = some ⟨oc6, od6, .func (PySem.W.fnOf "_law_due" "_law_due" (defArgs s__law_due) (defBody s__law_due) (defScope s__law_due) .none kV6 dc6 pm6 an6 cd6 ct6), sl6⟩) (qc6 : PySem.W.codeIn K cd6 "_law_due" = true) (qk6 : PySem.W.keepIn K (.ref f6) = true)
    (qa7 : PySem.W.nsIn K mainGlobals "_law_whole" = some (some (.ref f7))) (ql7 : K.lookup f7 = some ⟨oc7, od7, .func (PySem.W.fnOf "_law_whole" "_law_whole" (defArgs s__law_whole) (defBody s__law_whole) (defScope s__law_whole) .none kV7 dc7 pm7 an7 cd7 ct7), sl7⟩) (qc7 : PySem.W.codeIn K cd7 "_law_whole" = true) (qk7 : PySem.W.keepIn K (.ref f7) = true)
    (qa8 : PySem.W.nsIn K mainGlobals "law" = some (some (.ref f8))) (ql8 : K.lookup f8 = some ⟨oc8, od8, .func (PySem.W.fnOf "law" "law" (defArgs s_law) (defBody s_law) (defScope s_law) .none kV8 dc8 pm8 an8 cd8 ct8), sl8⟩) (qc8 : PySem.W.codeIn K cd8 "law" = true) (qk8 : PySem.W.keepIn K (.ref f8) = true)
    (qz0 : PySem.W.nsIn K mainGlobals "bool" = some none)
    (qz1 : PySem.W.nsIn K mainGlobals "int" = some none)
    (qz2 : PySem.W.nsIn K mainGlobals "isinstance" = some none)
    (qz3 : PySem.W.nsIn K mainGlobals "len" = some none)
    (qz4 : PySem.W.nsIn K mainGlobals "list" = some none)
    (qz5 : PySem.W.nsIn K mainGlobals "range" = some none)
    (qv0 : PySem.W.nsIn K mainGlobals "Highest" = some (some (.ref ca0)))
    (qv1 : PySem.W.nsIn K mainGlobals "Turning" = some (some (.ref ca1)))
    (qv2 : PySem.W.nsIn K mainGlobals "Way" = some (some (.ref ca2)))
    (pi0 : PySem.W.findIn K (.ref ca0) "__init__" = some (some (.builtin "object.__init__")))
    (pg0 : PySem.W.plainGet K ca0 Str.empty = true) (pd0 : PySem.W.hasDictIn K ca0 = true) (po0 : PySem.W.plainOver K ca0 = true) (pe0 : PySem.W.findIn K (.ref ca0) "__setattr__" = some (some (.builtin "object.__setattr__"))) (pm0_ : PySem.W.makesIn K ca0 = true) (pk0 : PySem.W.keepIn K (.ref ca0) = true)
    (pj0_0 : PySem.W.findIn K (.ref ca0) "__class__" = some (some (.builtin "object.__class__")))
    (pj0_1 : PySem.W.specialIn K (.builtin "object.__class__") "__get__" = some (some (.builtin "getset_descriptor.__get__")))
    (pj0_2 : PySem.W.takesIn K (.builtin "object.__class__") = some true)
    (pj0_3 : PySem.W.mroIn K ca0 (.type "object") = some true)
    (pq0_0 : PySem.W.kitOne K (.ref ca0) (.ref ca2) = some true)
    (pg1 : PySem.W.plainGet K ca1 Str.empty = true) (pd1 : PySem.W.hasDictIn K ca1 = true) (po1 : PySem.W.plainOver K ca1 = true) (pe1 : PySem.W.findIn K (.ref ca1) "__setattr__" = some (some (.builtin "object.__setattr__"))) (pm1_ : PySem.W.makesIn K ca1 = true) (pk1 : PySem.W.keepIn K (.ref ca1) = true)
    (pj1_0 : PySem.W.findIn K (.ref ca1) "__class__" = some (some (.builtin "object.__class__")))
    (pj1_1 : PySem.W.specialIn K (.builtin "object.__class__") "__get__" = some (some (.builtin "getset_descriptor.__get__")))
    (pj1_2 : PySem.W.takesIn K (.builtin "object.__class__") = some true)
    (pj1_3 : PySem.W.mroIn K ca1 (.type "object") = some true)
    (pq1_0 : PySem.W.kitOne K (.ref ca1) (.ref ca2) = some true)
    (pn1_0 : PySem.W.findIn K (.ref ca1) "times" = some none)
    (pi2 : PySem.W.findIn K (.ref ca2) "__init__" = some (some (.builtin "object.__init__")))
    (pg2 : PySem.W.plainGet K ca2 Str.empty = true) (pd2 : PySem.W.hasDictIn K ca2 = true) (po2 : PySem.W.plainOver K ca2 = true) (pe2 : PySem.W.findIn K (.ref ca2) "__setattr__" = some (some (.builtin "object.__setattr__"))) (pm2_ : PySem.W.makesIn K ca2 = true) (pk2 : PySem.W.keepIn K (.ref ca2) = true)
    (pj2_0 : PySem.W.findIn K (.ref ca2) "__class__" = some (some (.builtin "object.__class__")))
    (pj2_1 : PySem.W.specialIn K (.builtin "object.__class__") "__get__" = some (some (.builtin "getset_descriptor.__get__")))
    (pj2_2 : PySem.W.takesIn K (.builtin "object.__class__") = some true)
    (pj2_3 : PySem.W.mroIn K ca2 (.type "object") = some true)
    (pq2_0 : PySem.W.kitOne K (.ref ca2) (.ref ca2) = some true) : ∃ t, Txt K mg t := by
  have F0 := fun_mk (st := s_Turning_init) ql0 qc0 qk0
  have F1 := fun_mk (st := s__law_drawn) ql1 qc1 qk1
  have F2 := fun_mk (st := s__law_ranks) ql2 qc2 qk2
  have F3 := fun_mk (st := s_Highest_chosen) ql3 qc3 qk3
  have F4 := fun_mk (st := s_Turning_chosen) ql4 qc4 qk4
  have F5 := fun_mk (st := s_Way_chosen) ql5 qc5 qk5
  have F6 := fun_mk (st := s__law_due) ql6 qc6 qk6
  have F7 := fun_mk (st := s__law_whole) ql7 qc7 qk7
  have F8 := fun_mk (st := s_law) ql8 qc8 qk8
  exact ⟨⟨f0, _, f1, _, f2, _, f3, _, f4, _, f5, _, f6, _, f7, _, f8, _, ca0, ca1, ca2⟩, ⟨F0, F0.binds (ps := ["self"]) (fun _ _ _ _ _ _ us hl => match us, hl with | [_], _ => rfl),
    F1, F1.binds (ps := ["cell", "many"]) (fun _ _ _ _ _ _ us hl => match us, hl with | [_, _], _ => rfl), PySem.W.mg_of X G qa1,
    F2, F2.binds (ps := ["cell"]) (fun _ _ _ _ _ _ us hl => match us, hl with | [_], _ => rfl), PySem.W.mg_of X G qa2,
    F3, F3.binds (ps := ["self", "ranks"]) (fun _ _ _ _ _ _ us hl => match us, hl with | [_, _], _ => rfl), ⟨qa3, qi3, qk3⟩,
    F4, F4.binds (ps := ["self", "ranks"]) (fun _ _ _ _ _ _ us hl => match us, hl with | [_, _], _ => rfl), ⟨qa4, qi4, qk4⟩,
    F5, F5.binds (ps := ["self", "ranks"]) (fun _ _ _ _ _ _ us hl => match us, hl with | [_, _], _ => rfl), ⟨qa5, qi5, qk5⟩,
    F6, F6.binds (ps := ["which", "ranks", "turns"]) (fun _ _ _ _ _ _ us hl => match us, hl with | [_, _, _], _ => rfl), PySem.W.mg_of X G qa6,
    F7, F7.binds (ps := ["found"]) (fun _ _ _ _ _ _ us hl => match us, hl with | [_], _ => rfl), PySem.W.mg_of X G qa7,
    F8, F8.binds (ps := ["script"]) (fun _ _ _ _ _ _ us hl => match us, hl with | [_], _ => rfl), PySem.W.mg_of X G qa8,
    fun s v => .of_eq rfl,
    PySem.W.mg_none_of X G qz0,
    PySem.W.mg_none_of X G qz1,
    PySem.W.mg_none_of X G qz2,
    PySem.W.mg_none_of X G qz3,
    PySem.W.mg_none_of X G qz4,
    PySem.W.mg_none_of X G qz5,
    PySem.W.mg_of X G qv0,
    PySem.W.mg_of X G qv1,
    PySem.W.mg_of X G qv2,
    ⟨pg0, pd0, po0, pe0⟩,
    ⟨pm0_, pi0, pk0⟩,
    ⟨⟨pg0, pd0, po0, pe0⟩, pj0_0, pj0_1, pj0_2, pj0_3⟩,
    pq0_0,
    ⟨pg1, pd1, po1, pe1⟩,
    ⟨pm1_, qa0, qi0, pk1⟩,
    ⟨⟨pg1, pd1, po1, pe1⟩, pj1_0, pj1_1, pj1_2, pj1_3⟩,
    pq1_0,
    pn1_0,
    ⟨pg2, pd2, po2, pe2⟩,
    ⟨pm2_, pi2, pk2⟩,
    ⟨⟨pg2, pd2, po2, pe2⟩, pj2_0, pj2_1, pj2_2, pj2_3⟩,
    pq2_0⟩⟩
structure KF (K : PySem.W.Frag) : Prop where
  i_b : PySem.W.kitOne K (.type "int") (.type "bool") = some false
def drI (x : Int) : Prop := 0 ≤ x ∧ x < 3000000000
structure WyF (K : PySem.W.Frag) (t : Adr) : Prop where
  cl : Cls K t.c_Turning
  na : NoAttr K t.c_Turning "times"
  k1 : InsK K t.c_Way
  k2 : InsK K t.c_Highest
  k3 : InsK K t.c_Turning
  i1 : PySem.W.kitOne K (.ref t.c_Way) (.ref t.c_Way) = some true
  i2 : PySem.W.kitOne K (.ref t.c_Highest) (.ref t.c_Way) = some true
  i3 : PySem.W.kitOne K (.ref t.c_Turning) (.ref t.c_Way) = some true
def tuO (t : Adr) (dx : Addr) (n : Nat) : HO := .ins t.c_Turning dx [(Str.ofString "times", .int n)]
/-- a way by its number, that has chosen n times -/
def wyO (t : Adr) (i : Nat) (dx : Addr) (n : Nat) : HO := if i < 2 then .ins t.c_Way dx [] else if i = 2 then .ins t.c_Highest dx [] else tuO t dx n
def rkAt (rs : List Int) (k : Nat) : Int := rs.getD k 0
def dueW (i : Nat) (rs : List Int) (n : Nat) : Int := if i < 2 then rkAt rs 0 else if i = 2 then rkAt rs (rs.length - 1) else rkAt rs (n % rs.length)
def RkL (H : Hp) (l : Addr) (rs : List Int) : Prop := H l = some (.lst (rs.map V.int)) ∧ 0 < rs.length ∧ rs.length ≤ 300
def sp_Turning_init (t : Adr) : Sp := fun vs H Q _ => ∃ (x dx : Addr), vs = [.ref x] ∧ H x = some (.ins t.c_Turning dx []) ∧ Q .non (upd H x (tuO t dx 0))
def sp_Way_chosen : Sp := fun vs H Q _ => ∃ (x l : Addr) (rs : List Int), vs = [.ref x, .ref l] ∧ RkL H l rs ∧ Q (.int (rkAt rs 0)) H
def sp_Highest_chosen : Sp := fun vs H Q _ => ∃ (x l : Addr) (rs : List Int), vs = [.ref x, .ref l] ∧ RkL H l rs ∧ Q (.int (rkAt rs (rs.length - 1))) H
def sp_Turning_chosen (t : Adr) : Sp := fun vs H Q _ => ∃ (x l dx : Addr) (rs : List Int) (n : Nat), vs = [.ref x, .ref l] ∧ RkL H l rs ∧ H x = some (tuO t dx n) ∧ Q (.int (rkAt rs (n % rs.length))) (upd H x (tuO t dx (n + 1)))
def sp__law_whole : Sp := fun vs H Q _ => ∃ i, vs = [.int i] ∧ ∀ H', Same H H' → Q (.bl true) H'
def sp__law_drawn : Sp := fun vs H Q _ => ∃ c m, vs = [.int c, .int m] ∧ 0 ≤ m ∧ m ≤ 64 ∧ ∀ l xs H', Same H H' → H l = none → H' l = some (.lst (List.map V.int xs)) → (xs.length : Int) = m → (∀ x ∈ xs, drI x) → Q (.ref l) H'
def sp__law_ranks : Sp := fun vs H Q _ => ∃ c, vs = [.int c] ∧ ∀ l rs H', Same H H' → H l = none → RkL H' l rs → Q (.ref l) H'
def sp__law_due : Sp := fun vs H Q _ => ∃ (i : Nat) (l : Addr) (rs : List Int) (n : Nat), vs = [.int i, .ref l, .int n] ∧ RkL H l rs ∧ Q (.int (dueW i rs n)) H
def sp_law (K : PySem.W.Frag) : Sp := fun vs H Q _ => ∃ (a : Addr) (ns : List Int), vs = [.ref a] ∧ SqL K H a (ns.map V.int) ∧ ns.length ≤ 63 ∧ ∀ H', Q (.bl true) H'

def rd_Turning_init (K : PySem.W.Frag) (t : Adr) : TS := (sFld K (tVar 0) (tC (.int 0)) "times")
def rd__law_drawn (K : PySem.W.Frag) (t : Adr) : TS := (tSeq (tAsg (tOp (rI0 fun i j => .int (i + j)) (tOp (rI (fun _ j => 0 < j) fun i j => .int (i % j)) (tVar 0) (tC (.int 999999937))) (tC (.int 1))) (gName 2))
    (tSeq (tAsg (tOp (rI0 fun i j => .int (i + j)) (tOp (rI (fun _ j => 0 < j) fun i j => .int (i % j)) (tOp (rI CDivB fun i j => .int (i / j)) (tVar 0) (tC (.int 999999937))) (tC (.int 999999929))) (tC (.int 2))) (gName 3))
    (tSeq (tAsg (tLst tNil) (gName 4))
    (tSeq (tFor (iRng1 (tCons (tVar 1) tNil)) (gName 5)
      (tSeq (tAsg (tOp (rI (fun _ j => 0 < j) fun i j => .int (i % j)) (tOp (rI0 fun i j => .int (i + j)) (tOp (rI0 fun i j => .int (i + j)) (tOp (rI CMulB fun i j => .int (i * j)) (tVar 2) (tC (.int 40009))) (tVar 3)) (tVar 5)) (tC (.int 999999937))) (gName 2))
    (tSeq (tAsg (tOp (rI (fun _ j => 0 < j) fun i j => .int (i % j)) (tOp (rI0 fun i j => .int (i + j)) (tOp (rI CMulB fun i j => .int (i * j)) (tVar 3) (tC (.int 31))) (tOp (rI CMulB fun i j => .int (i * j)) (tVar 2) (tVar 2))) (tC (.int 999999929))) (gName 3))
    (tDrop (tBM K "list" r_mt_append (tVar 4) (tCons (tOp (rI0 fun i j => .int (i + j)) (tVar 2) (tVar 3)) tNil))))))
    (tRet (tVar 4))))))
def rd__law_ranks_6 (K : PySem.W.Frag) (t : Adr) : TS := (tSeq (tFor (iRng1 (tCons (tVar 2) tNil)) (gName 5)
      (tSeq (tDrop (tBM K "list" r_mt_append (tVar 4) (tCons (tVar 3) tNil)))
    (tAsg (tOp (rI0 fun i j => .int (i + j)) (tOp (rI0 fun i j => .int (i + j)) (tVar 3) (tC (.int 1))) (tOp (rI (fun _ j => 0 < j) fun i j => .int (i % j)) (tOp (rI CMulB fun i j => .int (i * j)) (tOp (rIxL K) (tVar 1) (tC (.int 2))) (tOp (rI0 fun i j => .int (i + j)) (tVar 5) (tC (.int 1)))) (tOp (rIxL K) (tLst (tCons (tC (.int 1)) (tCons (tC (.int 2)) (tCons (tC (.int 3000)) tNil)))) (tOp (rI (fun _ j => 0 < j) fun i j => .int (i % j)) (tOp (rIxL K) (tVar 1) (tC (.int 3))) (tC (.int 3)))))) (gName 3))))
    (tRet (tVar 4)))
def rd__law_ranks_5 (K : PySem.W.Frag) (t : Adr) : TS := (tSeq (tAsg (tLst tNil) (gName 4))
    (rd__law_ranks_6 K t))
def rd__law_ranks_3 (K : PySem.W.Frag) (t : Adr) : TS := (tSeq (tAsg (tOp (rI (fun _ j => 0 < j) fun i j => .int (i % j)) (tOp (rI CDivB fun i j => .int (i / j)) (tVar 0) (tC (.int 5))) (tOp (rI0 fun i j => .int (i - j)) (tOp (rI CPow fun i j => .int (i ^ j.toNat)) (tC (.int 10)) (tC (.int 29))) (tOp (rI CPow fun i j => .int (i ^ j.toNat)) (tC (.int 10)) (tC (.int 6))))) (gName 3))
    (tSeq (tIfS (tTest (tOp (rI0 fun i j => .bl (decide (j < i))) (tOp (rI (fun _ j => 0 < j) fun i j => .int (i % j)) (tOp (rIxL K) (tVar 1) (tC (.int 1))) (tC (.int 16))) (tC (.int 11))))
      (tAsg (tOp (rI0 fun i j => .int (i - j)) (tOp (rI CPow fun i j => .int (i ^ j.toNat)) (tC (.int 10)) (tC (.int 29))) (tOp (rI CPow fun i j => .int (i ^ j.toNat)) (tC (.int 10)) (tC (.int 6)))) (gName 3))
      tNext)
    (rd__law_ranks_5 K t)))
def rd__law_ranks (K : PySem.W.Frag) (t : Adr) : TS := (tSeq (tAsg (tCall sp__law_drawn [] E0 (tCons (tOp (rI CDivB fun i j => .int (i / j)) (tVar 0) (tC (.int 5))) (tCons (tC (.int 4)) tNil))) (gName 1))
    (tSeq (tAsg (tOp (rI0 fun i j => .int (i + j)) (tC (.int 1)) (tOp (rI (fun _ j => 0 < j) fun i j => .int (i % j)) (tOp (rIxL K) (tVar 1) (tC (.int 0))) (tC (.int 7)))) (gName 2))
    (tSeq (tIfS (tTest (tOp rEq (tOp (rI (fun _ j => 0 < j) fun i j => .int (i % j)) (tOp (rIxL K) (tVar 1) (tC (.int 1))) (tC (.int 16))) (tC (.int 3))))
      (tAsg (tOp (rI0 fun i j => .int (i + j)) (tC (.int 1)) (tOp (rI (fun _ j => 0 < j) fun i j => .int (i % j)) (tOp (rIxL K) (tVar 1) (tC (.int 0))) (tC (.int 300)))) (gName 2))
      tNext)
    (rd__law_ranks_3 K t))))
def rd_Highest_chosen (K : PySem.W.Frag) (t : Adr) : TS := (tRet (tOp (rIxL K) (tVar 1) (tUn (rU fun i => .int (-i)) (tC (.int 1)))))
def rd_Turning_chosen (K : PySem.W.Frag) (t : Adr) : TS := (tSeq (tAsg (tOp (rI (fun _ j => 0 < j) fun i j => .int (i % j)) (tFld K (tVar 0) "times") (tCB (cLen K) (tCons (tVar 1) tNil))) (gName 2))
    (tSeq (sFldAug K (tVar 0) (tC (.int 1)) rAdd "times")
    (tRet (tOp (rIxL K) (tVar 1) (tVar 2)))))
def rd_Way_chosen (K : PySem.W.Frag) (t : Adr) : TS := (tRet (tOp (rIxL K) (tVar 1) (tC (.int 0))))
def rd__law_due (K : PySem.W.Frag) (t : Adr) : TS := (tSeq (tIfS (tTest (tOp (rI0 fun i j => .bl (decide (i < j))) (tVar 0) (tC (.int 2))))
      (tRet (tOp (rIxL K) (tVar 1) (tC (.int 0))))
      tNext)
    (tSeq (tIfS (tTest (tOp rEq (tVar 0) (tC (.int 2))))
      (tRet (tOp (rIxL K) (tVar 1) (tOp (rI0 fun i j => .int (i - j)) (tCB (cLen K) (tCons (tVar 1) tNil)) (tC (.int 1)))))
      tNext)
    (tRet (tOp (rIxL K) (tVar 1) (tOp (rI (fun _ j => 0 < j) fun i j => .int (i % j)) (tVar 2) (tCB (cLen K) (tCons (tVar 1) tNil)))))))
def rd__law_whole (K : PySem.W.Frag) (t : Adr) : TS := (tRet (tAndV (tCB (cIsi K) (tCons (tVar 0) (tCons (tC (.ty "int")) tNil))) (tNotV (tCB (cIsi K) (tCons (tVar 0) (tCons (tC (.ty "bool")) tNil))))))
def rd_law_C (K : PySem.W.Frag) (t : Adr) : TS := (tSeq (tIfS (tOr (tTest (tOp (rEqL K true) (tVar 7) (tVar 6))) (tNot (tB (tCall sp__law_whole [] E0 (tCons (tVar 8) tNil)))))
      (tRet (tC (.bl false)))
      tNext)
    (tSeq (tDrop (tBM0 K "list" r_mt_clear (tVar 7)))
    (tSeq (tIfS (tTest (tOp rNe (tVar 8) (tCall sp__law_due [] E0 (tCons (tVar 5) (tCons (tVar 6) (tCons (tOp (rIxL K) (tVar 2) (tVar 5)) tNil))))))
      (tRet (tC (.bl false)))
      tNext)
    (sLPut (tVar 2) (tVar 5) (tOp (rI0 fun i j => .int (i + j)) (tOp (rIxL K) (tVar 2) (tVar 5)) (tC (.int 1)))))))
def rd_law_B (K : PySem.W.Frag) (t : Adr) : TS := (tSeq (tAsg (tMethU [(t.c_Highest, sp_Highest_chosen), (t.c_Turning, (sp_Turning_chosen t)), (t.c_Way, sp_Way_chosen)] "chosen" E0 (tOp (rIxL K) (tVar 1) (tVar 5)) (tCons (tVar 7) tNil)) (gName 8))
    (rd_law_C K t))
def rd_law_3 (K : PySem.W.Frag) (t : Adr) : TS := (tSeq (tFor (iList K (tVar 0)) (gName 4)
      (tSeq (tAsg (tOp (rI (fun _ j => 0 < j) fun i j => .int (i % j)) (tVar 4) (tC (.int 5))) (gName 5))
    (tSeq (tAsg (tCall sp__law_ranks [] E0 (tCons (tVar 4) tNil)) (gName 6))
    (tSeq (tAsg (tCB (cLst K) (tCons (tVar 6) tNil)) (gName 7))
    (rd_law_B K t)))))
    (tRet (tC (.bl true))))
def rd_law_2 (K : PySem.W.Frag) (t : Adr) : TS := (tSeq (tFor (iList K (tVar 1)) (gName 3)
      (tIfS (tNot (tB (tCB (cIsn K) (tCons (tVar 3) (tCons (tC (.ref t.c_Way)) tNil)))))
      (tRet (tC (.bl false)))
      tNext))
    (rd_law_3 K t))
def rd_law (K : PySem.W.Frag) (t : Adr) : TS := (tSeq (tAsg (tLst (tCons (tMakeO t.c_Way) (tCons (tMakeO t.c_Way) (tCons (tMakeO t.c_Highest) (tCons (tMake t.c_Turning (sp_Turning_init t) [] E0 tNil) (tCons (tMake t.c_Turning (sp_Turning_init t) [] E0 tNil) tNil)))))) (gName 1))
    (tSeq (tAsg (tLst (tCons (tC (.int 0)) (tCons (tC (.int 0)) (tCons (tC (.int 0)) (tCons (tC (.int 0)) (tCons (tC (.int 0)) tNil)))))) (gName 2))
    (rd_law_2 K t)))
section
variable {K : PySem.W.Frag} {t : Adr} {H : Hp} {Q : VK}
theorem pow10 {j : Int} (h0 : 0 ≤ j) (h1 : j ≤ 100) : CPow 10 j := ⟨h0, by omega, by decide⟩
theorem kit_same (T : String) : PySem.W.kitOne K (.type T) (.type T) = some true := by
  unfold PySem.W.kitOne
  rw [if_pos (by simp)]
theorem kf (K : PySem.W.Frag) : KF K := ⟨by with_unfolding_all rfl⟩
theorem dB {i j : Int} (h0 : 0 < j := by decide) (h1 : j < 10000000000000000000000000000000000000000000000 := by decide) : CDivB i j := by
  have hb : (10000000000000000000000000000000000000000000000 : Int) < big := by decide +kernel
  exact ⟨h0, by omega⟩
theorem at_lt {α : Type} {xs : List α} {i : Int} (h0 : 0 ≤ i) (h1 : i < xs.length) : ∃ x, atI xs i = some x ∧ x ∈ xs := by
  obtain ⟨n, rfl⟩ : ∃ n : Nat, i = (n : Int) := ⟨i.toNat, by omega⟩
  have hn : n < xs.length := by omega
  refine ⟨xs[n], ?_, List.getElem_mem hn⟩
  unfold atI ixN
  rw [if_pos h0, if_pos h1]
  simp [hn]
theorem at_mod {α : Type} {xs : List α} (e : Int) (n : Nat) (hl : xs.length = n) (hn : 0 < (n : Int)) : ∃ x, atI xs (e % n) = some x ∧ x ∈ xs :=
  at_lt (Int.emod_nonneg _ (by omega)) (by rw [hl]; exact Int.emod_lt_of_pos _ hn)
theorem same_upd {H H' : Hp} {w : Addr} {o : HO} (s : Same H H') (hw : H w = none) : Same H (upd H' w o) := fun b u e => by rw [upd_ne (ne_of_none e hw)]; exact s b u e
theorem fresh_of {H H' : Hp} {D : Addr} (s : Same H H') (h : H' D = none) : H D = none := by
  cases e : H D with
  | none => rfl
  | some o => rw [s _ _ e] at h; cases h
def drwI (c m : Int) (A : Addr) (H : Hp) (i : Nat) (σ : St) (H' : Hp) : Prop := ∃ lo hi o, ∃ xs : List Int, σ = [some (.int c), some (.int m), some (.int lo), some (.int hi), some (.ref A), o] ∧ (0 ≤ lo ∧ lo < 1500000000) ∧ (0 ≤ hi ∧ hi < 1500000000) ∧ H' A = some (.lst (xs.map V.int)) ∧ xs.length = i ∧ (∀ x ∈ xs, drI x) ∧ Same H H'
theorem drw_put {c m lo hi : Int} {A : Addr} {H H' : Hp} {i : Nat} {o : Option V} {xs : List Int} (hA : H A = none) (hx : H' A = some (.lst (xs.map V.int))) (hl : xs.length = i) (hs : ∀ x ∈ xs, drI x) (S : Same H H') (l1 : 0 ≤ lo ∧ lo < 1500000000) (l2 : 0 ≤ hi ∧ hi < 1500000000) :
    drwI c m A H (i + 1) [some (.int c), some (.int m), some (.int lo), some (.int hi), some (.ref A), o] (upd H' A (.lst (xs.map V.int ++ [V.int (lo + hi)]))) := by
  refine ⟨_, _, _, xs ++ [lo + hi], rfl, l1, l2, ?_, ?_, ?_, ?_⟩
  · rw [upd_same, List.map_append]; rfl
  · rw [List.length_append, hl]; rfl
  · intro x hx
    rcases List.mem_append.mp hx with h | h
    · exact hs x h
    · rw [List.mem_singleton.mp h]; exact ⟨by omega, by omega⟩
  · exact fun b o e => by rw [upd_ne (fun z => by subst z; rw [hA] at e; cases e)]; exact S _ _ e
theorem rdp__law_drawn {c m : Int} (h0 : 0 ≤ m) (h1 : m ≤ 64) (q : ∀ l xs H', Same H H' → H l = none → H' l = some (.lst (List.map V.int xs)) → (xs.length : Int) = m → (∀ x ∈ xs, drI x) → Q (.ref l) H') :
    rd__law_drawn K t { nx := fun _ H' => Q .non H', rt := Q } (L2.start ["cell", "many", "low", "high", "found", "k"] [.int c, .int m]) H := by
  simp only [rd__law_drawn, L2.start, r_mt_append, rAppend, tSeq, tAsg, gName, tRet, tDrop, tOp, tVar, tC, tLst, tCons, tNil, tFor, tBM, tyV, iRng1, rI, rI0, List.map, List.replicate, List.length, List.append, List.cons_append, List.nil_append, List.append_nil, List.getElem?_cons_zero, List.getElem?_cons_succ, Option.some.injEq, exists_eq_left', exists_eq_left, V.int.injEq, V.ref.injEq, V.str.injEq, V.bl.injEq, V.ty.injEq, List.cons.injEq, and_true, true_and, and_assoc, exists_and_left, List.set_cons_zero, List.set_cons_succ, Nat.reduceSub, Nat.reduceAdd, decide_eq_true_eq, Bool.not_eq_true', decide_eq_false_iff_not, Int.reduceToNat, Int.reducePow, Int.reduceNeg, Int.reduceMul, Int.reduceAdd, if_true, ite_true, Bool.false_eq_true, ite_false, if_false]
  have hb : (10000000000000000000000000000000000000000000000 : Int) < big := by decide +kernel
  have g1 := Int.emod_nonneg c (b := 999999937) (by decide)
  have g2 := Int.emod_lt_of_pos c (b := 999999937) (by decide)
  have g3 := Int.emod_nonneg (c / 999999937) (b := 999999929) (by decide)
  have g4 := Int.emod_lt_of_pos (c / 999999937) (b := 999999929) (by decide)
  refine ⟨by decide, dB, by decide, Nat.zero_le _, fun A hA => ⟨by omega, by omega, loop_range (drwI c m A H) ⟨_, _, _, [], rfl, ⟨by omega, by omega⟩, ⟨by omega, by omega⟩, upd_same, rfl, (fun _ z => nomatch z), isV A hA⟩ ?_ ?_⟩⟩
  · rintro i σ H' hi ⟨lo, hi, o, xs, rfl, l1, l2, hx, hl, hs, S⟩
    simp only [L2.start, r_mt_append, rAppend, tSeq, tAsg, gName, tRet, tDrop, tOp, tVar, tC, tLst, tCons, tNil, tFor, tBM, tyV, iRng1, rI, rI0, List.map, List.replicate, List.length, List.append, List.cons_append, List.nil_append, List.append_nil, List.getElem?_cons_zero, List.getElem?_cons_succ, Option.some.injEq, exists_eq_left', exists_eq_left, V.int.injEq, V.ref.injEq, V.str.injEq, V.bl.injEq, V.ty.injEq, List.cons.injEq, and_true, true_and, and_assoc, exists_and_left, List.set_cons_zero, List.set_cons_succ, Nat.reduceSub, Nat.reduceAdd, decide_eq_true_eq, Bool.not_eq_true', decide_eq_false_iff_not, Int.reduceToNat, Int.reducePow, Int.reduceNeg, Int.reduceMul, Int.reduceAdd, if_true, ite_true, Bool.false_eq_true, ite_false, if_false]
    have a1 := Int.emod_nonneg (lo * 40009 + hi + (0 + (i : Int))) (b := 999999937) (by decide)
    have a2 := Int.emod_lt_of_pos (lo * 40009 + hi + (0 + (i : Int))) (b := 999999937) (by decide)
    generalize (lo * 40009 + hi + (0 + (i : Int))) % 999999937 = lo' at *
    have b1 := Int.emod_nonneg (hi * 31 + lo' * lo') (b := 999999929) (by decide)
    have b2 := Int.emod_lt_of_pos (hi * 31 + lo' * lo') (b := 999999929) (by decide)
    refine ⟨⟨⟨by omega, by omega⟩, by omega, by omega⟩, by decide, ⟨⟨by omega, by omega⟩, by omega, by omega⟩, ⟨⟨by omega, by omega⟩, by omega, by omega⟩, by decide, .inl ⟨_, SqL.of hx⟩, _, hx, Nat.lt_of_lt_of_le (m := 100000) (by rw [List.length_map]; omega) (by decide), ?_⟩
    exact drw_put hA hx hl hs S ⟨by omega, by omega⟩ ⟨by omega, by omega⟩
  · rintro σ H' ⟨lo, hi, o, xs, rfl, l1, l2, hx, hl, hs, S⟩
    exact ⟨_, rfl, q _ _ _ S hA hx (by omega) hs⟩
theorem at_dr {xs : List Int} {k : Nat} (h : k < xs.length) (hs : ∀ x ∈ xs, drI x) : ∃ x, atI (xs.map V.int) (k : Int) = some (V.int x) ∧ drI x := by
  obtain ⟨v, h1, h2⟩ := at_lt (xs := xs.map V.int) (i := (k : Int)) (by omega) (by rw [List.length_map]; omega)
  obtain ⟨x, hx, rfl⟩ := List.mem_map.mp h2
  exact ⟨x, h1, hs x hx⟩
theorem rdp__law_whole {i : Int} (kf : KF K) (q : ∀ H', Same H H' → Q (.bl true) H') :
    rd__law_whole K t { nx := fun _ H' => Q .non H', rt := Q } (L2.start ["found"] [.int i]) H := by
  simp only [rd__law_whole, L2.start, tRet, tVar, tC, tCons, tNil, tAndV, tNotV, tCB, cIsi, List.map, List.replicate, List.length, List.append, List.cons_append, List.nil_append, List.append_nil, List.getElem?_cons_zero, List.getElem?_cons_succ, Option.some.injEq, exists_eq_left', exists_eq_left, V.int.injEq, V.ref.injEq, V.str.injEq, V.bl.injEq, V.ty.injEq, List.cons.injEq, and_true, true_and, and_assoc, exists_and_left, List.set_cons_zero, List.set_cons_succ, Nat.reduceSub, Nat.reduceAdd, decide_eq_true_eq, Bool.not_eq_true', decide_eq_false_iff_not, Int.reduceToNat, Int.reducePow, Int.reduceNeg, Int.reduceMul, Int.reduceAdd, if_true, ite_true, Bool.false_eq_true, ite_false, if_false]
  refine ⟨_, .int _, true, kit_same _, ?_⟩
  rw [if_pos rfl]
  exact ⟨_, .int _, false, kf.i_b, q _ (Same.refl _)⟩
theorem wyF {P : Str → Option Value} (T : Txt K P t) : WyF K t := ⟨T.cl_Turning, T.na_Turning_times, T.ik_Way, T.ik_Highest, T.ik_Turning, T.in_Way_Way, T.in_Highest_Way, T.in_Turning_Way⟩
theorem rk_at {rs : List Int} {k : Nat} (h : k < rs.length) : atI (rs.map V.int) (k : Nat) = some (.int (rkAt rs k)) := atI_nat (by
  rw [List.getElem?_map, List.getElem?_eq_getElem h]
  unfold rkAt
  rw [List.getD_eq_getElem?_getD, List.getElem?_eq_getElem h]
  rfl)
theorem rk_last {rs : List Int} (h : 0 < rs.length) : atI (rs.map V.int) (-1) = some (.int (rkAt rs (rs.length - 1))) := by
  have e : ixN (rs.map V.int).length (-1) = some (rs.length - 1) := by
    unfold ixN
    rw [List.length_map]
    simp
    omega
  unfold atI
  rw [e]
  show (rs.map V.int)[rs.length - 1]? = _
  rw [List.getElem?_map, List.getElem?_eq_getElem (by omega)]
  unfold rkAt
  rw [List.getD_eq_getElem?_getD, List.getElem?_eq_getElem (by omega)]
  rfl
theorem rdp_Turning_init {x dx : Addr} (F : WyF K t) (h1 : H x = some (.ins t.c_Turning dx [])) (q : Q .non (upd H x (tuO t dx 0))) :
    rd_Turning_init K t { nx := fun _ H' => Q .non H', rt := Q } (L2.start ["self"] [.ref x]) H := by
  simp only [rd_Turning_init, sFld, putF, L2.start, tVar, tC, List.map, List.replicate, List.length, List.append, List.cons_append, List.nil_append, List.append_nil, List.getElem?_cons_zero, List.getElem?_cons_succ, Option.some.injEq, exists_eq_left', exists_eq_left, V.int.injEq, V.ref.injEq, V.str.injEq, V.bl.injEq, V.ty.injEq, List.cons.injEq, and_true, true_and, and_assoc, exists_and_left, List.set_cons_zero, List.set_cons_succ, Nat.reduceSub, Nat.reduceAdd, decide_eq_true_eq, Bool.not_eq_true', decide_eq_false_iff_not, Int.reduceToNat, Int.reducePow, Int.reduceNeg, Int.reduceMul, Int.reduceAdd, if_true, ite_true, Bool.false_eq_true, ite_false, if_false]
  exact ⟨_, _, _, h1, F.cl, F.na, by decide, q⟩
theorem rdp_Way_chosen {x l : Addr} {rs : List Int} (h1 : RkL H l rs) (q : Q (.int (rkAt rs 0)) H) :
    rd_Way_chosen K t { nx := fun _ H' => Q .non H', rt := Q } (L2.start ["self", "ranks"] [.ref x, .ref l]) H := by
  simp only [rd_Way_chosen, L2.start, tRet, tOp, tVar, tC, rIxL, List.map, List.replicate, List.length, List.append, List.cons_append, List.nil_append, List.append_nil, List.getElem?_cons_zero, List.getElem?_cons_succ, Option.some.injEq, exists_eq_left', exists_eq_left, V.int.injEq, V.ref.injEq, V.str.injEq, V.bl.injEq, V.ty.injEq, List.cons.injEq, and_true, true_and, and_assoc, exists_and_left, List.set_cons_zero, List.set_cons_succ, Nat.reduceSub, Nat.reduceAdd, decide_eq_true_eq, Bool.not_eq_true', decide_eq_false_iff_not, Int.reduceToNat, Int.reducePow, Int.reduceNeg, Int.reduceMul, Int.reduceAdd, if_true, ite_true, Bool.false_eq_true, ite_false, if_false]
  exact ⟨_, SqL.of h1.1, _, rk_at h1.2.1, q⟩
theorem rdp_Highest_chosen {x l : Addr} {rs : List Int} (h1 : RkL H l rs) (q : Q (.int (rkAt rs (rs.length - 1))) H) :
    rd_Highest_chosen K t { nx := fun _ H' => Q .non H', rt := Q } (L2.start ["self", "ranks"] [.ref x, .ref l]) H := by
  simp only [rd_Highest_chosen, L2.start, tRet, tOp, tUn, tVar, tC, rIxL, rU, List.map, List.replicate, List.length, List.append, List.cons_append, List.nil_append, List.append_nil, List.getElem?_cons_zero, List.getElem?_cons_succ, Option.some.injEq, exists_eq_left', exists_eq_left, V.int.injEq, V.ref.injEq, V.str.injEq, V.bl.injEq, V.ty.injEq, List.cons.injEq, and_true, true_and, and_assoc, exists_and_left, List.set_cons_zero, List.set_cons_succ, Nat.reduceSub, Nat.reduceAdd, decide_eq_true_eq, Bool.not_eq_true', decide_eq_false_iff_not, Int.reduceToNat, Int.reducePow, Int.reduceNeg, Int.reduceMul, Int.reduceAdd, if_true, ite_true, Bool.false_eq_true, ite_false, if_false]
  exact ⟨_, SqL.of h1.1, _, rk_last h1.2.1, q⟩
theorem rdp_Turning_chosen {x l dx : Addr} {rs : List Int} {n : Nat} (F : WyF K t) (h1 : RkL H l rs) (h2 : H x = some (tuO t dx n)) (q : Q (.int (rkAt rs (n % rs.length))) (upd H x (tuO t dx (n + 1)))) :
    rd_Turning_chosen K t { nx := fun _ H' => Q .non H', rt := Q } (L2.start ["self", "ranks", "at"] [.ref x, .ref l]) H := by
  simp only [rd_Turning_chosen, tFld, putF, sFldAug, rAdd, L2.start, tSeq, tAsg, gName, tRet, tOp, tVar, tC, tCons, tNil, tCB, LenV, rIxL, rI, cLen, List.map, List.replicate, List.length, List.append, List.cons_append, List.nil_append, List.append_nil, List.getElem?_cons_zero, List.getElem?_cons_succ, Option.some.injEq, exists_eq_left', exists_eq_left, V.int.injEq, V.ref.injEq, V.str.injEq, V.bl.injEq, V.ty.injEq, List.cons.injEq, and_true, true_and, and_assoc, exists_and_left, List.set_cons_zero, List.set_cons_succ, Nat.reduceSub, Nat.reduceAdd, decide_eq_true_eq, Bool.not_eq_true', decide_eq_false_iff_not, Int.reduceToNat, Int.reducePow, Int.reduceNeg, Int.reduceMul, Int.reduceAdd, if_true, ite_true, Bool.false_eq_true, ite_false, if_false]
  have e1 : ((n : Int) % (rs.length : Int)) = ((n % rs.length : Nat) : Int) := (Int.natCast_emod n rs.length).symm
  have nl : l ≠ x := ne_of h1.1 h2 (fun z => nomatch z)
  have p1 := h1.2.1
  refine ⟨_, _, _, h2, F.cl, F.na, _, rfl, rs.length, .inl ⟨_, SqL.of h1.1, (List.length_map ..).symm⟩, n, rfl, by omega, _, _, _, h2, F.cl, F.na, _, rfl, n, rfl, _, _, h2, show 1 < 1000 by decide, _, SqL.of (by rw [upd_ne nl]; exact h1.1), _, ?_, q⟩
  rw [e1]
  exact rk_at (Nat.mod_lt _ p1)
theorem rdp__law_due {i n : Nat} {l : Addr} {rs : List Int} (h1 : RkL H l rs) (q : Q (.int (dueW i rs n)) H) :
    rd__law_due K t { nx := fun _ H' => Q .non H', rt := Q } (L2.start ["which", "ranks", "turns"] [.int i, .ref l, .int n]) H := by
  simp only [rd__law_due, L2.start, tSeq, tRet, tNext, tOp, tVar, tC, tCons, tNil, tIfS, tTest, tCB, LenV, rIxL, rEq, rI, rI0, cLen, scal, List.map, List.replicate, List.length, List.append, List.cons_append, List.nil_append, List.append_nil, List.getElem?_cons_zero, List.getElem?_cons_succ, Option.some.injEq, exists_eq_left', exists_eq_left, V.int.injEq, V.ref.injEq, V.str.injEq, V.bl.injEq, V.ty.injEq, List.cons.injEq, and_true, true_and, and_assoc, exists_and_left, List.set_cons_zero, List.set_cons_succ, Nat.reduceSub, Nat.reduceAdd, decide_eq_true_eq, Bool.not_eq_true', decide_eq_false_iff_not, Int.reduceToNat, Int.reducePow, Int.reduceNeg, Int.reduceMul, Int.reduceAdd, if_true, ite_true, Bool.false_eq_true, ite_false, if_false]
  have p1 := h1.2.1
  unfold dueW at q
  by_cases c : i < 2
  · rw [if_pos c] at q
    rw [if_pos (by omega)]
    exact ⟨_, SqL.of h1.1, _, rk_at p1, q⟩
  · rw [if_neg c] at q
    rw [if_neg (by omega)]
    by_cases c2 : i = 2
    · rw [if_pos c2] at q
      rw [if_pos (by omega)]
      have e : ((rs.length : Int) - 1) = ((rs.length - 1 : Nat) : Int) := by omega
      exact ⟨rs.length, .inl ⟨_, SqL.of h1.1, (List.length_map ..).symm⟩, _, SqL.of h1.1, _, by rw [e]; exact rk_at (by omega), q⟩
    · rw [if_neg c2] at q
      rw [if_neg (by omega)]
      have e1 : ((n : Int) % (rs.length : Int)) = ((n % rs.length : Nat) : Int) := (Int.natCast_emod n rs.length).symm
      exact ⟨rs.length, .inl ⟨_, SqL.of h1.1, (List.length_map ..).symm⟩, by omega, _, SqL.of h1.1, _, by rw [e1]; exact rk_at (Nat.mod_lt _ p1), q⟩
def rkI (c mn : Int) (xl l : Addr) (H0 : Hp) (xs : List Int) (i : Nat) (σ : St) (H : Hp) : Prop := ∃ (a0 : Int) (o : Option V) (rs : List Int), σ = [some (.int c), some (.ref xl), some (.int mn), some (.int a0), some (.ref l), o] ∧ rs.length = i ∧ H l = some (.lst (rs.map V.int)) ∧ H xl = some (.lst (xs.map V.int)) ∧ Same H0 H
theorem rdp_ranks6 {c mn at0 : Int} {xs : List Int} {xl l : Addr} {H0 : Hp} (q : ∀ l rs H', Same H0 H' → H0 l = none → RkL H' l rs → Q (.ref l) H') (sm : Same H0 H) (fl : H0 l = none) (hx : H xl = some (.lst (xs.map V.int))) (lx : xs.length = 4) (dx : ∀ x ∈ xs, drI x) (hl : H l = some (.lst [])) (m1 : 1 ≤ mn) (m2 : mn ≤ 300) (nx : xl ≠ l) :
    rd__law_ranks_6 K t { nx := fun _ H' => Q .non H', rt := Q } [some (.int c), some (.ref xl), some (.int mn), some (.int at0), some (.ref l), none] H := by
  simp only [rd__law_ranks_6, L2.start, r_mt_append, rAppend, tSeq, tAsg, gName, tRet, tDrop, tOp, tVar, tC, tLst, tCons, tNil, tFor, tBM, tyV, iRng1, rIxL, rI, rI0, List.map, List.replicate, List.length, List.append, List.cons_append, List.nil_append, List.append_nil, List.getElem?_cons_zero, List.getElem?_cons_succ, Option.some.injEq, exists_eq_left', exists_eq_left, V.int.injEq, V.ref.injEq, V.str.injEq, V.bl.injEq, V.ty.injEq, List.cons.injEq, and_true, true_and, and_assoc, exists_and_left, List.set_cons_zero, List.set_cons_succ, Nat.reduceSub, Nat.reduceAdd, decide_eq_true_eq, Bool.not_eq_true', decide_eq_false_iff_not, Int.reduceToNat, Int.reducePow, Int.reduceNeg, Int.reduceMul, Int.reduceAdd, if_true, ite_true, Bool.false_eq_true, ite_false, if_false]
  have hb : (1000000000000000000000000000000000000000000000000000000000000 : Int) < big := by decide +kernel
  refine ⟨by omega, by omega, loop_range (rkI c mn xl l H0 xs) ⟨at0, _, [], rfl, rfl, hl, hx, sm⟩ ?_ ?_⟩
  · rintro i σ H1 hi ⟨a0, o, rs, rfl, lr, hl, hx, sm⟩
    simp only [L2.start, r_mt_append, rAppend, tSeq, tAsg, gName, tRet, tDrop, tOp, tVar, tC, tLst, tCons, tNil, tFor, tBM, tyV, iRng1, rIxL, rI, rI0, List.map, List.replicate, List.length, List.append, List.cons_append, List.nil_append, List.append_nil, List.getElem?_cons_zero, List.getElem?_cons_succ, Option.some.injEq, exists_eq_left', exists_eq_left, V.int.injEq, V.ref.injEq, V.str.injEq, V.bl.injEq, V.ty.injEq, List.cons.injEq, and_true, true_and, and_assoc, exists_and_left, List.set_cons_zero, List.set_cons_succ, Nat.reduceSub, Nat.reduceAdd, decide_eq_true_eq, Bool.not_eq_true', decide_eq_false_iff_not, Int.reduceToNat, Int.reducePow, Int.reduceNeg, Int.reduceMul, Int.reduceAdd, if_true, ite_true, Bool.false_eq_true, ite_false, if_false, Int.zero_add]
    obtain ⟨x2, e2, d2⟩ := at_dr (k := 2) (by omega) dx
    obtain ⟨x3, e3, d3⟩ := at_dr (k := 3) (by omega) dx
    have lm : (rs.map V.int).length = rs.length := List.length_map ..
    have hx1 : upd H1 l (HO.lst (rs.map V.int ++ [V.int a0])) xl = some (.lst (xs.map V.int)) := by rw [upd_ne nx]; exact hx
    have hl1 : upd H1 l (HO.lst (rs.map V.int ++ [V.int a0])) l = some (.lst ((rs ++ [a0]).map V.int)) := by rw [upd_same, List.map_append]; rfl
    have sm1 : Same H0 (upd H1 l (HO.lst (rs.map V.int ++ [V.int a0]))) := same_upd sm fl
    refine ⟨.inl ⟨_, SqL.of hl⟩, _, hl, Nat.lt_of_le_of_lt (by omega : _ ≤ 900) (by decide), _, SqL.of hx1, _, e2, x2, rfl, ?_⟩
    generalize upd H1 l (HO.lst (rs.map V.int ++ [V.int a0])) = H2 at *
    obtain ⟨b1, b2⟩ := d2
    refine ⟨⟨⟨by omega, by omega⟩, by omega, by omega⟩, by decide, fun p hp => ?_⟩
    have s2 := isV (o := HO.lst [V.int 1, V.int 2, V.int 3000]) p hp
    obtain ⟨v, hv, hm⟩ := at_mod x3 3 (xs := [V.int 1, V.int 2, V.int 3000]) rfl (by decide)
    have pv : ∃ x : Int, v = .int x ∧ 0 < x := by
      simp only [List.mem_cons, List.not_mem_nil, or_false] at hm
      rcases hm with rfl | rfl | rfl
      · exact ⟨1, rfl, by decide⟩
      · exact ⟨2, rfl, by decide⟩
      · exact ⟨3000, rfl, by decide⟩
    obtain ⟨x, rfl, px⟩ := pv
    exact ⟨_, SqL.of (s2 _ _ hx1), _, e3, x3, rfl, by decide, _, SqL.of upd_same, _, hv, x, rfl, px, _, _, rs ++ [a0], rfl, by rw [List.length_append, lr]; rfl, s2 _ _ hl1, s2 _ _ hx1, sm1.trans s2⟩
  · rintro σ H1 ⟨a0, o, rs, rfl, lr, hl, hx, sm⟩
    exact ⟨_, rfl, q l rs H1 sm fl ⟨hl, by omega, by omega⟩⟩
theorem rdp_ranks3 {c mn : Int} {xs : List Int} {xl : Addr} {H0 : Hp} (q : ∀ l rs H', Same H0 H' → H0 l = none → RkL H' l rs → Q (.ref l) H') (sm : Same H0 H) (hx : H xl = some (.lst (xs.map V.int))) (lx : xs.length = 4) (dx : ∀ x ∈ xs, drI x) (m1 : 1 ≤ mn) (m2 : mn ≤ 300) :
    rd__law_ranks_3 K t { nx := fun _ H' => Q .non H', rt := Q } [some (.int c), some (.ref xl), some (.int mn), none, none, none] H := by
  simp only [rd__law_ranks_3, rd__law_ranks_5, L2.start, r_mt_append, rAppend, tSeq, tAsg, gName, tRet, tDrop, tNext, tOp, tVar, tC, tLst, tCons, tNil, tFor, tIfS, tTest, tBM, tyV, iRng1, rIxL, rI, rI0, List.map, List.replicate, List.length, List.append, List.cons_append, List.nil_append, List.append_nil, List.getElem?_cons_zero, List.getElem?_cons_succ, Option.some.injEq, exists_eq_left', exists_eq_left, V.int.injEq, V.ref.injEq, V.str.injEq, V.bl.injEq, V.ty.injEq, List.cons.injEq, and_true, true_and, and_assoc, exists_and_left, List.set_cons_zero, List.set_cons_succ, Nat.reduceSub, Nat.reduceAdd, decide_eq_true_eq, Bool.not_eq_true', decide_eq_false_iff_not, Int.reduceToNat, Int.reducePow, Int.reduceNeg, Int.reduceMul, Int.reduceAdd, if_true, ite_true, Bool.false_eq_true, ite_false, if_false]
  have P29 := pow10 (j := 29) (by decide) (by decide)
  have P6 := pow10 (j := 6) (by decide) (by decide)
  obtain ⟨x1, e1, d1⟩ := at_dr (k := 1) (by omega) dx
  have go : ∀ a0 p, H p = none → rd__law_ranks_6 K t { nx := fun x H' => Q V.non H', rt := Q } [some (V.int c), some (V.ref xl), some (V.int mn), some (V.int a0), some (V.ref p), none] (upd H p (HO.lst [])) := fun a0 p hp => by
    have s1 := isV (o := HO.lst []) p hp
    exact rdp_ranks6 q (sm.trans s1) (fresh_of sm hp) (s1 _ _ hx) lx dx upd_same m1 m2 (fun z => by rw [z, hp] at hx; cases hx)
  exact ⟨dB, P29, P6, by decide, _, SqL.of hx, _, e1, x1, rfl, by decide, ite2 (fun _ => ⟨P29, P6, by decide, fun p hp => go _ p hp⟩) fun _ => ⟨by decide, fun p hp => go _ p hp⟩⟩
theorem rdp__law_ranks {c : Int} (q : ∀ l rs H', Same H H' → H l = none → RkL H' l rs → Q (.ref l) H') :
    rd__law_ranks K t { nx := fun _ H' => Q .non H', rt := Q } (L2.start ["cell", "xs", "many", "at", "ranks", "k"] [.int c]) H := by
  simp only [rd__law_ranks, sp__law_drawn, L2.start, r_mt_append, rAppend, tSeq, tAsg, gName, tRet, tDrop, tNext, tOp, tVar, tC, tLst, tCons, tNil, tFor, tIfS, tTest, tBM, tyV, tCall, iRng1, rIxL, rEq, rI, rI0, scal, List.map, List.replicate, List.length, List.append, List.cons_append, List.nil_append, List.append_nil, List.getElem?_cons_zero, List.getElem?_cons_succ, Option.some.injEq, exists_eq_left', exists_eq_left, V.int.injEq, V.ref.injEq, V.str.injEq, V.bl.injEq, V.ty.injEq, List.cons.injEq, and_true, true_and, and_assoc, exists_and_left, List.set_cons_zero, List.set_cons_succ, Nat.reduceSub, Nat.reduceAdd, decide_eq_true_eq, Bool.not_eq_true', decide_eq_false_iff_not, Int.reduceToNat, Int.reducePow, Int.reduceNeg, Int.reduceMul, Int.reduceAdd, if_true, ite_true, Bool.false_eq_true, ite_false, if_false]
  refine ⟨dB, by decide, by decide, fun xl xs H1 s1 fx hx lx dx => ?_⟩
  have lx : xs.length = 4 := by omega
  obtain ⟨x0, e0, d0⟩ := at_dr (k := 0) (by omega) dx
  obtain ⟨x1, e1, d1⟩ := at_dr (k := 1) (by omega) dx
  refine ⟨_, SqL.of hx, _, e0, x0, rfl, by decide, _, SqL.of hx, _, e1, x1, rfl, by decide, ?_⟩
  have g1 := Int.emod_nonneg x0 (b := 300) (by decide)
  have g2 := Int.emod_lt_of_pos x0 (b := 300) (by decide)
  have g3 := Int.emod_nonneg x0 (b := 7) (by decide)
  have g4 := Int.emod_lt_of_pos x0 (b := 7) (by decide)
  refine ite2 (fun _ => ⟨_, SqL.of hx, _, e0, x0, rfl, by decide, rdp_ranks3 q s1 hx lx dx (by omega) (by omega)⟩) fun _ => rdp_ranks3 q s1 hx lx dx (by omega) (by omega)

/-- the five ways, how often each was asked, and what was handed in -/
structure WsAt (t : Adr) (H0 H : Hp) (wl tl : Addr) (X D N : Nat → Nat) : Prop where
  sm : Same H0 H
  hw : H wl = some (.lst [.ref (X 0), .ref (X 1), .ref (X 2), .ref (X 3), .ref (X 4)])
  ht : H tl = some (.lst [.int (N 0), .int (N 1), .int (N 2), .int (N 3), .int (N 4)])
  hx : ∀ i, i < 5 → H (X i) = some (wyO t i (D i) (N i))
  nx : ∀ i j, i < 5 → j < 5 → i ≠ j → X i ≠ X j
  fx : ∀ i, i < 5 → H0 (X i) = none
  ft : H0 tl = none
theorem wy_lst (t : Adr) (i d n : Nat) (xs : List V) : wyO t i d n ≠ .lst xs := by
  unfold wyO tuO
  split
  · exact fun z => nomatch z
  · split
    · exact fun z => nomatch z
    · exact fun z => nomatch z
theorem five {i : Nat} (h : i < 5) : i = 0 ∨ i = 1 ∨ i = 2 ∨ i = 3 ∨ i = 4 := by omega
def incN (N : Nat → Nat) (w : Nat) : Nat → Nat := fun i => if i = w then N i + 1 else N i
theorem ints_flat : ∀ (rs : List Int), (rs.map V.int).all isFlat = true
  | [] => rfl
  | i :: r => by rw [List.map_cons, List.all_cons, ints_flat r]; rfl
theorem ints_mix : ∀ (rs : List Int), mixAll (rs.map V.int) (rs.map V.int) = true
  | [] => rfl
  | i :: r => by rw [List.map_cons, mixAll, ints_mix r]; rfl
theorem at5 {β : Type} (F : Nat → β) {i : Nat} (hi : i < 5) : atI [F 0, F 1, F 2, F 3, F 4] (i : Nat) = some (F i) := by
  rcases five hi with rfl | rfl | rfl | rfl | rfl <;> rfl
theorem set5 {N : Nat → Nat} {w : Nat} (hw : w < 5) : ([V.int (N 0), V.int (N 1), V.int (N 2), V.int (N 3), V.int (N 4)] : List V).set w (V.int ((N w : Int) + 1)) = [V.int (incN N w 0), V.int (incN N w 1), V.int (incN N w 2), V.int (incN N w 3), V.int (incN N w 4)] := by
  rcases five hw with rfl | rfl | rfl | rfl | rfl <;> rfl
theorem rdp_lawC {D' : Ends} {wl tl l hd a : Addr} {X D N : Nat → Nat} {H0 : Hp} {c : Int} {w : Nat} {rs : List Int} {o3 : Option V} (sm : Same H0 H) (h1 : H wl = some (.lst [.ref (X 0), .ref (X 1), .ref (X 2), .ref (X 3), .ref (X 4)])) (h2 : H tl = some (.lst [.int (N 0), .int (N 1), .int (N 2), .int (N 3), .int (N 4)])) (h3 : ∀ i, i < 5 → H (X i) = some (wyO t i (D i) (incN N w i))) (nx : ∀ i j, i < 5 → j < 5 → i ≠ j → X i ≠ X j) (fx : ∀ i, i < 5 → H0 (X i) = none) (ft : H0 tl = none) (hw : w < 5) (hl : RkL H l rs) (hh : RkL H hd rs) (fh : H0 hd = none) (nt : tl ≠ hd) (nw : wl ≠ hd) (nwt : wl ≠ tl) (nlh : l ≠ hd)
    (q : ∀ H' o8, WsAt t H0 H' wl tl X D (incN N w) → D'.nx [some (.ref a), some (.ref wl), some (.ref tl), o3, some (.int c), some (.int (w : Nat)), some (.ref l), some (.ref hd), o8] H') :
    rd_law_C K t D' [some (.ref a), some (.ref wl), some (.ref tl), o3, some (.int c), some (.int (w : Nat)), some (.ref l), some (.ref hd), some (.int (dueW w rs (N w)))] H := by
  simp only [rd_law_C, sp__law_whole, sp__law_due, sLPut, r_mt_clear, rClear, L2.start, rEqL, tSeq, tRet, tDrop, tNext, tOp, tVar, tC, tCons, tNil, tIfS, tOr, tNot, tTest, tB, tBM0, tyV, tCall, rIxL, rNe, rI0, scal, List.map, List.replicate, List.length, List.append, List.cons_append, List.nil_append, List.append_nil, List.getElem?_cons_zero, List.getElem?_cons_succ, Option.some.injEq, exists_eq_left', exists_eq_left, V.int.injEq, V.ref.injEq, V.str.injEq, V.bl.injEq, V.ty.injEq, List.cons.injEq, and_true, true_and, and_assoc, exists_and_left, List.set_cons_zero, List.set_cons_succ, Nat.reduceSub, Nat.reduceAdd, decide_eq_true_eq, Bool.not_eq_true', decide_eq_false_iff_not, Int.reduceToNat, Int.reducePow, Int.reduceNeg, Int.reduceMul, Int.reduceAdd, if_true, ite_true, Bool.false_eq_true, ite_false, if_false]
  refine ⟨_, SqL.of hh.1, _, SqL.of hl.1, ints_flat rs, ints_flat rs, ints_mix rs, ?_⟩
  rw [if_neg (fun z => z rfl)]
  intro H1 s1
  rw [if_neg (by decide)]
  have hh1 := s1 _ _ hh.1
  have h21 := s1 _ _ h2
  have ne1 : ∀ i, i < 5 → X i ≠ hd := fun i hi => ne_of (h3 i hi) hh.1 (wy_lst _ _ _ _ _)
  have ne2 : ∀ i, i < 5 → X i ≠ tl := fun i hi => ne_of (h3 i hi) h2 (wy_lst _ _ _ _ _)
  have ht2 : upd H1 hd (HO.lst []) tl = some (.lst [.int (N 0), .int (N 1), .int (N 2), .int (N 3), .int (N 4)]) := by rw [upd_ne nt]; exact h21
  have hl2 : RkL (upd H1 hd (HO.lst [])) l rs := ⟨by rw [upd_ne nlh]; exact s1 _ _ hl.1, hl.2⟩
  refine ⟨.inl ⟨_, SqL.of hh1⟩, _, hh1, _, SqL.of ht2, _, at5 (fun k => V.int (N k)) hw, w, rfl, rs, N w, rfl, hl2, ?_⟩
  rw [if_neg (fun z => z rfl)]
  have ix : ixN ([V.int (N 0), V.int (N 1), V.int (N 2), V.int (N 3), V.int (N 4)] : List V).length (w : Nat) = some w := by rcases five hw with rfl | rfl | rfl | rfl | rfl <;> rfl
  refine ⟨_, SqL.of ht2, _, at5 (fun k => V.int (N k)) hw, N w, rfl, _, ht2, w, ix, by omega, by omega, q _ _ ⟨same_upd (same_upd (sm.trans s1) fh) ft, ?_, ?_, fun i hi => ?_, nx, fx, ft⟩⟩
  · rw [upd_ne nwt, upd_ne nw]; exact s1 _ _ h1
  · rw [upd_same, set5 hw]
  · rw [upd_ne (ne2 i hi), upd_ne (ne1 i hi)]; exact s1 _ _ (h3 i hi)
theorem rdp_lawB {D' : Ends} {wl tl l hd a : Addr} {X D N : Nat → Nat} {H0 : Hp} {c : Int} {w : Nat} {rs : List Int} {o3 o8 : Option V} (S : WsAt t H0 H wl tl X D N) (hw : w < 5) (hl : RkL H l rs) (hh : RkL H hd rs) (fh : H0 hd = none) (nt : tl ≠ hd) (nw : wl ≠ hd) (nwt : wl ≠ tl) (nlh : l ≠ hd)
    (q : ∀ H' o8, WsAt t H0 H' wl tl X D (incN N w) → D'.nx [some (.ref a), some (.ref wl), some (.ref tl), o3, some (.int c), some (.int (w : Nat)), some (.ref l), some (.ref hd), o8] H') :
    rd_law_B K t D' [some (.ref a), some (.ref wl), some (.ref tl), o3, some (.int c), some (.int (w : Nat)), some (.ref l), some (.ref hd), o8] H := by
  simp only [rd_law_B, sLPut, r_mt_clear, rClear, tMethU, L2.start, rEqL, tSeq, tAsg, gName, tRet, tDrop, tNext, tOp, tVar, tC, tCons, tNil, tIfS, tOr, tNot, tTest, tB, tBM0, tyV, tCall, rIxL, rNe, rI0, scal, List.map, List.replicate, List.length, List.append, List.cons_append, List.nil_append, List.append_nil, List.getElem?_cons_zero, List.getElem?_cons_succ, Option.some.injEq, exists_eq_left', exists_eq_left, V.int.injEq, V.ref.injEq, V.str.injEq, V.bl.injEq, V.ty.injEq, List.cons.injEq, and_true, true_and, and_assoc, exists_and_left, List.set_cons_zero, List.set_cons_succ, Nat.reduceSub, Nat.reduceAdd, decide_eq_true_eq, Bool.not_eq_true', decide_eq_false_iff_not, Int.reduceToNat, Int.reducePow, Int.reduceNeg, Int.reduceMul, Int.reduceAdd, if_true, ite_true, Bool.false_eq_true, ite_false, if_false]
  have inc : ∀ i, i ≠ w → incN N w i = N i := fun i hi => if_neg hi
  have incw : incN N w w = N w + 1 := if_pos rfl
  have key : ∀ H1, Same H0 H1 → (∀ b o, b ≠ X w → H b = some o → H1 b = some o) → H1 (X w) = some (wyO t w (D w) (N w + 1)) → rd_law_C K t D' [some (.ref a), some (.ref wl), some (.ref tl), o3, some (.int c), some (.int (w : Nat)), some (.ref l), some (.ref hd), some (.int (dueW w rs (N w)))] H1 := fun H1 sm k hx => by
    have ne : ∀ {b : Addr} {xs : List V}, H b = some (.lst xs) → b ≠ X w := fun e z => wy_lst t w (D w) (N w) _ (Option.some.inj ((S.hx w hw).symm.trans (by rw [← z]; exact e)))
    refine rdp_lawC sm (k _ _ (ne S.hw) S.hw) (k _ _ (ne S.ht) S.ht) (fun i hi => ?_) S.nx S.fx S.ft hw ⟨k _ _ (ne hl.1) hl.1, hl.2⟩ ⟨k _ _ (ne hh.1) hh.1, hh.2⟩ fh nt nw nwt nlh q
    by_cases e : i = w
    · rw [e, incw]; exact hx
    · rw [inc i e]; exact k _ _ (S.nx i w hi hw e) (S.hx i hi)
  have hx := S.hx w hw
  unfold wyO at hx
  by_cases c1 : w < 2
  · have e : dueW w rs (N w) = rkAt rs 0 := by unfold dueW; rw [if_pos c1]
    rw [if_pos c1] at hx
    have z := key H S.sm (fun b o _ e => e) (by unfold wyO; rw [if_pos c1]; exact hx)
    rw [e] at z
    exact ⟨_, SqL.of S.hw, _, at5 (fun k => V.ref (X k)) hw, X w, rfl, _, _, _, hx, rfl, _, .tail _ (.tail _ (.head _)), X w, hd, rs, rfl, hh, z⟩
  · rw [if_neg c1] at hx
    by_cases c2 : w = 2
    · have e : dueW w rs (N w) = rkAt rs (rs.length - 1) := by unfold dueW; rw [if_neg c1, if_pos c2]
      rw [if_pos c2] at hx
      have z := key H S.sm (fun b o _ e => e) (by unfold wyO; rw [if_neg c1, if_pos c2]; exact hx)
      rw [e] at z
      exact ⟨_, SqL.of S.hw, _, at5 (fun k => V.ref (X k)) hw, X w, rfl, _, _, _, hx, rfl, _, .head _, X w, hd, rs, rfl, hh, z⟩
    · have e : dueW w rs (N w) = rkAt rs (N w % rs.length) := by unfold dueW; rw [if_neg c1, if_neg c2]
      rw [if_neg c2] at hx
      have z := key (upd H (X w) (tuO t (D w) (N w + 1))) (same_upd S.sm (S.fx w hw)) (fun b o n e => by rw [upd_ne n]; exact e) (by unfold wyO; rw [if_neg c1, if_neg c2]; exact upd_same)
      rw [e] at z
      exact ⟨_, SqL.of S.hw, _, at5 (fun k => V.ref (X k)) hw, X w, rfl, _, _, _, hx, rfl, _, .tail _ (.head _), X w, hd, D w, rs, N w, rfl, hh, hx, z⟩
theorem WsAt.same {H0 H' : Hp} {wl tl : Addr} {X D N : Nat → Nat} (S : WsAt t H0 H wl tl X D N) (k : Same H H') : WsAt t H0 H' wl tl X D N := ⟨S.sm.trans k, k _ _ S.hw, k _ _ S.ht, fun i hi => k _ _ (S.hx i hi), S.nx, S.fx, S.ft⟩
def lwI (t : Adr) (H0 : Hp) (a wl tl : Addr) (X D : Nat → Nat) (_ : Nat) (σ : St) (H : Hp) : Prop := ∃ N o3 o4 o5 o6 o7 o8, σ = [some (.ref a), some (.ref wl), some (.ref tl), o3, o4, o5, o6, o7, o8] ∧ WsAt t H0 H wl tl X D N
theorem rdp_law3 {a wl tl : Addr} {ns : List Int} {X D : Nat → Nat} {H0 : Hp} {o3 : Option V} (hS : SqL K H0 a (ns.map V.int)) (S : WsAt t H0 H wl tl X D fun _ => 0) (nwt : wl ≠ tl) (q : ∀ H', Q (.bl true) H') :
    rd_law_3 K t { nx := fun _ H' => Q .non H', rt := Q } [some (.ref a), some (.ref wl), some (.ref tl), o3, none, none, none, none, none] H := by
  simp only [rd_law_3, sp__law_ranks, sLPut, r_mt_clear, rClear, tMethU, L2.start, cLst, rEqL, tSeq, tAsg, gName, tRet, tDrop, tNext, tOp, tVar, tC, tCons, tNil, tFor, tIfS, tOr, tNot, tTest, tB, tCB, tBM0, tyV, tCall, iList, rIxL, rNe, rI, rI0, scal, List.map, List.replicate, List.length, List.append, List.cons_append, List.nil_append, List.append_nil, List.getElem?_cons_zero, List.getElem?_cons_succ, Option.some.injEq, exists_eq_left', exists_eq_left, V.int.injEq, V.ref.injEq, V.str.injEq, V.bl.injEq, V.ty.injEq, List.cons.injEq, and_true, true_and, and_assoc, exists_and_left, List.set_cons_zero, List.set_cons_succ, Nat.reduceSub, Nat.reduceAdd, decide_eq_true_eq, Bool.not_eq_true', decide_eq_false_iff_not, Int.reduceToNat, Int.reducePow, Int.reduceNeg, Int.reduceMul, Int.reduceAdd, if_true, ite_true, Bool.false_eq_true, ite_false, if_false]
  refine ⟨⟨_, hS.mono S.sm⟩, loop_list (ns.map V.int) (lwI t H0 a wl tl X D) ⟨_, _, _, _, _, _, _, rfl, S⟩ (fun i σ H' ⟨_, _, _, _, _, _, _, _, S⟩ => hS.mono S.sm) ?_ ?_⟩
  · rintro i v σ H1 hv ⟨N, o3, o4, o5, o6, o7, o8, rfl, S⟩
    obtain ⟨c, _, rfl⟩ := List.mem_map.mp (List.mem_of_getElem? hv)
    simp only [sLPut, r_mt_clear, rClear, tMethU, L2.start, cLst, rEqL, tSeq, tAsg, gName, tRet, tDrop, tNext, tOp, tVar, tC, tCons, tNil, tFor, tIfS, tOr, tNot, tTest, tB, tCB, tBM0, tyV, tCall, iList, rIxL, rNe, rI, rI0, scal, List.map, List.replicate, List.length, List.append, List.cons_append, List.nil_append, List.append_nil, List.getElem?_cons_zero, List.getElem?_cons_succ, Option.some.injEq, exists_eq_left', exists_eq_left, V.int.injEq, V.ref.injEq, V.str.injEq, V.bl.injEq, V.ty.injEq, List.cons.injEq, and_true, true_and, and_assoc, exists_and_left, List.set_cons_zero, List.set_cons_succ, Nat.reduceSub, Nat.reduceAdd, decide_eq_true_eq, Bool.not_eq_true', decide_eq_false_iff_not, Int.reduceToNat, Int.reducePow, Int.reduceNeg, Int.reduceMul, Int.reduceAdd, if_true, ite_true, Bool.false_eq_true, ite_false, if_false]
    refine ⟨by decide, fun l rs H2 s2 fl hl => ⟨_, .inl (SqL.of hl.1), fun hd fhd => ?_⟩⟩
    have S2 := S.same s2
    have s3 := isV (o := HO.lst (rs.map V.int)) hd fhd
    have S3 := S2.same s3
    have g1 := Int.emod_nonneg c (b := 5) (by decide)
    have g2 := Int.emod_lt_of_pos c (b := 5) (by decide)
    obtain ⟨w, ew⟩ : ∃ w : Nat, c % 5 = w := ⟨(c % 5).toNat, (Int.toNat_of_nonneg g1).symm⟩
    rw [ew]
    have ne : ∀ {b : Addr} {o : HO}, H2 b = some o → b ≠ hd := fun e z => by rw [z, fhd] at e; cases e
    exact rdp_lawB S3 (by omega) ⟨s3 _ _ hl.1, hl.2⟩ ⟨upd_same, hl.2⟩ (fresh_of S2.sm fhd) (ne S2.ht) (ne S2.hw) nwt (ne hl.1) fun H' o8 S' => ⟨_, _, _, _, _, _, _, rfl, S'⟩
  · rintro σ H1 _
    exact q _
def lvI (t : Adr) (H0 : Hp) (a wl tl : Addr) (X D : Nat → Nat) (_ : Nat) (σ : St) (H : Hp) : Prop := (∃ o3, σ = [some (.ref a), some (.ref wl), some (.ref tl), o3, none, none, none, none, none]) ∧ WsAt t H0 H wl tl X D fun _ => 0
theorem rdp_law2 {a wl tl : Addr} {ns : List Int} {X D : Nat → Nat} {H0 : Hp} (F : WyF K t) (hS : SqL K H0 a (ns.map V.int)) (S : WsAt t H0 H wl tl X D fun _ => 0) (nwt : wl ≠ tl) (q : ∀ H', Q (.bl true) H') :
    rd_law_2 K t { nx := fun _ H' => Q .non H', rt := Q } [some (.ref a), some (.ref wl), some (.ref tl), none, none, none, none, none, none] H := by
  simp only [rd_law_2, sLPut, r_mt_clear, rClear, tMethU, cIsn, L2.start, cLst, rEqL, tSeq, tAsg, gName, tRet, tDrop, tNext, tOp, tVar, tC, tCons, tNil, tFor, tIfS, tOr, tNot, tTest, tB, tCB, tBM0, tyV, tCall, iList, rIxL, rNe, rI, rI0, scal, List.map, List.replicate, List.length, List.append, List.cons_append, List.nil_append, List.append_nil, List.getElem?_cons_zero, List.getElem?_cons_succ, Option.some.injEq, exists_eq_left', exists_eq_left, V.int.injEq, V.ref.injEq, V.str.injEq, V.bl.injEq, V.ty.injEq, List.cons.injEq, and_true, true_and, and_assoc, exists_and_left, List.set_cons_zero, List.set_cons_succ, Nat.reduceSub, Nat.reduceAdd, decide_eq_true_eq, Bool.not_eq_true', decide_eq_false_iff_not, Int.reduceToNat, Int.reducePow, Int.reduceNeg, Int.reduceMul, Int.reduceAdd, if_true, ite_true, Bool.false_eq_true, ite_false, if_false]
  refine ⟨⟨_, SqL.of S.hw⟩, loop_list [.ref (X 0), .ref (X 1), .ref (X 2), .ref (X 3), .ref (X 4)] (lvI t H0 a wl tl X D) ⟨⟨_, rfl⟩, S⟩ (fun i σ H' ⟨_, S⟩ => SqL.of S.hw) ?_ ?_⟩
  · rintro i v σ H1 hv ⟨⟨o3, rfl⟩, S⟩
    have hi : i < 5 := (List.getElem?_eq_some_iff.mp hv).1
    have ev : v = .ref (X i) := by
      rcases five hi with rfl | rfl | rfl | rfl | rfl <;> exact (Option.some.inj hv).symm
    subst ev
    simp only [sLPut, r_mt_clear, rClear, tMethU, cIsn, L2.start, cLst, rEqL, tSeq, tAsg, gName, tRet, tDrop, tNext, tOp, tVar, tC, tCons, tNil, tFor, tIfS, tOr, tNot, tTest, tB, tCB, tBM0, tyV, tCall, iList, rIxL, rNe, rI, rI0, scal, List.map, List.replicate, List.length, List.append, List.cons_append, List.nil_append, List.append_nil, List.getElem?_cons_zero, List.getElem?_cons_succ, Option.some.injEq, exists_eq_left', exists_eq_left, V.int.injEq, V.ref.injEq, V.str.injEq, V.bl.injEq, V.ty.injEq, List.cons.injEq, and_true, true_and, and_assoc, exists_and_left, List.set_cons_zero, List.set_cons_succ, Nat.reduceSub, Nat.reduceAdd, decide_eq_true_eq, Bool.not_eq_true', decide_eq_false_iff_not, Int.reduceToNat, Int.reducePow, Int.reduceNeg, Int.reduceMul, Int.reduceAdd, if_true, ite_true, Bool.false_eq_true, ite_false, if_false]
    have hx := S.hx i hi
    unfold wyO at hx
    by_cases c1 : i < 2
    · rw [if_pos c1] at hx
      refine ⟨_, _, _, hx, F.k1, true, F.i1, ?_⟩
      rw [if_neg (by decide)]
      exact ⟨⟨_, rfl⟩, S⟩
    · rw [if_neg c1] at hx
      by_cases c2 : i = 2
      · rw [if_pos c2] at hx
        refine ⟨_, _, _, hx, F.k2, true, F.i2, ?_⟩
        rw [if_neg (by decide)]
        exact ⟨⟨_, rfl⟩, S⟩
      · rw [if_neg c2] at hx
        refine ⟨_, _, _, hx, F.k3, true, F.i3, ?_⟩
        rw [if_neg (by decide)]
        exact ⟨⟨_, rfl⟩, S⟩
  · rintro σ H1 ⟨⟨o3, rfl⟩, S⟩
    exact rdp_law3 hS S nwt q
theorem mk_ins {x dx C : Addr} {fs : List (Str × V)} (hx : H x = none) (hd : H dx = none) : Same H (upd (upd H dx (.own x)) x (.ins C dx fs)) := fun b o e => by rw [upd_ne (ne_of_none e hx), upd_ne (ne_of_none e hd)]; exact e
def pk5 (a b c d e : Nat) : Nat → Nat
  | 0 => a
  | 1 => b
  | 2 => c
  | 3 => d
  | _ => e
theorem all5 {P : Nat → Prop} (h0 : P 0) (h1 : P 1) (h2 : P 2) (h3 : P 3) (h4 : P 4) : ∀ i, i < 5 → P i := fun i hi => by
  rcases five hi with rfl | rfl | rfl | rfl | rfl <;> assumption
theorem ne5 {X : Nat → Nat} (h : ∀ i j, i < 5 → j < i → X j ≠ X i) : ∀ i j, i < 5 → j < 5 → i ≠ j → X i ≠ X j := fun i j hi hj hn => by
  by_cases c : j < i
  · exact Ne.symm (h i j hi c)
  · exact h j i hj (by omega)
theorem rdp_law {a : Addr} {ns : List Int} (F : WyF K t) (hS : SqL K H a (ns.map V.int)) (hn : ns.length ≤ 63) (q : ∀ H', Q (.bl true) H') :
    rd_law K t { nx := fun _ H' => Q .non H', rt := Q } (L2.start ["script", "ways", "turns", "way", "cell", "which", "ranks", "handed", "found"] [.ref a]) H := by
  simp only [rd_law, sp_Turning_init, tMake, sLPut, r_mt_clear, rClear, tMakeO, tMethU, cIsn, L2.start, cLst, rEqL, tSeq, tAsg, gName, tRet, tDrop, tNext, tOp, tVar, tC, tLst, tCons, tNil, tFor, tIfS, tOr, tNot, tTest, tB, tCB, tBM0, tyV, tCall, iList, rIxL, rNe, rI, rI0, scal, List.map, List.replicate, List.length, List.append, List.cons_append, List.nil_append, List.append_nil, List.getElem?_cons_zero, List.getElem?_cons_succ, Option.some.injEq, exists_eq_left', exists_eq_left, V.int.injEq, V.ref.injEq, V.str.injEq, V.bl.injEq, V.ty.injEq, List.cons.injEq, and_true, true_and, and_assoc, exists_and_left, List.set_cons_zero, List.set_cons_succ, Nat.reduceSub, Nat.reduceAdd, decide_eq_true_eq, Bool.not_eq_true', decide_eq_false_iff_not, Int.reduceToNat, Int.reducePow, Int.reduceNeg, Int.reduceMul, Int.reduceAdd, if_true, ite_true, Bool.false_eq_true, ite_false, if_false]
  intro x0 d0 hx0 hd0 _
  have s0 := mk_ins (C := t.c_Way) (fs := []) hx0 hd0
  have e0 : upd (upd H d0 (HO.own x0)) x0 (HO.ins t.c_Way d0 []) x0 = some (.ins t.c_Way d0 []) := upd_same
  generalize upd (upd H d0 (HO.own x0)) x0 (HO.ins t.c_Way d0 []) = H1 at *
  intro x1 d1 hx1 hd1 _
  have s1 := mk_ins (C := t.c_Way) (fs := []) hx1 hd1
  have e1 : upd (upd H1 d1 (HO.own x1)) x1 (HO.ins t.c_Way d1 []) x1 = some (.ins t.c_Way d1 []) := upd_same
  generalize upd (upd H1 d1 (HO.own x1)) x1 (HO.ins t.c_Way d1 []) = H2 at *
  intro x2 d2 hx2 hd2 _
  have s2 := mk_ins (C := t.c_Highest) (fs := []) hx2 hd2
  have e2 : upd (upd H2 d2 (HO.own x2)) x2 (HO.ins t.c_Highest d2 []) x2 = some (.ins t.c_Highest d2 []) := upd_same
  generalize upd (upd H2 d2 (HO.own x2)) x2 (HO.ins t.c_Highest d2 []) = H3 at *
  intro x3 d3 hx3 hd3 _
  have s3 := same_upd (o := tuO t d3 0) (mk_ins (C := t.c_Turning) (fs := []) hx3 hd3) hx3
  refine ⟨d3, upd_same, ?_⟩
  have e3 : upd (upd (upd H3 d3 (HO.own x3)) x3 (HO.ins t.c_Turning d3 [])) x3 (tuO t d3 0) x3 = some (tuO t d3 0) := upd_same
  generalize upd (upd (upd H3 d3 (HO.own x3)) x3 (HO.ins t.c_Turning d3 [])) x3 (tuO t d3 0) = H4 at *
  intro x4 d4 hx4 hd4 _
  have s4 := same_upd (o := tuO t d4 0) (mk_ins (C := t.c_Turning) (fs := []) hx4 hd4) hx4
  refine ⟨d4, upd_same, ?_⟩
  have e4 : upd (upd (upd H4 d4 (HO.own x4)) x4 (HO.ins t.c_Turning d4 [])) x4 (tuO t d4 0) x4 = some (tuO t d4 0) := upd_same
  generalize upd (upd (upd H4 d4 (HO.own x4)) x4 (HO.ins t.c_Turning d4 [])) x4 (tuO t d4 0) = H5 at *
  refine ⟨by decide, fun wl hwl => ⟨by decide, fun tl htl => ?_⟩⟩
  have s5 := isV (o := HO.lst [V.ref x0, V.ref x1, V.ref x2, V.ref x3, V.ref x4]) wl hwl
  have e5 : upd H5 wl (HO.lst [V.ref x0, V.ref x1, V.ref x2, V.ref x3, V.ref x4]) wl = some (.lst [V.ref x0, V.ref x1, V.ref x2, V.ref x3, V.ref x4]) := upd_same
  generalize upd H5 wl (HO.lst [V.ref x0, V.ref x1, V.ref x2, V.ref x3, V.ref x4]) = H6 at *
  have s6 := isV (o := HO.lst [V.int 0, V.int 0, V.int 0, V.int 0, V.int 0]) tl htl
  have e6 : upd H6 tl (HO.lst [V.int 0, V.int 0, V.int 0, V.int 0, V.int 0]) tl = some (.lst [V.int 0, V.int 0, V.int 0, V.int 0, V.int 0]) := upd_same
  generalize upd H6 tl (HO.lst [V.int 0, V.int 0, V.int 0, V.int 0, V.int 0]) = H7 at *
  have t56 := s5.trans s6
  have t46 := s4.trans t56
  have t36 := s3.trans t46
  have t26 := s2.trans t36
  have t16 := s1.trans t26
  have ne : ∀ {G : Hp} {b c : Addr} {o : HO}, G b = some o → G c = none → b ≠ c := fun e n z => by rw [z, n] at e; cases e
  refine rdp_law2 (X := pk5 x0 x1 x2 x3 x4) (D := pk5 d0 d1 d2 d3 d4) F hS ⟨s0.trans t16, s6 _ _ e5, e6, all5 (t16 _ _ e0) (t26 _ _ e1) (t36 _ _ e2) (t46 _ _ e3) (t56 _ _ e4), ne5 fun i j hi hj => ?_, all5 hx0 (fresh_of s0 hx1) (fresh_of (s0.trans s1) hx2) (fresh_of (s0.trans (s1.trans s2)) hx3) (fresh_of (s0.trans (s1.trans (s2.trans s3))) hx4), fresh_of (s0.trans (s1.trans (s2.trans (s3.trans (s4.trans s5))))) htl⟩ (ne e5 htl) q
  rcases five hi with rfl | rfl | rfl | rfl | rfl
  · omega
  · have : j = 0 := by omega
    subst this; exact ne e0 hx1
  · have : j = 0 ∨ j = 1 := by omega
    rcases this with rfl | rfl
    · exact ne (s1 _ _ e0) hx2
    · exact ne e1 hx2
  · have : j = 0 ∨ j = 1 ∨ j = 2 := by omega
    rcases this with rfl | rfl | rfl
    · exact ne ((s1.trans s2) _ _ e0) hx3
    · exact ne (s2 _ _ e1) hx3
    · exact ne e2 hx3
  · have : j = 0 ∨ j = 1 ∨ j = 2 ∨ j = 3 := by omega
    rcases this with rfl | rfl | rfl | rfl
    · exact ne ((s1.trans (s2.trans s3)) _ _ e0) hx4
    · exact ne ((s2.trans s3) _ _ e1) hx4
    · exact ne (s3 _ _ e2) hx4
    · exact ne e3 hx4
end

section
variable {P : Program} {w : World} {K : PySem.W.Frag} {mg : Str → Option Value} {base : Heap} {t : Adr}
theorem ok_Turning_init (T : Txt K mg t) : FnOk P w K mg base CX0 1 t.a_Turning_init t.d_Turning_init ["self"] (sp_Turning_init t) := by
  refine T.f_Turning_init.ok sc_Turning_init (fun vs H Q E h => ?_) (fun cdv A outer s H vs Q E hr h => ?_)
  · obtain ⟨x, dx, rfl, _⟩ := h; rfl
  obtain ⟨x, dx, rfl, h1, q⟩ := h
  exact ⟨rd_Turning_init K t, (pss_one (ps_fld (f := "times") (pv 0) (pe_int (i := 0)) rfl)), rdp_Turning_init (wyF T) h1 q⟩
theorem ok__law_drawn (T : Txt K mg t) : FnOk P w K mg base CX0 1 t.a__law_drawn t.d__law_drawn ["cell", "many"] (sp__law_drawn) := by
  refine T.f__law_drawn.ok sc__law_drawn (fun vs H Q E h => ?_) (fun cdv A outer s H vs Q E hr h => ?_)
  · obtain ⟨c, m, rfl, _⟩ := h; rfl
  obtain ⟨c, m, rfl, h1, h2, q⟩ := h
  exact ⟨rd__law_drawn K t, (pss_cons (ps_set (i := 2) sc__law_drawn.nd rfl (Or.inl rfl) (pe_op op_add (pe_op op_mod (pv 0) (pe_int (i := 999999937))) (pe_int (i := 1))))
    (pss_cons (ps_set (i := 3) sc__law_drawn.nd rfl (Or.inl rfl) (pe_op op_add (pe_op op_mod (pe_op op_fdivB (pv 0) (pe_int (i := 999999937))) (pe_int (i := 999999929))) (pe_int (i := 2))))
    (pss_cons (ps_set (i := 4) sc__law_drawn.nd rfl (Or.inl rfl) (pe_lst pa_nil))
    (pss_cons (ps_for PassesOwn.never rfl (pi_range1 rfl T.b_range (pa_cons (pv 1) pa_nil)) (pg_name (i := 5) sc__law_drawn.nd rfl (Or.inl rfl)) (pss_cons (ps_set (i := 2) sc__law_drawn.nd rfl (Or.inl rfl) (pe_op op_mod (pe_op op_add (pe_op op_add (pe_op op_mulB (pv 2) (pe_int (i := 40009))) (pv 3)) (pv 5)) (pe_int (i := 999999937))))
    (pss_cons (ps_set (i := 3) sc__law_drawn.nd rfl (Or.inl rfl) (pe_op op_mod (pe_op op_add (pe_op op_mulB (pv 3) (pe_int (i := 31))) (pe_op op_mulB (pv 2) (pv 2))) (pe_int (i := 999999929))))
    (pss_one (ps_expr (pe_bm PySem.F.plainAttrs_list PySem.F.slot_list_append PySem.F.type_list_append mt_append (pv 4) (pa_cons (pe_op op_add (pv 2) (pv 3)) pa_nil)))))))
    (pss_one (ps_ret (pv 4))))))), rdp__law_drawn h1 h2 q⟩
theorem ok__law_ranks (T : Txt K mg t) : FnOk P w K mg base CX0 2 t.a__law_ranks t.d__law_ranks ["cell"] (sp__law_ranks) := by
  refine T.f__law_ranks.ok sc__law_ranks (fun vs H Q E h => ?_) (fun cdv A outer s H vs Q E hr h => ?_)
  · obtain ⟨c, rfl, _⟩ := h; rfl
  obtain ⟨c, rfl, q⟩ := h
  exact ⟨rd__law_ranks K t, (pss_cons (ps_set (i := 1) sc__law_ranks.nd rfl (Or.inl rfl) (pe_call (FnOk.mono (ok__law_drawn T) (by decide)) hr rfl T.m__law_drawn T.f__law_drawn.kp T.b__law_drawn .nil pass0 (pa_cons (pe_op op_fdivB (pv 0) (pe_int (i := 5))) (pa_cons (pe_int (i := 4)) pa_nil))))
    (pss_cons (ps_set (i := 2) sc__law_ranks.nd rfl (Or.inl rfl) (pe_op op_add (pe_int (i := 1)) (pe_op op_mod (pe_ix ix_list (pv 1) (pe_int (i := 0)) (fun _ _ => rfl)) (pe_int (i := 7)))))
    (pss_cons (ps_if (pt_cmpR op_eq (pe_op op_mod (pe_ix ix_list (pv 1) (pe_int (i := 1)) (fun _ _ => rfl)) (pe_int (i := 16))) (pe_int (i := 3)) (nomark _)) (pss_one (ps_set (i := 2) sc__law_ranks.nd rfl (Or.inl rfl) (pe_op op_add (pe_int (i := 1)) (pe_op op_mod (pe_ix ix_list (pv 1) (pe_int (i := 0)) (fun _ _ => rfl)) (pe_int (i := 300))))))
      pss_nil)
    (pss_cons (ps_set (i := 3) sc__law_ranks.nd rfl (Or.inl rfl) (pe_op op_mod (pe_op op_fdivB (pv 0) (pe_int (i := 5))) (pe_op op_sub (pe_op op_pow (pe_int (i := 10)) (pe_int (i := 29))) (pe_op op_pow (pe_int (i := 10)) (pe_int (i := 6))))))
    (pss_cons (ps_if (pt_cmpR op_gt (pe_op op_mod (pe_ix ix_list (pv 1) (pe_int (i := 1)) (fun _ _ => rfl)) (pe_int (i := 16))) (pe_int (i := 11)) (nomark _)) (pss_one (ps_set (i := 3) sc__law_ranks.nd rfl (Or.inl rfl) (pe_op op_sub (pe_op op_pow (pe_int (i := 10)) (pe_int (i := 29))) (pe_op op_pow (pe_int (i := 10)) (pe_int (i := 6))))))
      pss_nil)
    (pss_cons (ps_set (i := 4) sc__law_ranks.nd rfl (Or.inl rfl) (pe_lst pa_nil))
    (pss_cons (ps_for PassesOwn.never rfl (pi_range1 rfl T.b_range (pa_cons (pv 2) pa_nil)) (pg_name (i := 5) sc__law_ranks.nd rfl (Or.inl rfl)) (pss_cons (ps_expr (pe_bm PySem.F.plainAttrs_list PySem.F.slot_list_append PySem.F.type_list_append mt_append (pv 4) (pa_cons (pv 3) pa_nil)))
    (pss_one (ps_set (i := 3) sc__law_ranks.nd rfl (Or.inl rfl) (pe_op op_add (pe_op op_add (pv 3) (pe_int (i := 1))) (pe_op op_mod (pe_op op_mulB (pe_ix ix_list (pv 1) (pe_int (i := 2)) (fun _ _ => rfl)) (pe_op op_add (pv 5) (pe_int (i := 1)))) (pe_ix ix_list (pe_lst (pa_cons (pe_int (i := 1)) (pa_cons (pe_int (i := 2)) (pa_cons (pe_int (i := 3000)) pa_nil)))) (pe_op op_mod (pe_ix ix_list (pv 1) (pe_int (i := 3)) (fun _ _ => rfl)) (pe_int (i := 3))) (fun _ _ => rfl))))))))
    (pss_one (ps_ret (pv 4)))))))))), rdp__law_ranks q⟩
theorem ok_Highest_chosen (T : Txt K mg t) : FnOk P w K mg base CX0 1 t.a_Highest_chosen t.d_Highest_chosen ["self", "ranks"] (sp_Highest_chosen) := by
  refine T.f_Highest_chosen.ok sc_Highest_chosen (fun vs H Q E h => ?_) (fun cdv A outer s H vs Q E hr h => ?_)
  · obtain ⟨x, l, rs, rfl, _⟩ := h; rfl
  obtain ⟨x, l, rs, rfl, h1, q⟩ := h
  exact ⟨rd_Highest_chosen K t, (pss_one (ps_ret (pe_ix ix_list (pv 1) (pe_un un_neg (pe_int (i := 1))) (fun _ _ => rfl)))), rdp_Highest_chosen h1 q⟩
theorem ok_Turning_chosen (T : Txt K mg t) : FnOk P w K mg base CX0 1 t.a_Turning_chosen t.d_Turning_chosen ["self", "ranks"] (sp_Turning_chosen t) := by
  refine T.f_Turning_chosen.ok sc_Turning_chosen (fun vs H Q E h => ?_) (fun cdv A outer s H vs Q E hr h => ?_)
  · obtain ⟨x, l, dx, rs, n, rfl, _⟩ := h; rfl
  obtain ⟨x, l, dx, rs, n, rfl, h1, h2, q⟩ := h
  exact ⟨rd_Turning_chosen K t, (pss_cons (ps_set (i := 2) sc_Turning_chosen.nd rfl (Or.inl rfl) (pe_op op_mod (pe_fld (f := "times") (pv 0) rfl) (pe_callB call_len rfl T.b_len bt_len (pa_cons (pv 1) pa_nil))))
    (pss_cons (ps_fldaug (f := "times") (pv 0) (pe_int (i := 1)) in_add)
    (pss_one (ps_ret (pe_ix ix_list (pv 1) (pv 2) (fun _ _ => rfl)))))), rdp_Turning_chosen (wyF T) h1 h2 q⟩
theorem ok_Way_chosen (T : Txt K mg t) : FnOk P w K mg base CX0 1 t.a_Way_chosen t.d_Way_chosen ["self", "ranks"] (sp_Way_chosen) := by
  refine T.f_Way_chosen.ok sc_Way_chosen (fun vs H Q E h => ?_) (fun cdv A outer s H vs Q E hr h => ?_)
  · obtain ⟨x, l, rs, rfl, _⟩ := h; rfl
  obtain ⟨x, l, rs, rfl, h1, q⟩ := h
  exact ⟨rd_Way_chosen K t, (pss_one (ps_ret (pe_ix ix_list (pv 1) (pe_int (i := 0)) (fun _ _ => rfl)))), rdp_Way_chosen h1 q⟩
theorem ok__law_due (T : Txt K mg t) : FnOk P w K mg base CX0 1 t.a__law_due t.d__law_due ["which", "ranks", "turns"] (sp__law_due) := by
  refine T.f__law_due.ok sc__law_due (fun vs H Q E h => ?_) (fun cdv A outer s H vs Q E hr h => ?_)
  · obtain ⟨i, l, rs, n, rfl, _⟩ := h; rfl
  obtain ⟨i, l, rs, n, rfl, h1, q⟩ := h
  exact ⟨rd__law_due K t, (pss_cons (ps_if (pt_cmpR op_lt (pv 0) (pe_int (i := 2)) (nomark _)) (pss_one (ps_ret (pe_ix ix_list (pv 1) (pe_int (i := 0)) (fun _ _ => rfl))))
      pss_nil)
    (pss_cons (ps_if (pt_cmpR op_eq (pv 0) (pe_int (i := 2)) (nomark _)) (pss_one (ps_ret (pe_ix ix_list (pv 1) (pe_op op_sub (pe_callB call_len rfl T.b_len bt_len (pa_cons (pv 1) pa_nil)) (pe_int (i := 1))) (fun _ _ => rfl))))
      pss_nil)
    (pss_one (ps_ret (pe_ix ix_list (pv 1) (pe_op op_mod (pv 2) (pe_callB call_len rfl T.b_len bt_len (pa_cons (pv 1) pa_nil))) (fun _ _ => rfl)))))), rdp__law_due h1 q⟩
theorem ok__law_whole (T : Txt K mg t) : FnOk P w K mg base CX0 1 t.a__law_whole t.d__law_whole ["found"] (sp__law_whole) := by
  refine T.f__law_whole.ok sc__law_whole (fun vs H Q E h => ?_) (fun cdv A outer s H vs Q E hr h => ?_)
  · obtain ⟨i, rfl, _⟩ := h; rfl
  obtain ⟨i, rfl, q⟩ := h
  exact ⟨rd__law_whole K t, (pss_one (ps_ret (pe_and (pe_callB call_isi rfl T.b_isinstance bt_isinstance (pa_cons (pv 0) (pa_cons (pe_bltn rfl T.b_int bt_int rfl) pa_nil))) (pe_one (pe_not (pe_callB call_isi rfl T.b_isinstance bt_isinstance (pa_cons (pv 0) (pa_cons (pe_bltn rfl T.b_bool bt_bool rfl) pa_nil)))))))), rdp__law_whole (kf K) q⟩
theorem ok_law (T : Txt K mg t) : FnOk P w K mg base CX0 3 t.a_law t.d_law ["script"] (sp_law K) := by
  refine T.f_law.ok sc_law (fun vs H Q E h => ?_) (fun cdv A outer s H vs Q E hr h => ?_)
  · obtain ⟨a, ns, rfl, _⟩ := h; rfl
  obtain ⟨a, ns, rfl, hS, hn, q⟩ := h
  exact ⟨rd_law K t, (pss_cons (ps_set (i := 1) sc_law.nd rfl (Or.inl rfl) (pe_lst (pa_cons (pe_makeO T.mo_Way rfl T.g_Way) (pa_cons (pe_makeO T.mo_Way rfl T.g_Way) (pa_cons (pe_makeO T.mo_Highest rfl T.g_Highest) (pa_cons (pe_make0 T.mk_Turning (FnOk.mono (ok_Turning_init T) (by decide)) hr rfl T.g_Turning T.b_Turning_init .nil pass0) (pa_cons (pe_make0 T.mk_Turning (FnOk.mono (ok_Turning_init T) (by decide)) hr rfl T.g_Turning T.b_Turning_init .nil pass0) pa_nil)))))))
    (pss_cons (ps_set (i := 2) sc_law.nd rfl (Or.inl rfl) (pe_lst (pa_cons (pe_int (i := 0)) (pa_cons (pe_int (i := 0)) (pa_cons (pe_int (i := 0)) (pa_cons (pe_int (i := 0)) (pa_cons (pe_int (i := 0)) pa_nil)))))))
    (pss_cons (ps_for PassesOwn.never rfl (pi_list (pv 1)) (pg_name (i := 3) sc_law.nd rfl (Or.inl rfl)) (pss_one (ps_if (pt_not (pt_val (pe_callB call_isn rfl T.b_isinstance bt_isinstance (pa_cons (pv 3) (pa_cons (pe_glob rfl T.g_Way rfl) pa_nil))))) (pss_one (ps_ret (pe_bl (b := false))))
      pss_nil)))
    (pss_cons (ps_for PassesOwn.never rfl (pi_list (pv 0)) (pg_name (i := 4) sc_law.nd rfl (Or.inl rfl)) (pss_cons (ps_set (i := 5) sc_law.nd rfl (Or.inl rfl) (pe_op op_mod (pv 4) (pe_int (i := 5))))
    (pss_cons (ps_set (i := 6) sc_law.nd rfl (Or.inl rfl) (pe_call (FnOk.mono (ok__law_ranks T) (by decide)) hr rfl T.m__law_ranks T.f__law_ranks.kp T.b__law_ranks .nil pass0 (pa_cons (pv 4) pa_nil)))
    (pss_cons (ps_set (i := 7) sc_law.nd rfl (Or.inl rfl) (pe_callTy call_list_of rfl T.b_list bt_list (pa_cons (pv 6) pa_nil)))
    (pss_cons (ps_set (i := 8) sc_law.nd rfl (Or.inl rfl) (pe_methU (pe_ix ix_list (pv 1) (pv 5) (fun _ _ => rfl)) (mu_cons (mu_mk T.cl_Highest T.me_Highest_chosen (FnOk.mono (ok_Highest_chosen T) (by decide)) hr T.b_Highest_chosen) (mu_cons (mu_mk T.cl_Turning T.me_Turning_chosen (FnOk.mono (ok_Turning_chosen T) (by decide)) hr T.b_Turning_chosen) (mu_cons (mu_mk T.cl_Way T.me_Way_chosen (FnOk.mono (ok_Way_chosen T) (by decide)) hr T.b_Way_chosen) mu_nil))) pass0 (pa_cons (pv 7) pa_nil)))
    (pss_cons (ps_if (PW.pt (pw_or (pt_cmpR (op_neL (hu64 hr)) (pv 7) (pv 6) (nomark _)) (pw_or1 (pt_not (pt_val (pe_call (FnOk.mono (ok__law_whole T) (by decide)) hr rfl T.m__law_whole T.f__law_whole.kp T.b__law_whole .nil pass0 (pa_cons (pv 8) pa_nil))))))) (pss_one (ps_ret (pe_bl (b := false))))
      pss_nil)
    (pss_cons (ps_expr (pe_bm0 PySem.F.plainAttrs_list PySem.F.slot_list_clear PySem.F.type_list_clear mt_clear (pv 7)))
    (pss_cons (ps_if (pt_cmpR op_ne (pv 8) (pe_call (FnOk.mono (ok__law_due T) (by decide)) hr rfl T.m__law_due T.f__law_due.kp T.b__law_due .nil pass0 (pa_cons (pv 5) (pa_cons (pv 6) (pa_cons (pe_ix ix_list (pv 2) (pv 5) (fun _ _ => rfl)) pa_nil)))) (nomark _)) (pss_one (ps_ret (pe_bl (b := false))))
      pss_nil)
    (pss_one (ps_lput (pv 2) (pv 5) (pe_op op_add (pe_ix ix_list (pv 2) (pv 5) (fun _ _ => rfl)) (pe_int (i := 1))) rfl))))))))))
    (pss_one (ps_ret (pe_bl (b := true)))))))), rdp_law (wyF T) hS hn q⟩
end
end K36
open PySem PySem.W PyProof.Rows
def PySem.W.Fast.tw9001451986234199982:Unit:=()
def PySem.W.Fast.tw14565766020417838275:Unit:=()
def PySem.W.Fast.tw18398748566392860461:Unit:=()
def PySem.W.Fast.tw9268962832747951699:Unit:=()
def PySem.W.Fast.tw9506942767481038166:Unit:=()
def PySem.W.Fast.tw1403989851652345428:Unit:=()
def PySem.W.Fast.tw8877798998223623303:Unit:=()
def PySem.W.Fast.tw5438542233169571700:Unit:=()
def PySem.W.Fast.tw1954236574282290747:Unit:=()
def PySem.W.Fast.tw7451756106978812567:Unit:=()
def PySem.W.Fast.tw5347110224299416149:Unit:=()
def PySem.W.Fast.tw1811040518121441129:Unit:=()
def PySem.W.Fast.tw6786128505350170057:Unit:=()
def PySem.W.Fast.tw15171045762452292497:Unit:=()
def PySem.W.Fast.tw8701949254917787235:Unit:=()
def PySem.W.Fast.tw18290440427293423467:Unit:=()
def PySem.W.Fast.tw535377467029367659:Unit:=()
def PySem.W.Fast.tw5446304124181033825:Unit:=()
def PySem.W.Fast.tw6436259536112846292:Unit:=()
def PySem.W.Fast.tw3392499360883347782:Unit:=()
def PySem.W.Fast.tw11325193113956878730:Unit:=()
def PySem.W.Fast.tw4746088137233934456:Unit:=()
def PySem.W.Fast.tw13788586014598655843:Unit:=()
def PySem.W.Fast.tw2952692587131196272:Unit:=()
def PySem.W.Fast.tw10791032363539923518:Unit:=()
def PySem.W.Fast.tw6139320553017167859:Unit:=()
def PySem.W.Fast.tw16121181933880629163:Unit:=()
def PySem.W.Fast.tw4535327935630217598:Unit:=()
def PySem.W.Fast.tw11727911003241339467:Unit:=()
def PySem.W.Fast.tw6688842447479196032:Unit:=()
def PySem.W.Fast.tw779142179011429296:Unit:=()
def PySem.W.Fast.tw15546227182404950275:Unit:=()
def PySem.W.Fast.tw9646566861331076314:Unit:=()
def PySem.W.Fast.tw1598272939030067695:Unit:=()
def PySem.W.Fast.tw3382181090125811381:Unit:=()
def PySem.W.Fast.tw1364143028175761522:Unit:=()
def PySem.W.Fast.tw7073167887097020132:Unit:=()
def PySem.W.Fast.tw15526091151380504194:Unit:=()
def PySem.W.Fast.tw964331094287217818:Unit:=()
def PySem.W.Fast.tw4770935847516691235:Unit:=()
def PySem.W.Fast.tw15364041945657733452:Unit:=()
def PySem.W.Fast.tw16642531074143658846:Unit:=()
def PySem.W.Fast.tw10325956056798146892:Unit:=()
def PySem.W.Fast.tw7484272777806347537:Unit:=()
def PySem.W.Fast.tw11129352941330080123:Unit:=()
def PySem.W.Fast.tw7841035526973088369:Unit:=()
def PySem.W.Fast.tw17441731135374145140:Unit:=()
def PySem.W.Fast.tw12157287410719404374:Unit:=()
def PySem.W.Fast.tw17535624411186057292:Unit:=()
def PySem.W.Fast.tw17954310937869041342:Unit:=()
def PySem.W.Fast.tw17613549237904462419:Unit:=()
def PySem.W.Fast.tw723681362605530208:Unit:=()
def PySem.W.Fast.tw113935019885456721:Unit:=()
def PySem.W.Fast.tw9279526243257692226:Unit:=()
def PySem.W.Fast.tw5994263376417762626:Unit:=()
def PySem.W.Fast.tw245768466368318946:Unit:=()
def PySem.W.Fast.tw4254929163250093890:Unit:=()
def PySem.W.Fast.tw2527496624500207953:Unit:=()
def PySem.W.Fast.tw11022358100106282519:Unit:=()
def PySem.W.Fast.tw1208825699212298171:Unit:=()
def PySem.W.Fast.tw16204507212805527290:Unit:=()
def PySem.W.Fast.tw11141223751963600562:Unit:=()
def PySem.W.Fast.tw1907085457484730202:Unit:=()
def PySem.W.Fast.tw2242668125697762760:Unit:=()
def PySem.W.Fast.tw10167151318098346950:Unit:=()
def PySem.W.Fast.tw331795978659141976:Unit:=()
def PySem.W.Fast.tw9600698766768587653:Unit:=()
def PySem.W.Fast.tw5994925108635432086:Unit:=()
def PySem.W.Fast.tw2153720119855418653:Unit:=()
def PySem.W.Fast.tw8362852930488219143:Unit:=()
def PySem.W.Fast.tw5379022874590702043:Unit:=()
def PySem.W.Fast.tw14609230619203351368:Unit:=()
def PySem.W.Fast.tw2172733469865448878:Unit:=()
def PySem.W.Fast.tw11448329251711816484:Unit:=()
def PySem.W.Fast.tw12323316896832980454:Unit:=()
def PySem.W.Fast.tw13106132375982906390:Unit:=()
def PySem.W.Fast.tw16036211975563599838:Unit:=()
def PySem.W.Fast.tw8431731725779776159:Unit:=()
def PySem.W.Fast.tw17039324529090611827:Unit:=()
def PySem.W.Fast.tw8323649236186557050:Unit:=()
def PySem.W.Fast.tw8890593238748947768:Unit:=()
def PySem.W.Fast.tw8457237556408072259:Unit:=()
def PySem.W.Fast.tw17955469170059715450:Unit:=()
def PySem.W.Fast.tw14050384406696777275:Unit:=()
def PySem.W.Fast.tw10312622827580567605:Unit:=()
def PySem.W.Fast.tw11781632215084810587:Unit:=()
def PySem.W.Fast.tw4109741837913947600:Unit:=()
def PySem.W.Fast.tw4212689748031697458:Unit:=()
def PySem.W.Fast.tw15973593910311088291:Unit:=()
def PySem.W.Fast.tw4309188884299773109:Unit:=()
def PySem.W.Fast.tw13629698669196209195:Unit:=()
def PySem.W.Fast.tw2396653295948040843:Unit:=()
def PySem.W.Fast.tw11719939181847781279:Unit:=()
def PySem.W.Fast.tw4488369166938259963:Unit:=()
def PySem.W.Fast.tw1321615938055129059:Unit:=()
def PySem.W.Fast.tw4988321407100627837:Unit:=()
def PySem.W.Fast.tw744258451030476214:Unit:=()
def PySem.W.Fast.tw7437858504375757102:Unit:=()
def PySem.W.Fast.tw9743915747960852496:Unit:=()
def PySem.W.Fast.tw15682539589621740789:Unit:=()
def PySem.W.Fast.tw5731700552520311768:Unit:=()
def PySem.W.Fast.tw16885077203540468718:Unit:=()
def PySem.W.Fast.tw4621053631266121957:Unit:=()
def PySem.W.Fast.tw12756164736784253766:Unit:=()
def PySem.W.Fast.tw6191463753475694223:Unit:=()
def PySem.W.Fast.tw9626640462051137415:Unit:=()
def PySem.W.Fast.tw13287299707885915794:Unit:=()
def PySem.W.Fast.tw3075523350884689468:Unit:=()
def PySem.W.Fast.tw1872924034046051254:Unit:=()
def PySem.W.Fast.tw2869024368040080430:Unit:=()
def PySem.W.Fast.tw15111076610692641642:Unit:=()
def PySem.W.Fast.tw1301649677679286821:Unit:=()
def PySem.W.Fast.tw11632630645361016048:Unit:=()
def PySem.W.Fast.tw18373849082622160181:Unit:=()
set_option maxRecDepth 100000 in
set_option maxHeartbeats 0 in
theorem PySem.Challenge.cw_forerun_k36_ways_holds : PySem.Challenge.rw_forerun_k36_ways.Holds := by
  w_on; o_law; k_head; (case hw => w_witness2)
  k_fill
  refine L2.walk_ofK (l := PySem.Challenge.rw_forerun_k36_ways) (n := 63) (k := 3) (x := "script") (CX := L2.CX0) (sp := K36.sp_law) rfl (by decide) rfl ⟨rfl, by decide, by decide⟩ (fun w h Y => PySem.W.kIn_of Y) ?F ?S ?C
  case F =>
    intro w mg fa h KX G hmg
    have T : ∃ t, K36.Txt (L2.KOf KX) mg t := by
      dsimp only [L2.KOf]
      refine' K36.txt_mk KX G ?qa0 ?qi0 ?ql0 ?qc0 ?qk0 ?qa1 ?ql1 ?qc1 ?qk1 ?qa2 ?ql2 ?qc2 ?qk2 ?qa3 ?qi3 ?ql3 ?qc3 ?qk3 ?qa4 ?qi4 ?ql4 ?qc4 ?qk4 ?qa5 ?qi5 ?ql5 ?qc5 ?qk5 ?qa6 ?ql6 ?qc6 ?qk6 ?qa7 ?ql7 ?qc7 ?qk7 ?qa8 ?ql8 ?qc8 ?qk8 ?qz0 ?qz1 ?qz2 ?qz3 ?qz4 ?qz5 ?qv0 ?qv1 ?qv2 ?pi0 ?pg0 ?pd0 ?po0 ?pe0 ?pm0_ ?pk0 ?pj0_0 ?pj0_1 ?pj0_2 ?pj0_3 ?pq0_0 ?pg1 ?pd1 ?po1 ?pe1 ?pm1_ ?pk1 ?pj1_0 ?pj1_1 ?pj1_2 ?pj1_3 ?pq1_0 ?pn1_0 ?pi2 ?pg2 ?pd2 ?po2 ?pe2 ?pm2_ ?pk2 ?pj2_0 ?pj2_1 ?pj2_2 ?pj2_3 ?pq2_0
      (case qv0 => k_is)
      (case qv1 => k_is)
      (case qv2 => k_is)
      (case qa0 => k_is)
      (case qi0 => k_is)
      (case ql0 => k_is)
      (case qc0 => k_is)
      (case qk0 => k_is)
      (case qa1 => k_is)
      (case ql1 => k_is)
      (case qc1 => k_is)
      (case qk1 => k_is)
      (case qa2 => k_is)
      (case ql2 => k_is)
      (case qc2 => k_is)
      (case qk2 => k_is)
      (case qa3 => k_is)
      (case qi3 => k_is)
      (case ql3 => k_is)
      (case qc3 => k_is)
      (case qk3 => k_is)
      (case qa4 => k_is)
      (case qi4 => k_is)
      (case ql4 => k_is)
      (case qc4 => k_is)
      (case qk4 => k_is)
      (case qa5 => k_is)
      (case qi5 => k_is)
      (case ql5 => k_is)
      (case qc5 => k_is)
      (case qk5 => k_is)
      (case qa6 => k_is)
      (case ql6 => k_is)
      (case qc6 => k_is)
      (case qk6 => k_is)
      (case qa7 => k_is)
      (case ql7 => k_is)
      (case qc7 => k_is)
      (case qk7 => k_is)
      (case qa8 => k_is)
      (case ql8 => k_is)
      (case qc8 => k_is)
      (case qk8 => k_is)
      (case qz0 => k_is)
      (case qz1 => k_is)
      (case qz2 => k_is)
      (case qz3 => k_is)
      (case qz4 => k_is)
      (case qz5 => k_is)
      (case pi0 => k_is)
      (case pg0 => k_is)
      (case pd0 => k_is)
      (case po0 => k_is)
      (case pe0 => k_is)
      (case pm0_ => k_is)
      (case pk0 => k_is)
      (case pj0_0 => k_is)
      (case pj0_1 => k_is)
      (case pj0_2 => k_is)
      (case pj0_3 => k_is)
      (case pq0_0 => kit_is)
      (case pg1 => k_is)
      (case pd1 => k_is)
      (case po1 => k_is)
      (case pe1 => k_is)
      (case pm1_ => k_is)
      (case pk1 => k_is)
      (case pj1_0 => k_is)
      (case pj1_1 => k_is)
      (case pj1_2 => k_is)
      (case pj1_3 => k_is)
      (case pq1_0 => kit_is)
      (case pn1_0 => k_is)
      (case pi2 => k_is)
      (case pg2 => k_is)
      (case pd2 => k_is)
      (case po2 => k_is)
      (case pe2 => k_is)
      (case pm2_ => k_is)
      (case pk2 => k_is)
      (case pj2_0 => k_is)
      (case pj2_1 => k_is)
      (case pj2_2 => k_is)
      (case pj2_3 => k_is)
      (case pq2_0 => kit_is)
    obtain ⟨t, T⟩ := T
    have e0 := hmg.symm.trans T.m_law
    cases e0
    exact ⟨_, T.w_law, fun base _ _ => K36.ok_law T⟩
  case S => exact fun K H a ns hl _ hS => ⟨a, ns, rfl, hS, hl, fun _ => rfl⟩
  case C => exact fun _ _ _ _ z => z
