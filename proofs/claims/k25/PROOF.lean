import PyProof.Rows.All
import Wide.All
import OpenK.AllK
import Wide.FinOn
import Lean
import PyProof.EqAt
import PyProof.EqKinds
import PyProof.TupleCall
import PySem.Challenge.RW_forerun_k25_steps_of_rows
import KE.KDictList
import KE.KDictOf
import KE.KEqDict
import KE.KIntText
import KE.KItemsList
import KE.KRevIter
import KE.KSortAsk
import KE.KSortTup
import KE.KTryMore
import PyProof.AttrMissHeap
import PyProof.Conv_int_bool
import PyProof.DictItems
import PyProof.DictKinds
import PyProof.DictWalks
import PyProof.EnumFor
import PyProof.EnumMake
import PyProof.EqKinds
import PyProof.ListIndexNeg
import PyProof.MeetsStr
import PyProof.NeKinds
import PyProof.NsDelKeeps
import PyProof.Rows.EqDataRows
import PyProof.Rows.Range3
import PyProof.StrCalls2
import PyProof.StrLaws
import PyProof.StrLawsTight
import PyProof.StrOps
import PyProof.StrOps2
import PyProof.TupleIter
import PyProof.TupleKey
import PyProof.ZipIter
set_option Elab.async false
set_option linter.all false
set_option maxRecDepth 100000
/-! THE HAND LAYER, for ints, bools, texts, own classes, LISTS and tuples (index, slices, in, append, pop ..), calls, loops. Paste it whole ahead of your own text; what your proof does not reach may be deleted. -/
namespace L2
open PySem PySem.Spec PyProof.Rows

/-- a key: an int or a str -/
abbrev Key := Sum Int Str
def keyIs : Key → Value → Bool
  | .inl k, v => Value.isInt k v
  | .inr x, v => Value.isStrOf x v
def keyH (w : World) : Key → Int
  | .inl k => hashInt k
  | .inr x => hashStr w x
theorem keyIs_shape : ∀ {k : Key} {v : Value}, keyIs k v = true → (∃ i t, k = Sum.inl i ∧ v = Value.int i t) ∨ (∃ x t, k = Sum.inr x ∧ v = Value.str x t)
  | .inl i, v, h => by
    obtain ⟨t, e⟩ := Value.isInt_shape (k := i) (v := v) h
    exact .inl ⟨i, t, rfl, e⟩
  | .inr x, v, h => by
    obtain ⟨t, e⟩ := Value.isStrOf_shape (x := x) (v := v) h
    exact .inr ⟨x, t, rfl, e⟩
theorem key_ll (a b : Int) : decide ((Sum.inl a : Key) = Sum.inl b) = (a == b) := by
  by_cases e : a = b
  · subst e; simp
  · have h : ¬ (Sum.inl a : Key) = Sum.inl b := fun q => e (Sum.inl.inj q)
    rw [decide_eq_false h]
    exact (beq_eq_false_iff_ne.mpr e).symm
theorem key_rr (a b : Str) : decide ((Sum.inr a : Key) = Sum.inr b) = decide (a = b) := by
  by_cases e : a = b
  · subst e; simp
  · have h : ¬ (Sum.inr a : Key) = Sum.inr b := fun q => e (Sum.inr.inj q)
    rw [decide_eq_false h, decide_eq_false e]
theorem key_lr (a : Int) (b : Str) : decide ((Sum.inl a : Key) = Sum.inr b) = false := decide_eq_false (fun q => nomatch q)
theorem key_rl (a : Str) (b : Int) : decide ((Sum.inr a : Key) = Sum.inl b) = false := decide_eq_false (fun q => nomatch q)

def mixKind (prog : Program) (w : World) : PySem.KeyKind prog w Key where
  is := keyIs
  hash := keyH w
  inj := fun v a b ha hb => by
    rcases keyIs_shape ha with ⟨i, t, rfl, rfl⟩ | ⟨x, t, rfl, rfl⟩
    · rcases keyIs_shape hb with ⟨j, u, rfl, e⟩ | ⟨y, u, rfl, e⟩
      · injection e with e1 _; rw [e1]
      · exact nomatch e
    · rcases keyIs_shape hb with ⟨j, u, rfl, e⟩ | ⟨y, u, rfl, e⟩
      · exact nomatch e
      · injection e with e1 _; rw [e1]
  byValue := fun k v h => by
    rcases keyIs_shape h with ⟨i, t, rfl, rfl⟩ | ⟨x, t, rfl, rfl⟩ <;> rfl
  pyHash := fun hv h => by
    rcases keyIs_shape hv with ⟨i, t, rfl, rfl⟩ | ⟨x, t, rfl, rfl⟩
    · exact wpAny_pyHash_int h
    · exact wpAny_pyHash_str h
  eqBool := fun hu hv h => by
    rcases keyIs_shape hu with ⟨i, t, rfl, rfl⟩ | ⟨x, t, rfl, rfl⟩
    · rcases keyIs_shape hv with ⟨j, u, rfl, rfl⟩ | ⟨y, u, rfl, rfl⟩
      · rw [key_ll] at h; exact wpAny_eqBool_int h
      · rw [key_lr] at h; exact SeqAt.EqAt.int_str i t y u _ _ _ _ h
    · rcases keyIs_shape hv with ⟨j, u, rfl, rfl⟩ | ⟨y, u, rfl, rfl⟩
      · rw [key_rl] at h; exact SeqAt.EqAt.str_int x t j u _ _ _ _ h
      · rw [key_rr] at h; exact wpAny_eqBool_str h
  «strs» := fun k x t v h => by
    rcases keyIs_shape h with ⟨i, u, rfl, e⟩ | ⟨y, u, rfl, e⟩
    · exact nomatch e
    · injection e with e1 _
      subst e1
      cases v <;> rfl

end L2

namespace L2
open PySem PySem.Spec PyProof.Rows

/-- a value, without the heap -/
inductive V where
  | non | bl (b : Bool) | int (i : Int) | str (x : Str) | byt (b : Array UInt8) | flt (b : UInt64) | ref (a : Addr) | ty (n : String)
  deriving DecidableEq

def RelV : V → Value → Prop
  | .non, u => u = Value.none
  | .bl b, u => u = Value.bool b
  | .int i, u => ∃ t, u = Value.int i t
  | .str x, u => ∃ t, u = Value.str x t
  | .byt b, u => ∃ t, u = Value.bytes b t
  | .flt b, u => ∃ t, u = Value.float b t
  | .ref a, u => u = Value.ref a
  | .ty n, u => u = Value.type n

abbrev Vals : List V → List Value → Prop := Paired RelV
theorem Vals.length {xs : List V} {us : List Value} (r : Vals xs us) : xs.length = us.length := Paired.length r
theorem Vals.get : ∀ {xs : List V} {us : List Value} {i : Nat} {x : V}, Vals xs us → xs[i]? = some x → ∃ u, us[i]? = some u ∧ RelV x u
  | _, _, _, _, .nil, e => by simp at e
  | _, _, 0, _, .cons r _, e => by simp at e; subst e; exact ⟨_, rfl, r⟩
  | _, _, i + 1, x, .cons _ t, e => by
    obtain ⟨u, h1, h2⟩ := Vals.get (i := i) (x := x) t (by simpa using e)
    exact ⟨u, by simpa using h1, h2⟩
theorem Vals.append : ∀ {xs ys : List V} {us ws : List Value}, Vals xs us → Vals ys ws → Vals (xs ++ ys) (us ++ ws)
  | _, _, _, _, .nil, s => s
  | _, _, _, _, .cons r t, s => .cons r (Vals.append t s)
theorem Vals.take : ∀ {xs : List V} {us : List Value} (n : Nat), Vals xs us → Vals (xs.take n) (us.take n)
  | _, _, 0, _ => .nil
  | _, _, _ + 1, .nil => .nil
  | _, _, n + 1, .cons r t => .cons r (Vals.take n t)
theorem Vals.drop : ∀ {xs : List V} {us : List Value} (n : Nat), Vals xs us → Vals (xs.drop n) (us.drop n)
  | _, _, 0, r => r
  | _, _, _ + 1, .nil => .nil
  | _, _, n + 1, .cons _ t => Vals.drop n t
def RelO : Option V → Option Value → Prop
  | some v, some u => RelV v u
  | none, none => True
  | _, _ => False
def KV {κ : Type} : List (κ × V) → List (κ × Value) → Prop := Paired fun (p : κ × V) (q : κ × Value) => p.1 = q.1 ∧ RelV p.2 q.2

/-- a key of a dict (00_mix): an int or a text -/
def kV : Key → V
  | .inl i => .int i
  | .inr x => .str x

/-- what stands at a tracked address -/
inductive HO where
  /-- a list -/
  | lst (xs : List V)
  /-- a tuple (never changes) -/
  | tup (xs : List V)
  /-- a dict whose keys are ints and texts; one whose keys are tuples of ints and texts (the empty one is both) -/
  | dK (kvs : List (Key × V)) | dT (kvs : List (List Key × V))
  /-- a set of ints: its members, its size -/
  | set (S : Int → Bool) (n : Nat)
  /-- an instance of the class at C, its dict at dx, its attributes -/
  | ins (C dx : Addr) (fs : List (Str × V))
  /-- the dict of the instance at x -/
  | own (x : Addr)
  /-- the dict of an exception -/
  | xd (fs : List (Str × V))
  /-- a bound method, f of x -/
  | met (f x : Addr)
  /-- a range object lo, lo + 1, .. below hi -/
  | rng (lo hi : Int)
  /-- a thing that is known to the object (the script; a dict while a loop walks it): read, never written while it is so -/
  | frz (o : Obj) (u : HO)
  /-- a code object's table -/
  | tbl (ps : Array Value)
  /-- any other thing, by what is true of its one object (a def of one's own: SetO a S n := HO.ext fun h => ..) -/
  | ext (φ : Heap → Prop)

abbrev Hp := Addr → Option HO
def upd (H : Hp) (a : Addr) (o : HO) : Hp := fun b => if b = a then some o else H b
theorem upd_same {H : Hp} {a : Addr} {o : HO} : upd H a o a = some o := by unfold upd; rw [if_pos rfl]
theorem upd_ne {H : Hp} {a b : Addr} {o : HO} (h : b ≠ a) : upd H a o b = H b := by unfold upd; rw [if_neg h]
/-- two objects of different content stand apart -/
theorem ne_of {H : Hp} {a b : Addr} {o u : HO} (h : H a = some o) (h' : H b = some u) (d : o ≠ u) : a ≠ b := by
  intro e; subst e; rw [h] at h'; exact d (Option.some.inj h')
theorem ne_of_none {H : Hp} {a b : Addr} {o : HO} (h : H a = some o) (h' : H b = none) : a ≠ b := by
  intro e; subst e; rw [h] at h'; cases h'

section
variable (P : Program) (w : World)
def ObjOk (H : Hp) (h : Heap) (a : Addr) : HO → Prop
  | .lst xs => xs.length ≤ sizeLine ∧ ∃ (its : List Value) (n : Nat), Vals xs its ∧ h.get? a = some { cls := .type "list", data := .seq its.toArray n }
  | .tup xs => xs.length ≤ sizeLine ∧ ∃ its : List Value, Vals xs its ∧ IsTup h a its.toArray
  | .dK kvs => kvs.length ≤ sizeLine ∧ (a == sysModules) = false ∧ ∃ vs, KV kvs vs ∧ h.DictOf (mixKind P w) a vs
  | .dT kvs => kvs.length ≤ sizeLine ∧ (a == sysModules) = false ∧ ∃ xs : List (List Key × Addr × Value),
      Paired (fun (p : List Key × V) (q : List Key × Addr × Value) => p.1 = q.1 ∧ H q.2.1 = some (.tup (p.1.map kV)) ∧ RelV p.2 q.2.2) kvs xs ∧
      ∃ o es ep, h.get? a = some o ∧ o.ExactDict ∧ o.data = .dict es ep ∧ es.toList = xs.map (entryOfKey (tupleKind (mixKind P w))) ∧ (xs.map (·.1)).Nodup
  | .set S n => h.SetOf (intKind P w) a S n
  | .ins C dx fs => H dx = some (.own a) ∧ fs.length ≤ 1000 ∧ dx ≠ a ∧ h.get? a = some (PySem.W.instObj C dx) ∧
      ∃ mA, h.Ns1 dx mA ∧ (∀ f, RelO (fs.lookup f) (mA f)) ∧ PySem.Within mA (fs.map (·.1))
  | .own _ => ∃ o, h.get? a = some o
  | .xd fs => ∃ mA, h.Ns1 a mA ∧ ∀ f, RelO (fs.lookup f) (mA f)
  | .rng lo hi => ∃ t u v, h.get? a = some { cls := .type "range", data := .fields #[.int lo t, .int hi u, .int 1 v] }
  | .frz o u => h.get? a = some o ∧ ObjOk H h a u
  | .tbl ps => h.get? a = some { cls := .none, data := .fields ps }
  | .met f x => h.get? a = some (PySem.W.methodObj (.ref f) (.ref x))
  | .ext φ => φ h ∧ (∃ o, h.get? a = some o) ∧ ∀ h1 h2 : Heap, φ h1 → (∀ o, h1.get? a = some o → h2.get? a = some o) → φ h2
/-- the abstract heap is held -/
def HOk (H : Hp) (h : Heap) : Prop := ∀ a o, H a = some o → ObjOk P w H h a o
end

section
variable {P : Program} {w : World} {H H' : Hp} {h h' : Heap} {a : Addr} {o : HO}
theorem ObjOk.lt (x : ObjOk P w H h a o) : a < h.objs.size := by
  cases o with
  | lst xs => obtain ⟨_, _, _, _, e⟩ := x; exact Heap.lt_size e
  | tup xs => obtain ⟨_, _, _, p⟩ := x; exact p.lt
  | dK kvs => obtain ⟨_, _, _, _, o, _, _, e, _⟩ := x; exact Heap.lt_size e
  | dT kvs => obtain ⟨_, _, _, _, o, _, _, e, _⟩ := x; exact Heap.lt_size e
  | set S n => obtain ⟨o, _, _, _, e, _⟩ := x; exact Heap.lt_size e
  | ins C dx fs => obtain ⟨_, _, _, e, _⟩ := x; exact Heap.lt_size e
  | own y => obtain ⟨_, e⟩ := x; exact Heap.lt_size e
  | xd fs => obtain ⟨_, ⟨_, _, _, e, _⟩, _⟩ := x; exact Heap.lt_size e
  | rng lo hi => obtain ⟨_, _, _, e⟩ := x; exact Heap.lt_size e
  | frz ob u => obtain ⟨e, _⟩ := x; exact Heap.lt_size e
  | tbl ps => exact Heap.lt_size (show h.get? a = some _ from x)
  | met f y => exact Heap.lt_size (show h.get? a = some _ from x)
  | ext φ => obtain ⟨_, ⟨_, e⟩, _⟩ := x; exact Heap.lt_size e
theorem Paired.mapP {α β : Type} {F G : α → β → Prop} : ∀ {l₁ : List α} {l₂ : List β}, Paired F l₁ l₂ → (∀ a b, F a b → G a b) → Paired G l₁ l₂
  | _, _, .nil, _ => .nil
  | _, _, .cons r t, f => .cons (f _ _ r) (Paired.mapP t f)
/-- what an object's description leans on: its own object, its own dict, the tuples -/
theorem ObjOk.stay (x : ObjOk P w H h a o) (k : ∀ b u, (b = a ∨ H b = some (.own a)) → h.get? b = some u → h'.get? b = some u)
    (ho : ∀ b, H b = some (.own a) → H' b = some (.own a)) (ht : ∀ b xs, H b = some (.tup xs) → H' b = some (.tup xs)) : ObjOk P w H' h' a o := by
  induction o with
  | lst xs => obtain ⟨z, its, n, r, e⟩ := x; exact ⟨z, its, n, r, k _ _ (.inl rfl) e⟩
  | tup xs => obtain ⟨z, its, r, ob, e, c⟩ := x; exact ⟨z, its, r, ob, k _ _ (.inl rfl) e, c⟩
  | dK kvs => obtain ⟨z, y, vs, r, ob, es, ep, e, c⟩ := x; exact ⟨z, y, vs, r, ob, es, ep, k _ _ (.inl rfl) e, c⟩
  | dT kvs =>
    obtain ⟨z, y, xs, r, ob, es, ep, e, c⟩ := x
    exact ⟨z, y, xs, Paired.mapP r fun p q z => ⟨z.1, ht _ _ z.2.1, z.2.2⟩, ob, es, ep, k _ _ (.inl rfl) e, c⟩
  | set S n => obtain ⟨ob, es, ep, t, e, c⟩ := x; exact ⟨ob, es, ep, t, k _ _ (.inl rfl) e, c⟩
  | ins C dx fs =>
    obtain ⟨d, z, ne, e, mA, ⟨od, es, ep, e2, c⟩, r⟩ := x
    exact ⟨ho _ d, z, ne, k _ _ (.inl rfl) e, mA, ⟨od, es, ep, k _ _ (.inr d) e2, c⟩, r⟩
  | own y => obtain ⟨ob, e⟩ := x; exact ⟨ob, k _ _ (.inl rfl) e⟩
  | xd fs => obtain ⟨mA, ⟨od, es, ep, e, c⟩, r⟩ := x; exact ⟨mA, ⟨od, es, ep, k _ _ (.inl rfl) e, c⟩, r⟩
  | rng lo hi => obtain ⟨t, u, v, e⟩ := x; exact ⟨t, u, v, k _ _ (.inl rfl) e⟩
  | frz ob u ih => obtain ⟨e, q⟩ := x; exact ⟨k _ _ (.inl rfl) e, ih q⟩
  | tbl ps =>
    have e : h.get? a = some { cls := .none, data := .fields ps } := x
    show h'.get? a = some { cls := .none, data := .fields ps }
    exact k a _ (.inl rfl) e
  | met f y =>
    have e : h.get? a = some (PySem.W.methodObj (.ref f) (.ref y)) := x
    show h'.get? a = some (PySem.W.methodObj (.ref f) (.ref y))
    exact k a _ (.inl rfl) e
  | ext φ => obtain ⟨p, ⟨o, e⟩, st⟩ := x; exact ⟨st _ _ p fun o q => k _ _ (.inl rfl) q, ⟨o, k _ _ (.inl rfl) e⟩, st⟩
theorem HOk.lt (x : HOk P w H h) (e : H a = some o) : a < h.objs.size := (x a o e).lt
theorem HOk.fresh (x : HOk P w H h) (e : h.objs.size ≤ a) : H a = none := by
  cases q : H a with
  | none => rfl
  | some u => exact absurd (Nat.lt_of_lt_of_le (x.lt q) e) (Nat.lt_irrefl _)
/-- every object of the heap is kept -/
theorem HOk.kept (x : HOk P w H h) (k : ∀ b u, h.get? b = some u → h'.get? b = some u) : HOk P w H h' := fun a o e =>
  (x a o e).stay (fun b u _ q => k b u q) (fun _ q => q) fun _ _ q => q
/-- a new object is laid and tracked -/
theorem HOk.laid (x : HOk P w H h) (k : ∀ b u, h.get? b = some u → h'.get? b = some u) (hp : h.objs.size ≤ a) (new : ObjOk P w (upd H a o) h' a o) : HOk P w (upd H a o) h' := fun b u e => by
  have hn := x.fresh hp
  by_cases hb : b = a
  · subst hb; rw [upd_same] at e; cases e; exact new
  · rw [upd_ne hb] at e
    exact (x b u e).stay (fun c v _ q => k c v q) (fun c q => by rw [upd_ne (ne_of_none q hn)]; exact q) fun c xs q => by rw [upd_ne (ne_of_none q hn)]; exact q
end

/-- what may be read as u: it is u, or a known u -/
def Rd (H : Hp) (a : Addr) (u : HO) : Prop := H a = some u ∨ ∃ o, H a = some (.frz o u)
theorem Rd.ok {P : Program} {w : World} {H : Hp} {h : Heap} {a : Addr} {u : HO} (r : Rd H a u) (x : HOk P w H h) : ObjOk P w H h a u := by
  rcases r with r | ⟨o, r⟩
  · exact x a u r
  · obtain ⟨_, q⟩ := x a _ r
    exact q
/-- what may be written -/
def Mut : Option HO → Prop
  | some (.lst _) => True
  | some (.dK _) => True
  | some (.dT _) => True
  | some (.set _ _) => True
  | some (.ins _ _ _) => True
  | some (.ext _) => True
  | _ => False
section
variable {P : Program} {w : World} {H : Hp} {h h' : Heap} {x e : Addr} {o' : HO}
/-- the object at e is changed: x itself, or the dict of the instance x -/
theorem HOk.write (ok : HOk P w H h) (mu : Mut (H x)) (he : e = x ∨ H e = some (.own x)) (k : ∀ b u, b ≠ e → h.get? b = some u → h'.get? b = some u) (heo : ∃ u, h'.get? e = some u)
    (new : ObjOk P w (upd H x o') h' x o') : HOk P w (upd H x o') h' := fun b u q => by
  have nown : ∀ c y, H c = some (.own y) → c ≠ x := fun c y r z => by subst z; rw [r] at mu; exact mu
  have ntup : ∀ c xs, H c = some (.tup xs) → c ≠ x := fun c xs r z => by subst z; rw [r] at mu; exact mu
  by_cases hb : b = x
  · subst hb; rw [upd_same] at q; cases q; exact new
  · rw [upd_ne hb] at q
    by_cases hbe : b = e
    · have q' : H b = some (.own x) := by
        rcases he with z | z
        · exact absurd (hbe.trans z) hb
        · rw [hbe]; exact z
      rw [q] at q'; cases q'
      obtain ⟨v, hv⟩ := heo
      exact ⟨v, by rw [hbe]; exact hv⟩
    · refine (ok b u q).stay (fun c v hc r => k c v ?_ r) (fun c r => by rw [upd_ne (nown c b r)]; exact r) fun c xs r => by rw [upd_ne (ntup c xs r)]; exact r
      rcases hc with rfl | hc
      · exact hbe
      · rintro rfl
        rcases he with z | z
        · exact nown c b hc z
        · rw [hc] at z; cases z; exact hb rfl
end

/-! ### kept unless tracked; of the frames at fs (the callers') the slots may change (an exception that passes writes there); of the records at ex (iterators) nothing is said -/
structure Un (fs ex : List Addr) (H H' : Hp) (h h' : Heap) : Prop where
  keep : ∀ b o, h.get? b = some o → H b = none → b ∉ fs → b ∉ ex → h'.get? b = some o
  slot : ∀ b o, h.get? b = some o → H b = none → b ∈ fs → b ∉ ex → ∃ sl, h'.get? b = some { o with slots := sl }
  free : ∀ b o, h.get? b = some o → H b = none → b ∉ ex → H' b = none
  there : ∀ b o, h.get? b = some o → b ∉ ex → ∃ o', h'.get? b = some o'
  tups : ∀ b xs, H b = some (.tup xs) → H' b = some (.tup xs)
  frzs : ∀ b o u, H b = some (.frz o u) → H' b = some (.frz o u)
  tbls : ∀ b ps, H b = some (.tbl ps) → ∃ more, H' b = some (.tbl (ps ++ more))
section
variable {fs fs' ex ex' : List Addr} {H H1 H2 : Hp} {h h1 h2 h' : Heap} {a x e : Addr} {o : HO}
theorem Un.any (u : Un fs ex H H1 h h1) {b : Addr} {ob : Obj} (q : h.get? b = some ob) (n : H b = none) (hx : b ∉ ex) : ∃ sl, h1.get? b = some { ob with slots := sl } := by
  by_cases hb : b ∈ fs
  · exact u.slot b ob q n hb hx
  · exact ⟨ob.slots, u.keep b ob q n hb hx⟩
theorem Un.kept (k : ∀ b u, h.get? b = some u → h'.get? b = some u) : Un fs ex H H h h' :=
  ⟨fun b ob q _ _ _ => k b ob q, fun b ob q _ _ _ => ⟨ob.slots, k b ob q⟩, fun _ _ _ n _ => n, fun b ob q _ => ⟨ob, k b ob q⟩, fun _ _ q => q, fun _ _ _ q => q, fun _ ps q => ⟨#[], by rw [q]; simp⟩⟩
theorem Un.refl : Un fs ex H H h h := Un.kept fun _ _ q => q
theorem Un.laid (k : ∀ b u, h.get? b = some u → h'.get? b = some u) (hp : h.objs.size ≤ a) (hn : H a = none) : Un fs ex H (upd H a o) h h' where
  keep := fun b u q _ _ _ => k b u q
  slot := fun b u q _ _ _ => ⟨u.slots, k b u q⟩
  free := fun b u q n _ => by rw [upd_ne (Nat.ne_of_lt (Nat.lt_of_lt_of_le (Heap.lt_size q) hp))]; exact n
  there := fun b u q _ => ⟨u, k b u q⟩
  tups := fun b xs q => by rw [upd_ne (ne_of_none q hn)]; exact q
  frzs := fun b u xs q => by rw [upd_ne (ne_of_none q hn)]; exact q
  tbls := fun b ps q => ⟨#[], by rw [upd_ne (ne_of_none q hn), q]; simp⟩
theorem Un.write (mu : Mut (H x)) (he : e = x ∨ H e = some (.own x)) (k : ∀ b u, b ≠ e → h.get? b = some u → h'.get? b = some u) (heo : ∃ u, h'.get? e = some u) : Un fs ex H (upd H x o) h h' := by
  have hx : ∀ b, H b = none → b ≠ x := fun b n z => by subst z; rw [n] at mu; exact mu
  have hb : ∀ b, H b = none → b ≠ e := fun b n z => by
    subst z
    rcases he with r | r
    · exact hx b n r
    · rw [n] at r; cases r
  have hm : ∀ b u, H b = some u → ¬ Mut (some u) → b ≠ x := fun b u q nm z => by subst z; rw [q] at mu; exact nm mu
  refine ⟨fun b u q n _ _ => k b u (hb b n) q, fun b u q n _ _ => ⟨u.slots, k b u (hb b n) q⟩, fun b u q n _ => by rw [upd_ne (hx b n)]; exact n, fun b u q _ => ?_,
    fun b xs q => by rw [upd_ne (hm b _ q fun z => z)]; exact q, fun b u xs q => by rw [upd_ne (hm b _ q fun z => z)]; exact q, fun b ps q => ⟨#[], by rw [upd_ne (hm b _ q fun z => z), q]; simp⟩⟩
  by_cases hbe : b = e
  · subst hbe; exact heo
  · exact ⟨u, k b u hbe q⟩
end

/-! ### the heap without what is tracked -/
def trk (h : Heap) (H : Hp) : List Addr := (List.range h.objs.size).filter fun a => (H a).isSome
def hidT (h : Heap) (H : Hp) : Heap := PySem.W.hideAll h (trk h H)
theorem hidT_size (h : Heap) (H : Hp) : (hidT h H).objs.size = h.objs.size := PySem.W.hideAll_size _ _
theorem hidT_get {h : Heap} {H : Hp} {b : Addr} {o : Obj} (e : h.get? b = some o) (n : H b = none) : (hidT h H).get? b = some o :=
  PySem.W.hideAll_get _ e fun hm => by
    have q : (H b).isSome = true := (List.mem_filter.mp hm).2
    rw [n] at q; simp at q
theorem of_hidT {h : Heap} {H : Hp} {b : Addr} {o : Obj} (e : (hidT h H).get? b = some o) : h.get? b = some o ∧ H b = none := by
  have e' : h.get? b = some o := PySem.W.of_hideAll (trk h H) e
  refine ⟨e', ?_⟩
  cases q : H b with
  | none => rfl
  | some x =>
    have hm : b ∈ trk h H := List.mem_filter.mpr ⟨List.mem_range.mpr (Heap.lt_size e'), by simp [q]⟩
    have z : (hidT h H).get? b = none := PySem.W.hideAll_none (trk h H) hm
    rw [z] at e; cases e

/-! ### OpenK's ledger, filled with every new object but one -/
def allNews (g h : Heap) (L : Addr) : List (Addr × Obj) := (List.range h.objs.size).filterMap fun a => if a = L ∨ (g.get? a).isSome = true then none else (h.get? a).map fun o => (a, o)
def rest (g h : Heap) (L d : Addr) : List (Addr × Obj) := (allNews g h L).filter fun p => decide (p.1 ≠ d)
end L2

namespace L2
open PySem PySem.Spec PyProof.Rows

/-- the module's facts, over the base: the heap at the law's entry without what is tracked there -/
structure Mod (K : PySem.W.Frag) (mg : Str → Option Value) (base : Heap) : Prop where
  kin : K.In base
  glob : base.Ns mainGlobals mg
  blt : ∃ mb, base.Ns builtinsNs mb ∧ ∀ x : Str, x ≠ "__name__" → mb x = bootBuiltins x
  nolimit : base.NoLimit

set_option genSizeOf false in
set_option genInjectivity false in
structure Cx where
  prog : Program
  w : World
  K : PySem.W.Frag
  mg : Str → Option Value
  base : Heap
  A : Around
  N : List Str
  s₀ : Shared
  H₀ : Hp
  env : Env
  outer : List Env
  stack : List Env
  ex : List Addr
  fn : Str → Bool
  calm : Bool
  pn : List (Addr × Obj)
  xe : Value → Shared → Prop
/-- the callers' frames -/
def frs (l : List Env) : List Addr := l.filterMap (·.frame)
abbrev Cx.fs (X : Cx) : List Addr := frs X.outer

def Vis (sc : Scope) (x : Str) : Prop := sc.names.lookup x = some .local ∨ sc.names.lookup x = some .cell ∨ sc.names.lookup x = some .free
def Loc (sc : Scope) (x : Str) : Prop := sc.names.lookup x = some .local ∨ sc.names.lookup x = some .cell
def Look (env : Env) (h : Heap) (m : Str → Option Value) (x : Str) (u : Value) : Prop :=
  (env.kindOf x = some .local ∧ m x = some u) ∨ ((env.kindOf x = some .cell ∨ env.kindOf x = some .free) ∧ ∃ c, env.cells.lookup x = some c ∧ h.IsCell c (some u))

structure Cx.Ok (X : Cx) : Prop where
  mod : Mod X.K X.mg X.base
  kind : X.env.scope.kind = .function
  glob : X.env.globals = mainGlobals
  blt : X.env.builtins = builtinsNs
  above : X.s₀.heap.objs.size ≤ X.env.locals
  inj : ∀ x y c, X.env.cells.lookup x = some c → X.env.cells.lookup y = some c → x = y
  has : ∀ x, (X.env.kindOf x = some .cell ∨ X.env.kindOf x = some .free) → ∃ c, X.env.cells.lookup x = some c
  cab : ∀ x c, X.fn x = true → X.env.cells.lookup x = some c → X.s₀.heap.objs.size ≤ c
  hd : X.calm = true → X.A.handled = none
  frames : X.A.frames = some X.stack
  stk : X.stack = X.outer ∨ (X.stack = X.env :: X.outer ∧ X.env.frame = some X.env.locals)
  exf : ∀ b ∈ X.ex, b ≠ X.env.locals ∧ ∀ x c, X.env.cells.lookup x = some c → c ≠ b
  bs : ∀ b o, X.base.get? b = some o → X.s₀.heap.get? b = some o ∧ X.H₀ b = none
  bsz : X.base.objs.size ≤ X.s₀.heap.objs.size
  noex : ∀ b o, X.base.get? b = some o → b ∉ X.ex
  exfs : ∀ b ∈ X.ex, b ∉ X.fs
  funs : X.s₀.heap.FunFrames X.base X.outer
  frf : ∀ b ∈ X.fs, X.H₀ b = none

structure Inv (X : Cx) (pins : List (Addr × Obj)) (σ : List (Option V)) (H : Hp) (s : Shared) : Prop where
  ok : X.Ok
  os : s.os = X.s₀.os
  bare : AllBare s.gens
  base : Un X.fs X.ex X.H₀ H X.s₀.heap s.heap
  loc : ∃ m, s.heap.Ns X.env.locals m ∧ ∀ (i : Nat) (x : Str) (v : V), X.N[i]? = some x → σ[i]? = some (some v) → Vis X.env.scope x → ∃ u, RelV v u ∧ Look X.env s.heap m x u
  cell : ∀ x c, X.env.cells.lookup x = some c → ∃ v, s.heap.IsCell c v
  free : H X.env.locals = none
  freeC : ∀ x c, X.env.cells.lookup x = some c → H c = none
  pin : ∀ p ∈ X.pn ++ pins, s.heap.get? p.1 = some p.2 ∧ H p.1 = none ∧ p.1 ≠ X.env.locals ∧ p.1 ∉ X.fs ∧ ∀ v, p.2.data ≠ .cell v
  hok : HOk X.prog X.w H s.heap
  len : σ.length = X.N.length

section
variable {X : Cx} {pins : List (Addr × Obj)} {σ : List (Option V)} {H H' : Hp} {s : Shared} {h' : Heap}

theorem Cx.Ok.nofr (ok : X.Ok) {b : Addr} {o : Obj} (e : X.base.get? b = some o) : b ∉ X.fs := fun hb => by
  have := (ok.funs.mem hb).1
  rw [e] at this; cases this
theorem Inv.bs (I : Inv X pins σ H s) : ∀ b o, X.base.get? b = some o → s.heap.get? b = some o ∧ H b = none := fun b o e =>
  ⟨I.base.keep b o (I.ok.bs b o e).1 (I.ok.bs b o e).2 (I.ok.nofr e) (I.ok.noex b o e), I.base.free b o (I.ok.bs b o e).1 (I.ok.bs b o e).2 (I.ok.noex b o e)⟩
theorem Inv.bk (I : Inv X pins σ H s) : ∀ b o, X.base.get? b = some o → s.heap.get? b = some o := fun b o e => (I.bs b o e).1
theorem Inv.mod (I : Inv X pins σ H s) : Mod X.K X.mg X.base := I.ok.mod
theorem Inv.kIn (I : Inv X pins σ H s) : X.K.In s.heap := I.ok.mod.kin.keeps I.bk
theorem Inv.lt (I : Inv X pins σ H s) : X.env.locals < s.heap.objs.size := let ⟨_, hn, _⟩ := I.loc; hn.lt
theorem Inv.sz (I : Inv X pins σ H s) : X.s₀.heap.objs.size ≤ s.heap.objs.size := Nat.le_trans I.ok.above (Nat.le_of_lt I.lt)
theorem Inv.nofs (I : Inv X pins σ H s) {a : Addr} (h : s.heap.objs.size ≤ a) : a ∉ X.fs := fun hb => by
  obtain ⟨_, o, ho, _⟩ := I.ok.funs.mem hb
  exact absurd (Nat.lt_of_lt_of_le (Heap.lt_size ho) (Nat.le_trans I.sz h)) (Nat.lt_irrefl _)
theorem Inv.cne (I : Inv X pins σ H s) : ∀ x c, X.env.cells.lookup x = some c → c ≠ X.env.locals := fun x c e z => by
  obtain ⟨v, o, ho, hd⟩ := I.cell x c e
  obtain ⟨m, ⟨o', es, ep, ho', hd', _⟩, _⟩ := I.loc
  rw [z, ho'] at ho; cases ho; rw [hd'] at hd; cases hd
theorem Inv.funs (I : Inv X pins σ H s) : s.heap.FunFrames X.base X.outer := by
  have all : ∀ (l : List Env), (∀ b ∈ frs l, b ∈ X.fs) → X.s₀.heap.FunFrames X.base l → s.heap.FunFrames X.base l := by
    intro l
    induction l with
    | nil => intro _ _; trivial
    | cons env r ih =>
      intro hs hl
      obtain ⟨hk, ⟨L, o, hf, hn, ho, hd⟩, hr⟩ := hl
      have hL : L ∈ X.fs := hs L (by unfold frs; rw [List.filterMap_cons, hf]; exact List.mem_cons_self)
      obtain ⟨sl, e⟩ := I.base.slot L o ho (I.ok.frf L hL) hL fun z => I.ok.exfs L z hL
      exact ⟨hk, ⟨L, _, hf, hn, e, hd⟩, ih (fun b hb => hs b (by unfold frs; rw [List.filterMap_cons, hf]; exact List.mem_cons_of_mem _ hb)) hr⟩
  exact all X.outer (fun _ hb => hb) I.ok.funs

/-- the frames that run, for a call -/
theorem Inv.stack (I : Inv X pins σ H s) : s.heap.FunFrames X.base X.stack := by
  rcases I.ok.stk with e | ⟨e, hf⟩
  · rw [e]; exact I.funs
  · rw [e]
    obtain ⟨m, hn, _⟩ := I.loc
    refine .cons (by rw [I.ok.kind]; decide) hf hn ?_ I.funs
    exact Heap.get?_none_of_le (Nat.le_trans I.ok.bsz I.ok.above)
theorem Inv.stkSub (I : Inv X pins σ H s) : ∀ b ∈ frs X.stack, b ∈ X.env.locals :: X.fs := fun b hb => by
  rcases I.ok.stk with e | ⟨e, hf⟩
  · rw [e] at hb; exact List.mem_cons_of_mem _ hb
  · rw [e] at hb
    unfold frs at hb
    rw [List.filterMap_cons, hf] at hb
    exact hb
theorem Inv.stkFree (I : Inv X pins σ H s) : ∀ b ∈ frs X.stack, H b = none := fun b hb => by
  rcases List.mem_cons.mp (I.stkSub b hb) with e | hb
  · rw [e]; exact I.free
  · obtain ⟨_, o, ho, _⟩ := I.ok.funs.mem hb
    exact I.base.free b o ho (I.ok.frf b hb) fun z => I.ok.exfs b z hb

/-- THE STEP: the untracked objects but the frame and the records at ch are kept (the callers' frames up to slots), the frame's map is kept, the new abstract heap is held -/
theorem Inv.step {g' : Array GenState} {t' : Nat} {d' : Drawn} {ch : List Addr} (I : Inv X pins σ H s)
    (hch : ∀ b ∈ ch, (b ∈ X.ex ∨ X.s₀.heap.objs.size ≤ b) ∧ b ≠ X.env.locals ∧ (∀ x c, X.env.cells.lookup x = some c → c ≠ b) ∧ ∀ p ∈ X.pn ++ pins, p.1 ≠ b)
    (keep : ∀ b o, b ≠ X.env.locals → b ∉ X.fs → b ∉ ch → s.heap.get? b = some o → H b = none → h'.get? b = some o)
    (slot : ∀ b o, b ≠ X.env.locals → b ∈ X.fs → b ∉ ch → s.heap.get? b = some o → H b = none → ∃ sl, h'.get? b = some { o with slots := sl }) (free : ∀ b o, b ∉ ch → s.heap.get? b = some o → H b = none → H' b = none)
    (there : ∀ b o, b ∉ ch → s.heap.get? b = some o → ∃ o', h'.get? b = some o')
    (tups : ∀ b xs, H b = some (.tup xs) → H' b = some (.tup xs)) (frzs : ∀ b o u, H b = some (.frz o u) → H' b = some (.frz o u)) (tbls : ∀ b ps, H b = some (.tbl ps) → ∃ more, H' b = some (.tbl (ps ++ more)))
    (ns : ∀ m, s.heap.Ns X.env.locals m → h'.Ns X.env.locals m) (hok : HOk X.prog X.w H' h') (hg : AllBare g') :
    Inv X pins σ H' { s with heap := h', gens := g', drawn := d', toks := t' } := by
  have neL : ∀ b o, X.s₀.heap.get? b = some o → b ≠ X.env.locals := fun b o e => Nat.ne_of_lt (Nat.lt_of_lt_of_le (Heap.lt_size e) I.ok.above)
  have neC : ∀ b o, X.s₀.heap.get? b = some o → b ∉ X.ex → b ∉ ch := fun b o e hx hb => by
    rcases (hch b hb).1 with z | z
    · exact hx z
    · exact absurd (Nat.lt_of_lt_of_le (Heap.lt_size e) z) (Nat.lt_irrefl _)
  have cellK : ∀ x c, X.env.cells.lookup x = some c → ∀ v, s.heap.IsCell c v → h'.IsCell c v := fun x c e v ⟨o, ho, hd⟩ => by
    have nch : c ∉ ch := fun z => (hch c z).2.2.1 x c e rfl
    by_cases hc : c ∈ X.fs
    · obtain ⟨sl, q⟩ := slot c o (I.cne x c e) hc nch ho (I.freeC x c e)
      exact ⟨_, q, hd⟩
    · exact ⟨o, keep c o (I.cne x c e) hc nch ho (I.freeC x c e), hd⟩
  refine ⟨I.ok, I.os, hg, ⟨fun b o e n hb hx => ?_, fun b o e n hb hx => ?_, fun b o e n hx => ?_, fun b o e hx => ?_, fun b xs e => tups b xs (I.base.tups b xs e), fun b o xs e => frzs b o xs (I.base.frzs b o xs e), fun b ps e => ?_⟩, ?_, fun x c e => ?_, ?_, fun x c e => ?_, fun p hp => ?_, hok, I.len⟩
  · exact keep b o (neL b o e) hb (neC b o e hx) (I.base.keep b o e n hb hx) (I.base.free b o e n hx)
  · obtain ⟨sl, e1⟩ := I.base.slot b o e n hb hx
    obtain ⟨sl', e2⟩ := slot b _ (neL b o e) hb (neC b o e hx) e1 (I.base.free b o e n hx)
    exact ⟨sl', e2⟩
  · obtain ⟨o', e1⟩ := I.base.there b o e hx
    exact free b o' (neC b o e hx) e1 (I.base.free b o e n hx)
  · obtain ⟨o', e1⟩ := I.base.there b o e hx
    exact there b o' (neC b o e hx) e1
  · obtain ⟨m1, e1⟩ := I.base.tbls b ps e
    obtain ⟨m2, e2⟩ := tbls b _ e1
    exact ⟨m1 ++ m2, by rw [e2, Array.append_assoc]⟩
  · obtain ⟨m, hn, hl⟩ := I.loc
    refine ⟨m, ns m hn, fun i x v e1 e2 e3 => ?_⟩
    obtain ⟨u, r, l⟩ := hl i x v e1 e2 e3
    refine ⟨u, r, ?_⟩
    rcases l with l | ⟨k, c, e, z⟩
    · exact .inl l
    · exact .inr ⟨k, c, e, cellK x c e _ z⟩
  · obtain ⟨v, z⟩ := I.cell x c e
    exact ⟨v, cellK x c e v z⟩
  · obtain ⟨m, ⟨o, _, _, ho, _⟩, _⟩ := I.loc
    exact free _ o (fun z => (hch _ z).2.1 rfl) ho I.free
  · obtain ⟨v, o, ho, hd⟩ := I.cell x c e
    exact free c o (fun z => (hch c z).2.2.1 x c e rfl) ho (I.freeC x c e)
  · obtain ⟨e, n, ne, nf, d⟩ := I.pin p hp
    have nch : p.1 ∉ ch := fun z => (hch p.1 z).2.2.2 p hp rfl
    exact ⟨keep p.1 p.2 ne nf nch e n, free p.1 p.2 nch e n, ne, nf, d⟩
/-- .. where the frame's own object is kept too -/
theorem Inv.un {t' : Nat} (I : Inv X pins σ H s) (u : Un X.fs [] H H' s.heap h') (hok : HOk X.prog X.w H' h') : Inv X pins σ H' { s with heap := h', toks := t' } := by
  obtain ⟨m, ⟨o, es, ep, ho, r⟩, _⟩ := id I.loc
  obtain ⟨sl, hL⟩ := u.any ho I.free (by simp)
  exact I.step (g' := s.gens) (d' := s.drawn) (ch := []) (fun _ z => nomatch z) (fun b o _ hb _ e n => u.keep b o e n hb (by simp)) (fun b o _ hb _ e n => u.slot b o e n hb (by simp)) (fun b o _ e n => u.free b o e n (by simp)) (fun b o _ e => u.there b o e (by simp)) u.tups u.frzs u.tbls (fun m' hm => by
    obtain ⟨o', es', ep', ho', r'⟩ := hm
    rw [ho] at ho'; cases ho'
    exact ⟨_, es', ep', hL, r'⟩) hok I.bare
/-- behind a call (or a comprehension's block): the slots of this frame may have changed too, the records at ch may have turned -/
theorem Inv.call {g' : Array GenState} {t' : Nat} {d' : Drawn} {ch : List Addr} (I : Inv X pins σ H s) (u : Un (frs X.stack) ch H H' s.heap h') (hok : HOk X.prog X.w H' h') (hg : AllBare g')
    (hch : ∀ b ∈ ch, (b ∈ X.ex ∨ X.s₀.heap.objs.size ≤ b) ∧ b ≠ X.env.locals ∧ (∀ x c, X.env.cells.lookup x = some c → c ≠ b) ∧ ∀ p ∈ X.pn ++ pins, p.1 ≠ b) :
    Inv X pins σ H' { s with heap := h', gens := g', drawn := d', toks := t' } := by
  obtain ⟨m, ⟨o, es, ep, ho, r⟩, _⟩ := id I.loc
  obtain ⟨sl, hL⟩ := u.any ho I.free fun z => (hch _ z).2.1 rfl
  exact I.step (ch := ch) hch (fun b o hL hb hc e n => u.keep b o e n (fun z => (List.mem_cons.mp (I.stkSub b z)).elim hL hb) hc) (fun b o _ _ hc e n => u.any e n hc) (fun b o hc e n => u.free b o e n hc) (fun b o hc e => u.there b o e hc) u.tups u.frzs u.tbls (fun m' hm => by
    obtain ⟨o', es', ep', ho', r'⟩ := hm
    rw [ho] at ho'; cases ho'
    exact ⟨_, es', ep', hL, r'⟩) hok hg
/-- an untracked record of ours (an iterator) has turned -/
theorem Inv.turned {t' : Nat} {it : Addr} (I : Inv X pins σ H s) (k : ∀ b o, b ≠ it → s.heap.get? b = some o → h'.get? b = some o) (hn : H it = none) (hL : it ≠ X.env.locals)
    (h1 : it ∈ X.ex ∨ X.s₀.heap.objs.size ≤ it) (h2 : ∀ x c, X.env.cells.lookup x = some c → c ≠ it) (h3 : ∀ p ∈ X.pn ++ pins, p.1 ≠ it) : Inv X pins σ H { s with heap := h', toks := t' } := by
  have nit : ∀ b u, H b = some u → b ≠ it := fun b u e z => by rw [z, hn] at e; cases e
  refine I.step (g' := s.gens) (d' := s.drawn) (ch := [it]) (fun b hb => ?_) (fun b o _ _ hc e _ => k b o (fun z => hc (by simp [z])) e) (fun b o _ _ hc e _ => ⟨o.slots, k b o (fun z => hc (by simp [z])) e⟩) (fun _ _ _ _ n => n)
    (fun b o hc e => ⟨o, k b o (fun z => hc (by simp [z])) e⟩) (fun _ _ e => e) (fun _ _ _ e => e) (fun b ps e => ⟨#[], by rw [e]; simp⟩) (fun m hm => ?_) (fun b u e => ?_) I.bare
  · have e : b = it := by simpa using hb
    subst e
    exact ⟨h1, hL, h2, h3⟩
  · obtain ⟨o, es, ep, ho, r⟩ := hm
    exact ⟨o, es, ep, k _ o (Ne.symm hL) ho, r⟩
  · refine (I.hok b u e).stay (fun c v hc q => k c v ?_ q) (fun _ q => q) fun _ _ q => q
    rcases hc with z | z
    · rw [z]; exact nit b u e
    · exact nit c _ z
theorem Inv.tok (I : Inv X pins σ H s) (t : Nat) : Inv X pins σ H { s with toks := t } := I.un (h' := s.heap) (t' := t) Un.refl I.hok
/-- all objects kept -/
theorem Inv.kept {t' : Nat} (I : Inv X pins σ H s) (k : ∀ b u, s.heap.get? b = some u → h'.get? b = some u) : Inv X pins σ H { s with heap := h', toks := t' } := I.un (Un.kept k) (I.hok.kept k)
/-- a new object laid and tracked -/
theorem Inv.laid {a : Addr} {o : HO} {t' : Nat} (I : Inv X pins σ H s) (k : ∀ b u, s.heap.get? b = some u → h'.get? b = some u) (hp : s.heap.objs.size ≤ a) (new : ObjOk X.prog X.w (upd H a o) h' a o) :
    Inv X pins σ (upd H a o) { s with heap := h', toks := t' } := I.un (Un.laid k hp (I.hok.fresh hp)) (I.hok.laid k hp new)
/-- an object written -/
theorem Inv.write {x e : Addr} {o : HO} {t' : Nat} (I : Inv X pins σ H s) (mu : Mut (H x)) (he : e = x ∨ H e = some (.own x)) (k : ∀ b u, b ≠ e → s.heap.get? b = some u → h'.get? b = some u) (heo : ∃ u, h'.get? e = some u)
    (new : ObjOk X.prog X.w (upd H x o) h' x o) : Inv X pins σ (upd H x o) { s with heap := h', toks := t' } := I.un (Un.write mu he k heo) (I.hok.write mu he k heo new)
theorem Inv.pins_of {pins' : List (Addr × Obj)} (I : Inv X pins σ H s) (h : ∀ p ∈ pins', s.heap.get? p.1 = some p.2 ∧ H p.1 = none ∧ p.1 ≠ X.env.locals ∧ p.1 ∉ X.fs ∧ ∀ v, p.2.data ≠ .cell v) : Inv X pins' σ H s :=
  ⟨I.ok, I.os, I.bare, I.base, I.loc, I.cell, I.free, I.freeC, fun p hp => (List.mem_append.mp hp).elim (fun z => I.pin p (List.mem_append_left _ z)) (h p), I.hok, I.len⟩

theorem nodup_ix {N : List Str} (hN : N.Nodup) {i j : Nat} {x : Str} (a : N[i]? = some x) (b : N[j]? = some x) : i = j := by
  obtain ⟨h1, e1⟩ := List.getElem?_eq_some_iff.mp a
  obtain ⟨h2, e2⟩ := List.getElem?_eq_some_iff.mp b
  exact (List.getElem_inj hN).mp (e1.trans e2.symm)

/-- a name is stored; what changed -/
theorem store_ok2 {M : Model} {A : Around} {E : Value → Shared → Prop} {i : Nat} {x : Str} {v : V} {u : Value} {Q : Unit → Shared → Prop} (I : Inv X pins σ H s) (hN : X.N.Nodup) (hi : X.N[i]? = some x) (hx : Loc X.env.scope x) (r : RelV v u)
    (h : ∀ s', Inv X pins (σ.set i (some v)) H s' → (∃ a, Heap.SameBut a s.heap s'.heap ∧ (a = X.env.locals ∨ X.env.cells.lookup x = some a)) → Q () s') (hf : X.fn x = true ∨ X.env.scope.names.lookup x = some .local := by first | exact .inl rfl | exact .inr rfl | assumption) : wpAny M A (storeName X.env x u) Q E s := by
  obtain ⟨m, hn, hl⟩ := id I.loc
  have hcls : (X.env.scope.kind == .class || (X.env.scope.kind == .module && X.env.locals != X.env.globals)) = false := by rw [I.ok.kind]; rfl
  have hiσ : i < σ.length := by rw [I.len]; exact (List.getElem?_eq_some_iff.mp hi).1
  have cne := I.cne
  have tracked : ∀ {a : Addr} {h' : Heap}, (∃ o, s.heap.get? a = some o ∧ H a = none) → Heap.SameBut a s.heap h' → HOk X.prog X.w H h' := fun {a h'} ha hs b ob e => by
    obtain ⟨_, _, hfree⟩ := ha
    refine (I.hok b ob e).stay (fun c w' hc q => (hs.2 c ?_).trans q) (fun _ q => q) fun _ _ q => q
    rintro rfl
    rcases hc with rfl | hc
    · rw [hfree] at e; cases e
    · rw [hfree] at hc; cases hc
  rcases hx with hk | hk
  · refine wpAny_storeName_local hk hn (fun h' hn' hs => ?_) hcls
    obtain ⟨oL, _, _, hoL, _⟩ := id hn
    refine h _ ⟨I.ok, I.os, I.bare, ⟨fun b o e n hb hx => ?_, fun b o e n hb hx => ?_, I.base.free, fun b o e hx => ?_, I.base.tups, I.base.frzs, I.base.tbls⟩, ⟨_, hn', fun j y v' e1 e2 e3 => ?_⟩, fun y c e => ?_, I.free, I.freeC, fun p hp => ?_, tracked ⟨oL, hoL, I.free⟩ hs, by simpa using I.len⟩ ⟨_, hs, .inl rfl⟩
    · exact (hs.2 b (Nat.ne_of_lt (Nat.lt_of_lt_of_le (Heap.lt_size e) I.ok.above))).trans (I.base.keep b o e n hb hx)
    · obtain ⟨sl, e1⟩ := I.base.slot b o e n hb hx
      exact ⟨sl, (hs.2 b (Nat.ne_of_lt (Nat.lt_of_lt_of_le (Heap.lt_size e) I.ok.above))).trans e1⟩
    · obtain ⟨o', e1⟩ := I.base.there b o e hx
      exact ⟨o', (hs.2 b (Nat.ne_of_lt (Nat.lt_of_lt_of_le (Heap.lt_size e) I.ok.above))).trans e1⟩
    · by_cases hj : j = i
      · subst hj
        rw [hi] at e1; cases e1
        rw [List.getElem?_set_self hiσ] at e2
        cases e2
        exact ⟨u, r, .inl ⟨hk, by simp⟩⟩
      · rw [List.getElem?_set_ne (Ne.symm hj)] at e2
        obtain ⟨u', r', q⟩ := hl j y v' e1 e2 e3
        refine ⟨u', r', ?_⟩
        rcases q with ⟨k, e⟩ | ⟨k, c, e, z⟩
        · refine .inl ⟨k, ?_⟩
          have : y ≠ x := fun e => hj (nodup_ix hN e1 (e ▸ hi))
          simp [this, e]
        · exact .inr ⟨k, c, e, z.sameBut hs (cne y c e)⟩
    · obtain ⟨w', z⟩ := I.cell y c e
      exact ⟨w', z.sameBut hs (cne y c e)⟩
    · obtain ⟨e, n, ne, nf, d⟩ := I.pin p hp
      exact ⟨(hs.2 p.1 ne).trans e, n, ne, nf, d⟩
  · have hfn : X.fn x = true := by
      rcases hf with z | z
      · exact z
      · rw [z] at hk; cases hk
    obtain ⟨c, hc⟩ := I.ok.has x (.inl hk)
    obtain ⟨w', z⟩ := I.cell x c hc
    refine wpAny_storeName_cell I.ok.kind hk hc z (fun h' hc' hs => ?_)
    obtain ⟨oc, hoc, hocd⟩ := id z
    refine h { s with heap := h' } ⟨I.ok, I.os, I.bare, ⟨fun b o e n hb hx => ?_, fun b o e n hb hx => ?_, I.base.free, fun b o e hx => ?_, I.base.tups, I.base.frzs, I.base.tbls⟩, ⟨m, hn.sameBut hs (Ne.symm (cne x c hc)), fun j y v' e1 e2 e3 => ?_⟩, fun y c' e => ?_, I.free, I.freeC, fun p hp => ?_, tracked ⟨oc, hoc, I.freeC x c hc⟩ hs, by simpa using I.len⟩ ⟨c, hs, .inr hc⟩
    · exact (hs.2 b (Nat.ne_of_lt (Nat.lt_of_lt_of_le (Heap.lt_size e) (I.ok.cab x c hfn hc)))).trans (I.base.keep b o e n hb hx)
    · obtain ⟨sl, e1⟩ := I.base.slot b o e n hb hx
      exact ⟨sl, (hs.2 b (Nat.ne_of_lt (Nat.lt_of_lt_of_le (Heap.lt_size e) (I.ok.cab x c hfn hc)))).trans e1⟩
    · obtain ⟨o', e1⟩ := I.base.there b o e hx
      exact ⟨o', (hs.2 b (Nat.ne_of_lt (Nat.lt_of_lt_of_le (Heap.lt_size e) (I.ok.cab x c hfn hc)))).trans e1⟩
    · by_cases hj : j = i
      · subst hj
        rw [hi] at e1; cases e1
        rw [List.getElem?_set_self hiσ] at e2
        cases e2
        exact ⟨u, r, .inr ⟨.inl hk, c, hc, hc'⟩⟩
      · rw [List.getElem?_set_ne (Ne.symm hj)] at e2
        obtain ⟨u', r', q⟩ := hl j y v' e1 e2 e3
        refine ⟨u', r', ?_⟩
        rcases q with q | ⟨k, c', e, z'⟩
        · exact .inl q
        · refine .inr ⟨k, c', e, z'.sameBut hs ?_⟩
          rintro rfl
          exact hj (nodup_ix hN e1 (I.ok.inj _ _ _ e hc ▸ hi))
    · by_cases hcc : c' = c
      · subst hcc; exact ⟨_, hc'⟩
      · obtain ⟨w2, z2⟩ := I.cell y c' e
        exact ⟨w2, z2.sameBut hs hcc⟩
    · obtain ⟨e, n, ne, nf, d⟩ := I.pin p hp
      refine ⟨(hs.2 p.1 ?_).trans e, n, ne, nf, d⟩
      intro q
      rw [q, hoc] at e
      have q' : oc = p.2 := Option.some.inj e
      exact d w' (by rw [← q']; exact hocd)
theorem store_ok {M : Model} {A : Around} {E : Value → Shared → Prop} {i : Nat} {x : Str} {v : V} {u : Value} {Q : Unit → Shared → Prop} (I : Inv X pins σ H s) (hN : X.N.Nodup) (hi : X.N[i]? = some x) (hx : Loc X.env.scope x) (r : RelV v u)
    (h : ∀ s', Inv X pins (σ.set i (some v)) H s' → Q () s') (hf : X.fn x = true ∨ X.env.scope.names.lookup x = some .local := by first | exact .inl rfl | exact .inr rfl | assumption) : wpAny M A (storeName X.env x u) Q E s :=
  store_ok2 I hN hi hx r (fun s' I' _ => h s' I') hf
end

/-! ### the judgements -/
/-- an exception: its class, its own dict's address (where it has one), the abstract heap behind it -/
abbrev XK := Value → Option Addr → Hp → Prop
abbrev St := List (Option V)
abbrev VK := V → Hp → Prop
/-- an expression's reading; a test's; an argument list's -/
abbrev TE := St → Hp → VK → Prop
abbrev TT := St → Hp → (Bool → Hp → Prop) → Prop
abbrev TA := St → Hp → (List V → Hp → Prop) → Prop
set_option genSizeOf false in
set_option genInjectivity false in
structure Ends where
  nx : St → Hp → Prop
  rt : VK
  bk : St → Hp → Prop := fun _ _ => False
  ct : St → Hp → Prop := fun _ _ => False
abbrev TS := Ends → St → Hp → Prop

def EP (X : Cx) (pins : List (Addr × Obj)) (σ : St) (Q : VK) (u : Value) (s' : Shared) : Prop := ∃ v H', Inv X pins σ H' s' ∧ RelV v u ∧ Q v H'
def TP (X : Cx) (pins : List (Addr × Obj)) (σ : St) (Q : Bool → Hp → Prop) (b : Bool) (s' : Shared) : Prop := ∃ H', Inv X pins σ H' s' ∧ Q b H'
def AP (X : Cx) (pins : List (Addr × Obj)) (σ : St) (Q : List V → Hp → Prop) (us : List Value) (s' : Shared) : Prop := ∃ vs H', Inv X pins σ H' s' ∧ Vals vs us ∧ Q vs H'
def SP (X : Cx) (pins : List (Addr × Obj)) (D : Ends) (f : Flow) (s' : Shared) : Prop :=
  match f with
  | .next => ∃ σ' H', Inv X pins σ' H' s' ∧ D.nx σ' H'
  | .brk => ∃ σ' H', Inv X pins σ' H' s' ∧ D.bk σ' H'
  | .cont => ∃ σ' H', Inv X pins σ' H' s' ∧ D.ct σ' H'
  | .ret u => ∃ v σ' H', Inv X pins σ' H' s' ∧ RelV v u ∧ D.rt v H'

def PE (X : Cx) (e : Expr) (t : TE) : Prop :=
  ∀ (pins : List (Addr × Obj)) (s : Shared) (σ : St) (H : Hp) (Q : VK), Inv X pins σ H s → t σ H Q → wpAny (model X.prog X.w) X.A (eval e X.env) (EP X pins σ Q) X.xe s
def PT (X : Cx) (e : Expr) (t : TT) : Prop :=
  ∀ (pins : List (Addr × Obj)) (s : Shared) (σ : St) (H : Hp) (Q : Bool → Hp → Prop), Inv X pins σ H s → t σ H Q → wpAny (model X.prog X.w) X.A (isTrue e X.env (eval e X.env)) (TP X pins σ Q) X.xe s
/-- a test whatever its 'whole' is (and, or) -/
def PW (X : Cx) (e : Expr) (t : TT) : Prop :=
  ∀ (whole : Sem Value) (pins : List (Addr × Obj)) (s : Shared) (σ : St) (H : Hp) (Q : Bool → Hp → Prop), Inv X pins σ H s → t σ H Q → wpAny (model X.prog X.w) X.A (isTrue e X.env whole) (TP X pins σ Q) X.xe s
theorem PW.pt {X : Cx} {e : Expr} {t : TT} (h : PW X e t) : PT X e t := h _
/-- an argument list (no star), from the left -/
def PA (X : Cx) (es : List Expr) (t : TA) : Prop :=
  ∀ (pos : Pos) (pins : List (Addr × Obj)) (s : Shared) (σ : St) (H : Hp) (Q : List V → Hp → Prop), Inv X pins σ H s → t σ H Q → wpAny (model X.prog X.w) X.A (spliced (backTo pos (starEach es X.env))) (AP X pins σ Q) X.xe s
def PS (X : Cx) (st : Stmt) (t : TS) : Prop :=
  ∀ (pins : List (Addr × Obj)) (s : Shared) (σ : St) (H : Hp) (D : Ends), Inv X pins σ H s → t D σ H → wpAny (model X.prog X.w) X.A (exec st X.env) (SP X pins D) X.xe s
def PSs (X : Cx) (st : List Stmt) (t : TS) : Prop :=
  ∀ (pins : List (Addr × Obj)) (s : Shared) (σ : St) (H : Hp) (D : Ends), Inv X pins σ H s → t D σ H → wpAny (model X.prog X.w) X.A (execs st X.env) (SP X pins D) X.xe s
/-- weaken the end -/
theorem thn {α : Type} {t : Sem α} {Q Q' : α → Shared → Prop} {M : Model} {A : Around} {E : Value → Shared → Prop} {s : Shared} (h : wpAny M A t Q E s) (hQ : ∀ a s, Q a s → Q' a s) : wpAny M A t Q' E s := wpAny_mono h hQ fun _ _ x => x
end L2

namespace L2
open PySem PySem.Spec PyProof.Rows
section
variable {X : Cx}

/-! ### names and constants -/
def tVar (i : Nat) : TE := fun σ H Q => ∃ v, σ[i]? = some (some v) ∧ Q v H
def tC (v : V) : TE := fun _ H Q => Q v H
theorem pe_var {i : Nat} {x : Str} {pos : Pos} (hN : X.N[i]? = some x) (hv : Vis X.env.scope x) (hd : (x == ("__debug__" : Str)) = false := by decide) (hcd : (x == ("__classdict__" : Str)) = false := by decide) : PE X (.Name x pos) (tVar i) := by
  intro pins s σ H Q I h
  obtain ⟨v, e, h⟩ := h
  obtain ⟨m, hn, hl⟩ := I.loc
  obtain ⟨u, r, l⟩ := hl i x v hN e hv
  have fin : EP X pins σ Q u s := ⟨v, H, I, r, h⟩
  rcases l with ⟨hk, hm⟩ | ⟨hk, c, hc, hcell⟩
  · exact wpAny_Name (wpAny_loadName_local I.ok.kind hk hn hm fin) hd
  · rcases hk with hk | hk
    · exact wpAny_Name (wpAny_loadName_cell I.ok.kind hk hc hcell fin) hd
    · exact wpAny_Name (wpAny_loadName_free I.ok.kind hk hc hcell fin hcd) hd
theorem pe_int {i j pos} : PE X (.Constant (.int i) j pos) (tC (.int i)) := fun _ _ _ H _ I h => wpAny_Constant_int ⟨.int i, H, I.tok _, ⟨_, rfl⟩, h⟩
theorem pe_bl {b j pos} : PE X (.Constant (.bool b) j pos) (tC (.bl b)) := fun _ _ _ H _ I h => Constant_bool ⟨.bl b, H, I, rfl, h⟩
theorem pe_non {j pos} : PE X (.Constant .none j pos) (tC .non) := fun _ _ _ H _ I h => Constant_none ⟨.non, H, I, rfl, h⟩
theorem pe_str {x j pos} : PE X (.Constant (.str x) j pos) (tC (.str x)) := fun _ _ _ H _ I h => Calls.Constant_str ⟨.str x, H, I.tok _, ⟨_, rfl⟩, h⟩

/-- a global name of the def -/
def Gl (X : Cx) (x : Str) : Prop := X.env.kindOf x = some .globalImplicit
theorem ld_glob {E : Value → Shared → Prop} {pins : List (Addr × Obj)} {s : Shared} {σ : St} {H : Hp} {x : Str} {u : Value} {pos : Pos} {Q : Value → Shared → Prop} (I : Inv X pins σ H s) (hg : Gl X x) (hm : X.mg x = some u) (h : Q u s)
    (hd : (x == ("__debug__" : Str)) = false := by decide) : wpAny (model X.prog X.w) X.A (eval (.Name x pos) X.env) Q E s :=
  Calls.Name_function_global I.ok.kind hg (Calls.loadGlobal_global (by rw [I.ok.glob]; exact I.mod.glob.keeps I.bk) hm h) hd
theorem ld_blt {E : Value → Shared → Prop} {pins : List (Addr × Obj)} {s : Shared} {σ : St} {H : Hp} {x : Str} {u : Value} {pos : Pos} {Q : Value → Shared → Prop} (I : Inv X pins σ H s) (hg : Gl X x) (hm : X.mg x = none) (hv : bootBuiltins x = some u) (h : Q u s)
    (hn : x ≠ "__name__" := by decide) (hd : (x == ("__debug__" : Str)) = false := by decide) : wpAny (model X.prog X.w) X.A (eval (.Name x pos) X.env) Q E s := by
  obtain ⟨mb, h1, h2⟩ := I.mod.blt
  exact Calls.Name_function_global I.ok.kind hg (Calls.loadGlobal_builtin (by rw [I.ok.glob]; exact I.mod.glob.keeps I.bk) hm (by rw [I.ok.blt]; exact h1.keeps I.bk) ((h2 x hn).trans hv) h) hd
theorem pe_bltn {x : Str} {v : V} {u : Value} {pos : Pos} (hg : Gl X x) (hm : X.mg x = none) (hv : bootBuiltins x = some u) (r : RelV v u) (hn : x ≠ "__name__" := by decide) (hd : (x == ("__debug__" : Str)) = false := by decide) : PE X (.Name x pos) (tC v) :=
  fun _ _ _ H _ I h => ld_blt I hg hm hv ⟨v, H, I, r, h⟩ hn hd

/-! ### arithmetic -/
variable {a b : Expr} {ta tb : TE} {pos : Pos}
/-! ### comparisons -/
/-- a comparison as a value, as a test -/
def tB (t : TE) : TT := fun σ H Q => t σ H fun x H1 => ∃ c, x = .bl c ∧ Q c H1
/-- an expression whose value is a bool, as a test -/
theorem pt_val {e : Expr} {t : TE} (h : PE X e t) (he : ∀ whole, isTrue e X.env whole = (do let v ← whole; standAt e.pos; holding [v] (truthy v)) := by intro _; rfl) : PT X e (tB t) := by
  intro pins s σ H Q I hw
  refine isTrue_plain (thn (h pins s σ H _ I hw) fun v s1 ⟨x, H1, I1, r1, q1⟩ => ?_) (he _)
  obtain ⟨d, rfl, q⟩ := q1
  cases r1
  exact wpAny_truthy_bool ⟨H1, I1, q⟩

/-! ### and, or, not -/
variable {tA tB' : TT} {rest : List Expr}
def tAnd (t u : TT) : TT := fun σ H Q => t σ H fun c H1 => if c = true then u σ H1 Q else Q false H1
def tOr (t u : TT) : TT := fun σ H Q => t σ H fun c H1 => if c = true then Q true H1 else u σ H1 Q
def tNot (t : TT) : TT := fun σ H Q => t σ H fun c H1 => Q (!c) H1
theorem pw_and1 (ha : PT X a tA) : PW X (.BoolOp .And [a] pos) tA := by
  intro wh pins s σ H Q I h
  refine isTrue_and (thn (ha pins s σ H Q I h) fun c s1 e => ?_)
  cases c with
  | true => exact isTrue_and_nil e
  | false => exact e
theorem pw_or1 (ha : PT X a tA) : PW X (.BoolOp .Or [a] pos) tA := by
  intro wh pins s σ H Q I h
  refine isTrue_or (thn (ha pins s σ H Q I h) fun c s1 e => ?_)
  cases c with
  | false => exact isTrue_or_nil e
  | true => exact e
theorem pw_and (ha : PT X a tA) (hb : PW X (.BoolOp .And (b :: rest) pos) tB') : PW X (.BoolOp .And (a :: b :: rest) pos) (tAnd tA tB') := by
  intro wh pins s σ H Q I h
  refine isTrue_and (thn (ha pins s σ H _ I h) fun c s1 ⟨H1, I1, q1⟩ => ?_)
  cases c with
  | true => exact hb wh pins s1 σ H1 Q I1 q1
  | false => exact ⟨H1, I1, q1⟩
theorem pw_or (ha : PT X a tA) (hb : PW X (.BoolOp .Or (b :: rest) pos) tB') : PW X (.BoolOp .Or (a :: b :: rest) pos) (tOr tA tB') := by
  intro wh pins s σ H Q I h
  refine isTrue_or (thn (ha pins s σ H _ I h) fun c s1 ⟨H1, I1, q1⟩ => ?_)
  cases c with
  | true => exact ⟨H1, I1, q1⟩
  | false => exact hb wh pins s1 σ H1 Q I1 q1
theorem pt_not (ha : PT X a tA) : PT X (.UnaryOp .Not a pos) (tNot tA) := by
  intro pins s σ H Q I h
  exact isTrue_not (ha pins s σ H (fun c H1 => Q (!c) H1) I h)
/-- .. as values (bools) -/
def tAndV (ta tb : TE) : TE := fun σ H Q => ta σ H fun x H1 => ∃ c, x = .bl c ∧ if c = true then tb σ H1 Q else Q (.bl false) H1
def tOrV (ta tb : TE) : TE := fun σ H Q => ta σ H fun x H1 => ∃ c, x = .bl c ∧ if c = true then Q (.bl true) H1 else tb σ H1 Q
def tNotV (ta : TE) : TE := fun σ H Q => ta σ H fun x H1 => ∃ c, x = .bl c ∧ Q (.bl (!c)) H1
theorem pe_one {op} {t : TE} (h : PE X a t) : PE X (.BoolOp op [a] pos) t := fun pins s σ H Q I hw => BoolOp_one (h pins s σ H Q I hw)
theorem pe_and (ha : PE X a ta) (hb : PE X (.BoolOp .And (b :: rest) pos) tb) : PE X (.BoolOp .And (a :: b :: rest) pos) (tAndV ta tb) := by
  intro pins s σ H Q I h
  refine BoolOp_and (thn (ha pins s σ H _ I h) fun v s1 ⟨x, H1, I1, r1, q1⟩ => ?_)
  obtain ⟨c, rfl, q1⟩ := q1
  cases r1
  refine wpAny_truthy_bool ?_
  cases c with
  | true => exact hb pins s1 σ H1 Q I1 q1
  | false => exact ⟨.bl false, H1, I1, rfl, q1⟩
theorem pe_not (ha : PE X a ta) : PE X (.UnaryOp .Not a pos) (tNotV ta) := by
  intro pins s σ H Q I h
  refine UnaryOp_ (thn (ha pins s σ H _ I h) fun v s1 ⟨x, H1, I1, r1, q1⟩ => ?_)
  obtain ⟨c, rfl, q1⟩ := q1
  cases r1
  exact not_of (wpAny_truthy_bool ⟨.bl (!c), H1, I1, rfl, q1⟩)
/-- a if t else b -/
def tIf (t : TT) (ta tb : TE) : TE := fun σ H Q => t σ H fun c H1 => if c = true then ta σ H1 Q else tb σ H1 Q
end
end L2

namespace L2
open PySem PySem.Spec PyProof.Rows

/-! ### a list, a tuple that is read: tracked, frozen, or an object of the module -/
def SqL (K : PySem.W.Frag) (H : Hp) (a : Addr) (xs : List V) : Prop :=
  Rd H a (.lst xs) ∨
    ∃ (o : Obj) (its : Array Value) (n : Nat), K.lookup a = some o ∧ o.cls = .type "list" ∧ o.dict = none ∧ o.data = .seq its n ∧ its.size ≤ sizeLine ∧ Vals xs its.toList
def SqT (K : PySem.W.Frag) (H : Hp) (a : Addr) (xs : List V) : Prop :=
  Rd H a (.tup xs) ∨
    ∃ (o : Obj) (its : Array Value) (n : Nat), K.lookup a = some o ∧ o.cls = .type "tuple" ∧ o.data = .seq its n ∧ its.size ≤ sizeLine ∧ Vals xs its.toList
def absV : Value → Option V
  | .none => some .non
  | .bool b => some (.bl b)
  | .int i _ => some (.int i)
  | .str x _ => some (.str x)
  | .bytes b _ => some (.byt b)
  | .float b _ => some (.flt b)
  | .ref a => some (.ref a)
  | .type n => some (.ty n)
  | _ => none
theorem RelV.abs {x : V} {u : Value} (r : RelV x u) : absV u = some x := by
  cases x with
  | non => cases r; rfl
  | bl _ => cases r; rfl
  | int _ => obtain ⟨t, rfl⟩ := r; rfl
  | str _ => obtain ⟨t, rfl⟩ := r; rfl
  | byt _ => obtain ⟨t, rfl⟩ := r; rfl
  | flt _ => obtain ⟨t, rfl⟩ := r; rfl
  | ref _ => cases r; rfl
  | ty _ => cases r; rfl
theorem RelV.inj {x y : V} {u : Value} (r : RelV x u) (q : RelV y u) : x = y := Option.some.inj (r.abs.symm.trans q.abs)
theorem Vals.inj : ∀ {xs ys : List V} {us : List Value}, Vals xs us → Vals ys us → xs = ys
  | _, _, _, .nil, .nil => rfl
  | _, _, _, .cons r t, .cons r' t' => by rw [r.inj r', Vals.inj t t']
section
variable {X : Cx} {pins : List (Addr × Obj)} {σ : St} {H : Hp} {s : Shared} {a : Addr} {xs ys : List V}
theorem SqL.of {K : PySem.W.Frag} (h : H a = some (.lst xs)) : SqL K H a xs := .inl (.inl h)
theorem SqT.of {K : PySem.W.Frag} (h : H a = some (.tup xs)) : SqT K H a xs := .inl (.inl h)
theorem Inv.list (I : Inv X pins σ H s) (h : SqL X.K H a xs) : ∃ its : List Value, Vals xs its ∧ PlainL s.heap a its.toArray ∧ xs.length ≤ sizeLine := by
  rcases h with h | ⟨o, its, n, hk, hc, hd, hs, hz, r⟩
  · obtain ⟨z, its, n, r, e⟩ := h.ok I.hok
    exact ⟨its, r, ⟨_, n, e, rfl, rfl, rfl⟩, z⟩
  · refine ⟨its.toList, r, ⟨o, n, I.kIn a o hk, hc, hd, by simpa using hs⟩, ?_⟩
    have e := r.length
    simp only [Array.length_toList] at e
    omega
theorem Inv.tuple (I : Inv X pins σ H s) (h : SqT X.K H a xs) : ∃ its : List Value, Vals xs its ∧ IsTup s.heap a its.toArray ∧ xs.length ≤ sizeLine := by
  rcases h with h | ⟨o, its, n, hk, hc, hs, hz, r⟩
  · obtain ⟨z, its, r, p⟩ := h.ok I.hok
    exact ⟨its, r, p, z⟩
  · refine ⟨its.toList, r, ⟨o, I.kIn a o hk, hc, n, by simpa using hs⟩, ?_⟩
    have e := r.length
    simp only [Array.length_toList] at e
    omega
theorem Inv.list_inj (I : Inv X pins σ H s) (h : SqL X.K H a xs) (h' : SqL X.K H a ys) : xs = ys := by
  obtain ⟨its, r, ⟨o, n, e, _, _, d⟩, _⟩ := I.list h
  obtain ⟨its', r', ⟨o', n', e', _, _, d'⟩, _⟩ := I.list h'
  rw [e] at e'; cases e'
  rw [d] at d'
  injection d' with d1 _
  have : its = its' := by simpa using congrArg Array.toList d1
  subst this
  exact r.inj r'
end

/-! ### another wish about exceptions -/
abbrev Cx.wish (X : Cx) (E : Value → Shared → Prop) : Cx := { X with xe := E }
/-- no exception leaves -/
abbrev Cx.nox (X : Cx) : Cx := X.wish fun _ _ => False
theorem Cx.Ok.wish {X : Cx} (ok : X.Ok) (E : Value → Shared → Prop) : (X.wish E).Ok :=
  ⟨ok.mod, ok.kind, ok.glob, ok.blt, ok.above, ok.inj, ok.has, ok.cab, ok.hd, ok.frames, ok.stk, ok.exf, ok.bs, ok.bsz, ok.noex, ok.exfs, ok.funs, ok.frf⟩
theorem Cx.Ok.unwish {X : Cx} {E : Value → Shared → Prop} (ok : (X.wish E).Ok) : X.Ok :=
  ⟨ok.mod, ok.kind, ok.glob, ok.blt, ok.above, ok.inj, ok.has, ok.cab, ok.hd, ok.frames, ok.stk, ok.exf, ok.bs, ok.bsz, ok.noex, ok.exfs, ok.funs, ok.frf⟩
section
variable {X : Cx} {pins : List (Addr × Obj)} {σ : St} {H : Hp} {s : Shared} {E : Value → Shared → Prop}
theorem Inv.wish (I : Inv X pins σ H s) (E : Value → Shared → Prop) : Inv (X.wish E) pins σ H s := ⟨I.ok.wish E, I.os, I.bare, I.base, I.loc, I.cell, I.free, I.freeC, I.pin, I.hok, I.len⟩
theorem Inv.unwish (I : Inv (X.wish E) pins σ H s) : Inv X pins σ H s := ⟨I.ok.unwish, I.os, I.bare, I.base, I.loc, I.cell, I.free, I.freeC, I.pin, I.hok, I.len⟩
theorem SP.unwish {D : Ends} {f : Flow} {s' : Shared} (h : SP (X.wish E) pins D f s') : SP X pins D f s' := by
  cases f with
  | next => obtain ⟨σ', H', I, q⟩ := h; exact ⟨σ', H', I.unwish, q⟩
  | brk => obtain ⟨σ', H', I, q⟩ := h; exact ⟨σ', H', I.unwish, q⟩
  | cont => obtain ⟨σ', H', I, q⟩ := h; exact ⟨σ', H', I.unwish, q⟩
  | ret u => obtain ⟨v, σ', H', I, r, q⟩ := h; exact ⟨v, σ', H', I.unwish, r, q⟩
theorem PSs.nox {st : List Stmt} {t : TS} (h : PSs X.nox st t) : PSs X st t := fun pins s σ H D I hw =>
  wpAny_mono (h pins s σ H D (I.wish _) hw) (fun _ _ q => q.unwish) fun _ _ z => False.elim z
end

/-! ### blocks and small statements -/
section
variable {X : Cx} {st : Stmt} {rest : List Stmt} {t u : TS} {e : Expr} {te : TE} {pos : Pos}
def tNext : TS := fun D σ H => D.nx σ H
def tSeq (t u : TS) : TS := fun D σ H => t { D with nx := u D } σ H
theorem pss_nil : PSs X [] tNext := fun _ _ σ H _ I h => wpAny_execs_nil ⟨σ, H, I, h⟩
theorem pss_cons (h1 : PS X st t) (h2 : PSs X rest u) : PSs X (st :: rest) (tSeq t u) := by
  intro pins s σ H D I h
  refine wpAny_execs_cons (thn (h1 pins s σ H { D with nx := u D } I h) fun f s1 q => ?_)
  cases f with
  | next =>
    obtain ⟨σ', H', I', q⟩ := q
    exact h2 pins s1 σ' H' D I' q
  | ret v => exact q
  | brk => exact q
  | cont => exact q
theorem pss_one (h1 : PS X st t) : PSs X [st] t := by
  intro pins s σ H D I h
  refine wpAny_execs_cons (thn (h1 pins s σ H D I h) fun f s1 q => ?_)
  cases f with
  | next => exact wpAny_execs_nil q
  | ret v => exact q
  | brk => exact q
  | cont => exact q
/-- in a def's body nothing is shown -/
theorem Inv.quiet {pins : List (Addr × Obj)} {σ : St} {H : Hp} {s : Shared} (I : Inv X pins σ H s) : interactive X.env = false := by simp [interactive, I.ok.kind]
/-- an expression whose value is dropped -/
def tDrop (te : TE) : TS := fun D σ H => te σ H fun _ H1 => D.nx σ H1
theorem ps_expr (he : PE X e te) (hs : swapsWith e none pos.line X.env = pure false := by rfl) : PS X (.Expr e pos) (tDrop te) := by
  intro pins s σ H D I h
  exact wpAny_Expr_any (thn (he pins s σ H _ I h) fun v s1 ⟨x, H1, I1, r1, q1⟩ => ⟨σ, H1, I1, q1⟩) I.quiet hs
def tRet (te : TE) : TS := fun D σ H => te σ H D.rt
theorem ps_ret (he : PE X e te) : PS X (.Return (some e) pos) (tRet te) := by
  intro pins s σ H D I h
  exact wpAny_Return_some (thn (he pins s σ H _ I h) fun v s1 ⟨x, H1, I1, r1, q1⟩ => ⟨x, σ, H1, I1, r1, q1⟩)
def tRetN : TS := fun D _ H => D.rt .non H
def tIfS (c : TT) (t u : TS) : TS := fun D σ H => c σ H fun b H1 => if b = true then t D σ H1 else u D σ H1
theorem ps_if {c : Expr} {a b : List Stmt} {tc : TT} (hc : PT X c tc) (ha : PSs X a t) (hb : PSs X b u) : PS X (.If c a b pos) (tIfS tc t u) := by
  intro pins s σ H D I h
  refine wpAny_If (thn (hc pins s σ H _ I h) fun d s1 ⟨H1, I1, q1⟩ => ?_)
  cases d with
  | true => exact ha pins s1 σ H1 D I1 q1
  | false => exact hb pins s1 σ H1 D I1 q1
/-- code that the proof never comes to -/
def tNever : TS := fun _ _ _ => False
end

/-! ### targets -/
abbrev TG := V → St → Hp → (St → Hp → Prop) → Prop
abbrev TGs := List V → St → Hp → (St → Hp → Prop) → Prop
def PG (X : Cx) (target : Expr) (t : TG) : Prop :=
  ∀ (pins : List (Addr × Obj)) (s : Shared) (σ : St) (H : Hp) (v : V) (u : Value) (Q : St → Hp → Prop), Inv X pins σ H s → RelV v u → t v σ H Q →
    wpAny (model X.prog X.w) X.A (assign target X.env u) (fun _ s' => ∃ σ' H', Inv X pins σ' H' s' ∧ Q σ' H') X.xe s
/-- a op= b, by values -/
abbrev TIp := V → V → Hp → VK → Prop
section
variable {X : Cx} {pos : Pos}
def gName (i : Nat) : TG := fun v σ H Q => Q (σ.set i (some v)) H
theorem pg_name {i : Nat} {x : Str} (hN : X.N.Nodup) (hi : X.N[i]? = some x) (hx : Loc X.env.scope x) (hf : X.fn x = true ∨ X.env.scope.names.lookup x = some .local := by first | exact .inl rfl | exact .inr rfl | assumption) : PG X (.Name x pos) (gName i) := by
  intro pins s σ H v u Q I r h
  exact wpAny_assign_Name (store_ok I hN hi hx r (fun s' I' => ⟨_, H, I', h⟩) hf)
def gNil : TGs := fun vs σ H Q => vs = [] ∧ Q σ H
def gCons (t : TG) (u : TGs) : TGs := fun vs σ H Q => ∃ v r, vs = v :: r ∧ t v σ H fun σ' H' => u r σ' H' Q
/-- (a, b, ..) = a tuple of that length -/
def gTup (K : PySem.W.Frag) (n : Nat) (t : TGs) : TG := fun v σ H Q => ∃ a xs, v = .ref a ∧ SqT K H a xs ∧ xs.length = n ∧ t xs σ H Q
/-- target = value -/
def tAsg (te : TE) (g : TG) : TS := fun D σ H => te σ H fun x H1 => g x σ H1 D.nx
/-- name = value -/
theorem ps_set {i : Nat} {x : Str} {e : Expr} {te : TE} {pos' : Pos} (hN : X.N.Nodup) (hi : X.N[i]? = some x) (hx : Loc X.env.scope x) (he : PE X e te) (hs : swapsWith e (some (.Name x pos')) pos.line X.env = pure false := by rfl) (hf : X.fn x = true ∨ X.env.scope.names.lookup x = some .local := by first | exact .inl rfl | exact .inr rfl | assumption) :
    PS X (.Assign [.Name x pos'] e pos) (tAsg te (gName i)) := by
  intro pins s σ H D I h
  refine wpAny_Assign_Name (thn (he pins s σ H _ I h) fun v s1 ⟨y, H1, I1, r1, q1⟩ => ?_) hs
  exact store_ok I1 hN hi hx r1 (fun s2 I2 => ⟨_, H1, I2, q1⟩) hf
/-- name op= e -/
def tAug (i : Nat) (te : TE) (ti : TIp) : TS := fun D σ H => ∃ x, σ[i]? = some (some x) ∧ te σ H fun y H1 => ti x y H1 fun z H2 => D.nx (σ.set i (some z)) H2
/-- ints -/
def ipI (f : Int → Int → Int) : TIp := fun x y H Q => ∃ i j, x = .int i ∧ y = .int j ∧ Q (.int (f i j)) H
end

/-! ### while -/
section
variable {X : Cx} {pos : Pos}
/-- the invariant W with its measure -/
def tWhile (c : TT) (tb : TS) : TS := fun D σ H => ∃ W : Nat → St → Hp → Prop, (∃ m, W m σ H) ∧ ∀ m σ H, W m σ H →
  c σ H fun b H1 => if b = true then ∃ N : St → Hp → Prop, (∀ σ' H', N σ' H' → ∃ m', m' < m ∧ W m' σ' H') ∧ tb { D with nx := N, ct := N, bk := D.nx } σ H1 else D.nx σ H1
theorem ps_while {c : Expr} {body : List Stmt} {tc : TT} {tb : TS} (hp : PassesOwn (model X.prog X.w) X.A X.env X.xe) (hc : PT X c tc) (hb : PSs X body tb) : PS X (.While c body [] pos) (tWhile tc tb) := by
  intro pins s σ H D I h
  obtain ⟨W, ⟨m0, w0⟩, turn⟩ := h
  refine wpAny_While (codeAny_whileLoop (fun n s' => ∃ σ' H', Inv X pins σ' H' s' ∧ W n σ' H') ?_ m0 ⟨σ, H, I, w0⟩)
  rintro n s1 ⟨σ1, H1, I1, w1⟩
  refine wpAny_passesOwn hp (thn (hc pins s1 σ1 H1 _ I1 (turn n σ1 H1 w1)) fun b s2 ⟨H2, I2, q2⟩ => ?_)
  cases b with
  | true =>
    obtain ⟨N, hN, q2⟩ := q2
    rw [if_pos rfl]
    refine wpAny_passesOwn hp (thn (hb pins s2 σ1 H2 _ I2 q2) fun f s3 q3 => ?_)
    cases f with
    | next =>
      obtain ⟨σ3, H3, I3, n3⟩ := q3
      obtain ⟨m', hm, w3⟩ := hN σ3 H3 n3
      exact ⟨m', hm, σ3, H3, I3, w3⟩
    | cont =>
      obtain ⟨σ3, H3, I3, n3⟩ := q3
      obtain ⟨m', hm, w3⟩ := hN σ3 H3 n3
      exact ⟨m', hm, σ3, H3, I3, w3⟩
    | brk => exact q3
    | ret v => exact q3
  | false =>
    rw [if_neg Bool.false_ne_true]
    exact wpAny_execs_nil ⟨σ1, H2, I2, q2⟩
end

/-! ### what a loop or a comprehension walks -/
set_option genSizeOf false in
set_option genInjectivity false in
structure It where
  go : Nat → Hp → Prop
  yld : Nat → Hp → V → Hp → Prop
  stop : Nat → Hp → Prop
/-- the iterator's own objects may turn: they are not the frame's, not pinned, younger than the entry (or a comprehension's own) -/
def FpOk (X : Cx) (pins : List (Addr × Obj)) (H : Hp) (b : Addr) : Prop :=
  H b = none ∧ b ≠ X.env.locals ∧ b ∉ X.fs ∧ (b ∈ X.ex ∨ X.s₀.heap.objs.size ≤ b) ∧ (∀ x c, X.env.cells.lookup x = some c → c ≠ b) ∧ ∀ p ∈ X.pn ++ pins, p.1 ≠ b
theorem Inv.fpOk {X : Cx} {pins : List (Addr × Obj)} {σ : St} {H H' : Hp} {s : Shared} {b : Addr} (I : Inv X pins σ H s) (hb : s.heap.objs.size ≤ b) (hn : H' b = none) : FpOk X pins H' b := by
  refine ⟨hn, Nat.ne_of_gt (Nat.lt_of_lt_of_le I.lt hb), I.nofs hb, .inr (Nat.le_trans I.sz hb), fun x c e z => ?_, fun p hp z => ?_⟩
  · obtain ⟨v, q⟩ := I.cell x c e
    exact absurd (Nat.lt_of_lt_of_le q.lt (by rw [z]; exact hb)) (Nat.lt_irrefl _)
  · exact absurd (Nat.lt_of_lt_of_le (Heap.lt_size (I.pin p hp).1) (by rw [z]; exact hb)) (Nat.lt_irrefl _)
structure Turn (P : Program) (w : World) (K : PySem.W.Frag) (tg : Expr) (J : It) (fp : List Addr) (it : Addr) (tn : Nat → Heap → Prop) : Prop where
  mem : it ∈ fp
  obj : ∀ i h, tn i h → ∀ b ∈ fp, ∃ o, h.get? b = some o ∧ ∀ v, o.data ≠ .cell v
  keep : ∀ i h h', tn i h → (∀ b ∈ fp, ∀ o, h.get? b = some o → h'.get? b = some o) → tn i h'
  item : ∀ (X : Cx), X.prog = P → X.w = w → X.K = K → X.calm = true → ∀ (i : Nat) (pins : List (Addr × Obj)) (s : Shared) (σ : St) (H : Hp) (E : Value → Shared → Prop), Inv X pins σ H s → (∀ b ∈ fp, FpOk X pins H b) → tn i s.heap → J.go i H →
    wpAny (model P w) X.A (pyNext (.ref it)) (fun r s1 => ∃ u, r = some u ∧
      wpAny (model P w) X.A (letOwnedTupleGo tg (.ref it) u) (fun _ s2 => ∃ x H', Inv X pins σ H' s2 ∧ RelV x u ∧ J.yld i H x H' ∧ tn (i + 1) s2.heap ∧ ∀ b ∈ fp, H' b = none) E s1) E s
  done : ∀ (X : Cx), X.prog = P → X.w = w → X.K = K → X.calm = true → ∀ (i : Nat) (pins : List (Addr × Obj)) (s : Shared) (σ : St) (H : Hp) (E : Value → Shared → Prop), Inv X pins σ H s → (∀ b ∈ fp, FpOk X pins H b) → tn i s.heap → J.stop i H →
    wpAny (model P w) X.A (pyNext (.ref it)) (fun r s1 => r = none ∧ Inv X pins σ H s1) E s
  self : ∀ (A : Around) (i : Nat) (s : Shared) (Q : Value → Shared → Prop) (E : Value → Shared → Prop), tn i s.heap → Q (.ref it) s → wpAny (model P w) A (pyIter (.ref it)) Q E s
abbrev TI := St → Hp → (It → Hp → Prop) → Prop
/-- an iterator has come -/
def PIE (X : Cx) (pins : List (Addr × Obj)) (σ : St) (tg : Expr) (R : It → Hp → Prop) (itv : Value) (s2 : Shared) : Prop :=
  ∃ (it : Addr) (fp : List Addr) (tn : Nat → Heap → Prop) (J : It) (H' : Hp), itv = .ref it ∧ Inv X pins σ H' s2 ∧ Turn X.prog X.w X.K tg J fp it tn ∧ tn 0 s2.heap ∧ (∀ b ∈ fp, FpOk X pins H' b) ∧ R J H'
def PI (X : Cx) (tg iter : Expr) (wi : TI) : Prop :=
  ∀ (pins : List (Addr × Obj)) (s : Shared) (σ : St) (H : Hp) (R : It → Hp → Prop), Inv X pins σ H s → wi σ H R →
    wpAny (model X.prog X.w) X.A (eval iter X.env) (fun v s1 => wpAny (model X.prog X.w) X.A (pyIter v) (PIE X pins σ tg R) X.xe s1) X.xe s

/-- the step ahead of the store is nothing for an iterator that keeps no tuple -/
theorem go_of {M : Model} {A : Around} {E : Value → Shared → Prop} {s : Shared} {tg : Expr} {it : Addr} {u : Value} {o : Obj} {n : String} {vs : Array Value} {Q : Unit → Shared → Prop} (ho : s.heap.get? it = some o) (hc : o.cls = .type n) (hd : o.data = .fields vs)
    (hn : ["enumerate", "zip", "dict_itemiterator", "dict_reverseitemiterator", "odict_iterator", "itertools.zip_longest", "itertools.pairwise"].contains n = false) (hQ : Q () s) : wpAny M A (letOwnedTupleGo tg (.ref it) u) Q E s := by
  unfold letOwnedTupleGo
  cases tg <;> first
    | exact wpAny_pure hQ
    | (cases u <;> first
        | exact wpAny_pure hQ
        | (refine wpAny_bind (wpAny_load ho ?_)
           rw [hc, hd]
           show wpAny M A (if (["enumerate", "zip", "dict_itemiterator", "dict_reverseitemiterator", "odict_iterator", "itertools.zip_longest", "itertools.pairwise"].contains n && vs[0]? == some (rawInt _)) = true then _ else _) Q E s
           rw [if_neg (by intro h; rw [hn, Bool.false_and] at h; cases h)]
           exact wpAny_pure hQ))

/-- the list at a, as it stands at each turn (a loop may append to it) -/
def Itl (K : PySem.W.Frag) (a : Addr) : It :=
  ⟨fun i H => ∃ xs x, SqL K H a xs ∧ xs[i]? = some x, fun i H x H' => H' = H ∧ ∀ xs, SqL K H a xs → xs[i]? = some x, fun i H => ∃ xs, SqL K H a xs ∧ xs.length ≤ i⟩
def Itt (K : PySem.W.Frag) (a : Addr) : It :=
  ⟨fun i H => ∃ xs x, SqT K H a xs ∧ xs[i]? = some x, fun i H x H' => H' = H ∧ ∀ xs, SqT K H a xs → xs[i]? = some x, fun i H => ∃ xs, SqT K H a xs ∧ xs.length ≤ i⟩
/-- lo, lo + 1, .. (n of them) -/
def Itr (lo : Int) (n : Nat) : It := ⟨fun i _ => i < n, fun i H x H' => H' = H ∧ x = .int (lo + i), fun i _ => n ≤ i⟩
theorem turn_list {P : Program} {w : World} {K : PySem.W.Frag} {tg : Expr} (a it : Addr) : Turn P w K tg (Itl K a) [it] it (fun i h => h.IsListIter it a i) where
  mem := by simp
  obj := fun i h st b hb => by
    have e : b = it := by simpa using hb
    subst e
    obtain ⟨o, e, c, d⟩ := st
    exact ⟨o, e, fun v z => by rw [d] at z; cases z⟩
  keep := fun i h h' st k => st.at fun o e => k it (by simp) o e
  item := by
    intro X hP hw hK hc i pins s σ H E I hf st hg
    subst hP hw hK
    obtain ⟨xs, x, hq, hx⟩ := hg
    obtain ⟨its, rv, p, hz⟩ := I.list hq
    obtain ⟨u, hu, ru⟩ := rv.get hx
    obtain ⟨f0, f1, f2, f3, f4, f5⟩ := hf it (by simp)
    refine wpAny_pyNext_list_item st p.isList (x := u) (by simpa using hu) fun h' st' sb => ?_
    have I1 : Inv X pins σ H { s with heap := h' } := I.turned (t' := s.toks) (fun b o hb e => (sb.2 b hb).trans e) f0 f1 f3 f4 f5
    obtain ⟨o, e, c, d⟩ := id st'
    exact ⟨u, rfl, go_of (s := { s with heap := h' }) e c d (by decide) ⟨x, H, I1, ru, ⟨rfl, fun ys hy => by rw [I.list_inj hy hq]; exact hx⟩, st', fun b hb => (hf b hb).1⟩⟩
  done := by
    intro X hP hw hK hc i pins s σ H E I hf st hg
    subst hP hw hK
    obtain ⟨xs, hq, hx⟩ := hg
    obtain ⟨its, rv, p, hz⟩ := I.list hq
    obtain ⟨f0, f1, f2, f3, f4, f5⟩ := hf it (by simp)
    have hl := rv.length
    exact wpAny_pyNext_list_end (I.ok.hd hc) st p.isList (by simp; omega) fun h' eb => ⟨rfl, I.turned (t' := s.toks) (fun b o hb e => eb b o hb e) f0 f1 f3 f4 f5⟩
  self := fun _ _ _ _ _ st h => wpAny_pyIter_listiter st h
theorem turn_range {P : Program} {w : World} {K : PySem.W.Frag} {tg : Expr} (it : Addr) (lo : Int) (n : Nat) : Turn P w K tg (Itr lo n) [it] it (fun i h => IsRangeIter h it (lo + (i : Nat) * 1) ((n : Int) - (i : Nat)) 1) where
  mem := by simp
  obj := fun i h st b hb => by
    have e : b = it := by simpa using hb
    subst e
    exact ⟨_, st, fun v z => by
      have z' : Data.fields _ = Data.cell v := z
      cases z'⟩
  keep := fun i h h' st k => k it (by simp) _ st
  item := by
    intro X hP hw hK hc i pins s σ H E I hf st hg
    subst hP hw hK
    obtain ⟨f0, f1, f2, f3, f4, f5⟩ := hf it (by simp)
    have W := Walks.range (prog := X.prog) (w := X.w) (I.ok.hd hc) it lo 1 n
    refine W.item i s _ _ hg st fun v h' tk hv st' kk => ?_
    obtain ⟨t, rfl⟩ := hv
    have I1 : Inv X pins σ H { s with heap := h', toks := tk } := I.turned (fun b o hb e => kk b o (by simpa using hb) e) f0 f1 f3 f4 f5
    refine ⟨_, rfl, go_of (s := { s with heap := h', toks := tk }) (n := "range_iterator") st' rfl rfl (by decide) ⟨.int (lo + i), H, I1, ⟨t, ?_⟩, ⟨rfl, rfl⟩, st', fun b hb => (hf b hb).1⟩⟩
    rw [Int.mul_one]
  done := by
    intro X hP hw hK hc i pins s σ H E I hf st hg
    subst hP hw hK
    obtain ⟨f0, f1, f2, f3, f4, f5⟩ := hf it (by simp)
    exact wpAny_pyNext_range_end (I.ok.hd hc) st (by have : n ≤ i := hg; omega) fun h' eb => ⟨rfl, I.turned (t' := s.toks) (fun b o hb e => eb b o hb e) f0 f1 f3 f4 f5⟩
  self := fun _ _ _ _ _ st h => wpAny_pyIter_rangeiter st h
end L2

namespace L2
open PySem PySem.Spec PyProof.Rows
section
variable {X : Cx} {tg : Expr}
def iList (K : PySem.W.Frag) (tl : TE) : TI := fun σ H R => tl σ H fun x H1 => ∃ a, x = .ref a ∧ (∃ xs, SqL K H1 a xs) ∧ R (Itl K a) H1
def iTup (K : PySem.W.Frag) (tl : TE) : TI := fun σ H R => tl σ H fun x H1 => ∃ a, x = .ref a ∧ (∃ xs, SqT K H1 a xs) ∧ R (Itt K a) H1
theorem pi_list {l : Expr} {tl : TE} (hl : PE X l tl) : PI X tg l (iList X.K tl) := by
  intro pins s σ H R I h
  refine thn (hl pins s σ H _ I h) fun v s1 ⟨x, H1, I1, r1, q1⟩ => ?_
  obtain ⟨a, e, ⟨xs, hq⟩, q⟩ := q1
  subst e
  cases r1
  obtain ⟨its, rv, p, hz⟩ := I1.list hq
  refine wpAny_pyIter_list p.isList ?_
  refine ⟨s1.heap.objs.size, [s1.heap.objs.size], _, _, H1, rfl, I1.kept (t' := s1.toks) fun b o e => Heap.get?_push_of_some _ e, turn_list a _, ⟨_, Heap.get?_push_size _ rfl, rfl, rfl⟩, fun b hb => ?_, q⟩
  have e : b = s1.heap.objs.size := by simpa using hb
  subst e
  exact I1.fpOk (Nat.le_refl _) (I1.hok.fresh (Nat.le_refl _))
/-- a range object just made, walked -/
theorem range_it {pins : List (Addr × Obj)} {σ : St} {H : Hp} {s : Shared} {R : It → Hp → Prop} {E : Value → Shared → Prop} {lo hi : Int} {t u v : Tok} {tk : Nat} (I : Inv X pins σ H s) (h1 : -(2 ^ 62) ≤ lo) (h2 : lo < 2 ^ 62) (h3 : -(2 ^ 62) ≤ hi) (h4 : hi < 2 ^ 62)
    (q : R (Itr lo (hi - lo).toNat) H) : wpAny (model X.prog X.w) X.A (pyIter (.ref s.heap.objs.size)) (PIE X pins σ tg R) E { s with heap := s.heap.push { cls := .type "range", data := .fields #[.int lo t, .int hi u, .int 1 v] }, toks := tk } := by
  refine wpAny_pyIter_range (IsRange.new ..) (small_one h1 h2 h3 h4) ?_
  have I1 : Inv X pins σ H { s with heap := s.heap.push { cls := .type "range", data := .fields #[.int lo t, .int hi u, .int 1 v] }, toks := tk } := I.kept fun b o e => Heap.get?_push_of_some _ e
  refine ⟨(s.heap.push { cls := .type "range", data := .fields #[.int lo t, .int hi u, .int 1 v] }).objs.size, [(s.heap.push { cls := .type "range", data := .fields #[.int lo t, .int hi u, .int 1 v] }).objs.size], _, _, H, rfl,
    I1.kept (t' := tk) fun b o e => Heap.get?_push_of_some _ e, turn_range _ lo (hi - lo).toNat, ?_, fun b hb => ?_, q⟩
  · have e1 : lo + ((0 : Nat) : Int) * 1 = lo := by simp
    have e2 : (((hi - lo).toNat : Nat) : Int) - ((0 : Nat) : Int) = Builtin.Range.rangeSize lo hi 1 := by rw [rangeSize_one]; split <;> omega
    show IsRangeIter _ _ (lo + ((0 : Nat) : Int) * 1) ((((hi - lo).toNat : Nat) : Int) - ((0 : Nat) : Int)) 1
    rw [e1, e2]
    exact Heap.get?_push_size _ rfl
  · have e : b = (s.heap.push { cls := .type "range", data := .fields #[.int lo t, .int hi u, .int 1 v] }).objs.size := by simpa using hb
    subst e
    exact I1.fpOk (Nat.le_refl _) (I1.hok.fresh (Nat.le_refl _))
def iRng1 (ta : TA) : TI := fun σ H R => ta σ H fun vs H1 => ∃ j : Int, vs = [.int j] ∧ -(2 ^ 62) ≤ j ∧ j < 2 ^ 62 ∧ R (Itr 0 j.toNat) H1
def iRng2 (ta : TA) : TI := fun σ H R => ta σ H fun vs H1 => ∃ i j : Int, vs = [.int i, .int j] ∧ (-(2 ^ 62) ≤ i ∧ i < 2 ^ 62 ∧ -(2 ^ 62) ≤ j ∧ j < 2 ^ 62) ∧ R (Itr i (j - i).toNat) H1
theorem pi_range1 {a : Expr} {ta : TA} {p pos : Pos} (hg : Gl X "range") (hm : X.mg "range" = none) (ha : PA X [a] ta) (hs : starEach [a] X.env = [(false, eval a X.env)] := by rfl) : PI X tg (.Call (.Name "range" p) [a] [] pos) (iRng1 ta) := by
  intro pins s σ H R I h
  refine Call_ (ld_blt I hg hm boot_range (PyProof.Rows.callWith_type1 (thn (ha pos pins s σ H _ I h) fun us s1 ⟨vs, H1, I1, r1, q1⟩ => ?_) hs rfl))
  obtain ⟨j, e, q1, q2, q⟩ := q1
  subst e
  cases r1 with
  | cons r rr =>
    cases rr
    obtain ⟨t, rfl⟩ := r
    exact call_range_1 (range_it I1 (by omega) (by omega) q1 q2 (by simpa using q))
/-! ### for -/
/-- W: the invariant by the turn and a measure; N: what the body is to reach -/
def tFor (wi : TI) (g : TG) (tb : TS) : TS := fun D σ H => wi σ H fun J H1 => ∃ W : Nat → Nat → St → Hp → Prop, (∃ m, W 0 m σ H1) ∧ ∀ i m σ H, W i m σ H →
  (J.stop i H ∧ D.nx σ H) ∨ (J.go i H ∧ ∃ N : St → Hp → Prop, (∀ σ' H', N σ' H' → ∃ m', m' < m ∧ W (i + 1) m' σ' H') ∧ ∀ x H', J.yld i H x H' → g x σ H' fun σ2 H2 => tb { D with nx := N, ct := N, bk := D.nx } σ2 H2)
/-- the records at fp as they stand -/
def pinsAt (fp : List Addr) (h : Heap) : List (Addr × Obj) := fp.filterMap fun b => (h.get? b).map fun o => (b, o)
theorem mem_pinsAt {fp : List Addr} {h : Heap} {b : Addr} {o : Obj} (hb : b ∈ fp) (e : h.get? b = some o) : (b, o) ∈ pinsAt fp h := List.mem_filterMap.mpr ⟨b, hb, by rw [e]; rfl⟩
theorem of_pinsAt {fp : List Addr} {h : Heap} {p : Addr × Obj} (hp : p ∈ pinsAt fp h) : p.1 ∈ fp ∧ h.get? p.1 = some p.2 := by
  obtain ⟨b, hb, e⟩ := List.mem_filterMap.mp hp
  cases q : h.get? b with
  | none => rw [q] at e; cases e
  | some o =>
    rw [q] at e
    have e' : (b, o) = p := Option.some.inj e
    subst e'
    exact ⟨hb, q⟩
theorem Inv.pinned {pins : List (Addr × Obj)} {σ : St} {H : Hp} {s : Shared} {fp : List Addr} (I : Inv X pins σ H s) (hf : ∀ b ∈ fp, FpOk X pins H b) (ho : ∀ b ∈ fp, ∃ o, s.heap.get? b = some o ∧ ∀ v, o.data ≠ .cell v) : Inv X (pins ++ pinsAt fp s.heap) σ H s :=
  I.pins_of fun p hp => (List.mem_append.mp hp).elim (fun z => I.pin p (List.mem_append_right _ z)) fun z => by
    obtain ⟨hb, e⟩ := of_pinsAt z
    obtain ⟨f0, f1, f2, _⟩ := hf p.1 hb
    obtain ⟨o, e', d⟩ := ho p.1 hb
    rw [e] at e'; cases e'
    exact ⟨e, f0, f1, f2, d⟩
theorem Inv.unpinned {pins pl : List (Addr × Obj)} {σ : St} {H : Hp} {s : Shared} (I : Inv X (pins ++ pl) σ H s) : Inv X pins σ H s := I.pins_of fun p hp => I.pin p (List.mem_append_right _ (List.mem_append_left _ hp))
theorem ps_for {iter : Expr} {body : List Stmt} {wi : TI} {g : TG} {tb : TS} {pos : Pos} (hp : PassesOwn (model X.prog X.w) X.A X.env X.xe) (hc : X.calm = true) (hi : PI X tg iter wi) (hg : PG X tg g) (hb : PSs X body tb)
    (hs : ∀ x, foldedSetIterable iter X.env x = pure x := by intro _; rfl) : PS X (.For tg iter body [] pos) (tFor wi g tb) := by
  intro pins s σ H D I h
  refine wpAny_For (thn (hi pins s σ H _ I h) fun v s1 h1 => thn h1 fun itv s2 h2 => ?_) hs
  obtain ⟨it, fp, tn, J, H2, e, I2, T, st2, f2, W, ⟨m0, w0⟩, turn⟩ := h2
  subst e
  -- what stays true of the iterator's objects through the loop
  have stat : ∀ {H' : Hp}, (∀ b ∈ fp, H' b = none) → ∀ b ∈ fp, FpOk X pins H' b := fun hn b hb => ⟨hn b hb, (f2 b hb).2⟩
  refine codeAny_forLoop_any (fun n s' => ∃ i σ' H', Inv X pins σ' H' s' ∧ tn i s'.heap ∧ (∀ b ∈ fp, H' b = none) ∧ W i n σ' H') ?_ m0 ⟨0, σ, H2, I2, st2, fun b hb => (f2 b hb).1, w0⟩
  rintro n s3 ⟨i, σ3, H3, I3, st3, fr3, w3⟩
  rcases turn i n σ3 H3 w3 with ⟨stop, qn⟩ | ⟨go, N, hN, step⟩
  · refine wpAny_passesOwn hp (thn (T.done X rfl rfl rfl hc i pins s3 σ3 H3 X.xe I3 (stat fr3) st3 stop) fun r s4 ⟨hr, I4⟩ => ?_)
    subst hr
    exact wpAny_execs_nil ⟨σ3, H3, I4, qn⟩
  · refine wpAny_passesOwn hp (thn (T.item X rfl rfl rfl hc i pins s3 σ3 H3 X.xe I3 (stat fr3) st3 go) fun r s4 ⟨u, hr, h4⟩ => ?_)
    subst hr
    refine wpAny_passesOwn hp (thn h4 fun _ s5 ⟨x, H5, I5, r5, y5, st5, fr5⟩ => ?_)
    have I5' := I5.pinned (stat fr5) (T.obj _ _ st5)
    refine wpAny_passesOwn hp (thn (hg _ s5 σ3 H5 x u _ I5' r5 (step x H5 y5)) fun _ s6 ⟨σ6, H6, I6, q6⟩ => ?_)
    refine wpAny_passesOwn hp (thn (hb _ s6 σ6 H6 _ I6 q6) fun f s7 q7 => ?_)
    have again : ∀ {σ7 : St} {H7 : Hp}, Inv X (pins ++ pinsAt fp s5.heap) σ7 H7 s7 → N σ7 H7 → ∃ m, m < n ∧ ∃ i σ' H', Inv X pins σ' H' s7 ∧ tn i s7.heap ∧ (∀ b ∈ fp, H' b = none) ∧ W i m σ' H' := fun {σ7 H7} I7 n7 => by
      obtain ⟨m', hm, w7⟩ := hN σ7 H7 n7
      refine ⟨m', hm, i + 1, σ7, H7, I7.unpinned, T.keep _ _ _ st5 fun b hb o e => (I7.pin (b, o) (List.mem_append_right _ (List.mem_append_right _ (mem_pinsAt hb e)))).1, fun b hb => ?_, w7⟩
      obtain ⟨o, e, d⟩ := T.obj _ _ st5 b hb
      exact (I7.pin (b, o) (List.mem_append_right _ (List.mem_append_right _ (mem_pinsAt hb e)))).2.1
    cases f with
    | next => obtain ⟨σ7, H7, I7, n7⟩ := q7; exact again I7 n7
    | cont => obtain ⟨σ7, H7, I7, n7⟩ := q7; exact again I7 n7
    | brk => obtain ⟨σ7, H7, I7, q7⟩ := q7; exact ⟨σ7, H7, I7.unpinned, q7⟩
    | ret v => obtain ⟨x7, σ7, H7, I7, r7, q7⟩ := q7; exact ⟨x7, σ7, H7, I7.unpinned, r7, q7⟩
end

/-! ### the forms one uses -/
end L2

namespace L2
open PySem PySem.Spec PyProof.Rows

abbrev R2 := V → V → Hp → VK → Prop
/-- a two-place operation on values: f is binaryOp op, inplaceOp op or compareOp op -/
def OpR (X : Cx) (f : Value → Value → Sem Value) (r : R2) : Prop :=
  ∀ (pins : List (Addr × Obj)) (s : Shared) (σ : St) (H : Hp) (x y : V) (v u : Value) (Q : VK), Inv X pins σ H s → RelV x v → RelV y u → r x y H Q →
    wpAny (model X.prog X.w) X.A (f v u) (EP X pins σ Q) X.xe s
/-- a one-place operation -/
def UnR (X : Cx) (f : Value → Sem Value) (r : V → Hp → VK → Prop) : Prop :=
  ∀ (pins : List (Addr × Obj)) (s : Shared) (σ : St) (H : Hp) (x : V) (v : Value) (Q : VK), Inv X pins σ H s → RelV x v → r x H Q →
    wpAny (model X.prog X.w) X.A (f v) (EP X pins σ Q) X.xe s
/-- a call of a value that is known (a builtin, a type) with values -/
def CallR (X : Cx) (f : Value) (r : List V → Hp → VK → Prop) : Prop :=
  ∀ (pins : List (Addr × Obj)) (s : Shared) (σ : St) (H : Hp) (xs : List V) (us : List Value) (Q : VK), Inv X pins σ H s → Vals xs us → r xs H Q →
    wpAny (model X.prog X.w) X.A (call f us) (EP X pins σ Q) X.xe s
def tOp (r : R2) (ta tb : TE) : TE := fun σ H Q => ta σ H fun x H1 => tb σ H1 fun y H2 => r x y H2 Q
def tUn (r : V → Hp → VK → Prop) (ta : TE) : TE := fun σ H Q => ta σ H fun x H1 => r x H1 Q
/-- ints in, under C, and a value out -/
def rI (C : Int → Int → Prop) (g : Int → Int → V) : R2 := fun x y H Q => ∃ i j, x = .int i ∧ y = .int j ∧ C i j ∧ Q (g i j) H
def rI0 (g : Int → Int → V) : R2 := fun x y H Q => ∃ i j, x = .int i ∧ y = .int j ∧ Q (g i j) H
def rU (g : Int → V) : V → Hp → VK → Prop := fun x H Q => ∃ i, x = .int i ∧ Q (g i) H

section
variable {X : Cx} {a b c : Expr} {ta tb tc : TE} {pos : Pos}

theorem binT (ha : PE X a ta) (hb : PE X b tb) {pins : List (Addr × Obj)} {s : Shared} {σ : St} {H : Hp} {R : V → V → Hp → Prop} (I : Inv X pins σ H s)
    (h : ta σ H fun x H1 => tb σ H1 fun y H2 => R x y H2) {Q : Value → Shared → Prop} {f : Value → Value → Sem Value}
    (hf : ∀ v u s2 x y H2, Inv X pins σ H2 s2 → RelV x v → RelV y u → R x y H2 → wpAny (model X.prog X.w) X.A (f v u) Q X.xe s2) :
    wpAny (model X.prog X.w) X.A (eval a X.env) (fun v s₁ => wpAny (model X.prog X.w) X.A (eval b X.env) (fun u s₂ => wpAny (model X.prog X.w) X.A (f v u) Q X.xe s₂) X.xe s₁) X.xe s := by
  refine thn (ha pins s σ H _ I h) fun v s1 ⟨x, H1, I1, r1, q1⟩ => ?_
  refine thn (hb pins s1 σ H1 _ I1 q1) fun u s2 ⟨y, H2, I2, r2, q2⟩ => ?_
  exact hf v u s2 x y H2 I2 r1 r2 q2

theorem pe_op {op : Operator} {r : R2} (ho : OpR X (binaryOp op) r) (ha : PE X a ta) (hb : PE X b tb) : PE X (.BinOp a op b pos) (tOp r ta tb) := by
  intro pins s σ H Q I h
  exact wpAny_BinOp (binT ha hb I h fun v u s2 x y H2 I2 rx ry q => ho pins s2 σ H2 x y v u Q I2 rx ry q)
theorem pe_un {op : UnaryOp} {r : V → Hp → VK → Prop} (ho : UnR X (unaryOp op) r) (ha : PE X a ta) : PE X (.UnaryOp op a pos) (tUn r ta) := by
  intro pins s σ H Q I h
  exact UnaryOp_ (thn (ha pins s σ H _ I h) fun v s1 ⟨x, H1, I1, r1, q1⟩ => ho pins s1 σ H1 x v Q I1 r1 q1)
/-! ### ints -/
theorem opI {f : Value → Value → Sem Value} {C : Int → Int → Prop} {g : Int → Int → Int}
    (rule : ∀ (i j : Int) (t u : Tok) (s : Shared) (Q : Value → Shared → Prop) (E : Value → Shared → Prop), C i j → Q (.int (g i j) s.toks) { s with toks := s.toks + 1 } → wpAny (model X.prog X.w) X.A (f (.int i t) (.int j u)) Q E s) :
    OpR X f (rI C fun i j => .int (g i j)) := by
  intro pins s σ H x y v u Q I rx ry h
  obtain ⟨i, j, rfl, rfl, hc, q⟩ := h
  obtain ⟨t, rfl⟩ := rx
  obtain ⟨t', rfl⟩ := ry
  exact rule i j t t' s _ _ hc ⟨.int (g i j), H, I.tok _, ⟨_, rfl⟩, q⟩
theorem opI0 {f : Value → Value → Sem Value} {g : Int → Int → Int}
    (rule : ∀ (i j : Int) (t u : Tok) (s : Shared) (Q : Value → Shared → Prop) (E : Value → Shared → Prop), Q (.int (g i j) s.toks) { s with toks := s.toks + 1 } → wpAny (model X.prog X.w) X.A (f (.int i t) (.int j u)) Q E s) :
    OpR X f (rI0 fun i j => .int (g i j)) := by
  intro pins s σ H x y v u Q I rx ry h
  obtain ⟨i, j, rfl, rfl, q⟩ := h
  obtain ⟨t, rfl⟩ := rx
  obtain ⟨t', rfl⟩ := ry
  exact rule i j t t' s _ _ ⟨.int (g i j), H, I.tok _, ⟨_, rfl⟩, q⟩
theorem opB0 {f : Value → Value → Sem Value} {g : Int → Int → Bool}
    (rule : ∀ (i j : Int) (t u : Tok) (s : Shared) (Q : Value → Shared → Prop) (E : Value → Shared → Prop), Q (.bool (g i j)) s → wpAny (model X.prog X.w) X.A (f (.int i t) (.int j u)) Q E s) :
    OpR X f (rI0 fun i j => .bl (g i j)) := by
  intro pins s σ H x y v u Q I rx ry h
  obtain ⟨i, j, rfl, rfl, q⟩ := h
  obtain ⟨t, rfl⟩ := rx
  obtain ⟨t', rfl⟩ := ry
  exact rule i j t t' s _ _ ⟨.bl (g i j), H, I, rfl, q⟩

def CPow (i j : Int) : Prop := 0 ≤ j ∧ j ≤ 1000000 ∧ i.natAbs < 2 ^ 64
theorem op_add : OpR X (binaryOp .Add) (rI0 fun i j => .int (i + j)) := opI0 fun _ _ _ _ _ _ _ q => add_int q
theorem op_sub : OpR X (binaryOp .Sub) (rI0 fun i j => .int (i - j)) := opI0 fun _ _ _ _ _ _ _ q => sub_int q
/-- % by a positive divisor of any size -/
theorem op_mod : OpR X (binaryOp .Mod) (rI (fun _ j => 0 < j) fun i j => .int (i % j)) := opI fun i j _ _ _ _ _ hc q => by
  have h1 : (0 : Int) < j := hc
  exact mod_int' (by omega) (by rw [Int.fmod_eq_emod_of_nonneg i (by omega)]; exact q)
theorem op_pow : OpR X (binaryOp .Pow) (rI CPow fun i j => .int (i ^ j.toNat)) := opI fun _ _ _ _ _ _ _ hc q => pow_int_small hc.1 hc.2.1 hc.2.2 q
theorem unI {f : Value → Sem Value} {g : Int → Int}
    (rule : ∀ (i : Int) (t : Tok) (s : Shared) (Q : Value → Shared → Prop) (E : Value → Shared → Prop), Q (.int (g i) s.toks) { s with toks := s.toks + 1 } → wpAny (model X.prog X.w) X.A (f (.int i t)) Q E s) :
    UnR X f (rU fun i => .int (g i)) := by
  intro pins s σ H x v Q I rx h
  obtain ⟨i, rfl, q⟩ := h
  obtain ⟨t, rfl⟩ := rx
  exact rule i t s _ _ ⟨.int (g i), H, I.tok _, ⟨_, rfl⟩, q⟩
theorem un_neg : UnR X (unaryOp .USub) (rU fun i => .int (-i)) := unI fun _ _ _ _ _ q => neg_int q
/-! ### bools among ints: n += (a < b) -/
end

/-! ### comparisons -/
/-- the scalars that == tells apart as data does -/
def scal : V → V → Bool
  | .non, .non => true | .non, .int _ => true | .int _, .non => true | .non, .bl _ => true | .bl _, .non => true | .non, .str _ => true | .str _, .non => true
  | .int _, .int _ => true | .bl _, .bl _ => true | .str _, .str _ => true | .byt _, .byt _ => true
  | .int _, .str _ => true | .str _, .int _ => true | .bl _, .str _ => true | .str _, .bl _ => true
  | _, _ => false
def rEq : R2 := fun x y H Q => scal x y = true ∧ Q (.bl (decide (x = y))) H
def rNe : R2 := fun x y H Q => scal x y = true ∧ Q (.bl (!decide (x = y))) H

theorem dec_int {i j : Int} : decide (V.int i = V.int j) = (i == j) := by
  rw [Bool.eq_iff_iff]
  simp
theorem dec_bl {i j : Bool} : decide (V.bl i = V.bl j) = (i == j) := by
  rw [Bool.eq_iff_iff]
  simp
theorem dec_str {i j : Str} : decide (V.str i = V.str j) = (i == j) := by
  rw [Bool.eq_iff_iff]
  simp
theorem dec_byt {i j : Array UInt8} : decide (V.byt i = V.byt j) = (i.toList == j.toList) := by
  rw [Bool.eq_iff_iff]
  cases i
  cases j
  simp

section
variable {X : Cx} {a b c : Expr} {ta tb tc : TE} {pos : Pos}
theorem fin_bl {pins : List (Addr × Obj)} {σ : St} {H : Hp} {s : Shared} {Q : VK} {k k' : Bool} (I : Inv X pins σ H s) (q : Q (.bl k) H) (e : k = k') : EP X pins σ Q (.bool k') s := by
  subst e
  exact ⟨.bl k, H, I, rfl, q⟩
theorem op_eq : OpR X (compareOp .Eq) rEq := by
  intro pins s σ H x y v u Q I rx ry h
  obtain ⟨hs, q⟩ := h
  cases x with
  | non =>
    cases rx
    cases y with
    | non => cases ry; exact PySem.EqNone.eq_none_none (fin_bl I q (by simp))
    | bl j => cases ry; exact PySem.EqNone.eq_none_bool (fin_bl I q (by simp))
    | int j => obtain ⟨t', rfl⟩ := ry; exact PySem.EqNone.eq_none_int (fin_bl I q (by simp))
    | str j => obtain ⟨t', rfl⟩ := ry; exact PySem.EqNone.eq_none_str (fin_bl I q (by simp))
    | _ => exact absurd (show false = true from hs) Bool.false_ne_true
  | bl i =>
    cases rx
    cases y with
    | non => cases ry; exact PySem.EqNone.eq_bool_none (fin_bl I q (by simp))
    | bl j => cases ry; exact eq_bool (fin_bl I q dec_bl)
    | str j => obtain ⟨t', rfl⟩ := ry; exact PySem.EqMixed.eq_bool_str (fin_bl I q (by simp))
    | _ => exact absurd (show false = true from hs) Bool.false_ne_true
  | int i =>
    obtain ⟨t, rfl⟩ := rx
    cases y with
    | non => cases ry; exact PySem.EqNone.eq_int_none (fin_bl I q (by simp))
    | int j => obtain ⟨t', rfl⟩ := ry; exact eq_int (fin_bl I q dec_int)
    | str j => obtain ⟨t', rfl⟩ := ry; exact PySem.EqMixed.eq_int_str (fin_bl I q (by simp))
    | _ => exact absurd (show false = true from hs) Bool.false_ne_true
  | str i =>
    obtain ⟨t, rfl⟩ := rx
    cases y with
    | non => cases ry; exact PySem.EqNone.eq_str_none (fin_bl I q (by simp))
    | bl j => cases ry; exact PySem.EqMixed.eq_str_bool (fin_bl I q (by simp))
    | int j => obtain ⟨t', rfl⟩ := ry; exact PySem.EqMixed.eq_str_int (fin_bl I q (by simp))
    | str j => obtain ⟨t', rfl⟩ := ry; exact eq_str (fin_bl I q dec_str)
    | _ => exact absurd (show false = true from hs) Bool.false_ne_true
  | byt i =>
    obtain ⟨t, rfl⟩ := rx
    cases y with
    | byt j => obtain ⟨t', rfl⟩ := ry; exact PySem.W.eq_bytes (fin_bl I q dec_byt)
    | _ => exact absurd (show false = true from hs) Bool.false_ne_true
  | _ => cases y <;> exact absurd (show false = true from hs) Bool.false_ne_true
theorem op_ne : OpR X (compareOp .NotEq) rNe := by
  intro pins s σ H x y v u Q I rx ry h
  obtain ⟨hs, q⟩ := h
  cases x with
  | non =>
    cases rx
    cases y with
    | non => cases ry; exact PySem.EqNone.ne_none_none (fin_bl I q (by simp))
    | bl j => cases ry; exact PySem.EqNone.ne_none_bool (fin_bl I q (by simp))
    | int j => obtain ⟨t', rfl⟩ := ry; exact PySem.EqNone.ne_none_int (fin_bl I q (by simp))
    | str j => obtain ⟨t', rfl⟩ := ry; exact PySem.EqNone.ne_none_str (fin_bl I q (by simp))
    | _ => exact absurd (show false = true from hs) Bool.false_ne_true
  | bl i =>
    cases rx
    cases y with
    | non => cases ry; exact PySem.EqNone.ne_bool_none (fin_bl I q (by simp))
    | bl j => cases ry; exact ne_bool (fin_bl I q (congrArg not dec_bl))
    | str j => obtain ⟨t', rfl⟩ := ry; exact PySem.EqMixed.ne_bool_str (fin_bl I q (by simp))
    | _ => exact absurd (show false = true from hs) Bool.false_ne_true
  | int i =>
    obtain ⟨t, rfl⟩ := rx
    cases y with
    | non => cases ry; exact PySem.EqNone.ne_int_none (fin_bl I q (by simp))
    | int j => obtain ⟨t', rfl⟩ := ry; exact ne_int (fin_bl I q (congrArg not dec_int))
    | str j => obtain ⟨t', rfl⟩ := ry; exact PySem.EqMixed.ne_int_str (fin_bl I q (by simp))
    | _ => exact absurd (show false = true from hs) Bool.false_ne_true
  | str i =>
    obtain ⟨t, rfl⟩ := rx
    cases y with
    | non => cases ry; exact PySem.EqNone.ne_str_none (fin_bl I q (by simp))
    | bl j => cases ry; exact PySem.EqMixed.ne_str_bool (fin_bl I q (by simp))
    | int j => obtain ⟨t', rfl⟩ := ry; exact PySem.EqMixed.ne_str_int (fin_bl I q (by simp))
    | str j => obtain ⟨t', rfl⟩ := ry; exact ne_str (fin_bl I q (congrArg not dec_str))
    | _ => exact absurd (show false = true from hs) Bool.false_ne_true
  | byt i =>
    obtain ⟨t, rfl⟩ := rx
    cases y with
    | byt j => obtain ⟨t', rfl⟩ := ry; exact PySem.W.ne_bytes (fin_bl I q (congrArg not dec_byt))
    | _ => exact absurd (show false = true from hs) Bool.false_ne_true
  | _ => cases y <;> exact absurd (show false = true from hs) Bool.false_ne_true

theorem op_lt : OpR X (compareOp .Lt) (rI0 fun i j => .bl (decide (i < j))) := opB0 fun _ _ _ _ _ _ _ q => lt_int q
theorem op_gt : OpR X (compareOp .Gt) (rI0 fun i j => .bl (decide (j < i))) := opB0 fun _ _ _ _ _ _ _ q => gt_int q
theorem op_ge : OpR X (compareOp .GtE) (rI0 fun i j => .bl (decide (j ≤ i))) := opB0 fun _ _ _ _ _ _ _ q => ge_int q
/-- is None, is not None: the right side a value none -/
theorem op_isN : OpR X (compareOp .Is) (fun x y H Q => y = .non ∧ Q (.bl (decide (x = .non))) H) := by
  intro pins s σ H x y v u Q I rx ry h
  obtain ⟨rfl, q⟩ := h
  cases ry
  refine is_none_gen (fin_bl I q ?_)
  cases x <;> first
    | (cases rx; rfl)
    | (obtain ⟨t, rfl⟩ := rx; rfl)
theorem nomark (b : Expr) {op : CmpOp} (h : op ≠ .In := by decide) (h2 : op ≠ .NotIn := by decide) : behindInMarks op b = false := by
  have e1 : (op == CmpOp.In) = false := by cases op <;> first | rfl | exact absurd rfl h
  have e2 : (op == CmpOp.NotIn) = false := by cases op <;> first | rfl | exact absurd rfl h2
  cases b <;> simp [behindInMarks, e1, e2]
/-- a comparison as a value; hm: nomark b, or (for in, not in) by with_unfolding_all rfl -/
theorem pe_cmpR {op : CmpOp} {r : R2} (ho : OpR X (compareOp op) r) (ha : PE X a ta) (hb : PE X b tb) (hm : behindInMarks op b = false) : PE X (.Compare a [op] [b] pos) (tOp r ta tb) := by
  intro pins s σ H Q I h
  exact wpAny_Compare1 (binT ha hb I h fun v u s2 x y H2 I2 rx ry q => ho pins s2 σ H2 x y v u Q I2 rx ry q) hm
/-- a reading of a value as a test -/
def tTest (t : TE) : TT := fun σ H Q => t σ H fun x H' => ∃ k, x = .bl k ∧ Q k H'
theorem pt_cmpR {op : CmpOp} {r : R2} (ho : OpR X (compareOp op) r) (ha : PE X a ta) (hb : PE X b tb) (hm : behindInMarks op b = false) : PT X (.Compare a [op] [b] pos) (tTest (tOp r ta tb)) := by
  intro pins s σ H Q I h
  refine wpAny_isTrue_Compare1 (thn (ha pins s σ H _ I h) fun v s1 ⟨x, H1, I1, r1, q1⟩ => thn (hb pins s1 σ H1 _ I1 q1) fun u s2 ⟨y, H2, I2, r2, q2⟩ =>
    thn (ho pins s2 σ H2 x y v u _ I2 r1 r2 q2) fun c s3 ⟨z, H3, I3, r3, k, e, q3⟩ => ?_) hm
  subst e
  cases r3
  exact wpAny_truthy_bool ⟨H3, I3, q3⟩
/-- a op1 b op2 c -/
def tChain (r r' : R2) (ta tb tc : TE) : TE := fun σ H Q => ta σ H fun x H1 => tb σ H1 fun y H2 => r x y H2 fun z H3 => ∃ k, z = .bl k ∧
  (if k = true then tc σ H3 fun w' H4 => r' y w' H4 Q else Q (.bl false) H3)
/-! ### truth -/
theorem line63 : (sizeLine : Nat) < 2 ^ 63 := by rw [sizeLine_eq]; decide
/-! ### strs and bytes -/
theorem op_add_str : OpR X (binaryOp .Add) (fun x y H Q => ∃ i j, x = .str i ∧ y = .str j ∧ i.length + j.length ≤ sizeLine ∧ Q (.str (i ++ j)) H) := by
  intro pins s σ H x y v u Q I rx ry h
  obtain ⟨i, j, rfl, rfl, hz, q⟩ := h
  obtain ⟨t, rfl⟩ := rx
  obtain ⟨t', rfl⟩ := ry
  exact add_str (fun t' tk => ⟨.str (i ++ j), H, I.tok _, ⟨_, rfl⟩, q⟩) hz
/-! ### scalar builtins, by CallR -/
theorem vals1 {x : V} {us : List Value} (r : Vals [x] us) : ∃ u, us = [u] ∧ RelV x u := by
  cases r with
  | cons r1 r2 => cases r2; exact ⟨_, rfl, r1⟩
theorem vals2 {x y : V} {us : List Value} (r : Vals [x, y] us) : ∃ u w', us = [u, w'] ∧ RelV x u ∧ RelV y w' := by
  cases r with
  | cons r1 r2 =>
    cases r2 with
    | cons r3 r4 => cases r4; exact ⟨_, _, rfl, r1, r3⟩
/-- len of a str, a bytes, a list, a tuple -/
def LenV (K : PySem.W.Frag) (x : V) (H : Hp) (n : Nat) : Prop :=
  match x with
  | .str y => y.length ≤ sizeLine ∧ n = y.length
  | .byt y => y.size ≤ sizeLine ∧ n = y.size
  | .ref p => (∃ xs, SqL K H p xs ∧ n = xs.length) ∨ ∃ xs, SqT K H p xs ∧ n = xs.length
  | _ => False
theorem call_len : CallR X (.builtin "len") (fun xs H Q => ∃ x n, xs = [x] ∧ LenV X.K x H n ∧ Q (.int n) H) := by
  intro pins s σ H xs us Q I r h
  obtain ⟨x, n, rfl, e, q⟩ := h
  obtain ⟨u, rfl, rx⟩ := vals1 r
  have hl := line63
  have hs : sizeLine = 16777216 := sizeLine_eq
  cases x with
  | str y =>
    obtain ⟨t, rfl⟩ := rx
    obtain ⟨hy, e'⟩ : y.length ≤ sizeLine ∧ n = y.length := e
    subst e'
    exact len_str (by omega) ⟨.int _, H, I.tok _, ⟨_, rfl⟩, q⟩
  | byt y =>
    obtain ⟨t, rfl⟩ := rx
    obtain ⟨hy, e'⟩ : y.size ≤ sizeLine ∧ n = y.size := e
    subst e'
    exact PySem.W.len_bytes (by omega) ⟨.int _, H, I.tok _, ⟨_, rfl⟩, q⟩
  | ref p =>
    cases rx
    have e' : (∃ xs, SqL X.K H p xs ∧ n = xs.length) ∨ ∃ xs, SqT X.K H p xs ∧ n = xs.length := e
    rcases e' with ⟨xs, hx, e'⟩ | ⟨xs, hx, e'⟩
    · subst e'
      obtain ⟨its, r', pl, hz⟩ := I.list hx
      have hlen := r'.length
      exact Calls.call_len_list pl.isList (by simp only [List.size_toArray]; omega) ⟨.int xs.length, H, I.tok _, ⟨_, by simp only [List.size_toArray]; rw [hlen]⟩, q⟩
    · subst e'
      obtain ⟨its, r', pl, hz⟩ := I.tuple hx
      have hlen := r'.length
      exact len_tuple pl (by simp only [List.size_toArray]; omega) ⟨.int xs.length, H, I.tok _, ⟨_, by simp only [List.size_toArray]; rw [hlen]⟩, q⟩
  | _ => exact (show False from e).elim
end
end L2

namespace L2
open PySem PySem.Spec PyProof.Rows

/-! ### an instance, its attributes a map -/
structure ObjM (h : Heap) (x dx C : Addr) (mA : Str → Option Value) : Prop where
  obj : h.get? x = some (PySem.W.instObj C dx)
  ns : h.Ns1 dx mA
  ne : dx ≠ x

theorem lookIn_ns {h : Heap} {dx : Addr} {mA : Str → Option Value} (n : h.Ns1 dx mA) : ∃ od, h.get? dx = some od ∧ ∀ name, PySem.W.lookIn name od = some (mA name) := by
  obtain ⟨o, es, ep, ho, hd, hk, _, hm⟩ := n
  refine ⟨o, ho, fun name => ?_⟩
  have e := hm name
  unfold nsFind findBy at e
  rw [← Array.find?_toList] at e
  unfold PySem.W.lookIn
  rw [hd]
  dsimp only
  split
  · rename_i y q
    rw [q] at e
    exact congrArg some e
  · rename_i q
    rw [q] at e
    have a : es.toList.any (·.refKey) = false := by
      rw [List.any_eq_false]
      intro y hy
      obtain ⟨z, t, hkey⟩ := hk y (Array.mem_toList_iff.mp hy)
      simp [DictEntry.refKey, hkey]
    have a' : ¬ es.toList.any (·.refKey) = true := by rw [a]; exact Bool.false_ne_true
    rw [if_neg a']
    exact congrArg some e

theorem ObjM.look {h : Heap} {x dx C : Addr} {mA : Str → Option Value} (I : ObjM h x dx C mA) : ∃ od, PySem.W.InstAt h x (PySem.W.instObj C dx) C (some od) ∧ ∀ name, PySem.W.lookIn name od = some (mA name) :=
  let ⟨od, ho, hl⟩ := lookIn_ns I.ns
  ⟨od, ⟨I.obj, rfl, rfl, ho⟩, hl⟩

section
variable {prog : Program} {w : World} {A : Around} {E : Value → Shared → Prop} {s : Shared} {K : PySem.W.Frag} {x dx C f : Addr} {mA : Str → Option Value} {name : Str} {v : Value}

end

/-! ### the attributes as a list of pairs -/
def putF (f : Str) (v : V) : List (Str × V) → List (Str × V)
  | [] => [(f, v)]
  | (g, x) :: r => if g = f then (g, v) :: r else (g, x) :: putF f v r
section
variable {P : Program} {w : World} {H H' : Hp} {h h' : Heap} {a C dx : Addr} {fs fs' : List (Str × V)}
theorem ins_get (hok : HOk P w H h) (e : H a = some (.ins C dx fs)) : ∃ mA, ObjM h a dx C mA ∧ (∀ f, RelO (fs.lookup f) (mA f)) ∧ PySem.Within mA (fs.map (·.1)) ∧ fs.length ≤ 1000 ∧ H dx = some (.own a) := by
  obtain ⟨d, z, ne, ob, mA, n, r, q⟩ := (show ObjOk P w H h a (.ins C dx fs) from hok a _ e)
  exact ⟨mA, ⟨ob, n, ne⟩, r, q, z, d⟩
end

/-! ### what of the text a class must have -/
structure Cls (K : PySem.W.Frag) (C : Addr) : Prop where
  pg : PySem.W.plainGet K C Str.empty = true
  hd : PySem.W.hasDictIn K C = true
  po : PySem.W.plainOver K C = true
  sa : PySem.W.findIn K (.ref C) "__setattr__" = some (some (.builtin "object.__setattr__"))
theorem Cls.get {K : PySem.W.Frag} {C : Addr} (c : Cls K C) (f : Str) : PySem.W.plainGet K C f = true := c.pg
/-- no class of it has the name -/
def NoAttr (K : PySem.W.Frag) (C : Addr) (f : Str) : Prop := PySem.W.findIn K (.ref C) f = some none
section
variable {X : Cx} {pins : List (Addr × Obj)} {σ : St} {H : Hp} {s : Shared} {a C dx : Addr} {fs : List (Str × V)} {f : Str} {v : V} {A : Around} {E : Value → Shared → Prop}

end

/-! ### readings and rules -/
/-- e.f, an attribute of the instance -/
def tFld (K : PySem.W.Frag) (ta : TE) (f : Str) : TE := fun σ H Q => ta σ H fun x H1 => ∃ a C dx fs v, x = .ref a ∧ H1 a = some (.ins C dx fs) ∧ Cls K C ∧ NoAttr K C f ∧ fs.lookup f = some v ∧ Q v H1
/-- e.f = value -/
def sFld (K : PySem.W.Frag) (ta tv : TE) (f : Str) : TS := fun D σ H => tv σ H fun y H1 => ta σ H1 fun x H2 => ∃ a C dx fs, x = .ref a ∧ H2 a = some (.ins C dx fs) ∧ Cls K C ∧ NoAttr K C f ∧ fs.length < 1000 ∧
  D.nx σ (upd H2 a (.ins C dx (putF f y fs)))
section
variable {X : Cx} {o e value : Expr} {f : Str} {pos pos' tpos : Pos} {ta tv : TE}
end

/-! ### isinstance -/
section
variable {X : Cx} {pins : List (Addr × Obj)} {σ : St} {H : Hp} {s : Shared} {A : Around} {E : Value → Shared → Prop} {Q : Value → Shared → Prop} {c : Value} {b : Bool}
/-- the type of a value, as the fragment's deciders take it; for an instance its class -/
inductive TyOf (K : PySem.W.Frag) (H : Hp) : V → Value → Prop where
  | non : TyOf K H .non (.type "NoneType")
  | bl (x : Bool) : TyOf K H (.bl x) (.type "bool")
  | int (i : Int) : TyOf K H (.int i) (.type "int")
  | str (x : Str) : TyOf K H (.str x) (.type "str")
  | flt (x : UInt64) : TyOf K H (.flt x) (.type "float")
  | lst {a : Addr} {xs : List V} (e : H a = some (.lst xs)) : TyOf K H (.ref a) (.type "list")
  | frz {a : Addr} {o : Obj} {xs : List V} (e : H a = some (.frz o (.lst xs))) : TyOf K H (.ref a) (.type "list")
  | tup {a : Addr} {xs : List V} (e : H a = some (.tup xs)) : TyOf K H (.ref a) (.type "tuple")
  | dK {a : Addr} {kvs : List (Key × V)} (e : H a = some (.dK kvs)) : TyOf K H (.ref a) (.type "dict")
  | dT {a : Addr} {kvs : List (List Key × V)} (e : H a = some (.dT kvs)) : TyOf K H (.ref a) (.type "dict")
  | ins {a C dx : Addr} {fs : List (Str × V)} (e : H a = some (.ins C dx fs)) (cl : Cls K C) (ha : PySem.W.findIn K (.ref C) "__class__" = some (some (.builtin "object.__class__")))
      (hn : PySem.W.specialIn K (.builtin "object.__class__") "__get__" = some (some (.builtin "getset_descriptor.__get__"))) (htk : PySem.W.takesIn K (.builtin "object.__class__") = some true)
      (hm : PySem.W.mroIn K C (.type "object") = some true) : TyOf K H (.ref a) (.ref C)
/-- isinstance(x, c) for one class c, a built-in or an own one: kitOne's answer -/
theorem isinst_ok {x : V} {u t : Value} (I : Inv X pins σ H s) (rx : RelV x u) (ty : TyOf X.K H x t) (e : PySem.W.kitOne X.K t c = some b) (h : ∀ tk, Q (.bool b) { s with toks := tk }) :
    wpAny (model X.prog X.w) A (call (.builtin "isinstance") [u, c]) Q E s := by
  cases ty with
  | non => cases (show u = Value.none from rx); exact PySem.W.kia_one PySem.W.kitx_none I.kIn True.intro e (fun z => nomatch z) h
  | bl y => cases (show u = Value.bool y from rx); exact PySem.W.kia_one PySem.W.kitx_bool I.kIn True.intro e (fun z => nomatch z) h
  | int i => obtain ⟨t, q⟩ := (show ∃ t, u = Value.int i t from rx); cases q; exact PySem.W.kia_one PySem.W.kitx_int I.kIn True.intro e (fun z => nomatch z) h
  | str y => obtain ⟨t, q⟩ := (show ∃ t, u = Value.str y t from rx); cases q; exact PySem.W.kia_one PySem.W.kitx_str I.kIn True.intro e (fun z => nomatch z) h
  | flt y => obtain ⟨t, q⟩ := (show ∃ t, u = Value.float y t from rx); cases q; exact PySem.W.kia_one PySem.W.kitx_float I.kIn True.intro e (fun z => nomatch z) h
  | @lst a xs ea =>
    cases (show u = Value.ref a from rx)
    obtain ⟨_, _, n, _, h1⟩ := (show ObjOk X.prog X.w H s.heap a (.lst xs) from I.hok a _ ea)
    exact PySem.W.kia_one PySem.W.kitx_list I.kIn ⟨_, h1, rfl⟩ e (fun z => nomatch z) h
  | @frz a ob xs ea =>
    cases (show u = Value.ref a from rx)
    obtain ⟨_, _, _, n, _, h1⟩ := (show ObjOk X.prog X.w H s.heap a (.frz ob (.lst xs)) from I.hok a _ ea)
    exact PySem.W.kia_one PySem.W.kitx_list I.kIn ⟨_, h1, rfl⟩ e (fun z => nomatch z) h
  | @tup a xs ea =>
    cases (show u = Value.ref a from rx)
    obtain ⟨_, _, _, p⟩ := (show ObjOk X.prog X.w H s.heap a (.tup xs) from I.hok a _ ea)
    obtain ⟨o, h1, h2, _⟩ := p
    exact PySem.W.kia_one PySem.W.kitx_tuple I.kIn ⟨o, h1, h2⟩ e (fun z => nomatch z) h
  | @dK a kvs ea =>
    cases (show u = Value.ref a from rx)
    obtain ⟨_, _, vs, _, p⟩ := (show ObjOk X.prog X.w H s.heap a (.dK kvs) from I.hok a _ ea)
    obtain ⟨o, es, ep, h1, h2, _⟩ := p
    exact PySem.W.kia_one PySem.W.kitx_dict I.kIn ⟨o, h1, h2.1⟩ e (fun z => nomatch z) h
  | @dT a kvs ea =>
    cases (show u = Value.ref a from rx)
    obtain ⟨_, _, xs, _, o, es, ep, h1, h2, _⟩ := (show ObjOk X.prog X.w H s.heap a (.dT kvs) from I.hok a _ ea)
    exact PySem.W.kia_one PySem.W.kitx_dict I.kIn ⟨o, h1, h2.1⟩ e (fun z => nomatch z) h
  | @ins a C dx fs ea cl ha hn htk hm =>
    cases (show u = Value.ref a from rx)
    obtain ⟨mA, O, _⟩ := ins_get I.hok ea
    obtain ⟨od, J, _⟩ := O.look
    exact PySem.W.kia_one (PySem.W.kitx_own (cl.get _) cl.hd ha hn htk hm) I.kIn J e (fun z => nomatch z) h
end
end L2

namespace L2
open PySem PySem.Spec PyProof.Rows

/-! ### room -/
structure Room (k : Nat) (A : Around) : Prop where
  hd : A.handled = none
  dp : A.depth + 3 * k + 5 < recursionLimit
  un : A.units + 16 * k + 200 < cLine
theorem Room.mono {j k : Nat} {A : Around} (r : Room k A) (h : j ≤ k) : Room j A := ⟨r.hd, by have := r.dp; omega, by have := r.un; omega⟩
theorem Room.deeper {k : Nat} {A : Around} (r : Room (k + 1) A) (env : Env) : Room k (A.deeper env) :=
  ⟨r.hd, by have := r.dp; show A.depth + 1 + 3 * k + 5 < _; omega, by have := r.un; show A.units + 3 + 16 * k + 200 < _; omega⟩
theorem Room.depth {k : Nat} {A : Around} (r : Room k A) : A.depth < recursionLimit := by have := r.dp; omega
/-! ### argument lists and displays -/
def tNil : TA := fun _ H Q => Q [] H
def tCons (ta : TE) (tr : TA) : TA := fun σ H Q => ta σ H fun x H1 => tr σ H1 fun xs H2 => Q (x :: xs) H2
section
variable {X : Cx} {e : Expr} {es : List Expr} {te : TE} {t : TA} {pos : Pos}
theorem pa_nil : PA X [] tNil := fun _ _ _ _ H Q I h => Calls.spliced_nil ⟨[], H, I, .nil, h⟩
theorem pa_cons (ha : PE X e te) (hr : PA X es t) (hs : starEach (e :: es) X.env = (false, eval e X.env) :: starEach es X.env := by rfl) : PA X (e :: es) (tCons te t) := by
  intro pos pins s σ H Q I h
  rw [hs]
  show wpAny _ _ (spliced ((false, eval e X.env) :: backTo pos (starEach es X.env))) _ _ s
  refine Calls.spliced_cons (thn (ha pins s σ H _ I h) fun u s1 ⟨x, H1, I1, r1, q1⟩ => ?_)
  exact thn (hr pos pins s1 σ H1 _ I1 q1) fun us s2 ⟨xs, H2, I2, r2, q2⟩ => ⟨x :: xs, H2, I2, .cons r1 r2, q2⟩

/-- a tuple, a list of written items -/
def tTup (t : TA) : TE := fun σ H Q => t σ H fun xs H1 => xs.length ≤ sizeLine ∧ ∀ p, H1 p = none → Q (.ref p) (upd H1 p (.tup xs))
def tLst (t : TA) : TE := fun σ H Q => t σ H fun xs H1 => xs.length ≤ sizeLine ∧ ∀ p, H1 p = none → Q (.ref p) (upd H1 p (.lst xs))
theorem pe_tup {x1} (h : PA X es t) : PE X (.Tuple es x1 pos) (tTup t) := by
  intro pins s σ H Q I hq
  refine wpAny_Tuple_spliced (thn (h pos pins s σ H _ I hq) fun us s1 ⟨xs, H1, I1, r, z, q⟩ => ⟨by rw [← r.length]; exact z, ?_⟩)
  have hf : H1 s1.heap.objs.size = none := I1.hok.fresh (Nat.le_refl _)
  refine ⟨.ref s1.heap.objs.size, upd H1 s1.heap.objs.size (.tup xs), I1.laid (t' := s1.toks) (fun b u e => Heap.get?_push_of_some _ e) (Nat.le_refl _) ?_, rfl, q _ hf⟩
  exact ⟨z, us, r, ⟨_, Heap.get?_push_size _ rfl, rfl, _, rfl⟩⟩
theorem pe_lst (h : PA X es t) : PE X (.List es pos) (tLst t) := by
  intro pins s σ H Q I hq
  refine wpAny_List_spliced (thn (h pos pins s σ H _ I hq) fun us s1 ⟨xs, H1, I1, r, z, q⟩ => ⟨by rw [← r.length]; exact z, ?_⟩)
  have hf : H1 s1.heap.objs.size = none := I1.hok.fresh (Nat.le_refl _)
  refine ⟨.ref s1.heap.objs.size, upd H1 s1.heap.objs.size (.lst xs), I1.laid (t' := s1.toks) (fun b u e => Heap.get?_push_of_some _ e) (Nat.le_refl _) ?_, rfl, q _ hf⟩
  exact ⟨z, us, 0, r, Heap.get?_push_size _ rfl⟩
end

/-! ### what a def promises -/
/-- a def's promise: the bound arguments in the parameters' order, the heap, the wanted end, the wanted exception -/
abbrev Sp := List V → Hp → VK → XK → Prop
/-- how an exception lies behind a call (file 08 gives it): the callers' frames, abstract heap and state ahead of the call, the wish, the exception, the state -/
abbrev CXT := List Env → Hp → Shared → XK → Value → Shared → Prop

/-- the state at a call -/
structure Env0 (P : Program) (w : World) (K : PySem.W.Frag) (mg : Str → Option Value) (base : Heap) (A : Around) (outer : List Env) (s : Shared) (H : Hp) : Prop where
  frames : A.frames = some outer
  mod : Mod K mg base
  bs : ∀ b o, base.get? b = some o → s.heap.get? b = some o ∧ H b = none
  bsz : base.objs.size ≤ s.heap.objs.size
  funs : s.heap.FunFrames base outer
  frf : ∀ b ∈ frs outer, H b = none
  hok : HOk P w H s.heap
  bare : AllBare s.gens
/-- a call's end -/
def CE (outer : List Env) (P : Program) (w : World) (H : Hp) (s : Shared) (Q : VK) (u : Value) (s' : Shared) : Prop :=
  ∃ v H', s'.os = s.os ∧ AllBare s'.gens ∧ Un (frs outer) [] H H' s.heap s'.heap ∧ HOk P w H' s'.heap ∧ RelV v u ∧ Q v H'
def CR (CX : CXT) (outer : List Env) (P : Program) (w : World) (H : Hp) (s : Shared) (Q : VK) (E : XK) (r : Result) (s' : Shared) : Prop :=
  match r with
  | .ok (.ret u) => CE outer P w H s Q u s'
  | .ok _ => False
  | .error e => CX outer H s E e s'
structure FnOk (P : Program) (w : World) (K : PySem.W.Frag) (mg : Str → Option Value) (base : Heap) (CX : CXT) (k : Nat) (f : Addr) (fd : FuncData) (ps : List Str) (sp : Sp) : Prop where
  len : ∀ vs H Q E, sp vs H Q E → vs.length = ps.length
  run : ∀ (A : Around) (outer : List Env) (s : Shared) (H : Hp) (args : Args) (us : List Value) (vs : List V) (Q : VK) (E : XK), Room k A → Env0 P w K mg base A outer s H → BindsTo s fd args (ps.zip us) → Vals vs us → sp vs H Q E →
    codeAny (model P w) A (.call (.ref f) args) (CR CX outer P w H s Q E) s
theorem FnOk.mono {P : Program} {w : World} {K : PySem.W.Frag} {mg : Str → Option Value} {base : Heap} {CX : CXT} {j k : Nat} {f : Addr} {fd : FuncData} {ps : List Str} {sp : Sp} (F : FnOk P w K mg base CX j f fd ps sp) (h : j ≤ k) :
    FnOk P w K mg base CX k f fd ps sp := ⟨F.len, fun A outer s H args us vs Q E hr => F.run A outer s H args us vs Q E (hr.mono h)⟩
section
variable {X : Cx} {pins : List (Addr × Obj)} {σ : St} {H : Hp} {s s' : Shared}
/-- from a body: what a callee wants -/
theorem Inv.env0 (I : Inv X pins σ H s) : Env0 X.prog X.w X.K X.mg X.base X.A X.stack s H :=
  ⟨I.ok.frames, I.ok.mod, I.bs, Nat.le_trans I.ok.bsz I.sz, I.stack, I.stkFree, I.hok, I.bare⟩
/-- behind a call -/
theorem Inv.after {Q : VK} {u : Value} (I : Inv X pins σ H s) (h : CE X.stack X.prog X.w H s Q u s') : EP X pins σ Q u s' := by
  obtain ⟨v, H', os, bare, un, hok, r, q⟩ := h
  obtain ⟨hh, g, d, t, os'⟩ := s'
  obtain rfl : os' = s.os := os
  exact ⟨v, H', I.call (h' := hh) (g' := g) (d' := d) (t' := t) (ch := []) un hok bare (fun b z => absurd z (by simp)), r, q⟩
end

/-! ### calls -/
/-- f(..): the written arguments, then the defaults dvs; E: what is wanted of an exception -/
def tCall (sp : Sp) (dvs : List V) (E : XK) (t : TA) : TE := fun σ H Q => t σ H fun vs H1 => sp (vs ++ dvs) H1 Q E
/-- o.m(..) of an instance of the class at C -/
def tMeth (C : Addr) (m : Str) (sp : Sp) (dvs : List V) (E : XK) (ta : TE) (t : TA) : TE := fun σ H Q => ta σ H fun x H1 => ∃ a dx fs, x = .ref a ∧ H1 a = some (.ins C dx fs) ∧ fs.lookup m = none ∧
  t σ H1 fun vs H2 => sp (x :: (vs ++ dvs)) H2 Q E
/-- C(..): a new instance and its dict, then __init__ -/
def tMake (C : Addr) (sp : Sp) (dvs : List V) (E : XK) (t : TA) : TE := fun σ H Q => t σ H fun vs H1 => ∀ x dx, H1 x = none → H1 dx = none → dx ≠ x →
  sp (.ref x :: (vs ++ dvs)) (upd (upd H1 dx (.own x)) x (.ins C dx [])) (fun v H2 => v = .non ∧ Q (.ref x) H2) E

/-- how the parameters are bound: us the positional arguments, kw the keywords' values by name, ds the defaults that fill up -/
def Binds (K : PySem.W.Frag) (fd : FuncData) (ps : List Str) (ds : List Value) : Prop :=
  ∀ (s : Shared) (us : List Value), K.In s.heap → (us ++ ds).length = ps.length → BindsTo s fd ⟨us, []⟩ (ps.zip (us ++ ds))
/-- every parameter is given -/
theorem Binds.all {K : PySem.W.Frag} {fd : FuncData} {ps : List Str} (h : ∀ us : List Value, us.length = ps.length → bindArgs fd ⟨us, []⟩ = pure (ps.zip us)) : Binds K fd ps [] := fun s us _ hl => by
  rw [List.append_nil] at hl ⊢
  exact .of_eq (h us hl)

/-- an exception of a callee reaches what this body wants of exceptions -/
def Passes (CX : CXT) (X : Cx) (E : XK) : Prop := ∀ (pins : List (Addr × Obj)) (σ : St) (H : Hp) (s : Shared) (e : Value) (s' : Shared), Inv X pins σ H s → CX X.stack H s E e s' → X.xe e s'

section
variable {X : Cx} {CX : CXT} {k : Nat} {f C : Addr} {fd : FuncData} {ps : List Str} {sp : Sp} {dvs : List V} {ds : List Value} {E : XK} {x m : Str} {p pos apos : Pos} {e o : Expr} {es : List Expr} {ta : TE} {t : TA}

/-- the callee runs -/
theorem run_fn {pins : List (Addr × Obj)} {σ : St} {H : Hp} {s : Shared} {Q : VK} {us : List Value} {vs : List V} (F : FnOk X.prog X.w X.K X.mg X.base CX k f fd ps sp) (hr : Room k X.A) (hb : Binds X.K fd ps ds) (hd : Vals dvs ds) (hx : Passes CX X E)
    (I : Inv X pins σ H s) (r : Vals vs us) (h : sp (vs ++ dvs) H Q E) : wpAny (model X.prog X.w) X.A (call (.ref f) us) (EP X pins σ Q) X.xe s := by
  have r2 : Vals (vs ++ dvs) (us ++ ds) := r.append hd
  have hl : (us ++ ds).length = ps.length := by rw [← r2.length]; exact F.len _ _ _ _ h
  refine wpAny_call (codeAny_mono (F.run X.A X.stack s H ⟨us, []⟩ (us ++ ds) (vs ++ dvs) Q E hr I.env0 (hb s us I.kIn hl) r2 h) fun r s' hq => ?_)
  cases r with
  | error e => exact hx pins σ H s e s' I hq
  | ok fl =>
    cases fl with
    | ret u => exact I.after hq
    | next => exact False.elim hq
    | brk => exact False.elim hq
    | cont => exact False.elim hq

theorem pe_call (F : FnOk X.prog X.w X.K X.mg X.base CX k f fd ps sp) (hr : Room k X.A) (hg : Gl X x) (hm : X.mg x = some (.ref f)) (hk : PySem.W.keepIn X.K (.ref f) = true) (hb : Binds X.K fd ps ds) (hd : Vals dvs ds) (hx : Passes CX X E)
    (ha : PA X (e :: es) t) (hdb : (x == ("__debug__" : Str)) = false := by decide) (he : starEach (e :: es) X.env = (false, eval e X.env) :: starEach es X.env := by rfl) (hpl : (backTo pos (starEach es X.env)).any (·.1) = false := by rfl) :
    PE X (.Call (.Name x p) (e :: es) [] pos) (tCall sp dvs E t) := by
  intro pins s σ H Q I h
  refine wpAny_Call_Name_kw (ld_glob I hg hm ?_ hdb)
  refine PySem.W.callWith_K (h₀ := X.base) I.ok.mod.kin hk (thn (ha pos pins s σ H _ I h) fun us s1 ⟨vs, H1, I1, r, q⟩ => ⟨I1.kIn, ?_⟩) he hpl
  exact run_fn F hr hb hd hx I1 r q
end

/-! ### keywords -/
section
variable {X : Cx} {CX : CXT} {k : Nat} {f C : Addr} {fd : FuncData} {ps ks : List Str} {sp : Sp} {E : XK} {x m : Str} {p pos apos kpos : Pos} {e o : Expr} {es : List Expr} {kws : List Keyword} {te ta : TE} {t tk : TA} {nm : Option Str}
variable {g : List Value → List Value → List Value} {gV : List V → List V → List V}
end

/-! ### a def's body keeps its promise -/
/-- names: the parameters first -/
structure FnScope (N P : List Str) (sc : Scope) : Prop where
  kind : sc.kind = .function
  co : sc.isCoroutine = false
  gen : sc.isGenerator = false
  nd : N.Nodup
  pre : N.take P.length = P
  par : ∀ x ∈ P, sc.names.lookup x = some .local ∨ sc.names.lookup x = some .cell
  nofree : ∀ y ∈ sc.names, y.2 ≠ .free

theorem bindL_out {kindOf : Str → Option NameKind} {x : Str} : ∀ {binds : List (Str × Value)} {m : Str → Option Value}, (∀ v, (x, v) ∉ binds) → bindL kindOf binds m x = m x
  | [], _, _ => rfl
  | (n, v) :: r, m, h => by
    unfold bindL
    rw [bindL_out fun w hw => h w (List.mem_cons_of_mem _ hw)]
    split
    · have : x ≠ n := by rintro rfl; exact h v List.mem_cons_self
      simp [this]
    · rfl
theorem bindC_out {kindOf : Str → Option NameKind} {x : Str} : ∀ {binds : List (Str × Value)} {m : Str → Option Value}, (∀ v, (x, v) ∉ binds) → bindC kindOf binds m x = m x
  | [], _, _ => rfl
  | (n, v) :: r, m, h => by
    unfold bindC
    rw [bindC_out fun w hw => h w (List.mem_cons_of_mem _ hw)]
    split
    · rfl
    · have : x ≠ n := by rintro rfl; exact h v List.mem_cons_self
      simp [this]
theorem bindL_get {kindOf : Str → Option NameKind} {x : Str} {v : Value} : ∀ {P : List Str} {vs : List Value} {i : Nat} {m : Str → Option Value}, P.Nodup → P[i]? = some x → vs[i]? = some v → kindOf x = some .local →
    bindL kindOf (P.zip vs) m x = some v
  | [], _, _, _, _, h, _, _ => by simp at h
  | _ :: _, [], _, _, _, _, h, _ => by simp at h
  | p :: P, w :: vs, 0, m, nd, h1, h2, hk => by
    simp at h1 h2; subst h1; subst h2
    show bindL kindOf ((p, w) :: P.zip vs) m p = _
    unfold bindL
    rw [bindL_out fun v hv => (List.nodup_cons.mp nd).1 (List.of_mem_zip hv).1, if_pos hk]
    simp
  | p :: P, w :: vs, i + 1, m, nd, h1, h2, hk => by
    show bindL kindOf ((p, w) :: P.zip vs) m x = _
    unfold bindL
    exact bindL_get (i := i) (List.nodup_cons.mp nd).2 (by simpa using h1) (by simpa using h2) hk
theorem bindC_get {kindOf : Str → Option NameKind} {x : Str} {v : Value} : ∀ {P : List Str} {vs : List Value} {i : Nat} {m : Str → Option Value}, P.Nodup → P[i]? = some x → vs[i]? = some v → kindOf x ≠ some .local →
    bindC kindOf (P.zip vs) m x = some v
  | [], _, _, _, _, h, _, _ => by simp at h
  | _ :: _, [], _, _, _, _, h, _ => by simp at h
  | p :: P, w :: vs, 0, m, nd, h1, h2, hk => by
    simp at h1 h2; subst h1; subst h2
    show bindC kindOf ((p, w) :: P.zip vs) m p = _
    unfold bindC
    rw [bindC_out fun v hv => (List.nodup_cons.mp nd).1 (List.of_mem_zip hv).1, if_neg hk]
    simp
  | p :: P, w :: vs, i + 1, m, nd, h1, h2, hk => by
    show bindC kindOf ((p, w) :: P.zip vs) m x = _
    unfold bindC
    exact bindC_get (i := i) (List.nodup_cons.mp nd).2 (by simpa using h1) (by simpa using h2) hk

/-- the names' values at the entry -/
def start (N : List Str) (vs : List V) : St := vs.map some ++ List.replicate (N.length - vs.length) none

/-- the context of a def's body, at its entry; an exception leaves the frame, then lies as CX says -/
def cxOf (CX : CXT) (P : Program) (w : World) (K : PySem.W.Frag) (mg : Str → Option Value) (base : Heap) (N : List Str) (qual : Str) (scope : Scope) (f : Addr) (cd : Value) (A : Around) (outer : List Env) (s : Shared) (H : Hp) (E : XK) : Cx where
  prog := P
  w := w
  K := K
  mg := mg
  base := base
  A := A.deeper (envOfC qual scope s.heap.objs.size f cd)
  N := N
  s₀ := s
  H₀ := H
  env := envOfC qual scope s.heap.objs.size f cd
  outer := outer
  stack := envOfC qual scope s.heap.objs.size f cd :: outer
  ex := []
  calm := true
  fn := fun _ => true
  pn := []
  xe := fun e s' => wpAny (model P w) (A.deeper (envOfC qual scope s.heap.objs.size f cd)) (leaving (envOfC qual scope s.heap.objs.size f cd) e) (fun _ s'' => CX outer H s E e s'') (fun e' s'' => CX outer H s E e' s'') s'

theorem cell_has {sc : Scope} {n : Nat} {x : Str} (h : sc.names.lookup x = some .cell) : ∃ c, (cellsFrom n sc.names []).lookup x = some c := by
  have q := PySem.W.cellsFrom_some sc.names n [] (.inl h)
  exact Option.isSome_iff_exists.mp q

theorem inv_start {CX : CXT} {P : Program} {w : World} {K : PySem.W.Frag} {mg : Str → Option Value} {base : Heap} {N ps : List Str} {qual : Str} {scope : Scope} {f : Addr} {cd : Value} {A : Around} {outer : List Env} {s s1 : Shared} {H : Hp} {E : XK} {us : List Value} {vs : List V}
    (S : FnScope N ps scope) (hd : A.handled = none) (e0 : Env0 P w K mg base A outer s H) (hl : vs.length = ps.length) (r : Vals vs us)
    (x : InCallC s s.heap.objs.size (bindL (envOfC qual scope s.heap.objs.size f cd).kindOf (ps.zip us) fun _ => none) (cellsFrom (s.heap.objs.size + 1) scope.names []) (bindC (envOfC qual scope s.heap.objs.size f cd).kindOf (ps.zip us) fun _ => none) s1) :
    Inv (cxOf CX P w K mg base N qual scope f cd A outer s H E) [] (start N vs) H s1 := by
  have hpl : ps.length ≤ N.length := by have := congrArg List.length S.pre; rw [List.length_take] at this; omega
  obtain ⟨h1, tk, rfl, hk⟩ := x.done
  have noA : ∀ b : Addr, b ∉ (cxOf CX P w K mg base N qual scope f cd A outer s H E).ex := fun b z => absurd (show b ∈ ([] : List Addr) from z) (by simp)
  refine ⟨⟨e0.mod, S.kind, rfl, rfl, Nat.le_refl _, fun y z c h1 h2 => ?_, fun y hy => ?_, fun y c _ h => ?_, fun _ => hd, Around.frames_deeper e0.frames, .inr ⟨rfl, rfl⟩, fun b z => absurd z (noA b), e0.bs, e0.bsz, fun b _ _ => noA b, fun b z => absurd z (noA b), e0.funs, e0.frf⟩,
    rfl, e0.bare, Un.kept hk, ⟨_, x.toInCall.ns, fun i y v h1 h2 h3 => ?_⟩, fun y c h => ⟨_, x.cell y c h⟩, e0.hok.fresh (Nat.le_refl _), fun y c h => ?_, fun p hp => absurd (show p ∈ ([] : List (Addr × Obj)) from hp) (by simp), e0.hok.kept hk, ?_⟩
  · exact name_of_addr x.apart (PySem.mem_of_lookup h1) (PySem.mem_of_lookup h2)
  · have hy : scope.names.lookup y = some .cell ∨ scope.names.lookup y = some .free := hy
    rcases hy with hy | hy
    · exact cell_has hy
    · exact absurd rfl (S.nofree _ (PySem.mem_of_lookup hy))
  · exact Nat.le_of_lt (x.above y c (PySem.mem_of_lookup h))
  · have hi : i < vs.length := by
      unfold start at h2
      by_cases hi : i < vs.length
      · exact hi
      · rw [List.getElem?_append_right (by simpa using hi)] at h2
        rw [List.getElem?_replicate] at h2
        split at h2 <;> cases h2
    have ha : vs[i]? = some v := by
      unfold start at h2
      rw [List.getElem?_append_left (by simpa using hi), List.getElem?_map] at h2
      cases e : vs[i]? with
      | none => rw [e] at h2; cases h2
      | some a => rw [e] at h2; cases h2; rfl
    obtain ⟨u, hu, rv⟩ := r.get ha
    have hp : ps[i]? = some y := by
      rw [← S.pre, List.getElem?_take_of_lt (by omega)]; exact h1
    have ndP : ps.Nodup := by rw [← S.pre]; exact S.nd.sublist (List.take_sublist _ _)
    refine ⟨u, rv, ?_⟩
    rcases S.par y (List.mem_of_getElem? hp) with k | k
    · exact .inl ⟨k, bindL_get ndP hp hu k⟩
    · obtain ⟨c, e⟩ := cell_has (n := s.heap.objs.size + 1) k
      refine .inr ⟨.inl k, c, e, ?_⟩
      have q := x.cell y c e
      rw [bindC_get ndP hp hu (by show scope.names.lookup y ≠ _; rw [k]; decide)] at q
      exact q
  · exact e0.hok.fresh (Nat.le_of_lt (x.above y c (PySem.mem_of_lookup h)))
  · unfold start
    show _ = N.length
    rw [List.length_append, List.length_map, List.length_replicate]
    omega

/-- THE RULE: a def (or a method) of the text, by its body. The body's reading t is chosen for each entry; it is run at the parameters' values -/
theorem fn_of {CX : CXT} {P : Program} {w : World} {K : PySem.W.Frag} {mg : Str → Option Value} {base : Heap} {k : Nat} {f : Addr} {name qual : Str} {params : Arguments} {body : List Stmt} {scope : Scope} {dV kV doc pm cdv ct oc : Value} {an od : Option Addr}
    {osl : Array (Option Value)} {N ps : List Str} {sp : Sp} (lk : K.lookup f = some ⟨oc, od, .func (PySem.W.fnOf name qual params body scope dV kV doc pm an cdv ct), osl⟩) (hcd : PySem.W.codeIn K cdv qual = true) (S : FnScope N ps scope)
    (len : ∀ vs H Q E, sp vs H Q E → vs.length = ps.length)
    (hbody : ∀ (A : Around) (outer : List Env) (s : Shared) (H : Hp) (vs : List V) (Q : VK) (E : XK), Room k (A.deeper (envOfC qual scope s.heap.objs.size f cdv)) → sp vs H Q E →
      ∃ t, PSs (cxOf CX P w K mg base N qual scope f cdv A outer s H E) body t ∧ t { nx := fun _ H' => Q .non H', rt := Q } (start N vs) H) :
    FnOk P w K mg base CX (k + 1) f (PySem.W.fnOf name qual params body scope dV kV doc pm an cdv ct) ps sp := by
  refine ⟨len, fun A outer s H args us vs Q E hr e0 hb r hsp => ?_⟩
  have hl := len _ _ _ _ hsp
  have KX : K.In s.heap := e0.mod.kin.keeps fun b o e => (e0.bs b o e).1
  have lim : s.heap.NoLimit := e0.mod.nolimit.keeps fun b o e => (e0.bs b o e).1
  have hkind : ∀ y ∈ ps.zip us, scope.names.lookup y.1 = some .local ∨ (scope.names.lookup y.1 = some .cell ∧ ((cellsFrom (s.heap.objs.size + 1) scope.names []).lookup y.1).isSome = true) := fun ⟨n, v⟩ hy => by
    rcases S.par n (List.of_mem_zip hy).1 with q | q
    · exact .inl q
    · exact .inr ⟨q, PySem.W.cellsFrom_some _ _ _ (.inl q)⟩
  refine codeAny_call_function hr.depth (KX _ _ lk) rfl S.co S.gen rfl (PySem.W.codeRec_of KX hcd) (hb _ _ _ _ ?_)
  refine wpAny_newFunctionEnv_cells S.kind hkind fun env he s1 x => ?_
  subst he
  refine ⟨lim.keeps x.toInCall.keep, codeAny_func ?_⟩
  obtain ⟨t, ht, hq⟩ := hbody A outer s H vs Q E (hr.deeper _) hsp
  have I : Inv (cxOf CX P w K mg base N qual scope f cdv A outer s H E) [] (start N vs) H s1 := inv_start S hr.hd e0 hl r x
  refine wpAny_mono (ht [] s1 (start N vs) H _ I hq) (fun fl s' hs => ?_) fun e s' hs => hs
  have fin : ∀ {σ' : St} {H' : Hp} {v : V} {u : Value}, Inv (cxOf CX P w K mg base N qual scope f cdv A outer s H E) [] σ' H' s' → RelV v u → Q v H' → CE outer P w H s Q u s' :=
    fun {σ' H' v u} J rv q => ⟨v, H', J.os, J.bare, J.base, J.hok, rv, q⟩
  cases fl with
  | ret u =>
    obtain ⟨v, σ', H', J, rv, q⟩ := hs
    exact fin J rv q
  | next =>
    obtain ⟨σ', H', J, q⟩ := hs
    exact fin (v := V.non) (u := Value.none) J rfl q
  | brk =>
    obtain ⟨_, _, _, q⟩ := hs
    exact False.elim q
  | cont =>
    obtain ⟨_, _, _, q⟩ := hs
    exact False.elim q
end L2

namespace L2
open PySem PySem.Spec PyProof.Rows
section
variable {X : Cx} {x : Str} {p pos : Pos} {e : Expr} {es : List Expr} {t : TA} {id T : String} {r : List V → Hp → VK → Prop}

def tCB (r : List V → Hp → VK → Prop) (t : TA) : TE := fun σ H Q => t σ H fun vs H1 => r vs H1 Q
/-- f(e, ..), f a built-in function -/
theorem pe_callB (hc : CallR X (.builtin id) r) (hg : Gl X x) (hm : X.mg x = none) (hv : bootBuiltins x = some (.builtin id)) (ha : PA X (e :: es) t) (hn : x ≠ "__name__" := by decide) (hdb : (x == ("__debug__" : Str)) = false := by decide)
    (he : starEach (e :: es) X.env = (false, eval e X.env) :: starEach es X.env := by rfl) (hpl : (backTo pos (starEach es X.env)).any (·.1) = false := by rfl) : PE X (.Call (.Name x p) (e :: es) [] pos) (tCB r t) := by
  intro pins s σ H Q I h
  refine wpAny_Call_Name_kw (ld_blt I hg hm hv ?_ hn hdb)
  exact PyProof.Rows.callWith_builtin1 (thn (ha pos pins s σ H _ I h) fun us s1 ⟨vs, H1, I1, r1, q1⟩ => hc pins s1 σ H1 vs us Q I1 r1 q1) he hpl
/-- T(e, ..), T a built-in type -/
theorem pe_callTy (hc : CallR X (.type T) r) (hg : Gl X x) (hm : X.mg x = none) (hv : bootBuiltins x = some (.type T)) (ha : PA X (e :: es) t) (hn : x ≠ "__name__" := by decide) (hdb : (x == ("__debug__" : Str)) = false := by decide)
    (he : starEach (e :: es) X.env = (false, eval e X.env) :: starEach es X.env := by rfl) (hpl : (backTo pos (starEach es X.env)).any (·.1) = false := by rfl) : PE X (.Call (.Name x p) (e :: es) [] pos) (tCB r t) := by
  intro pins s σ H Q I h
  refine wpAny_Call_Name_kw (ld_blt I hg hm hv ?_ hn hdb)
  exact PyProof.Rows.callWith_type1 (thn (ha pos pins s σ H _ I h) fun us s1 ⟨vs, H1, I1, r1, q1⟩ => hc pins s1 σ H1 vs us Q I1 r1 q1) he hpl
end
end L2

namespace HT
open PySem PyProof.Rows

/-- t < u of tuples of ints -/
def lexLt : List Int → List Int → Bool
  | [], [] => false
  | [], _ :: _ => true
  | _ :: _, [] => false
  | x :: xs, y :: ys => if x = y then lexLt xs ys else decide (x < y)
section
open PySem.SeqAt
open PySem.AutoSeq1 (wpAny_loadPart')
open PySem.MeetsSeq PySem.MeetsSeq2 PySem.MeetsSeq3

end

section
variable {prog : Program} {w : World} {A : Around} {E : Value → Shared → Prop} {s : Shared}

/-! ### t[a:b], not the whole -/
/-- a slice's bound as a place among n (d where it is left out) -/
def sIx (n d : Nat) : Option Int → Nat
  | none => d
  | some v => if v < 0 then (v + (n : Int)).toNat else min v.toNat n
end
end HT

namespace L2
open PySem PySem.Spec PyProof.Rows

/-! ### the parts of a slice -/
abbrev TO := St → Hp → (Option Int → Hp → Prop) → Prop
/-- a slice's part (left out, or an int) -/
def PO (X : Cx) (e : Option Expr) (t : TO) : Prop :=
  ∀ (pins : List (Addr × Obj)) (s : Shared) (σ : St) (H : Hp) (Q : Option Int → Hp → Prop), Inv X pins σ H s → t σ H Q →
    wpAny (model X.prog X.w) X.A (evalPart e X.env) (fun u s' => ∃ o H', Inv X pins σ H' s' ∧ IsPart u o ∧ Q o H') X.xe s
def tNoPart : TO := fun _ H Q => Q none H
def tPart (t : TE) : TO := fun σ H Q => t σ H fun x H1 => ∃ i, x = .int i ∧ Q (some i) H1

section
variable {X : Cx} {e : Expr} {te : TE} {lo hi : Option Expr} {tl th : TO} {pos p2 : Pos}

theorem po_none : PO X none tNoPart := by
  intro pins s σ H Q I h
  rw [evalPart_none]
  exact wpAny_pure ⟨none, H, I, .none, h⟩
theorem po_some (h : PE X e te) : PO X (some e) (tPart te) := by
  intro pins s σ H Q I hw
  rw [evalPart_some]
  refine thn (h pins s σ H _ I hw) fun u s1 ⟨x, H1, I1, r1, q1⟩ => ?_
  obtain ⟨i, rfl, q⟩ := q1
  obtain ⟨t, rfl⟩ := r1
  exact ⟨some i, H1, I1, .int i t, q⟩

/-- what a slice of a value is, by values: the slice object stands at sl -/
def SlR (X : Cx) (r : V → Option Int → Option Int → Hp → VK → Prop) : Prop :=
  ∀ (pins : List (Addr × Obj)) (s : Shared) (σ : St) (H : Hp) (x : V) (v vl vu : Value) (lo hi : Option Int) (sl : Addr) (Q : VK), Inv X pins σ H s → RelV x v → s.heap.IsSliceOf sl vl vu .none → IsPart vl lo → IsPart vu hi → r x lo hi H Q →
    ∃ T id, typeLookup (.type T) "__getitem__" = pure (some (.builtin id)) ∧ s.TypeIs v T ∧ wpAny (model X.prog X.w) X.A (getItem v (.ref sl)) (EP X pins σ Q) X.xe s
def tSl (r : V → Option Int → Option Int → Hp → VK → Prop) (te : TE) (tl th : TO) : TE := fun σ H Q => te σ H fun x H1 => tl σ H1 fun l H2 => th σ H2 fun u H3 => r x l u H3 Q
/-- a[lo:hi], any a -/
theorem pe_slice {r : V → Option Int → Option Int → Hp → VK → Prop} (hr : SlR X r) (he : PE X e te) (hl : PO X lo tl) (hu : PO X hi th) : PE X (.Subscript e (.Slice lo hi none p2) pos) (tSl r te tl th) := by
  intro pins s σ H Q I h
  refine Subscript_ (thn (he pins s σ H _ I h) fun v s1 ⟨x, H1, I1, r1, q1⟩ => ?_)
  refine wpAny_Slice (thn (hl pins s1 σ H1 _ I1 q1) fun vl s2 ⟨l, H2, I2, pl, q2⟩ => thn (hu pins s2 σ H2 _ I2 q2) fun vu s3 ⟨u, H3, I3, pu, q3⟩ => ?_)
  rw [evalPart_none]
  refine wpAny_pure ?_
  have I4 : Inv X pins σ H3 { s3 with heap := s3.heap.push { cls := .type "slice", data := .fields #[vl, vu, .none] } } := I3.kept (t' := s3.toks) fun b ob q => Heap.get?_push_of_some _ q
  obtain ⟨T, id, hT, ht, hg⟩ := hr pins { s3 with heap := s3.heap.push { cls := .type "slice", data := .fields #[vl, vu, .none] } } σ H3 x v vl vu l u s3.heap.objs.size Q I4 r1 (Heap.IsSliceOf.new ..) pl pu q3
  show wpAny (model X.prog X.w) X.A (subscriptTail e (.Slice lo hi none p2) v (.ref s3.heap.objs.size)) (EP X pins σ Q) X.xe { s3 with heap := s3.heap.push { cls := .type "slice", data := .fields #[vl, vu, .none] } }
  exact tail_any (ops := [.ref s3.heap.objs.size, v]) ht hT hg (by with_unfolding_all rfl)

/-- the items of xs[lo:hi] -/
def cutV (xs : List V) (lo hi : Option Int) : List V := (xs.drop (HT.sIx xs.length 0 lo)).take (HT.sIx xs.length xs.length hi - HT.sIx xs.length 0 lo)
theorem cutV_length (xs : List V) (lo hi : Option Int) : (cutV xs lo hi).length ≤ xs.length := by
  unfold cutV
  rw [List.length_take, List.length_drop]
  omega
/-! ### t < u, t + u -/
/-- t + u, t not empty: u empty gives t itself -/
def rCatT (K : PySem.W.Frag) : R2 := fun x y H Q => ∃ a b xs ys, x = .ref a ∧ y = .ref b ∧ SqT K H a xs ∧ SqT K H b ys ∧ xs ≠ [] ∧ xs.length + ys.length ≤ sizeLine ∧
  (ys = [] → Q (.ref a) H) ∧ (ys ≠ [] → ∀ p, H p = none → Q (.ref p) (upd H p (.tup (xs ++ ys))))
end
end L2

namespace L2
open PySem PySem.Spec PyProof.Rows

/-! ### places -/
/-- the place that an index of any sign means -/
def ixN (n : Nat) (i : Int) : Option Nat := if 0 ≤ i then (if i < n then some i.toNat else none) else if -(n : Int) ≤ i then some (i + n).toNat else none
def atI {α : Type} (xs : List α) (i : Int) : Option α := (ixN xs.length i).bind fun j => xs[j]?
theorem ixN_seq {n : Nat} {i : Int} {j : Nat} (h : ixN n i = some j) : seqIndex? i n = some j ∧ j < n ∧ -(n : Int) ≤ i ∧ i < n := by
  unfold ixN at h
  by_cases h0 : 0 ≤ i
  · rw [if_pos h0] at h
    by_cases h1 : i < n
    · rw [if_pos h1] at h
      have e : i.toNat = j := Option.some.inj h
      exact ⟨by rw [seqIndex_of h0 h1, e], by omega, by omega, h1⟩
    · rw [if_neg h1] at h; cases h
  · rw [if_neg h0] at h
    by_cases h1 : -(n : Int) ≤ i
    · rw [if_pos h1] at h
      have e : (i + n).toNat = j := Option.some.inj h
      exact ⟨by rw [seqIndex_neg (by omega) h1, e], by omega, h1, by omega⟩
    · rw [if_neg h1] at h; cases h
theorem atI_get {α : Type} {xs : List α} {i : Int} {v : α} (h : atI xs i = some v) : ∃ j, seqIndex? i xs.length = some j ∧ xs[j]? = some v ∧ j < xs.length ∧ -(xs.length : Int) ≤ i ∧ i < xs.length := by
  unfold atI at h
  cases e : ixN xs.length i with
  | none => rw [e] at h; cases h
  | some j =>
    rw [e] at h
    obtain ⟨h1, h2, h3, h4⟩ := ixN_seq e
    exact ⟨j, h1, h, h2, h3, h4⟩
theorem atI_nat {α : Type} {xs : List α} {j : Nat} {v : α} (h : xs[j]? = some v) : atI xs (j : Int) = some v := by
  have hj : j < xs.length := (List.getElem?_eq_some_iff.mp h).1
  have e : ixN xs.length (j : Int) = some j := by
    unfold ixN
    rw [if_pos (by omega), if_pos (by omega)]; simp
  unfold atI; rw [e]; exact h
/-! ### what may be subscripted -/
/-- what stands as an index of a plain subscript -/
def PlainIx (b : Expr) : Prop := ∀ o i, subscripted b false o i = operate [o, i] (getItem o i)
/-- a subscript by values -/
def IxR (X : Cx) (r : R2) : Prop :=
  ∀ (value slice : Expr) (pins : List (Addr × Obj)) (s : Shared) (σ : St) (H : Hp) (x y : V) (v u : Value) (Q : VK), Inv X pins σ H s → RelV x v → RelV y u → r x y H Q →
    subscripted slice false v u = operate [v, u] (getItem v u) → wpAny (model X.prog X.w) X.A (subscriptTail value slice v u) (EP X pins σ Q) X.xe s
/-- a call of a builtin's method by values: the receiver, the arguments -/
def MtR (X : Cx) (id : String) (r : V → List V → Hp → VK → Prop) : Prop :=
  ∀ (pins : List (Addr × Obj)) (s : Shared) (σ : St) (H : Hp) (x : V) (xs : List V) (v : Value) (us : List Value) (Q : VK), Inv X pins σ H s → RelV x v → Vals xs us → r x xs H Q →
    wpAny (model X.prog X.w) X.A (call (.builtin id) (v :: us)) (EP X pins σ Q) X.xe s
section
variable {X : Cx} {a b : Expr} {ta tb : TE} {pos : Pos}
/-- a[b] -/
theorem pe_ix {r : R2} (hr : IxR X r) (ha : PE X a ta) (hb : PE X b tb) (hs : PlainIx b) : PE X (.Subscript a b pos) (tOp r ta tb) := by
  intro pins s σ H Q I h
  exact Subscript_ (binT ha hb I h fun v u s2 x y H2 I2 rx ry q => hr a b pins s2 σ H2 x y v u Q I2 rx ry q (hs _ _))

def rIxL (K : PySem.W.Frag) : R2 := fun x y H Q => ∃ p xs i v, x = .ref p ∧ y = .int i ∧ SqL K H p xs ∧ atI xs i = some v ∧ Q v H
def rIxT (K : PySem.W.Frag) : R2 := fun x y H Q => ∃ p xs i v, x = .ref p ∧ y = .int i ∧ SqT K H p xs ∧ atI xs i = some v ∧ Q v H
def rIxS : R2 := fun x y H Q => ∃ z i c, x = .str z ∧ y = .int i ∧ z.length ≤ sizeLine ∧ atI z.cps.toList i = some c ∧ Q (.str ⟨#[c]⟩) H
theorem ix_list : IxR X (rIxL X.K) := by
  intro value slice pins s σ H x y v u Q I rx ry h hs
  obtain ⟨p, xs, i, z, rfl, rfl, hq, he, q⟩ := h
  cases rx
  obtain ⟨t, rfl⟩ := ry
  obtain ⟨its, r, pl, hz⟩ := I.list hq
  obtain ⟨j, h1, h2, h3, h4, h5⟩ := atI_get he
  obtain ⟨w, ew, rw'⟩ := r.get h2
  have hl := r.length
  have hn := line63
  have fin : EP X pins σ Q w s := ⟨z, H, I, rw', q⟩
  by_cases h0 : 0 ≤ i
  · have hj : i.toNat = j := by
      rw [seqIndex_of h0 h5] at h1
      exact Option.some.inj h1
    exact item_listR pl.isList h0 (by omega) (by rw [hj]; simpa using ew) fin hs
  · have hj : (i + (its.toArray.size : Int)).toNat = j := by
      rw [seqIndex_neg (by omega) h4] at h1
      rw [List.size_toArray, ← hl]
      exact Option.some.inj h1
    exact subscriptTail_builtinR (x := w) pl.isList.typeIs slot_list_getitem.lookup
      (wpAny_getItem_list_neg (Q := fun r s' => r = w ∧ EP X pins σ Q r s') pl.isList (by omega) (by rw [List.size_toArray] <;> omega) (by omega) (by rw [hj]; simpa using ew) ⟨rfl, fin⟩) hs
theorem ix_tup : IxR X (rIxT X.K) := by
  intro value slice pins s σ H x y v u Q I rx ry h hs
  obtain ⟨p, xs, i, z, rfl, rfl, hq, he, q⟩ := h
  cases rx
  obtain ⟨t, rfl⟩ := ry
  obtain ⟨its, r, pl, hz⟩ := I.tuple hq
  obtain ⟨j, h1, h2, h3, h4, h5⟩ := atI_get he
  obtain ⟨w, ew, rw'⟩ := r.get h2
  have hl := r.length
  have hn := line63
  have fin : EP X pins σ Q w s := ⟨z, H, I, rw', q⟩
  exact subscriptTail_builtinR (x := w) pl.typeIs slot_tuple_getitem.lookup
    (getItem_tuple (j := j) (Q := fun r s' => r = w ∧ EP X pins σ Q r s') pl (by omega) (by omega) (by rw [List.size_toArray, ← hl]; exact h1) (by simpa using ew) ⟨rfl, fin⟩) hs
theorem ix_str : IxR X rIxS := by
  intro value slice pins s σ H x y v u Q I rx ry h hs
  obtain ⟨z, i, c, rfl, rfl, hz, he, q⟩ := h
  obtain ⟨t, rfl⟩ := rx
  obtain ⟨t', rfl⟩ := ry
  obtain ⟨j, h1, h2, h3, h4, h5⟩ := atI_get he
  have hl : z.cps.toList.length = z.length := by simp [Str.length]
  rw [hl] at h1 h4 h5
  have hn := line63
  exact tail_any (typeIs_str s z t) slot_str_getitem.lookup (getItem_str (c := c) (by
    have e1 : decide (i < -(2 ^ 63 : Int)) = false := decide_eq_false (by omega)
    have e2 : decide (i ≥ 2 ^ 63) = false := decide_eq_false (by omega)
    rw [e1, e2, Bool.or_false]) (by rw [h1]; simpa using h2) ⟨.str ⟨#[c]⟩, H, I.tok _, ⟨_, rfl⟩, q⟩) hs
/-! ### xs[i] = v, any sign -/
/-! ### slices -/
theorem slice_bounds (lo hi : Option Int) (n : Nat) : (sliceBounds lo hi none n).1 = ((HT.sIx n 0 lo : Nat) : Int) ∧ (sliceBounds lo hi none n).2.1 = ((HT.sIx n n hi : Nat) : Int) ∧ (sliceBounds lo hi none n).2.2 = 1 := by
  refine ⟨?_, ?_, rfl⟩
  · cases lo with
    | none => simp [sliceBounds, HT.sIx]
    | some i =>
      simp only [sliceBounds, HT.sIx, Option.getD_none, show (1 : Int) > 0 by decide, if_true]
      by_cases h : i < 0
      · simp only [h, if_true] <;> omega
      · simp only [h, if_false] <;> omega
  · cases hi with
    | none => simp [sliceBounds, HT.sIx]
    | some i =>
      simp only [sliceBounds, HT.sIx, Option.getD_none, show (1 : Int) > 0 by decide, if_true]
      by_cases h : i < 0
      · simp only [h, if_true] <;> omega
      · simp only [h, if_false] <;> omega
theorem slicePick_cut (its : List Value) (lo hi : Option Int) : slicePick its.toArray lo hi none = ((its.drop (HT.sIx its.length 0 lo)).take (HT.sIx its.length its.length hi - HT.sIx its.length 0 lo)).toArray := by
  obtain ⟨h1, h2, h3⟩ := slice_bounds lo hi its.toArray.size
  unfold slicePick
  rw [h1, h2, h3]
  simp only [sliceRange_one, pick_run, List.size_toArray] <;> rfl
/-- xs[lo:hi] of a list: a new list -/
def rSlL (K : PySem.W.Frag) : V → Option Int → Option Int → Hp → VK → Prop := fun x lo hi H Q => ∃ a xs, x = .ref a ∧ SqL K H a xs ∧ ∀ p, H p = none → Q (.ref p) (upd H p (.lst (cutV xs lo hi)))
theorem sl_list : SlR X (rSlL X.K) := by
  intro pins s σ H x v vl vu lo hi sl Q I rx hs pl pu h
  obtain ⟨a, xs, rfl, hx, q⟩ := h
  cases rx
  obtain ⟨its, r, ht, hz⟩ := I.list hx
  have hlen := r.length
  refine ⟨"list", _, slot_list_getitem.lookup, ht.isList.typeIs, ?_⟩
  refine wpAny_getItem_list_slice ht.isList hs pl pu .none (by simp) ?_ (by rw [List.size_toArray] <;> omega)
  rw [slicePick_cut, ← hlen]
  refine ⟨.ref s.heap.objs.size, _, I.laid (t' := s.toks) (o := .lst (cutV xs lo hi)) (fun b ob q => Heap.get?_push_of_some _ q) (Nat.le_refl _) ?_, rfl, q _ (I.hok.fresh (Nat.le_refl _))⟩
  exact ⟨Nat.le_trans (cutV_length xs lo hi) hz, _, 0, (r.drop (HT.sIx xs.length 0 lo)).take (HT.sIx xs.length xs.length hi - HT.sIx xs.length 0 lo), Heap.get?_push_size _ rfl⟩

/-! ### in, not in: flat items -/
def flatV : V → Bool
  | .non => true
  | .bl _ => true
  | .int _ => true
  | .str _ => true
  | _ => false
/-- == of flat values -/
def eqV : V → V → Bool
  | .non, .non => true
  | .bl a, .bl b => a == b
  | .bl a, .int b => (if a then 1 else 0) == b
  | .int a, .bl b => a == (if b then 1 else 0)
  | .int a, .int b => a == b
  | .str a, .str b => a == b
  | _, _ => false
theorem eqAt_V {A : Around} {s : Shared} {y x : V} {u v : Value} (ry : RelV y u) (rx : RelV x v) (fy : flatV y = true) (fx : flatV x = true) : SeqAt.EqAt A s u v (eqV y x) := by
  cases y with
  | non =>
    cases ry
    cases x with
    | non => cases rx; exact SeqAt.EqAt.same _
    | bl b => cases rx; exact SeqAt.EqAt.none_bool b
    | int b => obtain ⟨t, rfl⟩ := rx; exact SeqAt.EqAt.none_int b t
    | str b => obtain ⟨t, rfl⟩ := rx; exact SeqAt.EqAt.none_str b t
    | _ => exact absurd (show false = true from fx) Bool.false_ne_true
  | bl a =>
    cases ry
    cases x with
    | non => cases rx; exact SeqAt.EqAt.bool_none a
    | bl b => cases rx; exact SeqAt.EqAt.bool_bool a b
    | int b => obtain ⟨t, rfl⟩ := rx; exact SeqAt.EqAt.bool_int a b t
    | str b => obtain ⟨t, rfl⟩ := rx; exact SeqAt.EqAt.bool_str a b t
    | _ => exact absurd (show false = true from fx) Bool.false_ne_true
  | int a =>
    obtain ⟨t', rfl⟩ := ry
    cases x with
    | non => cases rx; exact SeqAt.EqAt.int_none a t'
    | bl b => cases rx; exact SeqAt.EqAt.int_bool a t' b
    | int b => obtain ⟨t, rfl⟩ := rx; exact SeqAt.EqAt.int_int a t' b t
    | str b => obtain ⟨t, rfl⟩ := rx; exact SeqAt.EqAt.int_str a t' b t
    | _ => exact absurd (show false = true from fx) Bool.false_ne_true
  | str a =>
    obtain ⟨t', rfl⟩ := ry
    cases x with
    | non => cases rx; exact SeqAt.EqAt.str_none a t'
    | bl b => cases rx; exact SeqAt.EqAt.str_bool a t' b
    | int b => obtain ⟨t, rfl⟩ := rx; exact SeqAt.EqAt.str_int a t' b t
    | str b => obtain ⟨t, rfl⟩ := rx; exact SeqAt.EqAt.str_str a t' b t
    | _ => exact absurd (show false = true from fx) Bool.false_ne_true
  | _ => exact absurd (show false = true from fy) Bool.false_ne_true
/-- the items' answers, read off the values (a value's own answer does not lean on its token) -/
def eqU (x : V) (u : Value) : Bool := match u with
  | .none => eqV .non x
  | .bool b => eqV (.bl b) x
  | .int i _ => eqV (.int i) x
  | .str z _ => eqV (.str z) x
  | _ => false
theorem eqU_of {x y : V} {u : Value} (r : RelV y u) (f : flatV y = true) : eqU x u = eqV y x := by
  cases y with
  | non => cases r; rfl
  | bl b => cases r; rfl
  | int i => obtain ⟨t, rfl⟩ := r; rfl
  | str z => obtain ⟨t, rfl⟩ := r; rfl
  | _ => exact absurd (show false = true from f) Bool.false_ne_true
theorem any_eqU {x : V} : ∀ {xs : List V} {us : List Value}, Vals xs us → xs.all flatV = true → us.any (eqU x) = xs.any fun y => eqV y x
  | _, _, .nil, _ => rfl
  | y :: xs, u :: us, .cons r t, f => by
    rw [List.all_cons, Bool.and_eq_true] at f
    rw [List.any_cons, List.any_cons, eqU_of r f.1, any_eqU t f.2]
theorem mem_eqAt {A : Around} {s : Shared} {x : V} {v : Value} (rx : RelV x v) (fx : flatV x = true) : ∀ {xs : List V} {us : List Value}, Vals xs us → xs.all flatV = true → ∀ u ∈ us, SeqAt.EqAt A s u v (eqU x u)
  | _, _, .nil, _ => fun u hu => by cases hu
  | y :: xs, u :: us, .cons r t, f => fun u' hu => by
    rw [List.all_cons, Bool.and_eq_true] at f
    rcases List.mem_cons.mp hu with rfl | hu
    · rw [eqU_of r f.1]; exact eqAt_V r rx f.1 fx
    · exact mem_eqAt rx fx t f.2 u' hu
def inV (x : V) (xs : List V) : Bool := xs.any fun y => eqV y x
/-- x in a list or tuple of flat items -/
def rIn (K : PySem.W.Frag) (neg : Bool) : R2 := fun x y H Q => ∃ p xs, y = .ref p ∧ (SqL K H p xs ∨ SqT K H p xs) ∧ flatV x = true ∧ xs.all flatV = true ∧ Q (.bl (if neg then !inV x xs else inV x xs)) H
theorem op_in_seq : OpR X (compareOp .In) (rIn X.K false) := by
  intro pins s σ H x y v u Q I rx ry h
  obtain ⟨p, xs, rfl, hq, fx, fs, q⟩ := h
  cases ry
  rcases hq with hq | hq
  · obtain ⟨its, r, pl, hz⟩ := I.list hq
    refine SeqAt.in_listAt (eqU x) pl.isList (fun w hw => mem_eqAt rx fx r fs w (by simpa using hw)) ⟨.bl _, H, I, rfl, ?_⟩
    rw [show its.toArray.any (eqU x) = its.any (eqU x) by simp, any_eqU r fs]
    exact q
  · obtain ⟨its, r, pl, hz⟩ := I.tuple hq
    refine SeqAt.in_tupleAt (eqU x) pl (fun w hw => mem_eqAt rx fx r fs w (by simpa using hw)) ⟨.bl _, H, I, rfl, ?_⟩
    rw [show its.toArray.any (eqU x) = its.any (eqU x) by simp, any_eqU r fs]
    exact q
/-! ### len, list(x), tuple(x) of any list or tuple that is read -/
theorem call_list_of : CallR X (.type "list") (fun xs H Q => ∃ p ys, xs = [.ref p] ∧ (SqL X.K H p ys ∨ SqT X.K H p ys) ∧ ∀ l, H l = none → Q (.ref l) (upd H l (.lst ys))) := by
  intro pins s σ H xs us Q I r h
  obtain ⟨p, ys, rfl, hq, q⟩ := h
  obtain ⟨u, rfl, rx⟩ := vals1 r
  cases rx
  have fin : ∀ (its : List Value), Vals ys its → ys.length ≤ sizeLine → ∀ (h' : Heap) (c' : Nat), (∀ b o', s.heap.get? b = some o' → h'.get? b = some o') →
      h'.get? s.heap.objs.size = some { cls := .type "list", dict := none, data := .seq its.toArray c', slots := #[] } → EP X pins σ Q (.ref s.heap.objs.size) { s with heap := h' } := fun its r' hz h' c' kp e =>
    ⟨.ref s.heap.objs.size, _, I.laid (t' := s.toks) kp (Nat.le_refl _) (show ObjOk X.prog X.w _ h' _ (.lst ys) from ⟨hz, its, c', r', e⟩), rfl, q _ (I.hok.fresh (Nat.le_refl _))⟩
  rcases hq with hq | hq
  · obtain ⟨its, r', pl, hz⟩ := I.list hq
    have hlen := r'.length
    obtain ⟨o, ho, hc, n, hd⟩ := pl.isList
    exact call_list_seq p (.inl rfl) ho hc hd (fun h' c' kp e => fin its r' hz h' c' kp e) (by simp only [List.size_toArray] <;> omega)
  · obtain ⟨its, r', pl, hz⟩ := I.tuple hq
    have hlen := r'.length
    obtain ⟨o, ho, hc, n, hd⟩ := pl
    exact call_list_seq p (.inr rfl) ho hc hd (fun h' c' kp e => fin its r' hz h' c' kp e) (by simp only [List.size_toArray] <;> omega)
/-! ### the call of a builtin's method: o.m(..) -/
/-- the value is of that builtin type -/
def tyV (K : PySem.W.Frag) (T : String) (x : V) (H : Hp) : Prop := match x with
  | .str _ => T = "str"
  | .int _ => T = "int"
  | .ref p => (T = "list" ∧ ∃ xs, SqL K H p xs) ∨ (T = "tuple" ∧ ∃ o, K.lookup p = some o ∧ o.cls = .type "tuple" ∧ o.dict = none) ∨
      (T = "dict" ∧ ((∃ kvs, H p = some (.dK kvs)) ∨ ∃ kvs, H p = some (.dT kvs))) ∨ (T = "set" ∧ ∃ S n, H p = some (.set S n))
  | _ => False
theorem tyV_is {pins : List (Addr × Obj)} {σ : St} {H : Hp} {s : Shared} {T : String} {x : V} {v : Value} (I : Inv X pins σ H s) (r : RelV x v) (ty : tyV X.K T x H) :
    s.TypeIs v T ∧ ∀ a, v = .ref a → ∃ ob, s.heap.get? a = some ob ∧ ob.dict = none := by
  cases x with
  | str z =>
    obtain ⟨t, rfl⟩ := r
    cases (show T = "str" from ty)
    exact ⟨typeIs_str s z t, fun _ e => nomatch e⟩
  | int i =>
    obtain ⟨t, rfl⟩ := r
    cases (show T = "int" from ty)
    exact ⟨typeIs_int s i t, fun _ e => nomatch e⟩
  | ref p =>
    cases r
    rcases ty with ⟨rfl, xs, hq⟩ | ⟨rfl, o, hk, hc, hd⟩ | ⟨rfl, hk⟩ | ⟨rfl, S, n, hk⟩
    · obtain ⟨its, _, pl, _⟩ := I.list hq
      refine ⟨pl.isList.typeIs, fun a e => ?_⟩
      cases e
      obtain ⟨o, n, e, c, hd, _⟩ := pl
      exact ⟨o, e, hd⟩
    · refine ⟨⟨o, I.kIn p o hk, hc⟩, fun a e => ?_⟩
      cases e
      exact ⟨o, I.kIn _ o hk, hd⟩
    · have z : ∃ o, s.heap.get? p = some o ∧ o.ExactDict := by
        rcases hk with ⟨kvs, hk⟩ | ⟨kvs, hk⟩
        · obtain ⟨_, _, _, _, o, _, _, e, ex, _⟩ := I.hok p _ hk
          exact ⟨o, e, ex⟩
        · obtain ⟨_, _, _, _, o, _, _, e, ex, _⟩ := I.hok p _ hk
          exact ⟨o, e, ex⟩
      obtain ⟨o, e, ex⟩ := z
      refine ⟨⟨o, e, ex.1⟩, fun a e2 => ?_⟩
      cases e2
      exact ⟨o, e, ex.2.1⟩
    · obtain ⟨o, _, _, _, e, ex, _⟩ := I.hok p _ hk
      refine ⟨⟨o, e, ex.1⟩, fun a e2 => ?_⟩
      cases e2
      exact ⟨o, e, ex.2.1⟩
  | _ => exact False.elim ty
def tBM0 (K : PySem.W.Frag) (T : String) (r : V → List V → Hp → VK → Prop) (to : TE) : TE := fun σ H Q => to σ H fun x H1 => tyV K T x H1 ∧ r x [] H1 Q
def tBM (K : PySem.W.Frag) (T : String) (r : V → List V → Hp → VK → Prop) (to : TE) (t : TA) : TE := fun σ H Q => to σ H fun x H1 => tyV K T x H1 ∧ t σ H1 fun xs H2 => r x xs H2 Q
variable {o e : Expr} {es : List Expr} {to : TE} {t : TA} {name : Str} {apos cpos : Pos} {T id : String} {r : V → List V → Hp → VK → Prop}
theorem pe_bm0 (pa : PlainAttrs T) (slot : Slot T name id) (hty : typeOf (.builtin id) = pure (.type "method_descriptor")) (hm : MtR X id r) (ho : PE X o to)
    (hbase : attributeBase o name X.env (eval o X.env) = eval o X.env := by rfl) (hline : (apos.endLine == cpos.line) = true := by rfl) : PE X (.Call (.Attribute o name apos) [] [] cpos) (tBM0 X.K T r to) := by
  intro pins s σ H Q I h
  refine wpAny_Call_method0_late hbase hline (thn (ho pins s σ H _ I h) fun v s1 ⟨x, H1, I1, r1, ty, q1⟩ => ?_)
  obtain ⟨h1, h2⟩ := tyV_is I1 r1 ty
  exact ⟨T, id, pa, slot, hty, h1, h2, Calls.callWith_builtin rfl (PySem.evalArgs_none (hm pins s1 σ H1 x [] v [] Q I1 r1 .nil q1))⟩
theorem pe_bm (pa : PlainAttrs T) (slot : Slot T name id) (hty : typeOf (.builtin id) = pure (.type "method_descriptor")) (hm : MtR X id r) (ho : PE X o to) (ha : PA X (e :: es) t)
    (hbase : attributeBase o name X.env (eval o X.env) = eval o X.env := by rfl)
    (hfew : ((backTo cpos (starEach (e :: es) X.env)).all (fun x => !x.1) && (backToKw cpos (keywordEach [] X.env)).all (fun x => x.1.isSome)
      && decide ((e :: es).length + ([] : List Keyword).length + (if ([] : List Keyword).isEmpty then 0 else 1) < 30)) = true := by rfl)
    (hline : (apos.endLine == cpos.line) = true := by rfl) (hs : starEach (e :: es) X.env = (false, eval e X.env) :: starEach es X.env := by rfl) (hplain : (backTo cpos (starEach es X.env)).any (·.1) = false := by rfl) :
    PE X (.Call (.Attribute o name apos) (e :: es) [] cpos) (tBM X.K T r to t) := by
  intro pins s σ H Q I h
  refine wpAny_Call_method_late hbase hfew hline rfl (thn (ho pins s σ H _ I h) fun v s1 ⟨x, H1, I1, r1, ty, q1⟩ => ?_)
  obtain ⟨h1, h2⟩ := tyV_is I1 r1 ty
  refine ⟨T, id, pa, slot, hty, h1, h2, ?_⟩
  have hA := ha cpos pins s1 σ H1 _ I1 q1
  rw [hs] at hA ⊢
  refine Calls.callWith_builtin (by show (false || (backTo cpos (starEach es X.env)).any (·.1)) = false; rw [hplain] <;> rfl) (Calls.evalArgs_plain ?_)
  exact thn hA fun us s2 ⟨vs, H2, I2, r2, q2⟩ => hm pins s2 σ H2 x vs v us Q I2 r1 r2 q2
/- xs.append(e), list.index on a module's tuple .. are MtR facts of 06m -/
end
end L2

namespace L2
open PySem PySem.Spec PyProof.Rows

def MtM (X : Cx) (id : String) (r : V → List V → Hp → VK → Prop) : Prop :=
  ∀ (pins : List (Addr × Obj)) (s : Shared) (σ : St) (H : Hp) (x : V) (xs : List V) (v : Value) (us : List Value) (Q : VK), Inv X pins σ H s → RelV x v → Vals xs us → r x xs H Q →
    wpAny (model X.prog X.w) X.A (call (.builtin id) (v :: us)) (EP X pins σ Q) X.xe s

/-! ### lists of values -/
theorem Vals.one : ∀ {x : V} {us : List Value}, Vals [x] us → ∃ u, us = [u] ∧ RelV x u
  | _, _, .cons r .nil => ⟨_, rfl, r⟩
theorem Vals.zero : ∀ {us : List Value}, Vals [] us → us = []
  | _, .nil => rfl
theorem Vals.dropLast {xs : List V} {us : List Value} (h : Vals xs us) : Vals xs.dropLast us.dropLast := by
  induction h with
  | nil => exact .nil
  | cons r t ih =>
    cases t with
    | nil => exact .nil
    | cons q t' => exact .cons r ih
theorem erase_last {α : Type} (l : List α) : l.eraseIdx (l.length - 1) = l.dropLast := by
  induction l with
  | nil => rfl
  | cons a r ih =>
    cases r with
    | nil => rfl
    | cons b r =>
      have e : (a :: b :: r).length - 1 = ((b :: r).length - 1) + 1 := rfl
      rw [e, List.eraseIdx_cons_succ, ih]
      all_goals rfl
section
variable {X : Cx} {pins : List (Addr × Obj)} {σ : St} {H : Hp} {s : Shared} {l b : Addr} {xs ys zs : List V}

/-! ### the two steps: a tracked list is rewritten, a new list is laid -/
theorem Inv.lset {its its' : List Value} {n : Nat} {f : Array Value → Array Value} {t' : Nat} (I : Inv X pins σ H s) (hH : H l = some (.lst xs))
    (e : s.heap.get? l = some { cls := .type "list", data := .seq its.toArray n }) (hf : f its.toArray = its'.toArray) (hv : Vals ys its') (hz : ys.length ≤ sizeLine) :
    Inv X pins σ (upd H l (.lst ys)) { s with heap := s.heap.update l (Obj.mapSeq f), toks := t' } := by
  have q := PySem.IsL.update e f
  rw [hf] at q
  refine I.write (x := l) (e := l) (by rw [hH]; exact trivial) (.inl rfl) (fun b' u hb hu => (Heap.get?_update_other s.heap (Obj.mapSeq f) (Ne.symm hb)).trans hu) ⟨_, q⟩ ?_
  exact ⟨hz, its', _, hv, q⟩
theorem Inv.lnew {its : List Value} {t' : Nat} (I : Inv X pins σ H s) (hv : Vals ys its) (hz : ys.length ≤ sizeLine) :
    Inv X pins σ (upd H s.heap.objs.size (.lst ys)) { s with heap := s.heap.push { cls := .type "list", data := .seq its.toArray }, toks := t' } :=
  I.laid (fun _ _ q => Heap.get?_push_of_some _ q) (Nat.le_refl _) ⟨hz, its, 0, hv, Heap.get?_push_size _ rfl⟩
theorem Inv.fresh (I : Inv X pins σ H s) : H s.heap.objs.size = none := I.hok.fresh (Nat.le_refl _)
theorem Inv.lstM (I : Inv X pins σ H s) (hH : H l = some (.lst xs)) : xs.length ≤ sizeLine ∧ ∃ (its : List Value) (n : Nat), Vals xs its ∧ xs.length = its.length ∧ s.heap.get? l = some { cls := .type "list", data := .seq its.toArray n } := by
  obtain ⟨z, its, n, r, e⟩ := I.hok l _ hH
  exact ⟨z, its, n, r, r.length, e⟩

theorem notLongL {n : Nat} (h : n ≤ sizeLine) : Builtin.List.listTooLong n = false := by
  unfold Builtin.List.listTooLong
  exact decide_eq_false (by omega)
end

section
variable {X : Cx}

/-! ### methods -/
def rAppend : V → List V → Hp → VK → Prop := fun x vs H Q => ∃ l xs y, x = .ref l ∧ vs = [y] ∧ H l = some (.lst xs) ∧ xs.length < sizeLine ∧ Q .non (upd H l (.lst (xs ++ [y])))
theorem mt_append : MtM X "list.append" rAppend := by
  intro pins s σ H x vs v us Q I rx rv h
  obtain ⟨l, xs, y, rfl, rfl, hH, hz, q⟩ := h
  cases rx
  obtain ⟨u, rfl, ru⟩ := rv.one
  obtain ⟨z, its, n, r, hl, e⟩ := I.lstM hH
  refine call_meets F.slot_list_append ⟨_, e, rfl⟩ F.entry_list_append (F.args_list_append_2 _ _) (PySem.list_append l its.toArray n u (by rw [List.size_toArray]; omega)) ⟨e, ?_⟩
  refine ⟨.non, _, I.lset (its' := its ++ [u]) hH e (by simp) (r.append (.cons ru .nil)) ?_, rfl, q⟩
  rw [List.length_append, List.length_singleton]
  omega

def rExtend : V → List V → Hp → VK → Prop := fun x vs H Q => ∃ l b xs zs, x = .ref l ∧ vs = [.ref b] ∧ H l = some (.lst xs) ∧ H b = some (.lst zs) ∧ xs.length + zs.length ≤ sizeLine ∧ Q .non (upd H l (.lst (xs ++ zs)))
theorem mt_extend : MtM X "list.extend" rExtend := by
  intro pins s σ H x vs v us Q I rx rv h
  obtain ⟨l, b, xs, zs, rfl, rfl, hH, hB, hz, q⟩ := h
  cases rx
  obtain ⟨u, rfl, ru⟩ := rv.one
  cases ru
  obtain ⟨z, its, n, r, hl, e⟩ := I.lstM hH
  obtain ⟨z2, its2, n2, r2, hl2, e2⟩ := I.lstM hB
  have hsz : its.toArray.size + its2.toArray.size ≤ sizeLine := by rw [List.size_toArray, List.size_toArray]; omega
  have hlong : ¬ (!its.toArray.isEmpty && Builtin.List.listTooLong (its.toArray.size + its2.toArray.size)) = true := by
    rw [notLongL hsz, Bool.and_false]
    exact Bool.false_ne_true
  refine call_meets F.slot_list_extend ⟨_, e, rfl⟩ F.entry_list_extend (F.args_list_extend_2 _ _)
    (AutoSeq1.list_extend_list_list_0 l its.toArray n b its2.toArray n2 hlong (by rw [List.size_toArray]; omega) (by omega)) ⟨e, e2, ?_⟩
  refine ⟨.non, _, I.lset (its' := its ++ its2) hH e (by simp) (r.append r2) ?_, rfl, q⟩
  rw [List.length_append]
  omega

def rPop : V → List V → Hp → VK → Prop := fun x vs H Q => ∃ l xs y, x = .ref l ∧ vs = [] ∧ H l = some (.lst xs) ∧ xs[xs.length - 1]? = some y ∧ Q y (upd H l (.lst xs.dropLast))
theorem mt_pop : MtM X "list.pop" rPop := by
  intro pins s σ H x vs v us Q I rx rv h
  obtain ⟨l, xs, y, rfl, rfl, hH, hy, q⟩ := h
  cases rx
  have hus := rv.zero
  subst hus
  obtain ⟨z, its, n, r, hl, e⟩ := I.lstM hH
  obtain ⟨u, hu, ru⟩ := r.get hy
  have hy' : its.toArray[its.toArray.size - 1]? = some u := by
    show its.toArray[its.length - 1]? = some u
    rw [← Array.getElem?_toList, ← hl]
    exact hu
  refine call_meets F.slot_list_pop ⟨_, e, rfl⟩ F.entry_list_pop (F.args_list_pop_1 _) (MeetsSeq.list_pop_last l its.toArray n u hy' (by rw [List.size_toArray]; omega)) ⟨e, ?_⟩
  refine ⟨y, _, I.lset (its' := its.dropLast) hH e ?_ r.dropLast ?_, ru, q⟩
  · show its.toArray.eraseIdxIfInBounds (its.toArray.size - 1) = its.dropLast.toArray
    rw [List.size_toArray, List.eraseIdxIfInBounds_toArray, erase_last]
  · rw [List.length_dropLast]
    omega

/-! ### list + list, list += list, list * int -/
def rCat : R2 := fun x y H Q => ∃ l b xs zs, x = .ref l ∧ y = .ref b ∧ H l = some (.lst xs) ∧ H b = some (.lst zs) ∧ xs.length + zs.length ≤ sizeLine ∧ ∀ p, H p = none → Q (.ref p) (upd H p (.lst (xs ++ zs)))
theorem op_cat : OpR X (binaryOp .Add) rCat := by
  intro pins s σ H x y v u Q I rx ry h
  obtain ⟨l, b, xs, zs, rfl, rfl, hH, hB, hz, q⟩ := h
  cases rx
  cases ry
  obtain ⟨z, its, n, r, hl, e⟩ := I.lstM hH
  obtain ⟨z2, its2, n2, r2, hl2, e2⟩ := I.lstM hB
  refine PySem.P.add_list e e2 ?_ (by rw [List.size_toArray, List.size_toArray]; omega)
  have ea : its.toArray ++ its2.toArray = (its ++ its2).toArray := by simp
  rw [ea]
  exact ⟨.ref _, _, I.lnew (t' := s.toks) (r.append r2) (by rw [List.length_append]; omega), rfl, q _ I.fresh⟩
/-- a list times an int (a negative one is nothing) -/
def rRep : R2 := fun x y H Q => ∃ l k xs, x = .ref l ∧ y = .int k ∧ H l = some (.lst xs) ∧ -(2 ^ 63) ≤ k ∧ k < 2 ^ 63 ∧ xs.length * k.toNat ≤ sizeLine ∧
  ∀ p, H p = none → Q (.ref p) (upd H p (.lst (List.replicate k.toNat xs).flatten))
/-! ### del xs[i] -/
end

/-! ### xs[a:b] = ys -/
section
variable {prog : Program} {w : World} {A : Around} {E : Value → Shared → Prop} {s : Shared}
set_option maxRecDepth 100000 in
end

section
variable {X : Cx}
end
end L2

namespace L2
open PySem PySem.Spec PyProof.Rows

/-! ### lists of pairs as tables -/
section
variable {κ : Type} [DecidableEq κ]
def valV (kvs : List (κ × V)) (k : κ) : Option V := (kvs.find? fun kv => decide (kv.1 = k)).map (·.2)
/-- in its place, or at the end -/
def putK (kvs : List (κ × V)) (k : κ) (v : V) : List (κ × V) :=
  if (kvs.any fun kv => decide (kv.1 = k)) = true then kvs.map (fun kv => if kv.1 = k then (kv.1, v) else kv) else kvs ++ [(k, v)]
def dropK (kvs : List (κ × V)) (k : κ) : List (κ × V) := kvs.filter fun kv => decide (kv.1 ≠ k)

theorem valV_pos {p : κ × V} {r : List (κ × V)} {k : κ} (e : p.1 = k) : valV (p :: r) k = some p.2 := by simp [valV, List.find?_cons, e]
theorem valV_neg {p : κ × V} {r : List (κ × V)} {k : κ} (e : ¬ p.1 = k) : valV (p :: r) k = valV r k := by simp [valV, List.find?_cons, e]
theorem valV_any (k : κ) : ∀ kvs : List (κ × V), (kvs.any fun kv => decide (kv.1 = k)) = (valV kvs k).isSome
  | [] => rfl
  | p :: r => by
    rw [List.any_cons]
    by_cases e : p.1 = k
    · simp only [valV_pos e, decide_eq_true e, Bool.true_or, Option.isSome_some]
    · rw [valV_neg e, decide_eq_false e, Bool.false_or]; exact valV_any k r
theorem valV_map (k j : κ) (y : V) : ∀ kvs : List (κ × V), valV (kvs.map fun kv => if kv.1 = k then (kv.1, y) else kv) j = (valV kvs j).map fun x => if j = k then y else x
  | [] => rfl
  | p :: r => by
    have ih := valV_map k j y r
    rw [List.map_cons]
    by_cases h : p.1 = k
    · rw [if_pos h]
      by_cases e : p.1 = j
      · rw [valV_pos (p := (p.1, y)) e, valV_pos e, Option.map_some, if_pos (e.symm.trans h)]
      · rw [valV_neg (p := (p.1, y)) e, valV_neg e, ih]
    · rw [if_neg h]
      by_cases e : p.1 = j
      · rw [valV_pos (p := p) e, valV_pos e, Option.map_some, if_neg (fun z => h (e.trans z))]
      · rw [valV_neg (p := p) e, valV_neg e, ih]
theorem valV_snoc (k j : κ) (y : V) : ∀ kvs : List (κ × V), valV kvs k = none → valV (kvs ++ [(k, y)]) j = if j = k then some y else valV kvs j
  | [], _ => by
    by_cases e : k = j
    · rw [if_pos e.symm]; exact valV_pos (p := (k, y)) e
    · rw [if_neg (fun z => e z.symm)]; exact valV_neg (p := (k, y)) e
  | p :: r, hn => by
    rw [List.cons_append]
    have hk : ¬ p.1 = k := fun z => by rw [valV_pos z] at hn; cases hn
    rw [valV_neg hk] at hn
    have ih := valV_snoc k j y r hn
    by_cases e : p.1 = j
    · rw [valV_pos e, valV_pos e, if_neg (fun z => hk (e.trans z))]
    · rw [valV_neg e, valV_neg e, ih]
end


/-! ### a tracked dict, its keys ints and texts or tuples of these -/
section
variable {P : Program} {w : World} {H : Hp} {h : Heap} {a : Addr}
end

/-- what the dict at a holds at the key y -/
def DGet (H : Hp) (a : Addr) (y : V) (r : Option V) : Prop :=
  (∃ kvs k, Rd H a (.dK kvs) ∧ y = kV k ∧ r = valV kvs k) ∨ ∃ kvs k b, Rd H a (.dT kvs) ∧ y = .ref b ∧ H b = some (.tup (k.map kV)) ∧ r = valV kvs k
/-- the heap behind a[y] = v -/
def DPut (H : Hp) (a : Addr) (y v : V) (H' : Hp) : Prop :=
  (∃ kvs k, H a = some (.dK kvs) ∧ y = kV k ∧ kvs.length < sizeLine ∧ H' = upd H a (.dK (putK kvs k v))) ∨
  ∃ kvs k b, H a = some (.dT kvs) ∧ y = .ref b ∧ H b = some (.tup (k.map kV)) ∧ kvs.length < sizeLine ∧ H' = upd H a (.dT (putK kvs k v))
section
variable {X : Cx} {pins : List (Addr × Obj)} {σ : St} {H : Hp} {s : Shared} {a : Addr} {y v : V} {u r : Value} {o : Option V} {A : Around} {E : Value → Shared → Prop}

end

section
variable {X : Cx} {pins : List (Addr × Obj)} {σ : St} {H : Hp} {s : Shared} {a : Addr} {kvs : List (Key × V)} {k : Key} {u : Value} {A : Around} {E : Value → Shared → Prop}
end


/-! ### readings and rules -/
/-- d[y] -/
def tDGet (td ty : TE) : TE := fun σ H Q => td σ H fun x H1 => ty σ H1 fun y H2 => ∃ a v, x = .ref a ∧ DGet H2 a y (some v) ∧ Q v H2
/-- d[y] = v -/
def sDPut (td ty tv : TE) : TS := fun D σ H => tv σ H fun v H1 => td σ H1 fun x H2 => ty σ H2 fun y H3 => ∃ a H4, x = .ref a ∧ DPut H3 a y v H4 ∧ D.nx σ H4
section
variable {X : Cx} {o i e value : Expr} {pos pos' tpos : Pos} {td ty tv : TE}
end


/-! ### displays -/
/-- {}, to be a dict of the kind that is wanted -/
def tDNewK : TE := fun _ H Q => ∀ p, H p = none → Q (.ref p) (upd H p (.dK []))
def tDNewT : TE := fun _ H Q => ∀ p, H p = none → Q (.ref p) (upd H p (.dT []))
section
variable {X : Cx} {pos : Pos}
end

/-- the pairs of a display, from the left -/
def tPairs : List (TE × TE) → St → Hp → (List (V × V) → Hp → Prop) → Prop
  | [], _, H, Q => Q [] H
  | (tk, tv) :: r, σ, H, Q => tk σ H fun x H1 => tv σ H1 fun y H2 => tPairs r σ H2 fun ps H3 => Q ((x, y) :: ps) H3
def mergeK (kvs more : List (Key × V)) : List (Key × V) := more.foldl (fun acc kv => putK acc kv.1 kv.2) kvs
/-- {k: v, ..} with keys ints and texts; the new dict stands empty while the pairs are made -/
def tDisp (trs : List (TE × TE)) : TE := fun σ H Q => ∀ p, H p = none → tPairs trs σ (upd H p (.dK [])) fun ps H2 => H2 p = some (.dK []) ∧ ∃ kvs : List (Key × V), ps = kvs.map (fun kv => (kV kv.1, kv.2)) ∧ kvs.length ≤ 15 ∧ Q (.ref p) (upd H2 p (.dK (mergeK [] kvs)))
/-! ### methods -/
/-- a is a dict, whatever its keys -/
def IsD (H : Hp) (a : Addr) : Prop := (∃ kvs, Rd H a (.dK kvs)) ∨ ∃ kvs, Rd H a (.dT kvs)
section
variable {X : Cx} {pins : List (Addr × Obj)} {σ : St} {H : Hp} {s : Shared} {a : Addr} {y d : V} {u r : Value} {o : Option V} {A : Around} {E : Value → Shared → Prop}
end

def tDGet2 (td ty tx : TE) : TE := fun σ H Q => td σ H fun x H1 => ∃ a, x = .ref a ∧ IsD H1 a ∧ ty σ H1 fun y H2 => tx σ H2 fun z H3 => ∃ o, DGet H3 a y o ∧ Q (o.getD z) H3
section
variable {X : Cx} {o e f : Expr} {apos cpos : Pos} {td ty tx : TE}
end

/-! ### dict(d): a copy -/
section
variable {X : Cx} {pins : List (Addr × Obj)} {σ : St} {H : Hp} {s : Shared} {a : Addr} {kvs : List (Key × V)} {A : Around} {E : Value → Shared → Prop}
end


section
variable {X : Cx} {pins : List (Addr × Obj)} {σ : St} {H : Hp} {s : Shared} {a : Addr} {y : V} {u : Value} {A : Around} {E : Value → Shared → Prop}
end
end L2


namespace Att
open PySem PySem.W PySem.Calls PyProof.Rows

/-! ### the script -/
theorem ints_of_wellAll {P : Params} {h : Heap} : ∀ (ns : List Int) (vs : List Value), WellAll P h vs (ns.map WData.int) → IntsAre vs ns := by
  intro ns
  induction ns with
  | nil =>
    intro vs w
    rw [List.map_nil] at w
    cases w
    exact .nil
  | cons n ns ih =>
    intro vs w
    rw [List.map_cons] at w
    cases w with
    | cons a b =>
      cases a
      exact .cons _ _ (ih _ b)

theorem script_of {l : OpenLaw} {n : Nat} (hn : l.most = some n) {P : Params} {h : Heap} {args : List WData} {vals : List Value}
    (hpre : l.row.toRowW.claim.pre args = true) (hwl : WellAll P h vals args) :
    ∃ a vs ns, vals = [Value.ref a] ∧ args = [WData.list (ns.map WData.int)] ∧ h.get? a = some { cls := .type "list", data := .seq vs.toArray } ∧ IntsAre vs ns ∧ ns.length ≤ n := by
  have hsh : WShape.hasAll [] args [.list .int] = true := (pre_splitW hpre).1
  have hc : l.pre.holds [] { args := args } = true := (pre_splitW hpre).2
  obtain ⟨d, r, rfl, h1, h2⟩ := hasAllW_cons hsh
  obtain rfl := hasAllW_nil h2
  obtain ⟨xs, rfl, h3⟩ := hasW_list h1
  obtain ⟨ns, rfl⟩ := items_int h3
  have hlen : ns.length ≤ n := by
    unfold OpenLaw.pre at hc
    have h4 : (WTm.not (.lt (.lit (.int (n : Int))) (.len (.arg 0)))).holds [] { args := [.list (ns.map .int)] } = true := by
      have h4 := (holds_andW hc).1
      rw [hn] at h4
      exact h4
    have h5 := condW_of h4 (w_not (w_lt w_lit (w_len_list (w_arg rfl))))
    rw [List.length_map] at h5
    refine Nat.le_of_not_lt fun q => ?_
    have q' : (n : Int) < ((ns.length : Nat) : Int) := by omega
    first
      | (rw [decide_eq_true q'] at h5; exact absurd h5 (by decide))
      | (simp at h5; omega)
  cases hwl with
  | cons w1 w2 =>
    cases w2
    cases w1 with
    | list ho hall => exact ⟨_, _, ns, rfl, rfl, ho, ints_of_wellAll ns _ hall, hlen⟩

theorem post_true (l : OpenLaw) (args : List WData) : l.row.toRowW.claim.post args (.bool true) args = true :=
  postW_of (r := l.row.toRowW) (X := (true == true))
    (show WShape.has [] (.bool true) .bool = true by first | rfl | decide | simp [WShape.has, WShape.arms, WShape.armsAll])
    (show (WTm.eq .res (.lit (.bool true))).value [] { args := args, res := some (.bool true), after := args } = some (.bool (true == true)) from w_eq_bool (w_res rfl) w_lit) rfl

/-! ### the attachment: holds_open's last premise (the goal 'hc' behind k_head) from a wpAny of the law's body -/
/-- the same from a codeAny of the CALL (for a layer whose function contracts speak of calls) -/
theorem attach_call {l : OpenLaw} {n : Nat} {q : Program} {loose : List Str} {XP : (Str → Option Value) → Heap → Prop} {YP : World → Heap → Prop} {d : DefRec}
    (hn : l.most = some n) (hdf : d.params.defaults = [])
    (call : ∀ (w : World) (s₀ s₁ : Shared) (mg mb : Str → Option Value) (fa : Addr) (o : Obj) (pm cd doc : Value) (a : Addr) (vs : List Value) (ns : List Int),
      Ground q loose [] XP w s₀ mg mb s₁.heap → YP w s₁.heap →
      s₁.heap.get? fa = some o → o.data = .func (docDef d.name d.params d.body d.scope pm cd doc) → s₁.heap.CodeRec cd d.name → mg d.name = some (.ref fa) →
      s₁.heap.get? a = some { cls := .type "list", data := .seq vs.toArray } → IntsAre vs ns → ns.length ≤ n → s₁.gens = #[] →
      codeAny (model l.prog w) callerA (.call (.ref fa) ⟨[.ref a], []⟩) (fun r s' => r = .ok (.ret (.bool true)) ∧ OldK s₁.heap s'.heap ∧ s'.os = s₁.os ∧ AllBare s'.gens) s₁) :
    WalkO q loose XP YP l.row.toRowW d [] (fun f vs => PySem.call f vs) := by
  intro w s₀ s₁ mg mb G Y fa o pm cd doc dV kV ho hd hcd hD hmg hg args vals as hpre hlay hrd hwl hlo
  obtain rfl : dV = .none := Dflts.none hD hdf
  obtain rfl : kV = .none := Dflts.noKw hD
  obtain ⟨a, vs, ns, rfl, rfl, hobj, hints, hlen⟩ := script_of hn hpre hwl
  refine enter_call (codeAny_mono (call w s₀ s₁ mg mb fa o pm cd doc a vs ns G Y ho (fd_plain hd) hcd hmg hobj hints hlen hg) fun r s' hq => ?_)
  obtain ⟨rfl, h2, h3, h4⟩ := hq
  exact ⟨.inl ⟨.bool true, .bool true, [], rfl, fun _ => rfl, .bool true, post_true l _, fun _ => ⟨List.Pairwise.nil, fun _ hm => (nomatch hm)⟩⟩, h2, h3, h4⟩

/-! ### rules over ANY heap (no ledger) from facts about the written part K: the library's own take a ledger (News) for what they write -/
section
variable {prog : Program} {w : World} {A : Around} {E : Value → Shared → Prop} {s : Shared} {K : Frag}

/-! the whole heap as the ledger: makes every rule that writes through a ledger a rule over any heap -/
def ledger (h : Heap) (L d : Addr) : List (Addr × Obj) := (List.range h.objs.size).filterMap fun a => if a = L ∨ a = d then none else (h.get? a).map fun o => (a, o)
end
end Att

namespace L2
open PySem PySem.Spec PyProof.Rows

theorem vals_ints : ∀ {vs : List Value} {ns : List Int}, IntsAre vs ns → Vals (ns.map V.int) vs
  | _, _, .nil => .nil
  | _, _, .cons n t h => .cons ⟨t, rfl⟩ (vals_ints h)

/-- nothing is tracked but the script, known to the object (or it is an object of the module) -/
def Only (H : Hp) : Prop := ∀ b, H b = none ∨ ∃ o xs, H b = some (.frz o (.lst xs))

/-- THE HEAD: the law's promise, at the heap behind the top. F, the promise of the law's def, may use that base is part of the heap (so K.In base, base.Ns mainGlobals mg stand in Mod) -/
theorem law_call {P : Program} {w : World} {K : PySem.W.Frag} {mg mb : Str → Option Value} {CX : CXT} {k : Nat} {fa a : Addr} {fd : FuncData} {x : Str} {sp : Sp} {s₁ : Shared} {vs : List Value} {ns : List Int}
    (KX : K.In s₁.heap) (hns : s₁.heap.Ns mainGlobals mg) (hb : s₁.heap.Ns builtinsNs mb) (hbb : ∀ x : Str, x ≠ "__name__" → mb x = bootBuiltins x) (hlim : s₁.heap.NoLimit) (hg : s₁.gens = #[])
    (ha : s₁.heap.get? a = some { cls := .type "list", data := .seq vs.toArray }) (hi : IntsAre vs ns) (hl : ns.length ≤ sizeLine) (hr : Room k callerA)
    (F : ∀ base : Heap, K.In base → base.Ns mainGlobals mg → FnOk P w K mg base CX k fa fd [x] sp) (hbind : ∀ (s : Shared) (u : Value), BindsTo s fd ⟨[u], []⟩ [(x, u)])
    (hsp : ∀ H : Hp, Only H → SqL K H a (ns.map V.int) → sp [.ref a] H (fun v _ => v = .bl true) fun _ _ _ => False)
    (hCX : ∀ H e s', CX [] H s₁ (fun _ _ _ => False) e s' → False) :
    codeAny (model P w) callerA (.call (.ref fa) ⟨[.ref a], []⟩) (fun r s' => r = .ok (.ret (.bool true)) ∧ OldK s₁.heap s'.heap ∧ s'.os = s₁.os ∧ AllBare s'.gens) s₁ := by
  have rv := vals_ints hi
  have lenV := hi.length
  -- from an abstract heap in which nothing but the script may be tracked
  have core : ∀ H : Hp, Only H → SqL K H a (ns.map V.int) → HOk P w H s₁.heap → (∀ b, H b ≠ none → b = a) → (H a ≠ none → K.lookup a = none) →
      codeAny (model P w) callerA (.call (.ref fa) ⟨[.ref a], []⟩) (fun r s' => r = .ok (.ret (.bool true)) ∧ OldK s₁.heap s'.heap ∧ s'.os = s₁.os ∧ AllBare s'.gens) s₁ := by
    intro H hO hS hok hA hK
    have base_of : ∀ {b : Addr} {o : Obj}, s₁.heap.get? b = some o → H b = none → (hidT s₁.heap H).get? b = some o := fun e n => hidT_get e n
    have noA : ∀ {b : Addr} {o : Obj} {es : Array DictEntry} {ep : Nat}, s₁.heap.get? b = some o → o.data = .dict es ep → H b = none := fun {b o es ep} e d => by
      cases q : H b with
      | none => rfl
      | some u =>
        have e' : b = a := hA b (by rw [q]; simp)
        subst e'
        rw [ha] at e; cases e
        have d' : Data.seq vs.toArray _ = Data.dict es ep := d
        cases d'
    have nsK : ∀ {b : Addr} {m : Str → Option Value}, s₁.heap.Ns b m → (hidT s₁.heap H).Ns b m := fun {b m} ⟨o, es, ep, e, d, r⟩ => ⟨o, es, ep, base_of e (noA e d), d, r⟩
    have hKb : K.In (hidT s₁.heap H) := fun b o e => base_of (KX b o e) (by
      cases q : H b with
      | none => rfl
      | some u =>
        have e' : b = a := hA b (by rw [q]; simp)
        subst e'
        rw [hK (by rw [q]; simp)] at e; cases e)
    have hM : Mod K mg (hidT s₁.heap H) := ⟨hKb, nsK hns, ⟨mb, nsK hb, hbb⟩, let ⟨mc, h1, h2⟩ := hlim; ⟨mc, nsK h1, h2⟩⟩
    have e0 : Env0 P w K mg (hidT s₁.heap H) callerA [] s₁ H := ⟨rfl, hM, fun b o e => of_hidT e, Nat.le_of_eq (hidT_size _ _), trivial, fun b hb => absurd (show b ∈ ([] : List Addr) from hb) (by simp), hok, .of_eq hg⟩
    refine codeAny_mono ((F _ hKb (nsK hns)).run callerA [] s₁ H ⟨[.ref a], []⟩ [.ref a] [.ref a] _ _ hr e0 (hbind s₁ (.ref a)) (.cons rfl .nil) (hsp H hO hS)) fun r s' h => ?_
    cases r with
    | error e => exact (hCX H e s' h).elim
    | ok fl =>
      cases fl with
      | next => exact False.elim h
      | brk => exact False.elim h
      | cont => exact False.elim h
      | ret u =>
        obtain ⟨v, H', os, bare, un, hok', r', q⟩ := h
        have q' : v = .bl true := q
        subst q'
        obtain rfl : u = Value.bool true := r'
        refine ⟨rfl, OldK.of_keep fun b o e => ?_, os, bare⟩
        cases q : H b with
        | none => exact un.keep b o e q (by intro z; exact absurd (show b ∈ ([] : List Addr) from z) (by simp)) (by simp)
        | some u =>
          rcases hO b with z | ⟨ob, xs, z⟩
          · rw [q] at z; cases z
          · have z2 := un.frzs b ob _ z
            obtain ⟨e1, _⟩ := hok b _ z
            obtain ⟨e2, _⟩ := hok' b _ z2
            rw [e] at e1; cases e1
            exact e2
  cases hk : K.lookup a with
  | some o =>
    -- the script is one of the module's own objects
    have e := KX a o hk
    rw [ha] at e
    cases e
    refine core (fun _ => none) (fun _ => .inl rfl) (.inr ⟨_, vs.toArray, _, hk, rfl, rfl, rfl, by rw [List.size_toArray, lenV]; exact hl, by simpa using rv⟩) (fun b u z => by have z' : (none : Option HO) = some u := z; cases z') (fun b z => absurd rfl z) fun z => absurd rfl z
  | none =>
    refine core (fun b => if b = a then some (.frz { cls := .type "list", data := .seq vs.toArray } (.lst (ns.map V.int))) else none) (fun b => ?_) (.inl (.inr ⟨{ cls := .type "list", data := .seq vs.toArray }, if_pos rfl⟩)) (fun b u z => ?_) (fun b z => ?_) fun _ => hk
    · by_cases hb : b = a
      · exact .inr ⟨_, _, if_pos hb⟩
      · exact .inl (if_neg hb)
    · by_cases hb : b = a
      · have z' := (if_pos hb).symm.trans z
        cases z'
        subst hb
        exact ⟨ha, by rw [List.length_map]; exact hl, vs, _, rv, ha⟩
      · have z' := (if_neg hb).symm.trans z
        cases z'
    · by_cases hb : b = a
      · exact hb
      · exact absurd (if_neg hb) z
end L2

namespace L2
open PySem PySem.Spec PyProof.Rows

abbrev KOf {K : PySem.W.Frag} {h : Heap} (_ : K.In h) : PySem.W.Frag := K

/-- the goal that k_head leaves (case hc), from the law's promise. F gives the function object fd (K's own) once, then the promise over every base -/
theorem walk_of {l : PySem.W.OpenLaw} {n k : Nat} {q : Program} {loose : List Str} {XP : (Str → Option Value) → Heap → Prop} {YP : World → Heap → Prop} {d : DefRec} {K : Params → PySem.W.Frag} {CX : World → CXT} {sp : World → Sp} {x : Str}
    (hn : l.most = some n) (hn2 : n ≤ sizeLine) (hdf : d.params.defaults = []) (hr : Room k callerA)
    (hY : ∀ (w : World) (h : Heap), YP w h → (K w.params).In h)
    (F : ∀ (w : World) (mg : Str → Option Value) (fa : Addr) (h : Heap), (K w.params).In h → h.Ns mainGlobals mg → mg d.name = some (.ref fa) →
      ∃ fd : FuncData, (∀ (s : Shared) (u : Value), BindsTo s fd ⟨[u], []⟩ [(x, u)]) ∧
        ∀ base : Heap, (K w.params).In base → base.Ns mainGlobals mg → FnOk l.prog w (K w.params) mg base (CX w) k fa fd [x] (sp w))
    (hsp : ∀ (w : World) (H : Hp) (a : Addr) (ns : List Int), ns.length ≤ n → Only H → SqL (K w.params) H a (ns.map V.int) → sp w [.ref a] H (fun v _ => v = .bl true) fun _ _ _ => False)
    (hCX : ∀ (w : World) (H : Hp) (s : Shared) (e : Value) (s' : Shared), CX w [] H s (fun _ _ _ => False) e s' → False) :
    PySem.W.WalkO q loose XP YP l.row.toRowW d [] (fun f vs => PySem.call f vs) := by
  refine Att.attach_call hn hdf fun w s₀ s₁ mg mb fa o pm cd doc a vs ns G Y ho hd hcd hmg hobj hints hlen hg => ?_
  have KX := hY w _ Y
  obtain ⟨fd, hb, hF⟩ := F w mg fa _ KX G.T.g hmg
  exact law_call KX G.T.g G.T.b G.T.builtins G.T.nolimit hg hobj hints (Nat.le_trans hlen hn2) hr hF hb (fun H hO hS => hsp w H a ns hlen hO hS) fun H e s' => hCX w H s₁ e s'
/-- the same where the promise hangs on the written part alone: (sp := My.sp_law), no hole under a binder -/
theorem walk_ofK {l : PySem.W.OpenLaw} {n k : Nat} {q : Program} {loose : List Str} {XP : (Str → Option Value) → Heap → Prop} {YP : World → Heap → Prop} {d : DefRec} {K : Params → PySem.W.Frag} {CX : CXT} {sp : PySem.W.Frag → Sp} {x : Str}
    (hn : l.most = some n) (hn2 : n ≤ sizeLine) (hdf : d.params.defaults = []) (hr : Room k callerA)
    (hY : ∀ (w : World) (h : Heap), YP w h → (K w.params).In h)
    (F : ∀ (w : World) (mg : Str → Option Value) (fa : Addr) (h : Heap), (K w.params).In h → h.Ns mainGlobals mg → mg d.name = some (.ref fa) →
      ∃ fd : FuncData, (∀ (s : Shared) (u : Value), BindsTo s fd ⟨[u], []⟩ [(x, u)]) ∧
        ∀ base : Heap, (K w.params).In base → base.Ns mainGlobals mg → FnOk l.prog w (K w.params) mg base CX k fa fd [x] (sp (K w.params)))
    (hsp : ∀ (K : PySem.W.Frag) (H : Hp) (a : Addr) (ns : List Int), ns.length ≤ n → Only H → SqL K H a (ns.map V.int) → sp K [.ref a] H (fun v _ => v = .bl true) fun _ _ _ => False)
    (hCX : ∀ (H : Hp) (s : Shared) (e : Value) (s' : Shared), CX [] H s (fun _ _ _ => False) e s' → False) :
    PySem.W.WalkO q loose XP YP l.row.toRowW d [] (fun f vs => PySem.call f vs) :=
  walk_of (K := K) (CX := fun _ => CX) (sp := fun w => sp (K w.params)) hn hn2 hdf hr hY F (fun w H a ns h1 h2 h3 => hsp (K w.params) H a ns h1 h2 h3) fun _ H s e s' => hCX H s e s'
end L2



/-! SHORT WORDS over the layer: a def of the text, its body, what a loop and a test want. -/
namespace L2
open PySem PySem.Spec PyProof.Rows

/-! ### the text by places -/
def defArgs (s : Stmt) : Arguments := match s with
  | .FunctionDef _ a _ _ _ _ _ _ _ _ => a
  | _ => { posonlyargs := [], args := [], vararg := none, kwonlyargs := [], kw_defaults := [], kwarg := none, defaults := [] }
def defBody (s : Stmt) : List Stmt := match s with
  | .FunctionDef _ _ b _ _ _ _ _ _ _ => b
  | _ => []
def defScope (s : Stmt) : Scope := match s with
  | .FunctionDef _ _ _ _ _ _ sc _ _ _ => sc
  | _ => { kind := .function, names := [], isGenerator := false, isCoroutine := false }

/-! ### no exception leaves a def -/
abbrev CX0 : CXT := fun _ _ _ _ _ _ => False
abbrev E0 : XK := fun _ _ _ => False
theorem pass0 {X : Cx} : Passes CX0 X E0 := fun _ _ _ _ _ _ _ h => h.elim

/-! ### a def (or method) of the text as it stands behind the top -/
structure Fun (K : PySem.W.Frag) (x qual : Str) (st : Stmt) (f : Addr) (fd : FuncData) : Prop where
  ex : ∃ (oc : Value) (od : Option Addr) (kV doc pm : Value) (an : Option Addr) (cdv ct : Value) (osl : Array (Option Value)),
    fd = PySem.W.fnOf x qual (defArgs st) (defBody st) (defScope st) .none kV doc pm an cdv ct ∧ K.lookup f = some ⟨oc, od, .func fd, osl⟩ ∧ PySem.W.codeIn K cdv qual = true
  kp : PySem.W.keepIn K (.ref f) = true
section
variable {P : Program} {w : World} {K : PySem.W.Frag} {mg : Str → Option Value} {base : Heap}
/-- THE RULE for a def: its body as a term of rules, and the reading of that term -/
theorem Fun.ok {x qual : Str} {st : Stmt} {f : Addr} {fd : FuncData} {N ps : List Str} {k : Nat} {sp : Sp} (F : Fun K x qual st f fd) (S : FnScope N ps (defScope st)) (len : ∀ vs H Q E, sp vs H Q E → vs.length = ps.length)
    (hbody : ∀ (cdv : Value) (A : Around) (outer : List Env) (s : Shared) (H : Hp) (vs : List V) (Q : VK) (E : XK), Room k (A.deeper (envOfC qual (defScope st) s.heap.objs.size f cdv)) → sp vs H Q E →
      ∃ t, PSs (cxOf CX0 P w K mg base N qual (defScope st) f cdv A outer s H E).nox (defBody st) t ∧ t { nx := fun _ H' => Q .non H', rt := Q } (start N vs) H) : FnOk P w K mg base CX0 (k + 1) f fd ps sp := by
  obtain ⟨oc, od, kV, doc, pm, an, cdv, ct, osl, rfl, lk, hcd⟩ := F.ex
  refine fn_of lk hcd S len fun A outer s H vs Q E hr hsp => ?_
  obtain ⟨t, h, q⟩ := hbody cdv A outer s H vs Q E hr hsp
  exact ⟨t, h.nox, q⟩
/-- how its arguments bind (no defaults): h is «fun _ _ _ _ _ _ us hl => match us, hl with | [_, _], _ => rfl», one _ a parameter -/
theorem Fun.binds {x qual : Str} {st : Stmt} {f : Addr} {fd : FuncData} {ps : List Str} (F : Fun K x qual st f fd)
    (h : ∀ (kV doc pm : Value) (an : Option Addr) (cdv ct : Value) (us : List Value), us.length = ps.length → bindArgs (PySem.W.fnOf x qual (defArgs st) (defBody st) (defScope st) .none kV doc pm an cdv ct) ⟨us, []⟩ = pure (ps.zip us)) : Binds K fd ps [] := by
  obtain ⟨oc, od, kV, doc, pm, an, cdv, ct, osl, rfl, lk, hcd⟩ := F.ex
  exact .all (h kV doc pm an cdv ct)
theorem fun_mk {x qual : Str} {st : Stmt} {f : Addr} {oc : Value} {od an : Option Addr} {osl : Array (Option Value)} {kV doc pm cdv ct : Value} (l : K.lookup f = some ⟨oc, od, .func (PySem.W.fnOf x qual (defArgs st) (defBody st) (defScope st) .none kV doc pm an cdv ct), osl⟩)
    (c : PySem.W.codeIn K cdv qual = true) (k : PySem.W.keepIn K (.ref f) = true) : Fun K x qual st f (PySem.W.fnOf x qual (defArgs st) (defBody st) (defScope st) .none kV doc pm an cdv ct) := ⟨⟨oc, od, kV, doc, pm, an, cdv, ct, osl, rfl, l, c⟩, k⟩
end
/-! ### expressions in short: the name that stands in the i-th slot -/
section
variable {X : Cx}
theorem pv (i : Nat) {x : Str} {pos : Pos} (hN : X.N[i]? = some x := by rfl) (hv : Vis X.env.scope x := by first | exact Or.inl rfl | exact Or.inr (Or.inl rfl) | exact Or.inr (Or.inr rfl)) (hd : (x == ("__debug__" : Str)) = false := by decide)
    (hcd : (x == ("__classdict__" : Str)) = false := by decide) : PE X (.Name x pos) (tVar i) := pe_var hN hv hd hcd
end

/-! ### tests -/
theorem ite2 {c A B : Prop} [Decidable c] (h1 : c → A) (h2 : ¬ c → B) : if c then A else B := by
  by_cases h : c
  · rw [if_pos h]
    exact h1 h
  · rw [if_neg h]
    exact h2 h
/-! ### heaps -/
/-- all that was tracked is as it was -/
def Same (H H' : Hp) : Prop := ∀ b o, H b = some o → H' b = some o
theorem Same.refl (H : Hp) : Same H H := fun _ _ h => h
theorem Same.trans {H H1 H2 : Hp} (a : Same H H1) (b : Same H1 H2) : Same H H2 := fun c o h => b c o (a c o h)
end L2
namespace L2
open PySem PySem.Spec PyProof.Rows
section
variable {X : Cx}
end
/-! ### a dict's pairs: keys that differ -/
section
variable {κ : Type} [DecidableEq κ]
theorem nd_snoc : ∀ {l : List κ} {k : κ}, l.Nodup → ¬ k ∈ l → (l ++ [k]).Nodup
  | [], k, _, _ => by simp
  | a :: r, k, h, hk => by
    obtain ⟨h1, h2⟩ := List.nodup_cons.mp h
    show (a :: (r ++ [k])).Nodup
    refine List.nodup_cons.mpr ⟨fun m => ?_, nd_snoc h2 fun m => hk (List.mem_cons.mpr (Or.inr m))⟩
    rcases List.mem_append.mp m with q | q
    · exact h1 q
    · exact hk (List.mem_cons.mpr (Or.inl (List.mem_singleton.mp q).symm))
theorem dropK_neg {p : κ × V} {r : List (κ × V)} {k : κ} (e : ¬ p.1 = k) : dropK (p :: r) k = p :: dropK r k := by
  unfold dropK
  rw [List.filter_cons, if_pos (by simp [e])]
theorem dropK_no : ∀ {kvs : List (κ × V)} {k : κ}, ¬ k ∈ kvs.map (·.1) → dropK kvs k = kvs
  | [], _, _ => rfl
  | p :: r, k, h => by
    have h' : ¬ k ∈ r.map (·.1) := fun m => by
      obtain ⟨q, hq, e⟩ := List.mem_map.mp m
      exact h (List.mem_map.mpr ⟨q, List.mem_cons.mpr (Or.inr hq), e⟩)
    rw [dropK_neg fun e => h (List.mem_map.mpr ⟨p, List.mem_cons.mpr (Or.inl rfl), e⟩), dropK_no h']
end
end L2

set_option Elab.async false
set_option linter.all false
set_option maxRecDepth 100000
set_option maxHeartbeats 4000000
namespace L2
open PySem PySem.Spec PyProof.Rows

/-! ### comprehensions -/
/-- the values of the slots at ix -/
def capV (ix : List Nat) (σ : St) : St := ix.map fun i => (σ[i]?).getD none
section
variable {X : Cx} {pins : List (Addr × Obj)} {σ : St} {H : Hp} {s : Shared} {scope : Scope} {cl : List (Str × Addr)} {ix : List Nat} {fp : List Addr} {C : Addr} {xs : List Str}
end

def tYes : TT := fun _ H Q => Q true H
section
variable {prog : Program} {w : World} {A : Around} {R : Result → Shared → Prop} {s : Shared}
end

/-- [elt for g in wi if tt]: the list at D grows; W: what holds between the turns, by the turn, a measure, the list -/
def tComp (wi : TI) (g : TG) (tt : TT) (te : TE) (k : Nat) (ix : List Nat) : TE := fun σ H Q => wi σ H fun J H1 => ∀ D, H1 D = none →
  ∃ W : Nat → Nat → List V → St → Hp → Prop, (∃ m, W 0 m [] (List.replicate k none ++ capV ix σ) (upd H1 D (.lst []))) ∧ ∀ i m ys τ H, W i m ys τ H → H D = some (.lst ys) ∧
    ((J.stop i H ∧ Q (.ref D) H) ∨ (J.go i H ∧ ys.length < sizeLine ∧ ∃ N : V → St → Hp → Prop,
      (∀ v τ' H', N v τ' H' → H' D = some (.lst ys) ∧ ∃ m', m' < m ∧ W (i + 1) m' (ys ++ [v]) τ' (upd H' D (.lst (ys ++ [v])))) ∧ ∃ Nf : St → Hp → Prop, (∀ τ' H', Nf τ' H' → ∃ m', m' < m ∧ W (i + 1) m' ys τ' H') ∧
      ∀ x H', J.yld i H x H' → g x τ H' fun τ2 H2 => tt τ2 H2 fun b H3 => if b = true then te τ2 H3 fun v H4 => N v τ2 H4 else Nf τ2 H3))
section
variable {X : Cx} {elt iter tg : Expr} {ifs : List Expr} {scope : Scope} {pos : Pos} {cl : List (Str × Addr)} {ix : List Nat} {xs : List Str} {wi : TI} {g : TG} {tt : TT} {te : TE}
end
end L2

namespace L2
open PySem PySem.Spec PyProof.Rows
/-! ### readings: short names -/
abbrev rAddS : R2 := fun x y H Q => ∃ i j, x = .str i ∧ y = .str j ∧ i.length + j.length ≤ sizeLine ∧ Q (.str (i ++ j)) H
abbrev rInS : R2 := fun x y H Q => ∃ i j, x = .str i ∧ y = .str j ∧ Q (.bl (!(Builtin.Str.occurrences j i 0 j.length 1).isEmpty)) H
abbrev rNotInS : R2 := fun x y H Q => ∃ i j, x = .str i ∧ y = .str j ∧ Q (.bl (!(!(Builtin.Str.occurrences j i 0 j.length 1).isEmpty))) H
abbrev rIsB : R2 := fun x y H Q => ∃ a b, x = .bl a ∧ y = .bl b ∧ Q (.bl (a == b)) H
abbrev rIsNotB : R2 := fun x y H Q => ∃ a b, x = .bl a ∧ y = .bl b ∧ Q (.bl (a != b)) H
abbrev rIsN : R2 := fun x y H Q => y = .non ∧ Q (.bl (decide (x = .non))) H
abbrev rNotN : R2 := fun x y H Q => y = .non ∧ Q (.bl (!decide (x = .non))) H
abbrev RC := List V → Hp → VK → Prop
abbrev cLen (K : PySem.W.Frag) : RC := fun xs H Q => ∃ x n, xs = [x] ∧ LenV K x H n ∧ Q (.int n) H
abbrev cIsi (K : PySem.W.Frag) : RC := fun xs H Q => ∃ x c t b, xs = [x, c] ∧ TyOf K H x t ∧ (∃ T, c = .ty T ∧ PySem.W.kitOne K t (.type T) = some b) ∧ Q (.bl b) H
abbrev cAll (K : PySem.W.Frag) : RC := fun xs H Q => ∃ (a : Addr) (bs : List Bool), xs = [.ref a] ∧ SqL K H a (bs.map V.bl) ∧ Q (.bl (bs.all id)) H
abbrev cAbs : RC := fun xs H Q => ∃ i, xs = [.int i] ∧ Q (.int (if i < 0 then -i else i)) H
abbrev cStr : RC := fun xs H Q => ∃ i, xs = [.int i] ∧ i.natAbs.log2 < 1920 ∧ Q (.str (toString i)) H
abbrev RM := V → List V → Hp → VK → Prop
abbrev r_mt_startswith : RM := fun x xs H Q => ∃ a b, x = .str a ∧ xs = [.str b] ∧ Q (.bl (0 + b.length ≤ a.length && Builtin.Str.subAt a b 0)) H
/-! ### promises -/
/-- what is asked of the arguments and the heap; what is told; all that was tracked stays -/
def spP (pre : List V → Hp → Prop) (post : List V → Hp → V → Hp → Prop) : Sp := fun vs H Q _ => pre vs H ∧ ∀ r H', post vs H r H' → Same H H' → Q r H'
abbrev cInt : RC := fun xs H Q => ∃ (x : Str) (n : Int), xs = [.str x] ∧ PySem.intText? x = some n ∧ x.length ≤ 640 ∧ Q (.int n) H
abbrev r_mt_upper : RM := fun x xs H Q => ∃ a : Str, x = .str a ∧ xs = [] ∧ (∀ c ∈ a.cps.toList, c < 128) ∧ a.length ≤ sizeLine ∧ ∀ y : Str, y.length = a.length → Q (.str y) H
theorem new_obj {H : Hp} {p : Addr} {o : HO} (h : H p = none) : ∃ H', H' = upd H p o ∧ Same H H' ∧ H' p = some o :=
  ⟨_, rfl, fun b u e => by rw [upd_ne (ne_of_none e h)]; exact e, upd_same⟩
theorem isV (p : Addr) {H : Hp} {o : HO} (h : H p = none) : Same H (upd H p o) := fun b u e => by rw [upd_ne (ne_of_none e h)]; exact e
/-! ### the built-in names -/
theorem bt_len : bootBuiltins "len" = some (.builtin "len") := by decide +kernel
theorem bt_isinstance : bootBuiltins "isinstance" = some (.builtin "isinstance") := by decide +kernel
theorem bt_int : bootBuiltins "int" = some (.type "int") := by decide +kernel
theorem bt_bool : bootBuiltins "bool" = some (.type "bool") := by decide +kernel
theorem bt_list : bootBuiltins "list" = some (.type "list") := by decide +kernel
theorem bt_tuple : bootBuiltins "tuple" = some (.type "tuple") := by decide +kernel
section
variable {X : Cx}

/-! ### bigger numbers -/
def big : Int := 10 ^ 200
def CDivB (_ j : Int) : Prop := 0 < j ∧ j < big
def CMulB (i j : Int) : Prop := (-big < i ∧ i < big) ∧ (-big < j ∧ j < big)
theorem log2_big {j : Int} (h : j.natAbs < 10 ^ 200) : j.natAbs.log2 < 700 := by
  by_cases h0 : j.natAbs = 0
  · rw [h0]; decide
  · exact (Nat.log2_lt h0).mpr (Nat.lt_of_lt_of_le h (by decide +kernel))
theorem abs_big {j : Int} (h : -big < j ∧ j < big) : j.natAbs < 10 ^ 200 := by
  have e : big = ((10 ^ 200 : Nat) : Int) := by decide +kernel
  rw [e] at h
  omega
theorem CMulB.ok {i j : Int} (h : CMulB i j) : IntMulOk i j := by
  have b : ∀ k : Int, (-big < k ∧ k < big) → Builtin.Int.intBits k ≤ 2 ^ 20 := fun k hk => by
    have q := log2_big (abs_big hk)
    unfold Builtin.Int.intBits
    split <;> omega
  exact .of_bits (b i h.1) (b j h.2)
theorem op_mulB : OpR X (binaryOp .Mult) (rI CMulB fun i j => .int (i * j)) := opI fun _ _ _ _ _ _ _ hc q => mul_int q hc.ok
theorem op_fdivB : OpR X (binaryOp .FloorDiv) (rI CDivB fun i j => .int (i / j)) := opI fun i j _ _ _ _ _ hc q => by
  have h1 : (0 : Int) < j := hc.1
  refine floordiv_int (by omega) ?_ (.inl (PyProof.noPylong_of_log2 (Nat.lt_trans (log2_big (abs_big ⟨by have := hc.2; omega, hc.2⟩)) (by decide))))
  rw [Int.fdiv_eq_ediv_of_nonneg i (by omega)]
  exact q

/-! ### is, of truths -/
/-! ### isinstance -/
theorem call_isi : CallR X (.builtin "isinstance") (cIsi X.K) := by
  intro pins s σ H xs us Q I r h
  obtain ⟨x, c, t, b, rfl, ty, ⟨T, rfl, e⟩, q⟩ := h
  obtain ⟨u, w', rfl, r1, r2⟩ := vals2 r
  cases r2
  exact isinst_ok I r1 ty e fun tk => ⟨.bl b, H, I.tok tk, rfl, q⟩

/-! ### signs of a text -/
def Its (x : Str) : It := ⟨fun i _ => i < x.cps.size, fun i H v H' => H' = H ∧ ∃ c, x.cps[i]? = some c ∧ v = .str ⟨#[c]⟩, fun i _ => x.cps.size ≤ i⟩
def iStr (tl : TE) : TI := fun σ H R => tl σ H fun x H1 => ∃ z, x = .str z ∧ R (Its z) H1
/-! ### all of a list of truths -/
/-! ### texts -/
def rSlS : V → Option Int → Option Int → Hp → VK → Prop := fun x lo hi H Q => ∃ z, x = .str z ∧ z.length ≤ sizeLine ∧ Q (.str (Txt.slice z lo hi)) H
end
end L2

namespace L2
open PySem PySem.Spec PyProof.Rows

/-! ### exceptions of the text's own classes -/
/-- an exception that flies: its record and its traceback's newest entry, both new since g, not tracked -/
def XF (g h : Heap) (H : Hp) (e : Addr) (cls : Value) : Prop :=
  ∃ oe vs a0 T oT ts, h.get? e = some oe ∧ (oe.cls = cls ∧ vs[0]? = some a0) ∧ oe.data = .fields vs ∧ vs[1]? = some (.ref T) ∧ T ≠ e ∧ h.get? T = some oT ∧ oT.data = .fields ts ∧ ts[3]? = some .none ∧
    g.get? e = none ∧ g.get? T = none ∧ H e = none ∧ H T = none
def CX1 (P : Program) (w : World) : CXT := fun outer H s E ev s' => ∃ e cls H', ev = .ref e ∧ s'.os = s.os ∧ AllBare s'.gens ∧ Un (frs outer) [] H H' s.heap s'.heap ∧ HOk P w H' s'.heap ∧ XF s.heap s'.heap H' e cls ∧ E cls none H'
section
variable {X : Cx} {pins : List (Addr × Obj)} {σ : St} {H : Hp} {s : Shared}
end

section
variable {P : Program} {w : World} {K : PySem.W.Frag} {mg : Str → Option Value} {base : Heap} {N : List Str} {qual : Str} {scope : Scope} {f : Addr} {cd : Value} {A : Around} {outer : List Env} {s₀ : Shared} {H₀ : Hp} {E : XK}
end

/-! ### raise -/
def tRaise (C : Addr) (ta : TA) (E : XK) : TS := fun _ σ H => ta σ H fun vs H1 => vs.length ≤ sizeLine ∧ E (.ref C) none H1
section
variable {X : Cx} {x : Str} {C : Addr} {np cpos pos : Pos} {e₀ : Expr} {rest : List Expr} {ta : TA} {E : XK}
end

/-! ### texts of messages -/
/-- signs that a text may have -/
def Asc (x : Str) : Prop := ∀ c ∈ x.cps.toList, c < 128
section
variable {X : Cx} {e : Expr} {te : TE} {a : Str} {j : Nat} {p1 p2 p3 : Pos}
/-- f'.. {e!r}' -/
def tMsgR (te : TE) : TE := fun σ H Q => te σ H fun v H1 => ∃ x : Str, v = .str x ∧ x.length ≤ 100000 ∧ Asc x ∧ ∀ y : Str, Q (.str y) H1
/-- f'{e} ..' -/
def tMsgS (te : TE) : TE := fun σ H Q => te σ H fun v H1 => ∃ x : Str, v = .str x ∧ x.length ≤ 100000 ∧ ∀ y : Str, Q (.str y) H1
end
end L2

namespace L2
open PySem PySem.Spec PyProof.Rows
structure ExC (K : PySem.W.Frag) (C : Addr) : Prop where
  ga : PySem.W.findIn K (.ref C) "__getattribute__" = some (some (.builtin "BaseException.__getattribute__"))
  gx : PySem.W.findIn K (.ref C) "__getattr__" = some none
  cl : PySem.W.findIn K (.ref C) "__class__" = some (some (.builtin "object.__class__"))
  ob : PySem.W.mroIn K C (.type "object") = some true
  be : PySem.W.mroIn K C (.type "BaseException") = some true
  ge : PySem.W.specialIn K (.builtin "object.__class__") "__get__" = some (some (.builtin "getset_descriptor.__get__"))
  tk : PySem.W.takesIn K (.builtin "object.__class__") = some true
section
variable {prog : Program} {w : World} {A : Around} {E : Value → Shared → Prop} {K : PySem.W.Frag} {e C : Addr} {s : Shared}
open PySem.Builtin PySem.Builtin.Getset_descriptor in
end
end L2

namespace L2
open PySem PySem.Spec PyProof.Rows
/-! ### try, except C as n -/
section
variable {X : Cx} {pins : List (Addr × Obj)} {σ : St} {H : Hp} {s : Shared}
end
/-- what stands where an exception lies that is held by a name -/
def exO (e C : Addr) : HO := .ext fun h => ∃ o, h.get? e = some o ∧ o.cls = .ref C
/-- the context of an except suite -/
abbrev Cx.sub (X : Cx) (e : Addr) : Cx := { X with A := X.A.mark (some (.ref e)), calm := false, xe := fun _ _ => False }
section
variable {X : Cx} {pins : List (Addr × Obj)} {σ : St} {H : Hp} {s : Shared} {e : Addr}
end
abbrev EXK := Value → St → Hp → Prop
section
variable {X : Cx} {k : Nat} {f : Addr} {fd : FuncData} {ps : List Str} {sp : Sp} {x : Str} {p pos : Pos} {e : Expr} {es : List Expr} {t : TA}
def tCallX (sp : Sp) (ta : TA) (EX : EXK) : TE := fun σ H Q => ta σ H fun vs H1 => sp (vs ++ []) H1 Q fun cls _ H2 => EX cls σ H2
end
section
variable {X : Cx} {ex : Expr} {tx : EXK → TE} {pos p1 : Pos} {i : Nat} {y : Str}
def tDropX (tx : EXK → TE) (EX : EXK) : TS := fun D σ H => tx EX σ H fun _ H1 => D.nx σ H1
def tRetX (tx : EXK → TE) (EX : EXK) : TS := fun D σ H => tx EX σ H D.rt
def tAsgX (tx : EXK → TE) (i : Nat) (EX : EXK) : TS := fun D σ H => tx EX σ H fun v H1 => D.nx (σ.set i (some v)) H1
end
/-- all that a class must have so that its exceptions are looked at -/
structure ExK (K : PySem.W.Frag) (C : Addr) : Prop extends ExC K C where
  has : (PySem.W.clsIn K C).isSome = true
/-- the ends of an except suite: the name goes -/
def endT (i : Nat) (D : Ends) : Ends := { nx := fun σ H => D.nx (σ.set i none) H, rt := D.rt, bk := fun σ H => D.bk (σ.set i none) H, ct := fun σ H => D.ct (σ.set i none) H }
def tTry (K : PySem.W.Frag) (tb : EXK → TS) (C0 : Addr) (i : Nat) (th : TS) : TS := fun D σ H => tb (fun cls σ1 H1 => ∃ C, cls = .ref C ∧ ExK K C ∧ PySem.W.exmOne K (.ref C) (.ref C0) = some true ∧
  ∀ e, H1 e = none → th (endT i D) (σ1.set i (some (.ref e))) (upd H1 e (exO e C))) D σ H
section
variable {X : Cx} {st b₀ : Stmt} {suite : List Stmt} {tb : EXK → TS} {th : TS} {c n : Str} {C0 : Addr} {i : Nat} {np hpos pos : Pos}
end
end L2

namespace L2
open PySem PySem.Spec PyProof.Rows
/-! ### isinstance of an exception -/
def clsV : V → Option Value
  | .ty T => some (.type T)
  | .ref D => some (.ref D)
  | _ => none
abbrev cIsx (K : PySem.W.Frag) : RC := fun xs H Q => ∃ a C c cv b, xs = [.ref a, c] ∧ H a = some (exO a C) ∧ ExK K C ∧ clsV c = some cv ∧ PySem.W.kitOne K (.ref C) cv = some b ∧ Q (.bl b) H
abbrev cIsxT (K : PySem.W.Frag) : RC := fun xs H Q => ∃ a C p, ∃ cs : List Addr, ∃ b, xs = [.ref a, .ref p] ∧ H a = some (exO a C) ∧ ExK K C ∧ H p = some (.tup (cs.map V.ref)) ∧ PySem.W.kitAny K (.ref C) (cs.map Value.ref) = some b ∧ Q (.bl b) H
section
variable {X : Cx}
end
/-! ### defs over CX1 -/
section
variable {P : Program} {w : World} {K : PySem.W.Frag} {mg : Str → Option Value} {base : Heap}
end
theorem walk_ofX {l : PySem.W.OpenLaw} {n k : Nat} {q : Program} {loose : List Str} {XP : (Str → Option Value) → Heap → Prop} {YP : World → Heap → Prop} {d : DefRec} {K : Params → PySem.W.Frag} {sp : PySem.W.Frag → Sp} {x : Str}
    (hn : l.most = some n) (hn2 : n ≤ sizeLine) (hdf : d.params.defaults = []) (hr : Room k callerA)
    (hY : ∀ (w : World) (h : Heap), YP w h → (K w.params).In h)
    (F : ∀ (w : World) (mg : Str → Option Value) (fa : Addr) (h : Heap), (K w.params).In h → h.Ns mainGlobals mg → mg d.name = some (.ref fa) →
      ∃ fd : FuncData, (∀ (s : Shared) (u : Value), BindsTo s fd ⟨[u], []⟩ [(x, u)]) ∧
        ∀ base : Heap, (K w.params).In base → base.Ns mainGlobals mg → FnOk l.prog w (K w.params) mg base (CX1 l.prog w) k fa fd [x] (sp (K w.params)))
    (hsp : ∀ (K : PySem.W.Frag) (H : Hp) (a : Addr) (ns : List Int), ns.length ≤ n → Only H → SqL K H a (ns.map V.int) → sp K [.ref a] H (fun v _ => v = .bl true) fun _ _ _ => False) :
    PySem.W.WalkO q loose XP YP l.row.toRowW d [] (fun f vs => PySem.call f vs) :=
  walk_of (K := K) (CX := fun w => CX1 l.prog w) (sp := fun w => sp (K w.params)) hn hn2 hdf hr hY F (fun w H a ns h1 h2 h3 => hsp (K w.params) H a ns h1 h2 h3) fun _ _ _ _ _ z => by
    obtain ⟨_, _, _, _, _, _, _, _, _, y⟩ := z
    exact y
end L2

namespace L2
open PySem
/-! ### loops, as they stand behind the unfolding of their readings -/
section
variable {σ : St} {H : Hp} {nx : St → Hp → Prop} {B : V → St → Hp → (St → Hp → Prop) → Prop}
theorem loop_range {lo : Int} {n : Nat} (Pv : Nat → St → Hp → Prop) (h0 : Pv 0 σ H) (hs : ∀ i σ H, i < n → Pv i σ H → B (.int (lo + i)) σ H (Pv (i + 1))) (hd : ∀ σ H, Pv n σ H → nx σ H) :
    ∃ W : Nat → Nat → St → Hp → Prop, (∃ m, W 0 m σ H) ∧ ∀ i m σ H, W i m σ H → ((Itr lo n).stop i H ∧ nx σ H) ∨ ((Itr lo n).go i H ∧ ∃ N : St → Hp → Prop, (∀ σ' H', N σ' H' → ∃ m', m' < m ∧ W (i + 1) m' σ' H') ∧ ∀ x H', (Itr lo n).yld i H x H' → B x σ H' N) := by
  refine ⟨fun i m σ H => m = n - i ∧ i ≤ n ∧ Pv i σ H, ⟨n, by simp, Nat.zero_le _, h0⟩, ?_⟩
  rintro i m σ H ⟨rfl, hi, p⟩
  by_cases hlt : i < n
  · refine .inr ⟨hlt, Pv (i + 1), fun σ' H' p' => ⟨n - (i + 1), by omega, rfl, hlt, p'⟩, ?_⟩
    rintro x H' ⟨rfl, rfl⟩
    exact hs i σ _ hlt p
  · obtain rfl : i = n := by omega
    exact .inl ⟨Nat.le_refl _, hd σ H p⟩
theorem loop_list {K : PySem.W.Frag} {a : Addr} (xs : List V) (Pv : Nat → St → Hp → Prop) (h0 : Pv 0 σ H) (hl : ∀ i σ H, Pv i σ H → SqL K H a xs) (hs : ∀ i x σ H, xs[i]? = some x → Pv i σ H → B x σ H (Pv (i + 1))) (hd : ∀ σ H, Pv xs.length σ H → nx σ H) :
    ∃ W : Nat → Nat → St → Hp → Prop, (∃ m, W 0 m σ H) ∧ ∀ i m σ H, W i m σ H → ((Itl K a).stop i H ∧ nx σ H) ∨ ((Itl K a).go i H ∧ ∃ N : St → Hp → Prop, (∀ σ' H', N σ' H' → ∃ m', m' < m ∧ W (i + 1) m' σ' H') ∧ ∀ x H', (Itl K a).yld i H x H' → B x σ H' N) := by
  refine ⟨fun i m σ H => m = xs.length - i ∧ i ≤ xs.length ∧ Pv i σ H, ⟨xs.length, by simp, Nat.zero_le _, h0⟩, ?_⟩
  rintro i m σ H ⟨rfl, hi, p⟩
  have q := hl i σ H p
  by_cases hlt : i < xs.length
  · refine .inr ⟨⟨xs, xs[i], q, by simp [hlt]⟩, Pv (i + 1), fun σ' H' p' => ⟨xs.length - (i + 1), by omega, rfl, hlt, p'⟩, ?_⟩
    rintro x H' ⟨rfl, y⟩
    exact hs i x σ _ (y xs q) p
  · obtain rfl : i = xs.length := by omega
    exact .inl ⟨⟨xs, q, Nat.le_refl _⟩, hd σ H p⟩
end
/-! ### texts as lists of codes -/
theorem cps_app (x y : Str) : (x ++ y).cps.toList = x.cps.toList ++ y.cps.toList := by
  show (x.cps ++ y.cps).toList = _
  simp
/-! ### numerals -/
open PySem.NumText in
section
def numS (w : Int) : Str := Str.ofString (toString w)
theorem len_cps (x : Str) : x.length = x.cps.toList.length := by simp [Str.length]
/-- the signs 0 to 9 -/
def inF (c : Nat) : Bool := !(Builtin.Str.occurrences "0123456789" ⟨#[c]⟩ 0 (Str.length "0123456789") 1).isEmpty
def isFig (x : Str) : Bool := !decide (x = "") && x.cps.toList.all inF
def inW (i : Int) : Bool := decide (-1000000000000000000000000000000 ≤ i ∧ i ≤ 1000000000000000000000000000000)
/-- the text without its minus -/
def fpart (x : Str) : Str := if (x.cps.toList.take 1 == [45]) = true then Txt.slice x (some 1) none else x
def valOf (x : Str) : Int := (intText? x).getD 0
def isNum (x : Str) : Bool := !(decide (31 < (fpart x).length) || !isFig (fpart x)) && (inW (valOf x) && decide (numS (valOf x) = x))
end
end L2

namespace L2
open PySem PySem.Spec PyProof.Rows
/-! ### more of texts -/
/-- where y lies in x -/
def findS (x y : Str) : Int := match Builtin.Str.occurrences x y 0 x.length 1 with | i :: _ => (i : Int) | [] => -1
abbrev r_mt_find : RM := fun x xs H Q => ∃ a b, x = .str a ∧ xs = [.str b] ∧ Q (.int (findS a b)) H
def joinS (sep : Str) : List Str → Str
  | [p] => p
  | l => Builtin.Str.glued sep l
def sumL (sep : Str) (ls : List Str) : Nat := ls.foldl (fun n p => n + p.length + sep.length) 0
abbrev r_mt_join (K : PySem.W.Frag) : RM := fun x xs H Q => ∃ sep a ls, x = .str sep ∧ xs = [.ref a] ∧ SqL K H a (ls.map V.str) ∧ sumL sep ls ≤ sizeLine ∧ Q (.str (joinS sep ls)) H
/-- x * n -/
def repS (x : Str) (n : Int) : Str := if n < 1 then Str.empty else if (n == 1 || x.length == 0) = true then x else ⟨(List.replicate n.toNat x.cps).foldl (· ++ ·) #[]⟩
abbrev rMulS : R2 := fun x y H Q => ∃ a n, x = .str a ∧ y = .int n ∧ (n < 1000000 ∧ -1000000 < n ∧ a.length * n.toNat ≤ 1000000) ∧ Q (.str (repS a n)) H
section
variable {X : Cx}
end
/-! ### signs that stay among the first 128 -/
theorem len_app (x y : Str) : (x ++ y).length = x.length + y.length := Str.length_append x y
end L2
namespace L2
open PySem PySem.Spec PyProof.Rows
/-! ### numerals, read sign by sign -/
section
open PySem.NumText
end
end L2

namespace L2
open PySem PySem.Spec PyProof.Rows
/-! ### floor division by any number but 0 -/
section
variable {X : Cx}
abbrev cIntB : RC := fun xs H Q => ∃ b : Bool, xs = [.bl b] ∧ Q (.int (if b then 1 else 0)) H
end
/-! ### == of lists and tuples of flat values -/
theorem hu64 {k : Nat} {A : Around} (r : Room k A) : A.units + 64 < cLine := by have := r.un; omega
def datV : V → PyData
  | .non => .none
  | .bl b => .bool b
  | .int i => .int i
  | .str x => .str x
  | _ => .none
def isFlat : V → Bool
  | .non => true
  | .bl _ => true
  | .int _ => true
  | .str x => PyData.strOk x
  | _ => false
theorem Asc.flat {x : Str} (h : Asc x) : isFlat (.str x) = true := by
  unfold isFlat PyData.strOk
  rw [Array.all_eq_true]
  intro i hi
  have := h x.cps[i] (by simp)
  exact decide_eq_true (by omega)
/-- no truth beside a whole number -/
def mixV : V → V → Bool
  | .bl _, .int _ => false
  | .int _, .bl _ => false
  | _, _ => true
def mixAll : List V → List V → Bool
  | x :: xs, y :: ys => mixV x y && mixAll xs ys
  | _, _ => true
theorem carried_of : ∀ {xs : List V} {us : List Value}, xs.all isFlat = true → Vals xs us → CarriedAll us (xs.map datV)
  | [], _, _, .nil => .nil
  | x :: r, _, h, .cons rx t => by
    rw [List.all_cons, Bool.and_eq_true] at h
    refine .cons ?_ (carried_of h.2 t)
    cases x with
    | non => cases rx; exact .none
    | bl b => cases rx; exact .bool b
    | int i => obtain ⟨t, rfl⟩ := rx; exact .int i t
    | str x => obtain ⟨t, rfl⟩ := rx; exact .str x t
    | byt b => exact absurd h.1 (by simp [isFlat])
    | flt b => exact absurd h.1 (by simp [isFlat])
    | ref a => exact absurd h.1 (by simp [isFlat])
    | ty n => exact absurd h.1 (by simp [isFlat])
theorem same_dat {x y : V} (hx : isFlat x = true) (hy : isFlat y = true) : PySem.Spec.same (datV x) (datV y) = decide (x = y) := by
  cases x <;> cases y <;> simp_all [isFlat, datV, PySem.Spec.same] <;> (rename_i a b; by_cases e : a = b <;> simp [e])
theorem sameAll_dat : ∀ {xs ys : List V}, xs.all isFlat = true → ys.all isFlat = true → PySem.Spec.sameAll (xs.map datV) (ys.map datV) = decide (xs = ys)
  | [], [], _, _ => by simp [PySem.Spec.sameAll]
  | [], _ :: _, _, _ => by simp [PySem.Spec.sameAll]
  | _ :: _, [], _, _ => by simp [PySem.Spec.sameAll]
  | x :: r, y :: t, hx, hy => by
    rw [List.all_cons, Bool.and_eq_true] at hx hy
    rw [List.map_cons, List.map_cons, PySem.Spec.sameAll, same_dat hx.1 hy.1, sameAll_dat hx.2 hy.2]
    by_cases a : x = y <;> by_cases b : r = t <;> simp [a, b]
theorem noMix_dat {x y : V} (hx : isFlat x = true) (hy : isFlat y = true) (h : mixV x y = true) : SeqAt.noMix (datV x) (datV y) = true := by
  cases x <;> cases y <;> simp_all [isFlat, datV, SeqAt.noMix, mixV]
theorem noMixAll_dat : ∀ {xs ys : List V}, xs.all isFlat = true → ys.all isFlat = true → mixAll xs ys = true → SeqAt.noMixAll (xs.map datV) (ys.map datV) = true
  | [], [], _, _, _ => by simp [SeqAt.noMixAll]
  | [], _ :: _, _, _, _ => by simp [SeqAt.noMixAll]
  | _ :: _, [], _, _, _ => by simp [SeqAt.noMixAll]
  | x :: r, y :: t, hx, hy, h => by
    rw [List.all_cons, Bool.and_eq_true] at hx hy
    rw [mixAll, Bool.and_eq_true] at h
    rw [List.map_cons, List.map_cons, SeqAt.noMixAll, noMix_dat hx.1 hy.1 h.1, noMixAll_dat hx.2 hy.2 h.2]
    rfl
theorem shaped_dat {xs : List V} (h : xs.all isFlat = true) : SeqAt.shaped (.list (xs.map datV)) = true ∧ SeqAt.shaped (.tuple (xs.map datV)) = true := by
  have a : ∀ x, isFlat x = true → (datV x).canLay0 = true ∧ (datV x).depth = 0 := fun x => by cases x <;> simp [datV, PyData.canLay0, PyData.depth, isFlat]
  have l : ∀ ys : List V, ys.all isFlat = true → PyData.canLayAll0 (ys.map datV) = true ∧ PyData.depthAll (ys.map datV) = 0 := by
    intro ys
    induction ys with
    | nil => exact fun _ => ⟨rfl, rfl⟩
    | cons y r ih =>
      intro h
      rw [List.all_cons, Bool.and_eq_true] at h
      exact ⟨by rw [List.map_cons, PyData.canLayAll0, (a y h.1).1, (ih h.2).1]; rfl, by rw [List.map_cons, PyData.depthAll, (a y h.1).2, (ih h.2).2]; rfl⟩
  exact ⟨by simp [SeqAt.shaped, PyData.canLay0, PyData.depth, (l xs h).1, (l xs h).2], by simp [SeqAt.shaped, PyData.canLay0, PyData.depth, (l xs h).1, (l xs h).2]⟩
abbrev rEqL (K : PySem.W.Frag) (neg : Bool) : R2 := fun x y H Q => ∃ a b xs ys, x = .ref a ∧ y = .ref b ∧ SqL K H a xs ∧ SqL K H b ys ∧ (xs.all isFlat = true ∧ ys.all isFlat = true ∧ mixAll xs ys = true) ∧ Q (.bl (if neg then !decide (xs = ys) else decide (xs = ys))) H
section
variable {X : Cx}
theorem op_eqL (hu : X.A.units + 64 < cLine) : OpR X (compareOp .Eq) (rEqL X.K false) := by
  intro pins s σ H x y v u Q I rx ry h
  obtain ⟨a, b, xs, ys, rfl, rfl, ha, hb, ⟨f1, f2, f3⟩, q⟩ := h
  cases rx
  cases ry
  obtain ⟨us, r1, p1, _⟩ := I.list ha
  obtain ⟨ws, r2, p2, _⟩ := I.list hb
  refine eq_dataH_same (reads_newData p1.isList (carried_of f1 r1)) (reads_newData p2.isList (carried_of f2 r2)) (shaped_dat f1).1 (shaped_dat f2).1 hu (by rw [SeqAt.noMix]; exact noMixAll_dat f1 f2 f3) ?_
  rw [PySem.Spec.same, sameAll_dat f1 f2]
  exact ⟨.bl _, H, I, rfl, q⟩
abbrev rEqNil (K : PySem.W.Frag) : R2 := fun x y H Q => ∃ a b xs, x = .ref a ∧ y = .ref b ∧ SqL K H a xs ∧ SqL K H b [] ∧ Q (.bl (decide (xs = []))) H
theorem op_eqNil (hu : X.A.units + 64 < cLine) : OpR X (compareOp .Eq) (rEqNil X.K) := by
  intro pins s σ H x y v u Q I rx ry h
  obtain ⟨a, b, xs, rfl, rfl, ha, hb, q⟩ := h
  by_cases e : xs = []
  · subst e
    exact op_eqL hu pins s σ H _ _ v u Q I rx ry ⟨a, b, [], [], rfl, rfl, ha, hb, ⟨rfl, rfl, rfl⟩, q⟩
  · cases rx
    cases ry
    obtain ⟨us, r1, p1, _⟩ := I.list ha
    obtain ⟨ws, r2, p2, _⟩ := I.list hb
    cases r2
    have e1 := r1.length
    have e2 : xs.length ≠ 0 := fun z => e (List.eq_nil_of_length_eq_zero z)
    refine PySem.SeqAt.eq_list_lengthsAt p1.isList p2.isList (by simp; intro z; rw [z] at e1; exact e2 e1) (by omega) ?_
    rw [decide_eq_false e] at q
    exact ⟨.bl false, H, I, rfl, q⟩
end
end L2

namespace L2
open PySem PySem.Spec PyProof.Rows
abbrev r_mt_append : RM := rAppend
abbrev r_mt_pop : RM := rPop
/-! ### terms, told with their parts ahead of their word -/
def jw : List V := [.str "plus", .str "minus", .str "times", .str "over", .str "rest", .str "under", .str "same"]
def isJ (v : V) : Bool := inV v jw
inductive Er where
  | nought | great | stuck
  deriving DecidableEq
def comeV (w : Str) (a b : Int) : Int :=
  if w = "plus" then a + b else if w = "minus" then a - b else if w = "times" then a * b else if w = "under" then (if a < b then 1 else 0) else if w = "same" then (if a = b then 1 else 0) else if w = "over" then a.fdiv b else a.fmod b
def isDiv (w : Str) : Prop := ¬ w = "plus" ∧ ¬ w = "minus" ∧ ¬ w = "times" ∧ ¬ w = "under" ∧ ¬ w = "same"
instance (w : Str) : Decidable (isDiv w) := by unfold isDiv; infer_instance
def joinE (w : Str) (a b : Int) : Except Er Int := if isDiv w ∧ b = 0 then .error .nought else if inW (comeV w a b) = true then .ok (comeV w a b) else .error .great
def wrth (kvs : List (Key × V)) : V → Int
  | .int i => i
  | .str x => (match valV kvs (.inr x) with | some (.int i) => i | _ => 0)
  | _ => 0
def stepE (kvs : List (Key × V)) (st : List Int) (v : V) : Except Er (List Int) :=
  if isJ v = true then (match v, st.reverse with | .str w, b :: a :: r => (match joinE w a b with | .ok c => .ok (r.reverse ++ [c]) | .error e => .error e) | _, _ => .error .stuck) else .ok (st ++ [wrth kvs v])
def runE (kvs : List (Key × V)) : List V → List Int → Except Er (List Int)
  | [], st => .ok st
  | v :: r, st => match stepE kvs st v with | .ok st' => runE kvs r st' | .error e => .error e
section
variable {kvs : List (Key × V)}
def Good (kvs : List (Key × V)) (ps : List V) (r : Except Er Int) : Prop := (∀ st, runE kvs ps st = match r with | .ok i => .ok (st ++ [i]) | .error e => .error e) ∧ r ≠ .error .stuck
end
def okPart (v : V) : Prop := (∃ i, v = .int i ∧ inW i = true) ∨ ∃ x : Str, v = .str x ∧ x.length ≤ 1000
def SlotsOk (kvs : List (Key × V)) : Prop := ∀ k v, valV kvs k = some v → ∃ i, v = .int i ∧ inW i = true
theorem wrth_inW {kvs : List (Key × V)} (h : SlotsOk kvs) {v : V} (hv : okPart v) : inW (wrth kvs v) = true := by
  rcases hv with ⟨i, rfl, hi⟩ | ⟨x, rfl, _⟩
  · exact hi
  · show inW (match valV kvs (.inr x) with | some (.int i) => i | _ => 0) = true
    cases e : valV kvs (.inr x) with
    | none => rfl
    | some u =>
      obtain ⟨i, rfl, hi⟩ := h _ _ e
      exact hi
end L2

namespace L2
open PySem PySem.Spec PyProof.Rows
/-! ### for x in reversed(list) -/
def Itv (K : PySem.W.Frag) (a : Addr) (xs : List V) : It := ⟨fun i H => i < xs.length ∧ SqL K H a xs, fun i H x H' => H' = H ∧ xs[xs.length - 1 - i]? = some x, fun i _ => xs.length ≤ i⟩
def iRev (K : PySem.W.Frag) (ta : TA) : TI := fun σ H R => ta σ H fun vs H1 => ∃ a xs, vs = [.ref a] ∧ SqL K H1 a xs ∧ R (Itv K a xs) H1
section
variable {X : Cx} {tg : Expr}
end
section
variable {σ : St} {H : Hp} {nx : St → Hp → Prop} {B : V → St → Hp → (St → Hp → Prop) → Prop}
end
end L2

namespace L2
open PySem PySem.Spec PyProof.Rows
abbrev cLst (K : PySem.W.Frag) : RC := fun xs H Q => ∃ p ys, xs = [.ref p] ∧ (SqL K H p ys ∨ SqT K H p ys) ∧ ∀ l, H l = none → Q (.ref l) (upd H l (.lst ys))
abbrev cMin : RC := fun xs H Q => ∃ i j, xs = [.int i, .int j] ∧ Q (.int (if j < i then j else i)) H
/-! ### names -/
def inL (c : Nat) : Bool := !(Builtin.Str.occurrences "abcdefghijklmnopqrstuvwxyz" ⟨#[c]⟩ 0 (Str.length "abcdefghijklmnopqrstuvwxyz") 1).isEmpty
def wl : List V := [.str "take", .str "give", .str "let", .str "say", .str "off", .str "if", .str "else", .str "end", .str "as"]
def isName (x : Str) : Bool := !(decide (x = "") || decide (6 < x.length)) && !(inV (.str x) jw || inV (.str x) wl) && x.cps.toList.all inL
/-! ### terms read: words as trees -/
def partW (w : Str) : Option V := if isName w = true then some (.str w) else if isNum w = true then some (.int (valOf w)) else none
inductive Tw where
  | leaf (w : Str) | node (w : Str) (a b : Tw)
def pre : Tw → List Str
  | .leaf w => [w]
  | .node w a b => w :: (pre a ++ pre b)
def wfT : Tw → Prop
  | .leaf w => isJ (.str w) = false
  | .node w a b => isJ (.str w) = true ∧ wfT a ∧ wfT b
def okT : Tw → Bool
  | .leaf w => (partW w).isSome
  | .node _ a b => okT a && okT b
def pvw (w : Str) : V := (partW w).getD (.str w)
def pst : Tw → List V
  | .leaf w => [pvw w]
  | .node w a b => pst a ++ pst b ++ [.str w]
def scanE : List Str → Nat → Option Nat
  | _, 0 => some 0
  | [], _ + 1 => none
  | w :: r, d + 1 => (scanE r (if isJ (.str w) = true then d + 2 else d)).map (· + 1)
/-- walked from the end; error true: a word that is no part -/
def stepR (st : List (List V)) (w : Str) : Except Bool (List (List V)) :=
  if isJ (.str w) = true then (match st.reverse with | a :: b :: r => .ok (r.reverse ++ [a ++ b ++ [.str w]]) | _ => .error false) else (match partW w with | some v => .ok (st ++ [[v]]) | none => .error true)
def runR : List Str → List (List V) → Except Bool (List (List V))
  | [], st => .ok st
  | w :: r, st => match stepR st w with | .ok st' => runR r st' | .error e => .error e
theorem runR_app : ∀ (p q : List Str) (st : List (List V)), runR (p ++ q) st = match runR p st with | .ok st' => runR q st' | .error e => .error e
  | [], q, st => rfl
  | v :: r, q, st => by
    show (match stepR st v with | .ok st' => runR (r ++ q) st' | .error e => .error e) = match (match stepR st v with | .ok st' => runR r st' | .error e => .error e) with | .ok st' => runR q st' | .error e => .error e
    cases stepR st v with
    | error e => rfl
    | ok st' => exact runR_app r q st'
/-! ### a text among the items -/
end L2

namespace L2
open PySem PySem.Spec PyProof.Rows
/-! ### dict(d); d != e of alike dicts of whole numbers -/
abbrev cDct : RC := fun xs H Q => ∃ a kvs, xs = [.ref a] ∧ H a = some (.dK kvs) ∧ ∀ p, H p = none → Q (.ref p) (upd H p (.dK kvs))
abbrev rNeD : R2 := fun x y H Q => ∃ a b kvs, x = .ref a ∧ y = .ref b ∧ H a = some (.dK kvs) ∧ H b = some (.dK kvs) ∧ (∀ p ∈ kvs, ∃ i, p.2 = V.int i) ∧ Q (.bl false) H
section
variable {X : Cx}
end
/-! ### names: letters, one to six -/
end L2

namespace L2
open PySem PySem.Spec PyProof.Rows
/-! ### zip of two tuples -/
section
variable {P : Program} {w : World} {A : Around} {E : Value → Shared → Prop} {s : Shared}
end
section
variable {P : Program} {w : World} {A : Around} {E : Value → Shared → Prop} {s : Shared}
end
section
variable {P : Program} {w : World} {A : Around} {E : Value → Shared → Prop} {s : Shared}
end
/-- zip of two tuples of one length: each turn tells a new pair -/
def Itz (K : PySem.W.Frag) (p q : Addr) (xs ys : List V) : It := ⟨fun i H => i < xs.length ∧ SqT K H p xs ∧ SqT K H q ys, fun i H x H' => ∃ T u v, x = .ref T ∧ H T = none ∧ H' = upd H T (.tup [u, v]) ∧ xs[i]? = some u ∧ ys[i]? = some v, fun i H => xs.length ≤ i ∧ SqT K H p xs ∧ SqT K H q ys⟩
def iZip (K : PySem.W.Frag) (ta : TA) : TI := fun σ H R => ta σ H fun vs H1 => ∃ p q xs ys, vs = [.ref p, .ref q] ∧ SqT K H1 p xs ∧ SqT K H1 q ys ∧ xs.length = ys.length ∧ R (Itz K p q xs ys) H1
section
variable {X : Cx}
end
section
variable {σ : St} {H : Hp} {nx : St → Hp → Prop} {B : V → St → Hp → (St → Hp → Prop) → Prop}
end
abbrev cTup (K : PySem.W.Frag) : RC := fun xs H Q => ∃ p ys, xs = [.ref p] ∧ ((SqL K H p ys ∧ ∀ l, H l = none → Q (.ref l) (upd H l (.tup ys))) ∨ (SqT K H p ys ∧ Q (.ref p) H))
/-! ### terms written: what is read of a tree's words is the tree again -/
def stepA (st : List (List V)) (v : V) : Option (List (List V)) := if isJ v = true then (match st.reverse with | b :: a :: r => some (r.reverse ++ [v :: (a ++ b)]) | _ => none) else some (st ++ [[v]])
def runA : List V → List (List V) → Option (List (List V))
  | [], st => some st
  | v :: r, st => (stepA st v).bind (runA r)
theorem runA_app : ∀ (p q : List V) (st : List (List V)), runA (p ++ q) st = (runA p st).bind (runA q)
  | [], q, st => rfl
  | v :: r, q, st => by
    show (stepA st v).bind (runA (r ++ q)) = ((stepA st v).bind (runA r)).bind (runA q)
    cases stepA st v with
    | none => rfl
    | some st' => exact runA_app r q st'
end L2

namespace L2
open PySem PySem.W PyProof.Rows
/-! ### the sort's tree of questions, answered by a strict order -/
section
variable {α β : Type} {lt : Nat → Nat → Bool} {n : Nat}
def kOk (lt : Nat → Nat → Bool) (n : Nat) : KasT α → (α → Prop) → Prop
  | .ret a, R => R a
  | .ask i j k, R => i < n ∧ j < n ∧ i ≠ j ∧ kOk lt n (k (lt i j)) R
theorem kOk_bind : ∀ {t : KasT α} {f : α → KasT β} {R : β → Prop}, kOk lt n t (fun a => kOk lt n (f a) R) → kOk lt n (t.bind f) R
  | .ret _, _, _, h => h
  | .ask _ _ _, _, _, h => ⟨h.1, h.2.1, h.2.2.1, kOk_bind h.2.2.2⟩
theorem kOk_mono : ∀ {t : KasT α} {R R' : α → Prop}, kOk lt n t R → (∀ a, R a → R' a) → kOk lt n t R'
  | .ret _, _, _, h, m => m _ h
  | .ask _ _ _, _, _, h, m => ⟨h.1, h.2.1, h.2.2.1, kOk_mono h.2.2.2 m⟩
structure SO (lt : Nat → Nat → Bool) (n : Nat) : Prop where
  irr : ∀ i, i < n → lt i i = false
  trans : ∀ i j k, i < n → j < n → k < n → lt i j = true → lt j k = true → lt i k = true
  tot : ∀ i j, i < n → j < n → i ≠ j → lt i j = false → lt j i = true
def PP (n : Nat) (p : Array Nat) : Prop := p.Perm (List.range n).toArray
def gt (p : Array Nat) (k : Nat) : Nat := p.getD k 0
theorem gt_eq {p : Array Nat} {k : Nat} (h : k < p.size) : p[k]? = some (gt p k) := by
  unfold gt
  rw [Array.getD_eq_getD_getElem?, Array.getElem?_eq_getElem h]
  rfl
theorem PP.size {p : Array Nat} (h : PP n p) : p.size = n := by
  have := h.size_eq
  simpa using this
theorem PP.blt {p : Array Nat} (h : PP n p) {k : Nat} (hk : k < n) : gt p k < n := by
  have hs := h.size
  have m : gt p k ∈ p := Array.mem_of_getElem? (gt_eq (by omega))
  have m2 : gt p k ∈ (List.range n).toArray := (Array.Perm.mem_iff h).mp m
  simpa using m2
theorem PP.inj {p : Array Nat} (h : PP n p) {i j : Nat} (hi : i < n) (hj : j < n) (e : gt p i = gt p j) : i = j := by
  have hs := h.size
  have nd : p.toList.Nodup := by
    have : p.toList.Perm (List.range n) := by
      have := Array.perm_iff_toList_perm.mp h
      simpa using this
    exact this.nodup_iff.mpr List.nodup_range
  have e1 := gt_eq (p := p) (k := i) (by omega)
  have e2 := gt_eq (p := p) (k := j) (by omega)
  rw [← e] at e2
  have e1' : p.toList[i]? = some (gt p i) := by simpa using e1
  have e2' : p.toList[j]? = some (gt p i) := by simpa using e2
  obtain ⟨a1, b1⟩ := List.getElem?_eq_some_iff.mp e1'
  obtain ⟨a2, b2⟩ := List.getElem?_eq_some_iff.mp e2'
  exact (List.getElem_inj nd).mp (b1.trans b2.symm)
def Rise (lt : Nat → Nat → Bool) (p : Array Nat) (m : Nat) : Prop := ∀ i j, i < j → j < m → lt (gt p i) (gt p j) = true
theorem place_ok (S : SO lt n) {p : Array Nat} (hp : PP n p) {k : Nat} (hk : k < n) (hr : Rise lt p k) : ∀ (f l r : Nat), l ≤ r → r ≤ k → r - l ≤ f → (∀ i, i < l → lt (gt p i) (gt p k) = true) → (∀ i, r ≤ i → i < k → lt (gt p k) (gt p i) = true) →
    kOk lt n (kas_place p k f l r) fun m => m ≤ k ∧ (∀ i, i < m → lt (gt p i) (gt p k) = true) ∧ ∀ i, m ≤ i → i < k → lt (gt p k) (gt p i) = true
  | 0, l, r, h1, h2, h3, h4, h5 => ⟨by omega, h4, fun i hi hik => h5 i (by omega) hik⟩
  | f + 1, l, r, h1, h2, h3, h4, h5 => by
    unfold kas_place
    by_cases c : l ≥ r
    · rw [if_pos c]
      exact ⟨by omega, h4, fun i hi hik => h5 i (by omega) hik⟩
    · rw [if_neg c]
      refine ⟨hp.blt (by omega), hp.blt (by omega), (fun z => by have := hp.inj (by omega) (by omega) z; omega), ?_⟩
      show kOk lt n (if lt (gt p k) (gt p ((l + r) / 2)) = true then _ else _) _
      by_cases d : lt (gt p k) (gt p ((l + r) / 2)) = true
      · rw [if_pos d]
        refine place_ok S hp hk hr f l ((l + r) / 2) (by omega) (by omega) (by omega) h4 fun i hi hik => ?_
        by_cases e : i = (l + r) / 2
        · rw [e]; exact d
        · exact S.trans _ _ _ (hp.blt (by omega)) (hp.blt (by omega)) (hp.blt (by omega)) d (hr _ i (by omega) hik)
      · rw [if_neg d]
        have up : lt (gt p ((l + r) / 2)) (gt p k) = true := S.tot _ _ (hp.blt (by omega)) (hp.blt (by omega)) (fun z => by have := hp.inj (by omega) (by omega) z; omega) (Bool.eq_false_iff.mpr d)
        refine place_ok S hp hk hr f ((l + r) / 2 + 1) r (by omega) (by omega) (by omega) (fun i hi => ?_) h5
        by_cases e : i = (l + r) / 2
        · rw [e]; exact up
        · exact S.trans _ _ _ (hp.blt (by omega)) (hp.blt (by omega)) (hp.blt (by omega)) (hr i _ (by omega) (by omega)) up
end
end L2

namespace L2
open PySem PySem.W PyProof.Rows
section
variable {P : Program} {w : World} {A : Around} {E : Value → Shared → Prop} {s : Shared}
end
end L2

namespace L2
open PySem PySem.W PyProof.Rows
def placeLt (a b : Str × Int) : Bool := if a.1 = b.1 then decide (a.2 < b.2) else decide (a.1.cps.toList < b.1.cps.toList)
section
variable {P : Program} {w : World} {A : Around} {E : Value → Shared → Prop} {s : Shared}
end
end L2

namespace L2
open PySem
/-! ### walking a dict's keys, whatever they are -/
section
variable {P : Program} {w : World} {A : Around} {E : Value → Shared → Prop} {s : Shared}
end
end L2

namespace L2
open PySem PySem.Spec PyProof.Rows
section
open PySem.SeqAt
open PySem.AutoSeq1 (wpAny_loadPart')
open PySem.MeetsSeq PySem.MeetsSeq2 PySem.MeetsSeq3
end
end L2

namespace L2
open PySem PySem.Spec PyProof.Rows
section
variable {P : Program} {w : World} {A : Around} {E : Value → Shared → Prop} {s : Shared}
end
end L2

namespace L2
open PySem PySem.Spec PyProof.Rows
def plKey (q : Str × Int) : List Key := [.inr q.1, .inl q.2]
abbrev cSrtD : RC := fun xs H Q => ∃ (a : Addr) (kvs : List (List Key × V)) (qs : List (Str × Int)), xs = [.ref a] ∧ H a = some (.dT kvs) ∧ kvs.map (·.1) = qs.map plKey ∧ kvs.length < 64 ∧
  ∀ (l : Addr) (ps : List (Addr × (Str × Int))), H l = none → (ps.map (·.2)).Perm qs → (ps.map (·.2)).Pairwise (fun a b => placeLt a b = true) → (∀ n ∈ ps, H n.1 = some (.tup [.str n.2.1, .int n.2.2])) → Q (.ref l) (upd H l (.lst (ps.map fun n => V.ref n.1)))
theorem paired_get {α β : Type} {F : α → β → Prop} : ∀ {l₁ : List α} {l₂ : List β}, Paired F l₁ l₂ → ∀ {i : Nat} {a : α} {b : β}, l₁[i]? = some a → l₂[i]? = some b → F a b
  | _, _, .nil, i, a, b, h, _ => by simp at h
  | _, _, .cons x r, 0, a, b, h1, h2 => by
    simp only [List.getElem?_cons_zero, Option.some.injEq] at h1 h2
    subst h1 h2
    exact x
  | _, _, .cons x r, i + 1, a, b, h1, h2 => paired_get r (by simpa using h1) (by simpa using h2)
section
variable {X : Cx}
end
end L2

namespace L2
open PySem PySem.Spec PyProof.Rows
/-! ### walking the keys of a dict of tuples: the dict is frozen while the loop walks it -/
def Itd (a : Addr) (o : Obj) (kvs : List (List Key × V)) : It :=
  ⟨fun i H => H a = some (.frz o (.dT kvs)) ∧ i < kvs.length, fun i H x H' => H' = H ∧ ∃ k v p, kvs[i]? = some (k, v) ∧ x = .ref p ∧ H p = some (.tup (k.map kV)), fun i H => H a = some (.frz o (.dT kvs)) ∧ kvs.length ≤ i⟩
section
variable {X : Cx}
def iDT (tl : TE) : TI := fun σ H R => tl σ H fun x H1 => ∃ a o kvs, x = .ref a ∧ H1 a = some (.frz o (.dT kvs)) ∧ R (Itd a o kvs) H1
/-! ### frozen and thawed -/
end
section
variable {σ : St} {H : Hp} {nx : St → Hp → Prop} {B : V → St → Hp → (St → Hp → Prop) → Prop}
end
end L2

namespace L2
open PySem PySem.Spec PyProof.Rows
/-! ### values that hold others: what they are all through -/
mutual
inductive Dat (K : PySem.W.Frag) (H : Hp) : V → PyData → Prop
  | non : Dat K H .non .none
  | bl (b : Bool) : Dat K H (.bl b) (.bool b)
  | int (i : Int) : Dat K H (.int i) (.int i)
  | str (x : Str) : Dat K H (.str x) (.str x)
  | lst {a : Addr} {xs : List V} {ds : List PyData} : SqL K H a xs → DatAll K H xs ds → Dat K H (.ref a) (.list ds)
  | tup {a : Addr} {xs : List V} {ds : List PyData} : SqT K H a xs → DatAll K H xs ds → Dat K H (.ref a) (.tuple ds)
inductive DatAll (K : PySem.W.Frag) (H : Hp) : List V → List PyData → Prop
  | nil : DatAll K H [] []
  | cons {x : V} {d : PyData} {xs : List V} {ds : List PyData} : Dat K H x d → DatAll K H xs ds → DatAll K H (x :: xs) (d :: ds)
end
section
variable {X : Cx} {pins : List (Addr × Obj)} {σ : St} {H : Hp} {s : Shared}
mutual
theorem Dat.reads (I : Inv X pins σ H s) : ∀ {x : V} {d : PyData} {u : Value}, Dat X.K H x d → RelV x u → ∃ as, Reads s.heap u d as
  | _, _, _, .non, r => by cases r; exact ⟨_, .none⟩
  | _, _, _, .bl b, r => by cases r; exact ⟨_, .bool b⟩
  | _, _, _, .int i, r => by obtain ⟨t, rfl⟩ := r; exact ⟨_, .int i t⟩
  | _, _, _, .str x, r => by obtain ⟨t, rfl⟩ := r; exact ⟨_, .str x t⟩
  | _, _, _, .lst hq ha, r => by
    cases r
    obtain ⟨its, rv, ⟨o, n, e, c, _, d⟩, _⟩ := I.list hq
    obtain ⟨as, ra⟩ := DatAll.reads I ha rv
    exact ⟨_, .list e c d (by simpa using ra)⟩
  | _, _, _, .tup hq ha, r => by
    cases r
    obtain ⟨its, rv, ⟨o, e, c, n, d⟩, _⟩ := I.tuple hq
    obtain ⟨as, ra⟩ := DatAll.reads I ha rv
    exact ⟨_, .tuple e c d (by simpa using ra)⟩
theorem DatAll.reads (I : Inv X pins σ H s) : ∀ {xs : List V} {ds : List PyData} {us : List Value}, DatAll X.K H xs ds → Vals xs us → ∃ as, ReadsAll s.heap us ds as
  | _, _, _, .nil, r => by cases r; exact ⟨_, .nil⟩
  | _, _, _, .cons hx ht, r => by
    cases r with
    | cons r1 rr =>
      obtain ⟨as, ra⟩ := Dat.reads I hx r1
      obtain ⟨bs, rb⟩ := DatAll.reads I ht rr
      exact ⟨_, .cons ra rb⟩
end
end
section
variable {K : PySem.W.Frag} {H H' : Hp}
theorem SqL.mono {a : Addr} {xs : List V} (k : Same H H') (h : SqL K H a xs) : SqL K H' a xs := by
  rcases h with (h | ⟨o, h⟩) | h
  · exact .inl (.inl (k _ _ h))
  · exact .inl (.inr ⟨o, k _ _ h⟩)
  · exact .inr h
end
section
variable {X : Cx} {pins : List (Addr × Obj)} {σ : St} {H : Hp} {s : Shared}
end
mutual
def plainD : PyData → Bool
  | .none => true
  | .int _ => true
  | .str x => PyData.strOk x
  | .list xs => plainDs xs
  | .tuple xs => plainDs xs
  | .bool _ => false
  | .dict _ => false
def plainDs : List PyData → Bool
  | [] => true
  | x :: xs => plainD x && plainDs xs
end
mutual
theorem plain_lay : ∀ {d : PyData}, plainD d = true → d.canLay0 = true
  | .none, _ => by simp [PyData.canLay0]
  | .int _, _ => by simp [PyData.canLay0]
  | .str x, h => by simpa [PyData.canLay0, plainD] using h
  | .list xs, h => by rw [PyData.canLay0]; exact plains_lay (by simpa [plainD] using h)
  | .tuple xs, h => by rw [PyData.canLay0]; exact plains_lay (by simpa [plainD] using h)
  | .bool _, h => by simp [plainD] at h
  | .dict _, h => by simp [plainD] at h
theorem plains_lay : ∀ {ds : List PyData}, plainDs ds = true → PyData.canLayAll0 ds = true
  | [], _ => by simp [PyData.canLayAll0]
  | x :: xs, h => by
    rw [plainDs, Bool.and_eq_true] at h
    rw [PyData.canLayAll0, plain_lay h.1, plains_lay h.2]; rfl
end
mutual
theorem plain_eqv : ∀ {d e : PyData}, plainD d = true → plainD e = true → (PyData.eqv d e = true ↔ d = e)
  | .list xs, .list ys, h, h' => by
    rw [PyData.eqv, plains_eqv (by simpa [plainD] using h) (by simpa [plainD] using h'), PyData.list.injEq]
  | .tuple xs, .tuple ys, h, h' => by
    rw [PyData.eqv, plains_eqv (by simpa [plainD] using h) (by simpa [plainD] using h'), PyData.tuple.injEq]
  | .bool _, _, h, _ => by simp [plainD] at h
  | .dict _, _, h, _ => by simp [plainD] at h
  | .none, .bool _, _, h => by simp [plainD] at h
  | .int _, .bool _, _, h => by simp [plainD] at h
  | .str _, .bool _, _, h => by simp [plainD] at h
  | .list _, .bool _, _, h => by simp [plainD] at h
  | .tuple _, .bool _, _, h => by simp [plainD] at h
  | .none, .dict _, _, h => by simp [plainD] at h
  | .int _, .dict _, _, h => by simp [plainD] at h
  | .str _, .dict _, _, h => by simp [plainD] at h
  | .list _, .dict _, _, h => by simp [plainD] at h
  | .tuple _, .dict _, _, h => by simp [plainD] at h
  | .none, .none, _, _ | .none, .int _, _, _ | .none, .str _, _, _ | .none, .list _, _, _ | .none, .tuple _, _, _ => by simp [PyData.eqv]
  | .int _, .none, _, _ | .int _, .int _, _, _ | .int _, .str _, _, _ | .int _, .list _, _, _ | .int _, .tuple _, _, _ => by simp [PyData.eqv]
  | .str _, .none, _, _ | .str _, .int _, _, _ | .str _, .str _, _, _ | .str _, .list _, _, _ | .str _, .tuple _, _, _ => by simp [PyData.eqv]
  | .list _, .none, _, _ | .list _, .int _, _, _ | .list _, .str _, _, _ | .list _, .tuple _, _, _ => by simp [PyData.eqv]
  | .tuple _, .none, _, _ | .tuple _, .int _, _, _ | .tuple _, .str _, _, _ | .tuple _, .list _, _, _ => by simp [PyData.eqv]
theorem plains_eqv : ∀ {xs ys : List PyData}, plainDs xs = true → plainDs ys = true → (PyData.eqvAll xs ys = true ↔ xs = ys)
  | [], [], _, _ => by simp [PyData.eqvAll]
  | [], _ :: _, _, _ => by simp [PyData.eqvAll]
  | _ :: _, [], _, _ => by simp [PyData.eqvAll]
  | x :: xs, y :: ys, h, h' => by
    rw [plainDs, Bool.and_eq_true] at h h'
    rw [PyData.eqvAll, Bool.and_eq_true, plain_eqv h.1 h'.1, plains_eqv h.2 h'.2, List.cons.injEq]
end
/-- both read whole: ne tells whether they differ -/
abbrev rEqD (K : PySem.W.Frag) (neg : Bool) : R2 := fun x y H Q => ∃ d e, Dat K H x d ∧ Dat K H y e ∧ (plainD d = true ∧ plainD e = true ∧ d.depth ≤ 64 ∧ e.depth ≤ 64) ∧ ∀ b : Bool, (b = true ↔ d = e) → Q (.bl (if neg then !b else b)) H
section
variable {X : Cx}
theorem shaped_plain {d : PyData} (h : plainD d = true) (h' : d.depth ≤ 64) : SeqAt.shaped d = true := by
  unfold SeqAt.shaped
  rw [plain_lay h, decide_eq_true h']; rfl
theorem op_neAll (hu : X.A.units + 64 < cLine) : OpR X (compareOp .NotEq) (rEqD X.K true) := by
  intro pins s σ H x y v u Q I rx ry h
  obtain ⟨d, e, hd, he, ⟨p1, p2, l1, l2⟩, q⟩ := h
  obtain ⟨as, ra⟩ := hd.reads I rx
  obtain ⟨bs, rb⟩ := he.reads I ry
  exact ne_dataH ra rb (shaped_plain p1 l1) (shaped_plain p2 l2) hu ⟨.bl _, H, I, rfl, q _ (plain_eqv p1 p2)⟩
end
end L2

namespace L2
open PySem PySem.Spec PyProof.Rows
abbrev rGtS : R2 := fun x y H Q => ∃ i j, x = .str i ∧ y = .str j ∧ Q (.bl (decide (j.cps.toList < i.cps.toList))) H
abbrev rInD (neg : Bool) : R2 := fun x y H Q => ∃ a o, y = .ref a ∧ DGet H a x o ∧ Q (.bl (if neg then !o.isSome else o.isSome)) H
section
variable {X : Cx}
end
end L2

namespace L2
open PySem
/-! ### tables: what the last row of each place tells -/
abbrev Pl := Str × Int
abbrev Row := Pl × Int
def lastW : List Row → Pl → Option Int
  | [], _ => none
  | r :: t, p => (lastW t p).or (if r.1 = p then some r.2 else none)
def dStep (kvs : List (List Key × V)) (q : Row) : List (List Key × V) := putK kvs (plKey q.1) (.int q.2)
def dOf (rows : List Row) : List (List Key × V) := rows.foldl dStep []
/-- strictly rising by place -/
def Rising (l : List Row) : Prop := l.Pairwise fun a b => placeLt a.1 b.1 = true
def IsTab (rows out : List Row) : Prop := Rising out ∧ ∀ p w, (p, w) ∈ out ↔ lastW rows p = some w ∧ w ≠ 0
theorem last_none {p : Pl} : ∀ {l : List Row}, (∀ r ∈ l, r.1 ≠ p) → lastW l p = none
  | [], _ => rfl
  | r :: t, h => by
    rw [lastW, last_none fun r hr => h r (List.mem_cons_of_mem _ hr), if_neg (h r List.mem_cons_self)]; rfl
end L2

namespace L2
open PySem PySem.Spec PyProof.Rows
/-! ### zip of two lists -/
def Itzl (K : PySem.W.Frag) (p q : Addr) (xs ys : List V) : It := ⟨fun i H => i < xs.length ∧ SqL K H p xs ∧ SqL K H q ys, fun i H x H' => ∃ T u v, x = .ref T ∧ H T = none ∧ H' = upd H T (.tup [u, v]) ∧ xs[i]? = some u ∧ ys[i]? = some v, fun i H => xs.length ≤ i ∧ SqL K H p xs ∧ SqL K H q ys⟩
def iZipL (K : PySem.W.Frag) (ta : TA) : TI := fun σ H R => ta σ H fun vs H1 => ∃ p q xs ys, vs = [.ref p, .ref q] ∧ SqL K H1 p xs ∧ SqL K H1 q ys ∧ xs.length = ys.length ∧ R (Itzl K p q xs ys) H1
section
variable {X : Cx}
end
section
variable {σ : St} {H : Hp} {nx : St → Hp → Prop} {B : V → St → Hp → (St → Hp → Prop) → Prop}
end
end L2

namespace L2
open PySem PySem.Spec PyProof.Rows
/-! ### dict(list of pairs), the keys places -/
section
variable {X : Cx} {A : Around} {R : Result → Shared → Prop}
/-- a row of the list -/
def PrAt (H : Hp) (v : V) (q : Row) : Prop := ∃ r p, v = .ref r ∧ H r = some (.tup [.ref p, .int q.2]) ∧ H p = some (.tup [.str q.1.1, .int q.1.2])
end
end L2

namespace L2
open PySem PySem.Spec PyProof.Rows
section
variable {prog : Program} {w : World} {A : Around} {E : Value → Shared → Prop} {s : Shared} {a : Addr} {o : Obj} {xs : Array Value} {k : Nat}
end
abbrev cDctP : RC := fun vs H Q => ∃ (a : Addr) (xs : List V) (rows : List Row), vs = [.ref a] ∧ H a = some (.lst xs) ∧ Paired (PrAt H) xs rows ∧ rows.length ≤ 1000 ∧ ∀ p, H p = none → Q (.ref p) (upd H p (.dT (dOf rows)))
section
variable {X : Cx}
end
end L2

namespace L2
open PySem PySem.Spec PyProof.Rows
/-! ### a method of an instance that may raise, within a try -/
section
variable {X : Cx} {k : Nat} {f C : Addr} {fd : FuncData} {ps : List Str} {sp : Sp} {m : Str} {pos apos : Pos} {e o : Expr} {es : List Expr} {ta : TE} {t : TA}
def tMethX (C : Addr) (m : Str) (sp : Sp) (ta : TE) (t : TA) (EX : EXK) : TE := fun σ H Q => ta σ H fun x H1 => ∃ a dx fs, x = .ref a ∧ H1 a = some (.ins C dx fs) ∧ fs.lookup m = none ∧
  t σ H1 fun vs H2 => sp (x :: (vs ++ [])) H2 Q fun cls _ H3 => EX cls σ H3
end
/-! ### try, except C: .. except D: .., without names -/
def tTryN (K : PySem.W.Frag) (tb : EXK → TS) (C1 : Addr) (th1 : TS) : TS := fun D σ H => tb (fun cls σ1 H1 => ∃ C, cls = .ref C ∧ PySem.W.exmOne K (.ref C) (.ref C1) = some true ∧ th1 D σ1 H1) D σ H
def tTryNN (K : PySem.W.Frag) (tb : EXK → TS) (C1 : Addr) (th1 : TS) (C2 : Addr) (th2 : TS) : TS := fun D σ H => tb (fun cls σ1 H1 => ∃ C, cls = .ref C ∧
  ((PySem.W.exmOne K (.ref C) (.ref C1) = some true ∧ th1 D σ1 H1) ∨ (PySem.W.exmOne K (.ref C) (.ref C1) = some false ∧ PySem.W.exmOne K (.ref C) (.ref C2) = some true ∧ th2 D σ1 H1))) D σ H
section
variable {X : Cx} {st b₀ b₁ : Stmt} {suite suite1 : List Stmt} {tb : EXK → TS} {th1 th2 : TS} {c1 c2 : Str} {C1 C2 : Addr} {np hpos np2 hpos2 pos : Pos}
end
/-! ### a def that is called within an except suite -/
section
variable {X : Cx} {k : Nat} {f : Addr} {fd : FuncData} {ps : List Str} {sp : Sp} {x : Str} {p pos : Pos} {e : Expr} {es : List Expr} {t : TA}
end
end L2

namespace L2
open PySem
/-! ### dealings done: their rows, and what becomes of them -/
def rk (kvs : List (Key × V)) (ps : List V) : Except Er Int := match runE kvs ps [] with
  | .ok [i] => .ok i
  | .ok _ => .error .stuck
  | .error e => .error e
theorem step_inW {kvs : List (Key × V)} (hs : SlotsOk kvs) {v : V} (hv : okPart v) {st st' : List Int} (h : ∀ x ∈ st, inW x = true) (e : stepE kvs st v = .ok st') : ∀ x ∈ st', inW x = true := by
  unfold stepE at e
  split at e
  · split at e
    · rename_i w b a r hr hj
      unfold joinE at e
      by_cases c1 : isDiv w ∧ b = 0
      · rw [if_pos c1] at e; cases e
      · rw [if_neg c1] at e
        by_cases c2 : inW (comeV w a b) = true
        · rw [if_pos c2] at e
          cases e
          intro x hx
          rcases List.mem_append.mp hx with hx | hx
          · refine h x (List.mem_reverse.mp ?_)
            rw [hr]
            exact List.mem_cons_of_mem _ (List.mem_cons_of_mem _ (List.mem_reverse.mp hx))
          · rw [List.mem_singleton.mp hx]; exact c2
        · rw [if_neg c2] at e; cases e
    · cases e
  · cases e
    intro x hx
    rcases List.mem_append.mp hx with hx | hx
    · exact h x hx
    · rw [List.mem_singleton.mp hx]; exact wrth_inW hs hv
theorem run_inW {kvs : List (Key × V)} (hs : SlotsOk kvs) : ∀ {ps : List V} {st st' : List Int}, (∀ v ∈ ps, okPart v) → (∀ x ∈ st, inW x = true) → runE kvs ps st = .ok st' → ∀ x ∈ st', inW x = true
  | [], st, st', _, h, e => by cases e; exact h
  | v :: r, st, st', hp, h, e => by
    unfold runE at e
    split at e
    · rename_i st1 e1
      exact run_inW hs (fun v hv => hp v (List.mem_cons_of_mem _ hv)) (step_inW hs (hp v List.mem_cons_self) h e1) e
    · cases e
/-- a term that comes to something, whatever the slots hold -/
def TermOk (e : List V) : Prop := (∀ kvs, ∃ r, Good kvs e r) ∧ (∀ v ∈ e, okPart v) ∧ e.length ≤ 1000
mutual
inductive Rw where
  | take (sh : Str) (e : List V) (sl : Str)
  | give (sh : Str) (e f : List V)
  | lt (sl : Str) (e : List V)
  | say (e : List V)
  | off (e : List V)
  | iff (e : List V) (a b : Rws)
inductive Rws where
  | nil
  | cons (r : Rw) (rs : Rws)
end
set_option genSizeOf false in
set_option genInjectivity false in
structure Sta where
  sl : List (Key × V)
  wo : List Row
  sa : List Int
inductive Res where
  | go (s : Sta)
  | off
  | er (e : Er)
mutual
def goR : Rw → Sta → Res
  | .take sh e sl, s => match rk s.sl e with
    | .ok n => .go { s with sl := putK s.sl (.inr sl) (.int ((lastW s.wo (sh, n)).getD 0)) }
    | .error x => .er x
  | .give sh e f, s => match rk s.sl e with
    | .ok n => (match rk s.sl f with
      | .ok w => .go { s with wo := s.wo ++ [((sh, n), w)] }
      | .error x => .er x)
    | .error x => .er x
  | .lt sl e, s => match rk s.sl e with
    | .ok n => .go { s with sl := putK s.sl (.inr sl) (.int n) }
    | .error x => .er x
  | .say e, s => match rk s.sl e with
    | .ok n => .go { s with sa := s.sa ++ [n] }
    | .error x => .er x
  | .off e, s => match rk s.sl e with
    | .ok n => if n = 0 then .go s else .off
    | .error x => .er x
  | .iff e a b, s => match rk s.sl e with
    | .ok n => if n = 0 then goRs b s else goRs a s
    | .error x => .er x
def goRs : Rws → Sta → Res
  | .nil, s => .go s
  | .cons r rs, s => match goR r s with
    | .go s' => goRs rs s'
    | x => x
end
mutual
/-- a row as it stands in the heap, all its things at addresses with F -/
def RwAt (F : Addr → Prop) (H : Hp) (v : V) : Rw → Prop
  | .take sh e sl => ∃ r te, v = .ref r ∧ F r ∧ F te ∧ H r = some (.tup [.str "take", .str sh, .ref te, .str sl]) ∧ H te = some (.tup e)
  | .give sh e f => ∃ r te tf, v = .ref r ∧ F r ∧ F te ∧ F tf ∧ H r = some (.tup [.str "give", .str sh, .ref te, .ref tf]) ∧ H te = some (.tup e) ∧ H tf = some (.tup f)
  | .lt sl e => ∃ r te, v = .ref r ∧ F r ∧ F te ∧ H r = some (.tup [.str "let", .str sl, .ref te]) ∧ H te = some (.tup e)
  | .say e => ∃ r te, v = .ref r ∧ F r ∧ F te ∧ H r = some (.tup [.str "say", .ref te]) ∧ H te = some (.tup e)
  | .off e => ∃ r te, v = .ref r ∧ F r ∧ F te ∧ H r = some (.tup [.str "off", .ref te]) ∧ H te = some (.tup e)
  | .iff e a b => ∃ r te la lb xs ys, v = .ref r ∧ F r ∧ F te ∧ F la ∧ F lb ∧ H r = some (.tup [.str "if", .ref te, .ref la, .ref lb]) ∧ H te = some (.tup e) ∧ H la = some (.lst xs) ∧ RwsAt F H xs a ∧ H lb = some (.lst ys) ∧ RwsAt F H ys b
def RwsAt (F : Addr → Prop) (H : Hp) (vs : List V) : Rws → Prop
  | .nil => vs = []
  | .cons r rs => ∃ v ws, vs = v :: ws ∧ RwAt F H v r ∧ RwsAt F H ws rs
end
mutual
theorem RwAt.to_ {F G : Addr → Prop} {H H' : Hp} (g : ∀ b o, F b → H b = some o → G b) (s : ∀ b o, F b → H b = some o → H' b = some o) : ∀ {v : V} (r : Rw), RwAt F H v r → RwAt G H' v r
  | v, .take sh e sl, h => by
    unfold RwAt at h ⊢
    obtain ⟨r, te, e1, f1, f2, e2, e3⟩ := h
    exact ⟨r, te, e1, g _ _ f1 e2, g _ _ f2 e3, s _ _ f1 e2, s _ _ f2 e3⟩
  | v, .give sh e f, h => by
    unfold RwAt at h ⊢
    obtain ⟨r, te, tf, e1, f1, f2, f3, e2, e3, e4⟩ := h
    exact ⟨r, te, tf, e1, g _ _ f1 e2, g _ _ f2 e3, g _ _ f3 e4, s _ _ f1 e2, s _ _ f2 e3, s _ _ f3 e4⟩
  | v, .lt sl e, h => by
    unfold RwAt at h ⊢
    obtain ⟨r, te, e1, f1, f2, e2, e3⟩ := h
    exact ⟨r, te, e1, g _ _ f1 e2, g _ _ f2 e3, s _ _ f1 e2, s _ _ f2 e3⟩
  | v, .say e, h => by
    unfold RwAt at h ⊢
    obtain ⟨r, te, e1, f1, f2, e2, e3⟩ := h
    exact ⟨r, te, e1, g _ _ f1 e2, g _ _ f2 e3, s _ _ f1 e2, s _ _ f2 e3⟩
  | v, .off e, h => by
    unfold RwAt at h ⊢
    obtain ⟨r, te, e1, f1, f2, e2, e3⟩ := h
    exact ⟨r, te, e1, g _ _ f1 e2, g _ _ f2 e3, s _ _ f1 e2, s _ _ f2 e3⟩
  | v, .iff e a b, h => by
    unfold RwAt at h ⊢
    obtain ⟨r, te, la, lb, xs, ys, e1, f1, f2, f3, f4, e2, e3, e4, e5, e6, e7⟩ := h
    exact ⟨r, te, la, lb, xs, ys, e1, g _ _ f1 e2, g _ _ f2 e3, g _ _ f3 e4, g _ _ f4 e6, s _ _ f1 e2, s _ _ f2 e3, s _ _ f3 e4, RwsAt.to_ g s a e5, s _ _ f4 e6, RwsAt.to_ g s b e7⟩
theorem RwsAt.to_ {F G : Addr → Prop} {H H' : Hp} (g : ∀ b o, F b → H b = some o → G b) (s : ∀ b o, F b → H b = some o → H' b = some o) : ∀ {vs : List V} (r : Rws), RwsAt F H vs r → RwsAt G H' vs r
  | vs, .nil, h => by
    unfold RwsAt at h ⊢
    exact h
  | vs, .cons r rs, h => by
    unfold RwsAt at h ⊢
    obtain ⟨v, ws, e1, e2, e3⟩ := h
    exact ⟨v, ws, e1, RwAt.to_ g s r e2, RwsAt.to_ g s rs e3⟩
end
theorem RwAt.to {F G : Addr → Prop} {H H' : Hp} {v : V} (r : Rw) (g : ∀ b o, F b → H b = some o → G b) (s : ∀ b o, F b → H b = some o → H' b = some o) (h : RwAt F H v r) : RwAt G H' v r := RwAt.to_ g s r h
theorem RwsAt.to {F G : Addr → Prop} {H H' : Hp} {vs : List V} (r : Rws) (g : ∀ b o, F b → H b = some o → G b) (s : ∀ b o, F b → H b = some o → H' b = some o) (h : RwsAt F H vs r) : RwsAt G H' vs r := RwsAt.to_ g s r h
theorem RwAt.mono {F : Addr → Prop} {H H' : Hp} (s : Same H H') {v : V} {r : Rw} (h : RwAt F H v r) : RwAt F H' v r := h.to r (fun _ _ f _ => f) (fun b o _ e => s b o e)
theorem RwsAt.mono {F : Addr → Prop} {H H' : Hp} (s : Same H H') {vs : List V} {r : Rws} (h : RwsAt F H vs r) : RwsAt F H' vs r := h.to r (fun _ _ f _ => f) (fun b o _ e => s b o e)
/-- a list of rows -/
def RlAt (F : Addr → Prop) (H : Hp) (v : V) (r : Rws) : Prop := ∃ a xs, v = .ref a ∧ F a ∧ H a = some (.lst xs) ∧ RwsAt F H xs r
theorem RlAt.to {F G : Addr → Prop} {H H' : Hp} (g : ∀ b o, F b → H b = some o → G b) (s : ∀ b o, F b → H b = some o → H' b = some o) {v : V} {r : Rws} (h : RlAt F H v r) : RlAt G H' v r := by
  obtain ⟨a, xs, e, f, e1, e2⟩ := h
  exact ⟨a, xs, e, g _ _ f e1, s _ _ f e1, RwsAt.to r g s e2⟩
theorem RlAt.mono {F : Addr → Prop} {H H' : Hp} (s : Same H H') {v : V} {r : Rws} (h : RlAt F H v r) : RlAt F H' v r := h.to (fun _ _ f _ => f) fun b o _ e => s b o e
abbrev anyA : Addr → Prop := fun _ => True
theorem RlAt.any {F : Addr → Prop} {H : Hp} {v : V} {r : Rws} (h : RlAt F H v r) : RlAt anyA H v r := h.to (fun _ _ _ _ => trivial) fun b o _ e => e
mutual
def RwOk : Rw → Prop
  | .take _ e _ => TermOk e
  | .give _ e f => TermOk e ∧ TermOk f
  | .lt _ e => TermOk e
  | .say e => TermOk e
  | .off e => TermOk e
  | .iff e a b => TermOk e ∧ RwsOk a ∧ RwsOk b
def RwsOk : Rws → Prop
  | .nil => True
  | .cons r rs => RwOk r ∧ RwsOk rs
end
mutual
def Rw.deep : Rw → Nat
  | .iff _ a b => max a.deep b.deep + 1
  | _ => 0
def Rws.deep : Rws → Nat
  | .nil => 0
  | .cons r rs => max r.deep rs.deep
end
mutual
def Rw.cnt : Rw → Nat
  | .iff _ a b => max a.cnt b.cnt + 1
  | _ => 1
def Rws.cnt : Rws → Nat
  | .nil => 0
  | .cons r rs => r.cnt + rs.cnt
end
end L2

namespace L2
open PySem
/-! ### walking a dict's pairs, whatever the keys are -/
section
variable {P : Program} {w : World} {A : Around} {E : Value → Shared → Prop} {s : Shared}
end
end L2

namespace L2
open PySem PySem.Spec PyProof.Rows
/-! ### d.items(), and list of it -/
def viewO (r d : Addr) : HO := .ext fun h => h.IsItemsView r d
def tItems (td : TE) : TE := fun σ H Q => td σ H fun x H1 => ∃ d kvs, x = .ref d ∧ H1 d = some (.dT kvs) ∧ ∀ r, H1 r = none → Q (.ref r) (upd H1 r (viewO r d))
section
variable {X : Cx} {o : Expr} {apos cpos : Pos} {td : TE}
end
/-- a pair of the list that is made -/
def KvAt (H : Hp) (v : V) (kv : List Key × V) : Prop := ∃ r p, v = .ref r ∧ H r = some (.tup [.ref p, kv.2]) ∧ H p = some (.tup (kv.1.map kV))
section
variable {X : Cx} {A : Around} {R : Result → Shared → Prop}
end
end L2

namespace L2
open PySem PySem.Spec PyProof.Rows
abbrev cLstI : RC := fun vs H Q => ∃ r d kvs, vs = [.ref r] ∧ H r = some (viewO r d) ∧ H d = some (.dT kvs) ∧ kvs.length ≤ 1000 ∧ ∀ l ys H', Same H H' → H l = none → H' l = some (.lst ys) → Paired (KvAt H') ys kvs → Q (.ref l) H'
section
variable {X : Cx}
end
end L2

namespace L2
open PySem PySem.Spec PyProof.Rows PySem.W
/-! ### sorted(d.items()) -/
section
variable {X : Cx}
end
section
variable {P : Program} {w : World} {A : Around} {E : Value → Shared → Prop} {s : Shared}
end
end L2

namespace L2
open PySem PySem.Spec PyProof.Rows PySem.W
def d0 : Row := (("", 0), 0)
abbrev cSrtI : RC := fun vs H Q => ∃ r d rows, vs = [.ref r] ∧ H r = some (viewO r d) ∧ H d = some (.dT (dOf rows)) ∧ (dOf rows).length < 64 ∧
  ∀ l ys srt H', Same H H' → H l = none → H' l = some (.lst ys) → Paired (PrAt H') ys srt → Rising srt → (∀ p w, (p, w) ∈ srt ↔ lastW rows p = some w) → Q (.ref l) H'
section
variable {X : Cx}
end
end L2

namespace L2
open PySem PySem.Spec PyProof.Rows
/-! ### range(i, j, c), c above 0 -/
def Itr3 (lo c : Int) (n : Nat) : It := ⟨fun i _ => i < n, fun i H x H' => H' = H ∧ x = .int (lo + i * c), fun i _ => n ≤ i⟩
theorem turn_range3 {P : Program} {w : World} {K : PySem.W.Frag} {tg : Expr} (it : Addr) (lo c : Int) (n : Nat) : Turn P w K tg (Itr3 lo c n) [it] it (fun i h => IsRangeIter h it (lo + (i : Nat) * c) ((n : Int) - (i : Nat)) c) where
  mem := by simp
  obj := fun i h st b hb => by
    have e : b = it := by simpa using hb
    subst e
    refine ⟨_, st, fun v z => ?_⟩
    have z' : Data.fields _ = Data.cell v := z
    cases z'
  keep := fun i h h' st k => k it (by simp) _ st
  item := by
    intro X hP hw hK hc i pins s σ H E I hf st hg; subst hP hw hK
    obtain ⟨f0, f1, f2, f3, f4, f5⟩ := hf it (by simp)
    refine (Walks.range (prog := X.prog) (w := X.w) (I.ok.hd hc) it lo c n).item i s _ _ hg st fun v h' tk hv st' kk => ?_
    obtain ⟨t, rfl⟩ := hv
    have I1 : Inv X pins σ H { s with heap := h', toks := tk } := I.turned (fun b o hb e => kk b o (by simpa using hb) e) f0 f1 f3 f4 f5
    exact ⟨_, rfl, go_of (s := { s with heap := h', toks := tk }) (n := "range_iterator") st' rfl rfl (by decide) ⟨.int (lo + i * c), H, I1, ⟨t, rfl⟩, ⟨rfl, rfl⟩, st', fun b hb => (hf b hb).1⟩⟩
  done := by
    intro X hP hw hK hc i pins s σ H E I hf st hg; subst hP hw hK
    obtain ⟨f0, f1, f2, f3, f4, f5⟩ := hf it (by simp)
    exact wpAny_pyNext_range_end (I.ok.hd hc) st (by have : n ≤ i := hg; omega) fun h' eb => ⟨rfl, I.turned (t' := s.toks) (fun b o hb e => eb b o hb e) f0 f1 f3 f4 f5⟩
  self := fun _ _ _ _ _ st h => wpAny_pyIter_rangeiter st h
def cntR (i j c : Int) : Nat := if i < j then ((j - i - 1) / c + 1).toNat else 0
def iRng3 (ta : TA) : TI := fun σ H R => ta σ H fun vs H1 => ∃ i j c : Int, vs = [.int i, .int j, .int c] ∧ (0 ≤ i ∧ i < 1073741824 ∧ 0 ≤ j ∧ j < 1073741824 ∧ 0 < c ∧ c < 1073741824) ∧ R (Itr3 i c (cntR i j c)) H1
section
variable {X : Cx} {tg : Expr}
theorem pi_range3 {a b c : Expr} {ta : TA} {p pos : Pos} (hg : Gl X "range") (hm : X.mg "range" = none) (ha : PA X [a, b, c] ta) (hs : starEach [a, b, c] X.env = [(false, eval a X.env), (false, eval b X.env), (false, eval c X.env)] := by rfl) (hs2 : starEach [b, c] X.env = [(false, eval b X.env), (false, eval c X.env)] := by rfl) :
    PI X tg (.Call (.Name "range" p) [a, b, c] [] pos) (iRng3 ta) := by
  intro pins s σ H R I h
  refine Call_ (ld_blt I hg hm boot_range (PyProof.Rows.callWith_type1 (thn (ha pos pins s σ H _ I h) fun us s1 ⟨vs, H1, I1, r1, q1⟩ => ?_) (by rw [hs, hs2]) (by rw [hs2]; rfl)))
  obtain ⟨i, j, c, e, ⟨q1, q2, q3, q4, q5, q6⟩, q⟩ := q1
  subst e
  cases r1 with
  | cons r rr =>
    cases rr with
    | cons r' rr =>
      cases rr with
      | cons r'' rr =>
        cases rr
        obtain ⟨t, rfl⟩ := r
        obtain ⟨t', rfl⟩ := r'
        obtain ⟨t'', rfl⟩ := r''
        refine call_range_3 (by omega) ?_ (.inl (PyProof.noPylong_small (by omega)))
        have hz : Builtin.Range.rangeSize i j c = (cntR i j c : Int) := by
          unfold Builtin.Range.rangeSize cntR
          rw [if_pos q5]
          split
          · rename_i h
            have := Int.ediv_nonneg (a := j - i - 1) (b := c) (by omega) (by omega)
            omega
          · rfl
        have hb : (cntR i j c : Int) ≤ 1073741824 ∧ (cntR i j c : Int) * c ≤ 2147483648 := by
          unfold cntR
          split
          · rename_i h
            have h1 := Int.ediv_nonneg (a := j - i - 1) (b := c) (by omega) (by omega)
            have h2 := Int.ediv_le_self (a := j - i - 1) c (by omega)
            have h3 := Int.ediv_mul_le (j - i - 1) (b := c) (by omega)
            rw [Int.toNat_of_nonneg (by omega), Int.add_mul]
            omega
          · simp
        generalize cntR i j c = n at *
        have sm : Builtin.Range.small i j c = true := by
          unfold Builtin.Range.small
          rw [hz]
          simp only [Builtin.Range.rangeFitsLong, Bool.and_eq_true, Bool.or_eq_true, decide_eq_true_eq, beq_iff_eq, show c > 0 from q5, if_true]
          omega
        refine wpAny_pyIter_range (IsRange.new ..) sm ?_
        rw [hz]
        have I2 : Inv X pins σ H1 { s1 with heap := s1.heap.push { cls := .type "range", data := .fields #[.int i t, .int j t', .int c t''] }, toks := s1.toks } := I1.kept fun b o e => Heap.get?_push_of_some _ e
        refine ⟨(s1.heap.push { cls := .type "range", data := .fields #[.int i t, .int j t', .int c t''] }).objs.size, [(s1.heap.push { cls := .type "range", data := .fields #[.int i t, .int j t', .int c t''] }).objs.size], _, _, H1, rfl, I2.kept (t' := s1.toks) fun b o e => Heap.get?_push_of_some _ e, turn_range3 _ i c n, ?_, fun b hb => ?_, q⟩
        · show IsRangeIter _ _ (i + ((0 : Nat) : Int) * c) ((n : Int) - ((0 : Nat) : Int)) c
          rw [show i + ((0 : Nat) : Int) * c = i by simp, show (n : Int) - ((0 : Nat) : Int) = n by simp]
          exact Heap.get?_push_size _ rfl
        · have e : b = (s1.heap.push { cls := .type "range", data := .fields #[.int i t, .int j t', .int c t''] }).objs.size := by simpa using hb
          subst e
          exact I2.fpOk (Nat.le_refl _) (I2.hok.fresh (Nat.le_refl _))
end
end L2

namespace L2
open PySem
/-! ### dealings done: what stays true, and what comes out -/
structure StOk (n : Nat) (s : Sta) : Prop where
  so : SlotsOk s.sl
  wo : ∀ r ∈ s.wo, inW r.2 = true
  l1 : s.sl.length ≤ n
  l2 : s.wo.length ≤ n
  l3 : s.sa.length ≤ n
theorem StOk.mono {n m : Nat} {s : Sta} (h : StOk n s) (l : n ≤ m) : StOk m s := ⟨h.so, h.wo, Nat.le_trans h.l1 l, Nat.le_trans h.l2 l, Nat.le_trans h.l3 l⟩
theorem last_in {P : Row → Prop} {p : Pl} {w : Int} : ∀ {l : List Row}, (∀ r ∈ l, P r) → lastW l p = some w → P (p, w)
  | [], _, h => by cases h
  | r :: t, hp, h => by
    rw [lastW] at h
    cases e : lastW t p with
    | some w' =>
      rw [e] at h
      have : w' = w := by simpa using h
      subst this
      exact last_in (fun r hr => hp r (List.mem_cons_of_mem _ hr)) e
    | none =>
      rw [e] at h
      by_cases c : r.1 = p
      · rw [if_pos c] at h
        have : r.2 = w := by simpa using h
        rw [← c, ← this]; exact hp r List.mem_cons_self
      · rw [if_neg c] at h; cases h
/-! a place that a dealing may give to -/
mutual
def RwIn (P : Pl → Prop) : Rw → Prop
  | .give sh e _ => ∀ kvs n, rk kvs e = .ok n → P (sh, n)
  | .iff _ a b => RwsIn P a ∧ RwsIn P b
  | _ => True
def RwsIn (P : Pl → Prop) : Rws → Prop
  | .nil => True
  | .cons r rs => RwIn P r ∧ RwsIn P rs
end
inductive Oc where
  | done (sa : List Int)
  | off (why : Str)
def whyOf : Er → Str
  | .great => "great"
  | _ => "nought"
def AloneR (rws : Rws) (tab : List Row) (oc : Oc) (out : List Row) : Prop := match goRs rws ⟨[], tab, []⟩ with
  | .go s => oc = .done s.sa ∧ IsTab s.wo out
  | .off => oc = .off "told" ∧ out = tab
  | .er e => oc = .off (whyOf e) ∧ out = tab
inductive SeqR : List Rws → List Row → List Oc → List Row → Prop
  | nil {tab : List Row} : SeqR [] tab [] tab
  | cons {d : Rws} {ds : List Rws} {tab mid out : List Row} {oc : Oc} {ocs : List Oc} : AloneR d tab oc mid → SeqR ds mid ocs out → SeqR (d :: ds) tab (oc :: ocs) out
/-! ### rows as data -/
def partD : V → PyData
  | .int i => .int i
  | .str x => .str x
  | _ => .none
def plV (v : V) : Prop := (∃ i, v = .int i) ∨ ∃ x, v = .str x ∧ PyData.strOk x = true
def termD (e : List V) : PyData := .tuple (e.map partD)
mutual
def rwD : Rw → PyData
  | .take sh e sl => .tuple [.str "take", .str sh, termD e, .str sl]
  | .give sh e f => .tuple [.str "give", .str sh, termD e, termD f]
  | .lt sl e => .tuple [.str "let", .str sl, termD e]
  | .say e => .tuple [.str "say", termD e]
  | .off e => .tuple [.str "off", termD e]
  | .iff e a b => .tuple [.str "if", termD e, .list (rwsD a), .list (rwsD b)]
def rwsD : Rws → List PyData
  | .nil => []
  | .cons r rs => rwD r :: rwsD rs
end
def tmP (e : List V) : Prop := ∀ v ∈ e, plV v
mutual
def RwPl : Rw → Prop
  | .take sh e sl => PyData.strOk sh = true ∧ tmP e ∧ PyData.strOk sl = true
  | .give sh e f => PyData.strOk sh = true ∧ tmP e ∧ tmP f
  | .lt sl e => PyData.strOk sl = true ∧ tmP e
  | .say e => tmP e
  | .off e => tmP e
  | .iff e a b => tmP e ∧ RwsPl a ∧ RwsPl b
def RwsPl : Rws → Prop
  | .nil => True
  | .cons r rs => RwPl r ∧ RwsPl rs
end
section
variable {K : PySem.W.Frag} {H : Hp} {F : Addr → Prop}
theorem part_dat {v : V} (h : plV v) : Dat K H v (partD v) := by
  rcases h with ⟨i, rfl⟩ | ⟨x, rfl, _⟩
  · exact .int i
  · exact .str x
theorem parts_dat : ∀ {e : List V}, tmP e → DatAll K H e (e.map partD)
  | [], _ => .nil
  | v :: r, h => .cons (part_dat (h v List.mem_cons_self)) (parts_dat fun u hu => h u (List.mem_cons_of_mem _ hu))
theorem term_dat {a : Addr} {e : List V} (h : H a = some (.tup e)) (p : tmP e) : Dat K H (.ref a) (termD e) := .tup (SqT.of h) (parts_dat p)
mutual
theorem rw_dat : ∀ (r : Rw) {v : V}, RwAt F H v r → RwPl r → Dat K H v (rwD r)
  | .take sh e sl, v, h, p => by
    unfold RwAt at h
    unfold RwPl at p
    obtain ⟨r, te, rfl, f1, f2, e2, e3⟩ := h
    rw [rwD]
    exact .tup (SqT.of e2) (.cons (.str _) (.cons (.str _) (.cons (term_dat e3 p.2.1) (.cons (.str _) .nil))))
  | .give sh e f, v, h, p => by
    unfold RwAt at h
    unfold RwPl at p
    obtain ⟨r, te, tf, rfl, f1, f2, f3, e2, e3, e4⟩ := h
    rw [rwD]
    exact .tup (SqT.of e2) (.cons (.str _) (.cons (.str _) (.cons (term_dat e3 p.2.1) (.cons (term_dat e4 p.2.2) .nil))))
  | .lt sl e, v, h, p => by
    unfold RwAt at h
    unfold RwPl at p
    obtain ⟨r, te, rfl, f1, f2, e2, e3⟩ := h
    rw [rwD]
    exact .tup (SqT.of e2) (.cons (.str _) (.cons (.str _) (.cons (term_dat e3 p.2) .nil)))
  | .say e, v, h, p => by
    unfold RwAt at h
    unfold RwPl at p
    obtain ⟨r, te, rfl, f1, f2, e2, e3⟩ := h
    rw [rwD]
    exact .tup (SqT.of e2) (.cons (.str _) (.cons (term_dat e3 p) .nil))
  | .off e, v, h, p => by
    unfold RwAt at h
    unfold RwPl at p
    obtain ⟨r, te, rfl, f1, f2, e2, e3⟩ := h
    rw [rwD]
    exact .tup (SqT.of e2) (.cons (.str _) (.cons (term_dat e3 p) .nil))
  | .iff e a b, v, h, p => by
    unfold RwAt at h
    unfold RwPl at p
    obtain ⟨r, te, la, lb, xs, ys, rfl, f1, f2, f3, f4, e2, e3, e4, e5, e6, e7⟩ := h
    rw [rwD]
    exact .tup (SqT.of e2) (.cons (.str _) (.cons (term_dat e3 p.1) (.cons (.lst (SqL.of e4) (rws_dat a e5 p.2.1)) (.cons (.lst (SqL.of e6) (rws_dat b e7 p.2.2)) .nil))))
theorem rws_dat : ∀ (r : Rws) {vs : List V}, RwsAt F H vs r → RwsPl r → DatAll K H vs (rwsD r)
  | .nil, vs, h, p => by
    unfold RwsAt at h
    subst h
    rw [rwsD]; exact .nil
  | .cons r rs, vs, h, p => by
    unfold RwsAt at h
    unfold RwsPl at p
    obtain ⟨v, ws, rfl, e2, e3⟩ := h
    rw [rwsD]
    exact .cons (rw_dat r e2 p.1) (rws_dat rs e3 p.2)
end
theorem RlAt.dat {v : V} {r : Rws} (h : RlAt F H v r) (p : RwsPl r) : Dat K H v (.list (rwsD r)) := by
  obtain ⟨a, xs, rfl, f, e1, e2⟩ := h
  exact .lst (SqL.of e1) (rws_dat r e2 p)
end
theorem parts_plain : ∀ {e : List V}, tmP e → plainDs (e.map partD) = true
  | [], _ => by simp [plainDs]
  | v :: r, h => by
    rw [List.map_cons, plainDs, parts_plain fun u hu => h u (List.mem_cons_of_mem _ hu), Bool.and_true]
    rcases h v List.mem_cons_self with ⟨i, rfl⟩ | ⟨x, rfl, hx⟩
    · rw [partD, plainD]
    · rw [partD, plainD]; exact hx
theorem term_plain {e : List V} (h : tmP e) : plainD (termD e) = true := by rw [termD, plainD]; exact parts_plain h
theorem parts_deep : ∀ (e : List V), PyData.depthAll (e.map partD) = 0
  | [] => by simp [PyData.depthAll]
  | v :: r => by
    rw [List.map_cons, PyData.depthAll, parts_deep r]
    cases v <;> simp [partD, PyData.depth]
theorem term_deep (e : List V) : (termD e).depth ≤ 1 := by rw [termD, PyData.depth, parts_deep]; omega
theorem sok_take : PyData.strOk "take" = true := by decide +kernel
theorem sok_give : PyData.strOk "give" = true := by decide +kernel
theorem sok_let : PyData.strOk "let" = true := by decide +kernel
theorem sok_say : PyData.strOk "say" = true := by decide +kernel
theorem sok_off : PyData.strOk "off" = true := by decide +kernel
theorem sok_if : PyData.strOk "if" = true := by decide +kernel
mutual
theorem rw_plain : ∀ (r : Rw), RwPl r → plainD (rwD r) = true
  | .take sh e sl, p => by unfold RwPl at p; rw [rwD]; simp [plainD, plainDs, sok_take, term_plain p.2.1, p.1, p.2.2]
  | .give sh e f, p => by unfold RwPl at p; rw [rwD]; simp [plainD, plainDs, sok_give, term_plain p.2.1, p.1, term_plain p.2.2]
  | .lt sl e, p => by unfold RwPl at p; rw [rwD]; simp [plainD, plainDs, sok_let, term_plain p.2, p.1]
  | .say e, p => by unfold RwPl at p; rw [rwD]; simp [plainD, plainDs, sok_say, term_plain p]
  | .off e, p => by unfold RwPl at p; rw [rwD]; simp [plainD, plainDs, sok_off, term_plain p]
  | .iff e a b, p => by unfold RwPl at p; rw [rwD]; simp [plainD, plainDs, sok_if, term_plain p.1, rws_plain a p.2.1, rws_plain b p.2.2]
theorem rws_plain : ∀ (r : Rws), RwsPl r → plainDs (rwsD r) = true
  | .nil, _ => by rw [rwsD, plainDs]
  | .cons r rs, p => by unfold RwsPl at p; rw [rwsD, plainDs, rw_plain r p.1, rws_plain rs p.2]; rfl
end
mutual
theorem rw_deep : ∀ (r : Rw), (rwD r).depth ≤ 2 * r.deep + 2
  | .take sh e sl => by have := term_deep e; rw [rwD]; simp [PyData.depth, PyData.depthAll]; omega
  | .give sh e f => by have := term_deep e; have := term_deep f; rw [rwD]; simp [PyData.depth, PyData.depthAll]; omega
  | .lt sl e => by have := term_deep e; rw [rwD]; simp [PyData.depth, PyData.depthAll]; omega
  | .say e => by have := term_deep e; rw [rwD]; simp [PyData.depth, PyData.depthAll]; omega
  | .off e => by have := term_deep e; rw [rwD]; simp [PyData.depth, PyData.depthAll]; omega
  | .iff e a b => by
    have := term_deep e
    have h1 := rws_deep a
    have h2 := rws_deep b
    have c : (Rw.iff e a b).deep = max a.deep b.deep + 1 := by rw [Rw.deep]
    rw [rwD, c]; simp [PyData.depth, PyData.depthAll]; omega
theorem rws_deep : ∀ (r : Rws), PyData.depthAll (rwsD r) ≤ 2 * r.deep + 2
  | .nil => by rw [rwsD]; simp [PyData.depthAll]
  | .cons r rs => by
    have h1 := rw_deep r
    have h2 := rws_deep rs
    have c : (Rws.cons r rs).deep = max r.deep rs.deep := by rw [Rws.deep]
    rw [rwsD, c, PyData.depthAll]; omega
end
/-! ### rows, one more behind -/
def Rws.snoc : Rws → Rw → Rws
  | .nil, x => .cons x .nil
  | .cons r rs, x => .cons r (rs.snoc x)
def Rws.app : Rws → Rws → Rws
  | .nil, x => x
  | .cons r rs, x => .cons r (rs.app x)
theorem Rws.snoc_app : ∀ (a : Rws) (r : Rw) (b : Rws), (a.snoc r).app b = a.app (.cons r b)
  | .nil, r, b => rfl
  | .cons x a, r, b => by
    show Rws.cons x ((a.snoc r).app b) = Rws.cons x (a.app (.cons r b))
    rw [Rws.snoc_app a]
theorem Rws.app_nil : ∀ (a : Rws), a.app .nil = a
  | .nil => rfl
  | .cons x a => by
    show Rws.cons x (a.app .nil) = Rws.cons x a
    rw [Rws.app_nil a]
theorem RwsAt.snoc {F : Addr → Prop} {H : Hp} {v : V} {x : Rw} (hx : RwAt F H v x) : ∀ (r : Rws) {vs : List V}, RwsAt F H vs r → RwsAt F H (vs ++ [v]) (r.snoc x)
  | .nil, vs, h => by
    unfold RwsAt at h
    subst h
    show RwsAt F H [v] (.cons x .nil)
    unfold RwsAt
    exact ⟨v, [], rfl, hx, by unfold RwsAt; rfl⟩
  | .cons r rs, vs, h => by
    unfold RwsAt at h
    obtain ⟨u, ws, rfl, e2, e3⟩ := h
    show RwsAt F H (u :: (ws ++ [v])) (.cons r (rs.snoc x))
    unfold RwsAt
    exact ⟨u, ws ++ [v], rfl, e2, RwsAt.snoc hx rs e3⟩
theorem RwsAt.len {F : Addr → Prop} {H : Hp} : ∀ (r : Rws) {vs : List V}, RwsAt F H vs r → vs.length ≤ r.cnt
  | .nil, vs, h => by
    unfold RwsAt at h
    subst h
    exact Nat.zero_le _
  | .cons r rs, vs, h => by
    unfold RwsAt at h
    obtain ⟨u, ws, rfl, e2, e3⟩ := h
    have := RwsAt.len rs e3
    have c : (Rws.cons r rs).cnt = r.cnt + rs.cnt := by rw [Rws.cnt]
    have : 1 ≤ r.cnt := by cases r <;> simp [Rw.cnt]
    rw [c, List.length_cons]; omega
theorem RwsAt.get {F : Addr → Prop} {H : Hp} : ∀ {r : Rws} {vs : List V} {i : Nat} {v : V}, RwsAt F H (vs.drop i) r → vs[i]? = some v → ∃ x rs, r = .cons x rs ∧ RwAt F H v x ∧ RwsAt F H (vs.drop (i + 1)) rs
  | .nil, vs, i, v, h, e => by
    unfold RwsAt at h
    have := (List.getElem?_eq_some_iff.mp e).1
    have := congrArg List.length h
    rw [List.length_drop] at this
    simp at this
    omega
  | .cons x rs, vs, i, v, h, e => by
    unfold RwsAt at h
    obtain ⟨u, ws, e1, e2, e3⟩ := h
    have hi := (List.getElem?_eq_some_iff.mp e).1
    have d := List.drop_eq_getElem_cons hi
    rw [e1] at d
    have e4 : vs[i] = v := (List.getElem?_eq_some_iff.mp e).2
    rw [e4] at d
    injection d with d1 d2
    subst d1 d2
    exact ⟨x, rs, rfl, e2, e3⟩
theorem RwsAt.none {F : Addr → Prop} {H : Hp} {r : Rws} {vs : List V} (h : RwsAt F H (vs.drop vs.length) r) : r = .nil := by
  rw [List.drop_length] at h
  cases r with
  | nil => rfl
  | cons x rs =>
    unfold RwsAt at h
    obtain ⟨_, _, e, _⟩ := h
    cases e
theorem snoc_pl {x : Rw} (hx : RwPl x) : ∀ (r : Rws), RwsPl r → RwsPl (r.snoc x)
  | .nil, _ => by show RwsPl (.cons x .nil); unfold RwsPl; exact ⟨hx, by unfold RwsPl; trivial⟩
  | .cons y r, h => by
    unfold RwsPl at h
    show RwsPl (.cons y (r.snoc x))
    unfold RwsPl
    exact ⟨h.1, snoc_pl hx r h.2⟩
theorem snoc_deep (x : Rw) : ∀ (r : Rws), (r.snoc x).deep = max r.deep x.deep
  | .nil => by show (Rws.cons x .nil).deep = _; simp [Rws.deep]
  | .cons y r => by
    show (Rws.cons y (r.snoc x)).deep = _
    rw [Rws.deep, Rws.deep, snoc_deep x r]; exact (Nat.max_assoc _ _ _).symm
/-! ### terms of one part, and of two -/
/-! ### pairs of lists -/
theorem Paired.snocP {α β : Type} {F : α → β → Prop} {x : α} {y : β} : ∀ {a : List α} {b : List β}, Paired F a b → F x y → Paired F (a ++ [x]) (b ++ [y])
  | _, _, .nil, h => .cons h .nil
  | _, _, .cons a r, h => .cons a (Paired.snocP r h)
theorem RwAt.up {F : Addr → Prop} {H1 : Hp} {R : Addr} {o : HO} {v : V} {r : Rw} (h : RwAt F H1 v r) (hF : ∀ b, F b → b ≠ R) : RwAt F (upd H1 R o) v r := h.to r (fun _ _ f _ => f) fun b u f e => by rw [upd_ne (hF b f)]; exact e
theorem RwsAt.up {F : Addr → Prop} {H1 : Hp} {R : Addr} {o : HO} {vs : List V} {r : Rws} (h : RwsAt F H1 vs r) (hF : ∀ b, F b → b ≠ R) : RwsAt F (upd H1 R o) vs r := h.to r (fun _ _ f _ => f) fun b u f e => by rw [upd_ne (hF b f)]; exact e
end L2

namespace L2
open PySem PySem.Spec PyProof.Rows
/-! ### split -/
abbrev r_mt_split : RM := fun x xs H Q => ∃ a b, x = .str a ∧ xs = [.str b] ∧ (b.length == 0) = false ∧ a.length ≤ 100000 ∧ (Txt.split a b).length ≤ 100000 ∧ ∀ l, H l = none → Q (.ref l) (upd H l (.lst ((Txt.split a b).map V.str)))
section
variable {X : Cx}
end
/-! ### enumerate of a list -/
def Itel (K : PySem.W.Frag) (p : Addr) (xs : List V) : It := ⟨fun i H => i < xs.length ∧ SqL K H p xs, fun i H x H' => ∃ T u, x = .ref T ∧ H T = none ∧ H' = upd H T (.tup [.int i, u]) ∧ xs[i]? = some u, fun i H => xs.length ≤ i ∧ SqL K H p xs⟩
def iEnm (K : PySem.W.Frag) (ta : TA) : TI := fun σ H R => ta σ H fun vs H1 => ∃ p xs, vs = [.ref p] ∧ SqL K H1 p xs ∧ R (Itel K p xs) H1
section
variable {X : Cx}
end
section
variable {σ : St} {H : Hp} {nx : St → Hp → Prop} {B : V → St → Hp → (St → Hp → Prop) → Prop}
end
end L2

namespace L2
open PySem PySem.Spec PyProof.Rows
/-! ### parts put together and parted again -/
theorem cut_eq {c : Nat} : ∀ {a b r s : List Nat}, c ∉ a → c ∉ b → a ++ c :: r = b ++ c :: s → a = b ∧ r = s
  | [], [], r, s, _, _, h => by simpa using h
  | [], y :: b, r, s, _, hb, h => by
    simp only [List.nil_append, List.cons_append, List.cons.injEq] at h
    exact absurd h.1 (fun z => hb (by rw [z]; exact List.mem_cons_self))
  | x :: a, [], r, s, ha, _, h => by
    simp only [List.nil_append, List.cons_append, List.cons.injEq] at h
    exact absurd h.1.symm (fun z => ha (by rw [z]; exact List.mem_cons_self))
  | x :: a, y :: b, r, s, ha, hb, h => by
    simp only [List.cons_append, List.cons.injEq] at h
    obtain ⟨e1, e2⟩ := cut_eq (fun z => ha (List.mem_cons_of_mem _ z)) (fun z => hb (List.mem_cons_of_mem _ z)) h.2
    exact ⟨by rw [h.1, e1], e2⟩
end L2

namespace L2
open PySem PySem.Spec PyProof.Rows
/-! ### isinstance(x, (T, U)) of built-in types -/
abbrev cIsiT (K : PySem.W.Frag) : RC := fun xs H Q => ∃ (x : V) (p : Addr) (t : Value) (Ts : List String) (b : Bool), xs = [x, .ref p] ∧ TyOf K H x t ∧ H p = some (.tup (Ts.map V.ty)) ∧ PySem.W.kitAny K t (Ts.map Value.type) = some b ∧ Q (.bl b) H
section
variable {X : Cx}
end
/-! ### l[-k] = v -/
section
variable {prog : Program} {w : World} {A : Around} {E : Value → Shared → Prop} {s : Shared}
theorem setItem_neg {l : Addr} {items : Array Value} {n : Nat} {k : Int} {t : Tok} {v : Value} {Q : Unit → Shared → Prop} (hl : s.heap.get? l = some { cls := .type "list", data := .seq items n })
    (h0 : k < 0) (h1 : -(items.size : Int) ≤ k) (hfit : -(2 ^ 63) ≤ k) (hQ : Q () { s with heap := s.heap.update l (Obj.mapSeq (·.setIfInBounds (k + items.size).toNat v)) }) :
    wpAny (model prog w) A (setItem (.ref l) (.int k t) v) Q E s := by
  have hL : s.heap.IsList l items := ⟨_, hl, rfl, n, rfl⟩
  unfold setItem
  try with_reducible refine wpAny_holding ?_
  first | refine wpAny_bind (wpAny_pure ?_) | skip
  refine wpAny_bind (wpAny_sequenceKey hL.typeIs (by decide) ?_)
  refine wpAny_bind (wpAny_callSpecial?_slot (name := Str.ofString "__setitem__") hL.typeIs slot_list_setitem
    (wpAny_call_entry slot_list_setitem hL.typeIs entry_list_setitem ?_ (args_list_setitem _ _ _)))
  show wpAny _ _ (Builtin.List.listSubscript? (.int k t) >>= _) _ _ s
  refine wpAny_bind (wpAny_listSubscript_int (fitsIndex_neg h0 hfit) ?_)
  clear hfit
  have hidx := seqIndex_neg h0 h1
  have hx : items[(k + items.size).toNat]? = some (items[(k + items.size).toNat]'(by omega)) := Array.getElem?_eq_getElem (by omega)
  obtain ⟨j, rfl⟩ : ∃ j : Nat, k = Int.negSucc j := by
    cases k with
    | ofNat n => exact absurd h0 (Int.not_lt.mpr (Int.ofNat_nonneg n))
    | negSucc n => exact ⟨n, rfl⟩
  show wpAny _ _ ((Builtin.List.listItems (.ref l) >>= fun xs => pure ((seqIndex? (Int.negSucc j) xs.size).bind fun i => xs[i]?.map (i, ·))) >>= _) _ _ s
  refine wpAny_bind (wpAny_bind ?_)
  show wpAny _ _ (seqItems? (.ref l) >>= _) _ _ s
  refine wpAny_bind (wpAny_seqItems hl rfl (wpAny_pure (wpAny_pure ?_)))
  rw [hidx]
  simp only [Option.bind_some, hx, Option.map_some]
  refine wpAny_bind (wpAny_setSeqItemAt hl rfl ?_)
  first
    | exact wpAny_bind (wpAny_pure (wpAny_pure ⟨.none, rfl, wpAny_pure hQ⟩))
    | exact wpAny_pure ⟨.none, rfl, wpAny_pure hQ⟩
theorem setItem_pos {l : Addr} {items : Array Value} {n j : Nat} {k : Int} {t : Tok} {v : Value} {Q : Unit → Shared → Prop} (hl : s.heap.get? l = some { cls := .type "list", data := .seq items n })
    (h0 : 0 ≤ k) (hfit : k < 2 ^ 63) (hkj : k.toNat = j) (hn : j < items.size) (hQ : Q () { s with heap := s.heap.update l (Obj.mapSeq (·.setIfInBounds j v)) }) :
    wpAny (model prog w) A (setItem (.ref l) (.int k t) v) Q E s := by
  have hL : s.heap.IsList l items := ⟨_, hl, rfl, n, rfl⟩
  unfold setItem
  try with_reducible refine wpAny_holding ?_
  first | refine wpAny_bind (wpAny_pure ?_) | skip
  refine wpAny_bind (wpAny_sequenceKey hL.typeIs (by decide) ?_)
  refine wpAny_bind (wpAny_callSpecial?_slot (name := Str.ofString "__setitem__") hL.typeIs slot_list_setitem
    (wpAny_call_entry slot_list_setitem hL.typeIs entry_list_setitem ?_ (args_list_setitem _ _ _)))
  show wpAny _ _ (Builtin.List.listSubscript? (.int k t) >>= _) _ _ s
  refine wpAny_bind (wpAny_listSubscript_int (fitsIndex_of h0 hfit) ?_)
  clear hfit
  obtain ⟨j', rfl⟩ := Int.eq_ofNat_of_zero_le h0
  have hkj : j' = j := hkj
  subst hkj
  have hx' : items[j']? = some items[j'] := Array.getElem?_eq_getElem hn
  show wpAny _ _ ((seqItemAt l j' >>= fun r => pure (r.map (j', ·))) >>= _) _ _ s
  refine wpAny_bind (wpAny_bind (wpAny_seqItemAt hl rfl (wpAny_pure ?_)))
  rw [hx']
  refine wpAny_bind (wpAny_setSeqItemAt hl rfl ?_)
  first
    | exact wpAny_bind (wpAny_pure (wpAny_pure ⟨.none, rfl, wpAny_pure hQ⟩))
    | exact wpAny_pure ⟨.none, rfl, wpAny_pure hQ⟩
end
def sLPut (td ty tv : TE) : TS := fun D σ H => tv σ H fun v H1 => td σ H1 fun x H2 => ty σ H2 fun y H3 => ∃ a xs i j, x = .ref a ∧ y = .int i ∧ H3 a = some (.lst xs) ∧ ixN xs.length i = some j ∧ (-1000 ≤ i ∧ i ≤ 1000) ∧ D.nx σ (upd H3 a (.lst (xs.set j v)))
theorem vals_set {v : V} {u : Value} (r : RelV v u) : ∀ {xs : List V} {us : List Value}, Vals xs us → ∀ j : Nat, Vals (xs.set j v) (us.set j u)
  | _, _, .nil, _ => .nil
  | _, _, .cons _ t, 0 => .cons r t
  | _, _, .cons a t, j + 1 => .cons a (vals_set r t j)
section
variable {X : Cx} {o i value : Expr} {pos pos' : Pos} {td ty tv : TE}
theorem ps_lput (ho : PE X o td) (hi : PE X i ty) (hv : PE X value tv) (hs : swapsWith value (some (.Subscript o i pos')) pos.line X.env = pure false) :
    PS X (.Assign [.Subscript o i pos'] value pos) (sLPut td ty tv) := by
  intro pins s σ H D I h
  refine wpAny_Assign_Subscript (thn (hv pins s σ H _ I h) fun r s1 ⟨v, H1, I1, rv, q1⟩ => thn (ho pins s1 σ H1 _ I1 q1) fun u s2 ⟨x, H2, I2, rx, q2⟩ => thn (hi pins s2 σ H2 _ I2 q2) fun iv s3 ⟨y, H3, I3, ry, a, xs, k, j, ex, ey, ea, hj, hk, q3⟩ => ?_) hs
  subst ex ey
  obtain rfl : u = Value.ref a := rx
  obtain ⟨t, rfl⟩ := ry
  obtain ⟨z, its, n, rl, hl, e⟩ := I3.lstM ea
  have fin : SP X pins D .next { s3 with heap := s3.heap.update a (Obj.mapSeq (·.setIfInBounds j r)) } := ⟨σ, _, I3.lset (its' := its.set j r) (t' := s3.toks) ea e (by simp) (vals_set rv rl _) (by rw [List.length_set]; exact z), q3⟩
  unfold ixN at hj
  by_cases h0 : 0 ≤ k
  · rw [if_pos h0] at hj
    split at hj
    · rename_i h1
      cases hj
      exact setItem_pos e h0 (by omega) rfl (by rw [List.size_toArray, ← hl]; omega) fin
    · cases hj
  · rw [if_neg h0] at hj
    split at hj
    · rename_i h1
      cases hj
      refine setItem_neg e (by omega) (by rw [List.size_toArray, ← hl]; exact h1) (by omega) ?_
      rw [List.size_toArray, ← hl]
      exact fin
    · cases hj
end
/-! ### a try whose body lets nothing out -/
section
variable {X : Cx} {st : Stmt} {hs : List ExceptHandler} {pos : Pos} {tb : TS}
end
end L2

namespace L2
open PySem PySem.Spec PyProof.Rows
/-! ### zip of two lists, or of two tuples -/
def iZipB (K : PySem.W.Frag) (ta : TA) : TI := fun σ H R => ta σ H fun vs H1 => ∃ p q xs ys, vs = [.ref p, .ref q] ∧ xs.length = ys.length ∧ ((SqL K H1 p xs ∧ SqL K H1 q ys ∧ R (Itzl K p q xs ys) H1) ∨ (SqT K H1 p xs ∧ SqT K H1 q ys ∧ R (Itz K p q xs ys) H1))
section
variable {X : Cx}
/-! ### l != [] -/
abbrev rNeNil (K : PySem.W.Frag) : R2 := fun x y H Q => ∃ a b xs, x = .ref a ∧ y = .ref b ∧ SqL K H a xs ∧ SqL K H b [] ∧ Q (.bl (!decide (xs = []))) H
end
/-! ### values in the heap, all through -/
mutual
inductive DatS (H : Hp) : V → PyData → Prop
  | int (i : Int) : DatS H (.int i) (.int i)
  | str (x : Str) : DatS H (.str x) (.str x)
  | lst {a : Addr} {xs : List V} {ds : List PyData} : H a = some (.lst xs) → DatSs H xs ds → DatS H (.ref a) (.list ds)
  | tup {a : Addr} {xs : List V} {ds : List PyData} : H a = some (.tup xs) → DatSs H xs ds → DatS H (.ref a) (.tuple ds)
inductive DatSs (H : Hp) : List V → List PyData → Prop
  | nil : DatSs H [] []
  | cons {x : V} {d : PyData} {xs : List V} {ds : List PyData} : DatS H x d → DatSs H xs ds → DatSs H (x :: xs) (d :: ds)
end
end L2

namespace L2
open PySem
end L2

namespace L2
open PySem
abbrev r_mt_extend : RM := rExtend
end L2

namespace K25
open PySem L2
def top (i : Nat) : Stmt := PySem.Challenge.pw_forerun_k25_steps_of_rows.main.body.getD i (.Pass ⟨0, 0, 0, 0⟩)
abbrev s__law_closed : Stmt := top 11
abbrev s__law_draw : Stmt := top 6
abbrev s__law_name : Stmt := top 7
abbrev s__law_part : Stmt := top 8
abbrev s__law_term : Stmt := top 9
abbrev s__law_row : Stmt := top 10
abbrev s__law_rows : Stmt := top 12
abbrev s__law_copied : Stmt := top 13
abbrev s_block_steps : Stmt := top 2
abbrev s_steps_of : Stmt := top 1
abbrev s_code_of : Stmt := top 3
abbrev s__law_cell_at : Stmt := top 5
abbrev s__law_number : Stmt := top 14
abbrev s__law_block : Stmt := top 15
abbrev s__law_follow : Stmt := top 16
abbrev s_law : Stmt := top 17
theorem sc__law_closed : FnScope ["frames", "frame"] ["frames"] (defScope s__law_closed) := ⟨rfl, rfl, rfl, by decide +kernel, rfl, by decide +kernel, by decide +kernel⟩
theorem sc__law_draw : FnScope ["cell", "j", "far"] ["cell", "j"] (defScope s__law_draw) := ⟨rfl, rfl, rfl, by decide +kernel, rfl, by decide +kernel, by decide +kernel⟩
theorem sc__law_name : FnScope ["cell", "j", "size", "signs", "name", "k"] ["cell", "j"] (defScope s__law_name) := ⟨rfl, rfl, rfl, by decide +kernel, rfl, by decide +kernel, by decide +kernel⟩
theorem sc__law_part : FnScope ["cell", "j", "way"] ["cell", "j"] (defScope s__law_part) := ⟨rfl, rfl, rfl, by decide +kernel, rfl, by decide +kernel, by decide +kernel⟩
theorem sc__law_term : FnScope ["cell", "j", "one", "words"] ["cell", "j"] (defScope s__law_term) := ⟨rfl, rfl, rfl, by decide +kernel, rfl, by decide +kernel, by decide +kernel⟩
theorem sc__law_row : FnScope ["cell", "kind"] ["cell"] (defScope s__law_row) := ⟨rfl, rfl, rfl, by decide +kernel, rfl, by decide +kernel, by decide +kernel⟩
theorem sc__law_rows : FnScope ["cells", "turn", "frames", "cell", "kind"] ["cells", "turn"] (defScope s__law_rows) := ⟨rfl, rfl, rfl, by decide +kernel, rfl, by decide +kernel, by decide +kernel⟩
theorem sc__law_copied : FnScope ["rows", "found", "row"] ["rows"] (defScope s__law_copied) := ⟨rfl, rfl, rfl, by decide +kernel, rfl, by decide +kernel, by decide +kernel⟩
theorem sc_block_steps : FnScope ["row", "at", "steps", "to", "others"] ["row", "at"] (defScope s_block_steps) := ⟨rfl, rfl, rfl, by decide +kernel, rfl, by decide +kernel, by decide +kernel⟩
theorem sc_steps_of : FnScope ["rows", "first", "steps", "row"] ["rows", "first"] (defScope s_steps_of) := ⟨rfl, rfl, rfl, by decide +kernel, rfl, by decide +kernel, by decide +kernel⟩
theorem sc_code_of : FnScope ["rows"] ["rows"] (defScope s_code_of) := ⟨rfl, rfl, rfl, by decide +kernel, rfl, by decide +kernel, by decide +kernel⟩
theorem sc__law_cell_at : FnScope ["script", "k"] ["script", "k"] (defScope s__law_cell_at) := ⟨rfl, rfl, rfl, by decide +kernel, rfl, by decide +kernel, by decide +kernel⟩
theorem sc__law_number : FnScope ["found"] ["found"] (defScope s__law_number) := ⟨rfl, rfl, rfl, by decide +kernel, rfl, by decide +kernel, by decide +kernel⟩
theorem sc__law_block : FnScope ["row", "code", "at", "skip", "behind", "go"] ["row", "code", "at"] (defScope s__law_block) := ⟨rfl, rfl, rfl, by decide +kernel, rfl, by decide +kernel, by decide +kernel⟩
theorem sc__law_follow : FnScope ["rows", "code", "at", "row"] ["rows", "code", "at"] (defScope s__law_follow) := ⟨rfl, rfl, rfl, by decide +kernel, rfl, by decide +kernel, by decide +kernel⟩
theorem sc_law : FnScope ["script", "many", "cells", "at", "rows", "handed", "code", "kept"] ["script"] (defScope s_law) := ⟨rfl, rfl, rfl, by decide +kernel, rfl, by decide +kernel, by decide +kernel⟩
set_option genSizeOf false in
set_option genInjectivity false in
structure Adr where
  a__law_closed : Addr
  d__law_closed : FuncData
  a__law_draw : Addr
  d__law_draw : FuncData
  a__law_name : Addr
  d__law_name : FuncData
  a__law_part : Addr
  d__law_part : FuncData
  a__law_term : Addr
  d__law_term : FuncData
  a__law_row : Addr
  d__law_row : FuncData
  a__law_rows : Addr
  d__law_rows : FuncData
  a__law_copied : Addr
  d__law_copied : FuncData
  a_block_steps : Addr
  d_block_steps : FuncData
  a_steps_of : Addr
  d_steps_of : FuncData
  a_code_of : Addr
  d_code_of : FuncData
  a__law_cell_at : Addr
  d__law_cell_at : FuncData
  a__law_number : Addr
  d__law_number : FuncData
  a__law_block : Addr
  d__law_block : FuncData
  a__law_follow : Addr
  d__law_follow : FuncData
  a_law : Addr
  d_law : FuncData
structure Txt (K : PySem.W.Frag) (mg : Str → Option Value) (t : Adr) : Prop where
  f__law_closed : Fun K "_law_closed" "_law_closed" s__law_closed t.a__law_closed t.d__law_closed
  b__law_closed : Binds K t.d__law_closed ["frames"] []
  m__law_closed : mg "_law_closed" = some (.ref t.a__law_closed)
  f__law_draw : Fun K "_law_draw" "_law_draw" s__law_draw t.a__law_draw t.d__law_draw
  b__law_draw : Binds K t.d__law_draw ["cell", "j"] []
  m__law_draw : mg "_law_draw" = some (.ref t.a__law_draw)
  f__law_name : Fun K "_law_name" "_law_name" s__law_name t.a__law_name t.d__law_name
  b__law_name : Binds K t.d__law_name ["cell", "j"] []
  m__law_name : mg "_law_name" = some (.ref t.a__law_name)
  f__law_part : Fun K "_law_part" "_law_part" s__law_part t.a__law_part t.d__law_part
  b__law_part : Binds K t.d__law_part ["cell", "j"] []
  m__law_part : mg "_law_part" = some (.ref t.a__law_part)
  f__law_term : Fun K "_law_term" "_law_term" s__law_term t.a__law_term t.d__law_term
  b__law_term : Binds K t.d__law_term ["cell", "j"] []
  m__law_term : mg "_law_term" = some (.ref t.a__law_term)
  f__law_row : Fun K "_law_row" "_law_row" s__law_row t.a__law_row t.d__law_row
  b__law_row : Binds K t.d__law_row ["cell"] []
  m__law_row : mg "_law_row" = some (.ref t.a__law_row)
  f__law_rows : Fun K "_law_rows" "_law_rows" s__law_rows t.a__law_rows t.d__law_rows
  b__law_rows : Binds K t.d__law_rows ["cells", "turn"] []
  m__law_rows : mg "_law_rows" = some (.ref t.a__law_rows)
  f__law_copied : Fun K "_law_copied" "_law_copied" s__law_copied t.a__law_copied t.d__law_copied
  b__law_copied : Binds K t.d__law_copied ["rows"] []
  m__law_copied : mg "_law_copied" = some (.ref t.a__law_copied)
  f_block_steps : Fun K "block_steps" "block_steps" s_block_steps t.a_block_steps t.d_block_steps
  b_block_steps : Binds K t.d_block_steps ["row", "at"] []
  m_block_steps : mg "block_steps" = some (.ref t.a_block_steps)
  f_steps_of : Fun K "steps_of" "steps_of" s_steps_of t.a_steps_of t.d_steps_of
  b_steps_of : Binds K t.d_steps_of ["rows", "first"] []
  m_steps_of : mg "steps_of" = some (.ref t.a_steps_of)
  f_code_of : Fun K "code_of" "code_of" s_code_of t.a_code_of t.d_code_of
  b_code_of : Binds K t.d_code_of ["rows"] []
  m_code_of : mg "code_of" = some (.ref t.a_code_of)
  f__law_cell_at : Fun K "_law_cell_at" "_law_cell_at" s__law_cell_at t.a__law_cell_at t.d__law_cell_at
  b__law_cell_at : Binds K t.d__law_cell_at ["script", "k"] []
  m__law_cell_at : mg "_law_cell_at" = some (.ref t.a__law_cell_at)
  f__law_number : Fun K "_law_number" "_law_number" s__law_number t.a__law_number t.d__law_number
  b__law_number : Binds K t.d__law_number ["found"] []
  m__law_number : mg "_law_number" = some (.ref t.a__law_number)
  f__law_block : Fun K "_law_block" "_law_block" s__law_block t.a__law_block t.d__law_block
  b__law_block : Binds K t.d__law_block ["row", "code", "at"] []
  m__law_block : mg "_law_block" = some (.ref t.a__law_block)
  f__law_follow : Fun K "_law_follow" "_law_follow" s__law_follow t.a__law_follow t.d__law_follow
  b__law_follow : Binds K t.d__law_follow ["rows", "code", "at"] []
  m__law_follow : mg "_law_follow" = some (.ref t.a__law_follow)
  f_law : Fun K "law" "law" s_law t.a_law t.d_law
  b_law : Binds K t.d_law ["script"] []
  m_law : mg "law" = some (.ref t.a_law)
  w_law : ∀ (s : Shared) (v : Value), BindsTo s t.d_law ⟨[v], []⟩ [("script", v)]
  b_bool : mg "bool" = none
  b_int : mg "int" = none
  b_isinstance : mg "isinstance" = none
  b_len : mg "len" = none
  b_list : mg "list" = none
  b_range : mg "range" = none
  b_tuple : mg "tuple" = none
theorem txt_mk {K : PySem.W.Frag} {h : Heap} {mg : Str → Option Value} (X : K.In h) (G : h.Ns mainGlobals mg)
    {f0 : Addr} {od0 an0 : Option Addr} {sl0 : Array (Option Value)} {oc0 kV0 dc0 pm0 cd0 ct0 : Value}
    {f1 : Addr} {od1 an1 : Option Addr} {sl1 : Array (Option Value)} {oc1 kV1 dc1 pm1 cd1 ct1 : Value}
    {f2 : Addr} {od2 an2 : Option Addr} {sl2 : Array (Option Value)} {oc2 kV2 dc2 pm2 cd2 ct2 : Value}
    {f3 : Addr} {od3 an3 : Option Addr} {sl3 : Array (Option Value)} {oc3 kV3 dc3 pm3 cd3 ct3 : Value}
    {f4 : Addr} {od4 an4 : Option Addr} {sl4 : Array (Option Value)} {oc4 kV4 dc4 pm4 cd4 ct4 : Value}
    {f5 : Addr} {od5 an5 : Option Addr} {sl5 : Array (Option Value)} {oc5 kV5 dc5 pm5 cd5 ct5 : Value}
    {f6 : Addr} {od6 an6 : Option Addr} {sl6 : Array (Option Value)} {oc6 kV6 dc6 pm6 cd6 ct6 : Value}
    {f7 : Addr} {od7 an7 : Option Addr} {sl7 : Array (Option Value)} {oc7 kV7 dc7 pm7 cd7 ct7 : Value}
    {f8 : Addr} {od8 an8 : Option Addr} {sl8 : Array (Option Value)} {oc8 kV8 dc8 pm8 cd8 ct8 : Value}
    {f9 : Addr} {od9 an9 : Option Addr} {sl9 : Array (Option Value)} {oc9 kV9 dc9 pm9 cd9 ct9 : Value}
    {f10 : Addr} {od10 an10 : Option Addr} {sl10 : Array (Option Value)} {oc10 kV10 dc10 pm10 cd10 ct10 : Value}
    {f11 : Addr} {od11 an11 : Option Addr} {sl11 : Array (Option Value)} {oc11 kV11 dc11 pm11 cd11 ct11 : Value}
    {f12 : Addr} {od12 an12 : Option Addr} {sl12 : Array (Option Value)} {oc12 kV12 dc12 pm12 cd12 ct12 : Value}
    {f13 : Addr} {od13 an13 : Option Addr} {sl13 : Array (Option Value)} {oc13 kV13 dc13 pm13 cd13 ct13 : Value}
    {f14 : Addr} {od14 an14 : Option Addr} {sl14 : Array (Option Value)} {oc14 kV14 dc14 pm14 cd14 ct14 : Value}
    {f15 : Addr} {od15 an15 : Option Addr} {sl15 : Array (Option Value)} {oc15 kV15 dc15 pm15 cd15 ct15 : Value}
    (qa0 : PySem.W.nsIn K mainGlobals "_law_closed" = some (some (.ref f0))) (ql0 : K.lookup f0 = some ⟨oc0, od0, .func (PySem.W.fnOf "_law_closed" "_law_closed" (defArgs s__law_closed) (defBody s__law_closed) (defScope s__law_closed) .none kV0 dc0 pm0 an0 cd0 ct0), sl0⟩) (qc0 : PySem.W.codeIn K cd0 "_law_closed" = true) (qk0 : PySem.W.keepIn K (.ref f0) = true)
    (qa1 : PySem.W.nsIn K mainGlobals "_law_draw" = some (some (.ref f1))) (ql1 : K.lookup f1 = some ⟨oc1, od1, .func (PySem.W.fnOf "_law_draw" "_law_draw" (defArgs s__law_draw) (defBody s__law_draw) (defScope s__law_draw) .none kV1 dc1 pm1 an1 cd1 ct1), sl1⟩) (qc1 : PySem.W.codeIn K cd1 "_law_draw" = true) (qk1 : PySem.W.keepIn K (.ref f1) = true)
    (qa2 : PySem.W.nsIn K mainGlobals "_law_name" = some (some (.ref f2))) (ql2 : K.lookup f2 = some ⟨oc2, od2, .func (PySem.W.fnOf "_law_name" "_law_name" (defArgs s__law_name) (defBody s__law_name) (defScope s__law_name) .none kV2 dc2 pm2 an2 cd2 ct2), sl2⟩) (qc2 : PySem.W.codeIn K cd2 "_law_name" = true) (qk2 : PySem.W.keepIn K (.ref f2) = true)
    (qa3 : PySem.W.nsIn K mainGlobals "_law_part" = some (some (.ref f3))) (ql3 : K.lookup f3 = some ⟨oc3, od3, .func (PySem.W.fnOf "_law_part" "_law_part" (defArgs s__law_part) (defBody s__law_part) (defScope s__law_part) .none kV3 dc3 pm3 an3 cd3 ct3), sl3⟩) (qc3 : PySem.W.codeIn K cd3 "_law_part" = true) (qk3 : PySem.W.keepIn K (.ref f3) = true)
    (qa4 : PySem.W.nsIn K mainGlobals "_law_term" = some (some (.ref f4))) (ql4 : K.lookup f4 = some ⟨oc4, od4, .func (PySem.W.fnOf "_law_term" "_law_term" (defArgs s__law_term) (defBody s__law_term) (defScope s__law_term) .none kV4 dc4 pm4 an4 cd4 ct4), sl4⟩) (qc4 : PySem.W.codeIn K cd4 "_law_term" = true) (qk4 : PySem.W.keepIn K (.ref f4) = true)
    (qa5 : PySem.W.nsIn K mainGlobals "_law_row" = some (some (.ref f5))) (ql5 : K.lookup f5 = some ⟨oc5, od5, .func (PySem.W.fnOf "_law_row" "_law_row" (defArgs s__law_row) (defBody s__law_row) (defScope s__law_row) .none kV5 dc5 pm5 an5 cd5 ct5), sl5⟩) (qc5 : PySem.W.codeIn K cd5 "_law_row" = true) (qk5 : PySem.W.keepIn K (.ref f5) = true)
    (qa6 : PySem.W.nsIn K mainGlobals "_law_rows" = some (some (.ref f6))) (ql6 : K.lookup f6 = some ⟨oc6, od6, .func (PySem.W.fnOf "_law_rows" "_law_rows" (defArgs s__law_rows) (defBody s__law_rows) (defScope s__law_rows) .none kV6 dc6 pm6 an6 cd6 ct6), sl6⟩) (qc6 : PySem.W.codeIn K cd6 "_law_rows" = true) (qk6 : PySem.W.keepIn K (.ref f6) = true)
    (qa7 : PySem.W.nsIn K mainGlobals "_law_copied" = some (some (.ref f7))) (ql7 : K.lookup f7 = some ⟨oc7, od7, .func (PySem.W.fnOf "_law_copied" "_law_copied" (defArgs s__law_copied) (defBody s__law_copied) (defScope s__law_copied) .none kV7 dc7 pm7 an7 cd7 ct7), sl7⟩) (qc7 : PySem.W.codeIn K cd7 "_law_copied" = true) (qk7 : PySem.W.keepIn K (.ref f7) = true)
    (qa8 : PySem.W.nsIn K mainGlobals "block_steps" = some (some (.ref f8))) (ql8 : K.lookup f8 = some ⟨oc8, od8, .func (PySem.W.fnOf "block_steps" "block_steps" (defArgs s_block_steps) (defBody s_block_steps) (defScope s_block_steps) .none kV8 dc8 pm8 an8 cd8 ct8), sl8⟩) (qc8 : PySem.W.codeIn K cd8 "block_steps" = true) (qk8 : PySem.W.keepIn K (.ref f8) = true)
    (qa9 : PySem.W.nsIn K mainGlobals "steps_of" = some (some (.ref f9))) (ql9 : K.lookup f9 = some ⟨oc9, od9, .func (PySem.W.fnOf "steps_of" "steps_of" (defArgs s_steps_of) (defBody s_steps_of) (defScope s_steps_of) .none kV9 dc9 pm9 an9 cd9 ct9), sl9⟩) (qc9 : PySem.W.codeIn K cd9 "steps_of" = true) (qk9 : PySem.W.keepIn K (.ref f9) = true)
    (qa10 : PySem.W.nsIn K mainGlobals "code_of" = some (some (.ref f10))) (ql10 : K.lookup f10 = some ⟨oc10, od10, .func (PySem.W.fnOf "code_of" "code_of" (defArgs s_code_of) (defBody s_code_of) (defScope s_code_of) .none kV10 dc10 pm10 an10 cd10 ct10), sl10⟩) (qc10 : PySem.W.codeIn K cd10 "code_of" = true) (qk10 : PySem.W.keepIn K (.ref f10) = true)
    (qa11 : PySem.W.nsIn K mainGlobals "_law_cell_at" = some (some (.ref f11))) (ql11 : K.lookup f11 = some ⟨oc11, od11, .func (PySem.W.fnOf "_law_cell_at" "_law_cell_at" (defArgs s__law_cell_at) (defBody s__law_cell_at) (defScope s__law_cell_at) .none kV11 dc11 pm11 an11 cd11 ct11), sl11⟩) (qc11 : PySem.W.codeIn K cd11 "_law_cell_at" = true) (qk11 : PySem.W.keepIn K (.ref f11) = true)
    (qa12 : PySem.W.nsIn K mainGlobals "_law_number" = some (some (.ref f12))) (ql12 : K.lookup f12 = some ⟨oc12, od12, .func (PySem.W.fnOf "_law_number" "_law_number" (defArgs s__law_number) (defBody s__law_number) (defScope s__law_number) .none kV12 dc12 pm12 an12 cd12 ct12), sl12⟩) (qc12 : PySem.W.codeIn K cd12 "_law_number" = true) (qk12 : PySem.W.keepIn K (.ref f12) = true)
    (qa13 : PySem.W.nsIn K mainGlobals "_law_block" = some (some (.ref f13))) (ql13 : K.lookup f13 = some ⟨oc13, od13, .func (PySem.W.fnOf "_law_block" "_law_block" (defArgs s__law_block) (defBody s__law_block) (defScope s__law_block) .none kV13 dc13 pm13 an13 cd13 ct13), sl13⟩) (qc13 : PySem.W.codeIn K cd13 "_law_block" = true) (qk13 : PySem.W.keepIn K (.ref f13) = true)
    (qa14 : PySem.W.nsIn K mainGlobals "_law_follow" = some (some (.ref f14))) (ql14 : K.lookup f14 = some ⟨oc14, od14, .func (PySem.W.fnOf "_law_follow" "_law_follow" (defArgs s__law_follow) (defBody s__law_follow) (defScope s__law_follow) .none kV14 dc14 pm14 an14 cd14 ct14), sl14⟩) (qc14 : PySem.W.codeIn K cd14 "_law_follow" = true) (qk14 : PySem.W.keepIn K (.ref f14) = true)
    (qa15 : PySem.W.nsIn K mainGlobals "law" = some (some (.ref f15))) (ql15 : K.lookup f15 = some ⟨oc15, od15, .func (PySem.W.fnOf "law" "law" (defArgs s_law) (defBody s_law) (defScope s_law) .none kV15 dc15 pm15 an15 cd15 ct15), sl15⟩) (qc15 : PySem.W.codeIn K cd15 "law" = true) (qk15 : PySem.W.keepIn K (.ref f15) = true)
    (qz0 : PySem.W.nsIn K mainGlobals "bool" = some none)
    (qz1 : PySem.W.nsIn K mainGlobals "int" = some none)
    (qz2 : PySem.W.nsIn K mainGlobals "isinstance" = some none)
    (qz3 : PySem.W.nsIn K mainGlobals "len" = some none)
    (qz4 : PySem.W.nsIn K mainGlobals "list" = some none)
    (qz5 : PySem.W.nsIn K mainGlobals "range" = some none)
    (qz6 : PySem.W.nsIn K mainGlobals "tuple" = some none) : ∃ t, Txt K mg t := by
  have F0 := fun_mk (st := s__law_closed) ql0 qc0 qk0
  have F1 := fun_mk (st := s__law_draw) ql1 qc1 qk1
  have F2 := fun_mk (st := s__law_name) ql2 qc2 qk2
  have F3 := fun_mk (st := s__law_part) ql3 qc3 qk3
  have F4 := fun_mk (st := s__law_term) ql4 qc4 qk4
  have F5 := fun_mk (st := s__law_row) ql5 qc5 qk5
  have F6 := fun_mk (st := s__law_rows) ql6 qc6 qk6
  have F7 := fun_mk (st := s__law_copied) ql7 qc7 qk7
  have F8 := fun_mk (st := s_block_steps) ql8 qc8 qk8
  have F9 := fun_mk (st := s_steps_of) ql9 qc9 qk9
  have F10 := fun_mk (st := s_code_of) ql10 qc10 qk10
  have F11 := fun_mk (st := s__law_cell_at) ql11 qc11 qk11
  have F12 := fun_mk (st := s__law_number) ql12 qc12 qk12
  have F13 := fun_mk (st := s__law_block) ql13 qc13 qk13
  have F14 := fun_mk (st := s__law_follow) ql14 qc14 qk14
  have F15 := fun_mk (st := s_law) ql15 qc15 qk15
  exact ⟨⟨f0, _, f1, _, f2, _, f3, _, f4, _, f5, _, f6, _, f7, _, f8, _, f9, _, f10, _, f11, _, f12, _, f13, _, f14, _, f15, _⟩, ⟨F0, F0.binds (ps := ["frames"]) (fun _ _ _ _ _ _ us hl => match us, hl with | [_], _ => rfl), PySem.W.mg_of X G qa0,
    F1, F1.binds (ps := ["cell", "j"]) (fun _ _ _ _ _ _ us hl => match us, hl with | [_, _], _ => rfl), PySem.W.mg_of X G qa1,
    F2, F2.binds (ps := ["cell", "j"]) (fun _ _ _ _ _ _ us hl => match us, hl with | [_, _], _ => rfl), PySem.W.mg_of X G qa2,
    F3, F3.binds (ps := ["cell", "j"]) (fun _ _ _ _ _ _ us hl => match us, hl with | [_, _], _ => rfl), PySem.W.mg_of X G qa3,
    F4, F4.binds (ps := ["cell", "j"]) (fun _ _ _ _ _ _ us hl => match us, hl with | [_, _], _ => rfl), PySem.W.mg_of X G qa4,
    F5, F5.binds (ps := ["cell"]) (fun _ _ _ _ _ _ us hl => match us, hl with | [_], _ => rfl), PySem.W.mg_of X G qa5,
    F6, F6.binds (ps := ["cells", "turn"]) (fun _ _ _ _ _ _ us hl => match us, hl with | [_, _], _ => rfl), PySem.W.mg_of X G qa6,
    F7, F7.binds (ps := ["rows"]) (fun _ _ _ _ _ _ us hl => match us, hl with | [_], _ => rfl), PySem.W.mg_of X G qa7,
    F8, F8.binds (ps := ["row", "at"]) (fun _ _ _ _ _ _ us hl => match us, hl with | [_, _], _ => rfl), PySem.W.mg_of X G qa8,
    F9, F9.binds (ps := ["rows", "first"]) (fun _ _ _ _ _ _ us hl => match us, hl with | [_, _], _ => rfl), PySem.W.mg_of X G qa9,
    F10, F10.binds (ps := ["rows"]) (fun _ _ _ _ _ _ us hl => match us, hl with | [_], _ => rfl), PySem.W.mg_of X G qa10,
    F11, F11.binds (ps := ["script", "k"]) (fun _ _ _ _ _ _ us hl => match us, hl with | [_, _], _ => rfl), PySem.W.mg_of X G qa11,
    F12, F12.binds (ps := ["found"]) (fun _ _ _ _ _ _ us hl => match us, hl with | [_], _ => rfl), PySem.W.mg_of X G qa12,
    F13, F13.binds (ps := ["row", "code", "at"]) (fun _ _ _ _ _ _ us hl => match us, hl with | [_, _, _], _ => rfl), PySem.W.mg_of X G qa13,
    F14, F14.binds (ps := ["rows", "code", "at"]) (fun _ _ _ _ _ _ us hl => match us, hl with | [_, _, _], _ => rfl), PySem.W.mg_of X G qa14,
    F15, F15.binds (ps := ["script"]) (fun _ _ _ _ _ _ us hl => match us, hl with | [_], _ => rfl), PySem.W.mg_of X G qa15,
    fun s v => .of_eq rfl,
    PySem.W.mg_none_of X G qz0,
    PySem.W.mg_none_of X G qz1,
    PySem.W.mg_none_of X G qz2,
    PySem.W.mg_none_of X G qz3,
    PySem.W.mg_none_of X G qz4,
    PySem.W.mg_none_of X G qz5,
    PySem.W.mg_none_of X G qz6⟩⟩
structure KF (K : PySem.W.Frag) : Prop where
  i_b : PySem.W.kitOne K (.type "int") (.type "bool") = some false
/-- steps of a code -/
inductive Cs where
  | row (r : Rw)
  | skip (e : List V) (to : Nat)
  | go (en : Nat)
def Rws.isNil : Rws → Bool
  | .nil => true
  | .cons _ _ => false
def blk (e : List V) (k : Nat) (A : List Cs) (nl : Bool) (B : List Cs) : List Cs :=
  if nl = true then .skip e (k + 1 + A.length) :: A else .skip e (k + 2 + A.length) :: (A ++ (.go (k + 2 + A.length + B.length) :: B))
mutual
def codeR : Rw → Nat → List Cs
  | .iff e a b, k => blk e k (codeRs a (k + 1)) (Rws.isNil b) (codeRs b (k + 2 + (codeRs a (k + 1)).length))
  | r, _ => [.row r]
def codeRs : Rws → Nat → List Cs
  | .nil, _ => []
  | .cons r rs, k => codeR r k ++ codeRs rs (k + (codeR r k).length)
end
def noIf : Rw → Prop
  | .iff _ _ _ => False
  | _ => True
def CsAt (H : Hp) (v : V) : Cs → Prop
  | .row r => RwAt anyA H v r ∧ noIf r
  | .skip e to => ∃ p te, v = .ref p ∧ H p = some (.tup [.str "skip", .ref te, .int (to : Nat)]) ∧ H te = some (.tup e)
  | .go en => ∃ p, v = .ref p ∧ H p = some (.tup [.str "go", .int (en : Nat)])
structure RsOk (n : Nat) (r : Rws) : Prop where
  dp : r.deep < n
  ct : r.cnt ≤ 500
  pl : RwsPl r
def sp_block_steps (n : Nat) : Sp := fun vs H Q _ => ∃ (v : V) (e : List V) (a b : Rws) (k : Nat), vs = [v, .int k] ∧ RwAt anyA H v (.iff e a b) ∧ RsOk n a ∧ RsOk n b ∧ k + (codeR (.iff e a b) k).length ≤ 500 ∧ ∀ l xs H', Same H H' → H' l = some (.lst xs) → Paired (CsAt H') xs (codeR (.iff e a b) k) → Q (.ref l) H'
def sp_steps_of (n : Nat) : Sp := fun vs H Q _ => ∃ (v : V) (r : Rws) (k : Nat), vs = [v, .int k] ∧ RlAt anyA H v r ∧ RsOk n r ∧ k + (codeRs r k).length ≤ 500 ∧ ∀ l xs H', Same H H' → H l = none → H' l = some (.lst xs) → Paired (CsAt H') xs (codeRs r k) → Q (.ref l) H'
def sp_code_of : Sp := fun vs H Q _ => ∃ (v : V) (r : Rws), vs = [v] ∧ RlAt anyA H v r ∧ RsOk 6 r ∧ (codeRs r 0).length ≤ 500 ∧ ∀ l xs H', Same H H' → H l = none → H' l = some (.lst xs) → Paired (CsAt H') xs (codeRs r 0) → Q (.ref l) H'
def sp__law_number : Sp := fun vs H Q _ => ∃ i : Int, vs = [.int i] ∧ ∀ H', Same H H' → Q (.bl true) H'
/-- a code at its place in a list -/
structure CoAt (H : Hp) (l : Addr) (k : Nat) (X : List Cs) : Prop where
  ex : ∃ xs C P S, H l = some (.lst xs) ∧ Paired (CsAt H) xs C ∧ C = P ++ (X ++ S) ∧ P.length = k ∧ C.length ≤ 500
def sp__law_block (n : Nat) : Sp := fun vs H Q _ => ∃ (v : V) (l : Addr) (k : Nat) (e : List V) (a b : Rws), vs = [v, .ref l, .int k] ∧ RwAt anyA H v (.iff e a b) ∧ tmP e ∧ RsOk n a ∧ RsOk n b ∧ CoAt H l k (codeR (.iff e a b) k) ∧ ∀ H', Same H H' → Q (.int (k + (codeR (.iff e a b) k).length : Nat)) H'
def sp__law_follow (n : Nat) : Sp := fun vs H Q _ => ∃ (v : V) (l : Addr) (k : Nat) (r : Rws), vs = [v, .ref l, .int k] ∧ RlAt anyA H v r ∧ RsOk n r ∧ CoAt H l k (codeRs r k) ∧ ∀ H', Same H H' → Q (.int (k + (codeRs r k).length : Nat)) H'
def sp__law_cell_at (K : PySem.W.Frag) : Sp := fun vs H Q _ => ∃ (a : Addr) (ns : List Int) (k : Nat), vs = [.ref a, .int k] ∧ SqL K H a (ns.map V.int) ∧ ns.length ≤ 63 ∧ ∀ c H', Same H H' → Q (.int c) H'
def sp__law_draw : Sp := fun vs H Q _ => ∃ c j, vs = [.int c, .int j] ∧ 0 ≤ j ∧ j ≤ 1000 ∧ ∀ r H', 0 ≤ r → r < 2147483648 → Same H H' → Q (.int r) H'
def sp__law_name : Sp := fun vs H Q _ => ∃ c j, vs = [.int c, .int j] ∧ 0 ≤ j ∧ j ≤ 900 ∧ ∀ (x : Str) H', PyData.strOk x = true → Same H H' → Q (.str x) H'
def sp__law_part : Sp := fun vs H Q _ => ∃ c j, vs = [.int c, .int j] ∧ 0 ≤ j ∧ j ≤ 800 ∧ ∀ v H', plV v → Same H H' → Q v H'
def sp__law_term : Sp := fun vs H Q _ => ∃ c j, vs = [.int c, .int j] ∧ 0 ≤ j ∧ j ≤ 700 ∧ ∀ p e H', Same H H' → H p = none → H' p = some (.tup e) → tmP e → Q (.ref p) H'
structure rwV (r : Rw) : Prop where
  ni : noIf r
  pl : RwPl r
def sp__law_row : Sp := fun vs H Q _ => ∃ c, vs = [.int c] ∧ ∀ v r H', Same H H' → RwAt (fun b => H b = none) H' v r → rwV r → Q v H'
/-- a frame: its term, its first rows if the else has come, its rows -/
structure Gm where
  e : List V
  a : Option Rws
  D : Rws
def FsAt (F : Addr → Prop) (H : Hp) : List Gm → List V → List Addr → Prop
  | [], fs, sp => fs = [] ∧ sp = []
  | g :: gs, fs, sp => ∃ f tv fi c xs fs' sp', fs = .ref f :: fs' ∧ sp = f :: c :: sp' ∧ H f = some (.lst [tv, fi, .ref c]) ∧ H c = some (.lst xs) ∧ RwsAt F H xs g.D ∧ (gs ≠ [] → ∃ te, tv = .ref te ∧ F te ∧ H te = some (.tup g.e) ∧ tmP g.e) ∧
    ((g.a = none ∧ fi = .non) ∨ ∃ a ys A, g.a = some A ∧ fi = .ref a ∧ F a ∧ H a = some (.lst ys) ∧ RwsAt F H ys A) ∧ FsAt F H gs fs' sp'
def Fz (H0 : Hp) (sp : List Addr) (FR : Addr) (b : Addr) : Prop := b ∉ sp ∧ b ≠ FR ∧ H0 b = none
structure FZ (H0 H : Hp) (FR : Addr) (gs : List Gm) (fs : List V) (sp : List Addr) : Prop where
  sm : Same H0 H
  hf : H FR = some (.lst fs.reverse)
  fa : FsAt (Fz H0 sp FR) H gs fs sp
  nd : sp.Nodup
  nf : FR ∉ sp
  fr : ∀ a ∈ sp, H0 a = none
  f0 : H0 FR = none
def closeG (g h : Gm) : Gm := { h with D := h.D.snoc (match g.a with | none => .iff g.e g.D .nil | some A => .iff g.e A g.D) }
def sp__law_closed : Sp := fun vs H Q _ => ∃ FR H0 g h gs fs sp, vs = [.ref FR] ∧ FZ H0 H FR (g :: h :: gs) fs sp ∧ h.D.cnt ≤ 500 ∧ ∀ fs' sp' H', FZ H0 H' FR (closeG g h :: gs) fs' sp' → Q .non H'
def sp__law_rows : Sp := fun vs H Q _ => ∃ (p : Addr) (ns : List Int) (tn : Int), vs = [.ref p, .int tn] ∧ H p = some (.lst (ns.map V.int)) ∧ ns.length ≤ 63 ∧ ∀ v r H', Same H H' → RlAt (fun b => H b = none) H' v r → RsOk 6 r → (codeRs r 0).length ≤ 500 → Q v H'
def sp__law_copied (n : Nat) : Sp := fun vs H Q _ => ∃ (F : Addr → Prop) (v : V) (rws : Rws), vs = [v] ∧ RlAt F H v rws ∧ (∀ b, H b = none → F b) ∧ rws.deep < n ∧ rws.cnt ≤ 500 ∧ ∀ v' H', Same H H' → RlAt F H' v' rws → Q v' H'
def sp_law (K : PySem.W.Frag) : Sp := fun vs H Q _ => ∃ (a : Addr) (ns : List Int), vs = [.ref a] ∧ SqL K H a (ns.map V.int) ∧ ns.length ≤ 63 ∧ ∀ H', Q (.bl true) H'

def rd__law_closed (K : PySem.W.Frag) (t : Adr) : TS := (tSeq (tAsg (tBM0 K "list" r_mt_pop (tVar 0)) (gName 1))
    (tIfS (tTest (tOp rIsN (tOp (rIxL K) (tVar 1) (tC (.int 1))) (tC .non)))
      (tDrop (tBM K "list" r_mt_append (tOp (rIxL K) (tOp (rIxL K) (tVar 0) (tUn (rU fun i => .int (-i)) (tC (.int 1)))) (tC (.int 2))) (tCons (tTup (tCons (tC (.str "if")) (tCons (tOp (rIxL K) (tVar 1) (tC (.int 0))) (tCons (tOp (rIxL K) (tVar 1) (tC (.int 2))) (tCons (tLst tNil) tNil))))) tNil)))
      (tDrop (tBM K "list" r_mt_append (tOp (rIxL K) (tOp (rIxL K) (tVar 0) (tUn (rU fun i => .int (-i)) (tC (.int 1)))) (tC (.int 2))) (tCons (tTup (tCons (tC (.str "if")) (tCons (tOp (rIxL K) (tVar 1) (tC (.int 0))) (tCons (tOp (rIxL K) (tVar 1) (tC (.int 1))) (tCons (tOp (rIxL K) (tVar 1) (tC (.int 2))) tNil))))) tNil)))))
def rd__law_draw (K : PySem.W.Frag) (t : Adr) : TS := (tSeq (tAsg (tOp (rI (fun _ j => 0 < j) fun i j => .int (i % j)) (tOp (rI0 fun i j => .int (i + j)) (tOp (rI CMulB fun i j => .int (i * j)) (tOp (rI (fun _ j => 0 < j) fun i j => .int (i % j)) (tVar 0) (tC (.int 1000000007))) (tC (.int 6700417))) (tOp (rI CMulB fun i j => .int (i * j)) (tOp (rI CMulB fun i j => .int (i * j)) (tOp (rI0 fun i j => .int (i + j)) (tVar 1) (tC (.int 1))) (tC (.int 104729))) (tC (.int 65537)))) (tC (.int 1000000009))) (gName 2))
    (tRet (tOp (rI CDivB fun i j => .int (i / j)) (tOp (rI (fun _ j => 0 < j) fun i j => .int (i % j)) (tOp (rI CMulB fun i j => .int (i * j)) (tOp (rI (fun _ j => 0 < j) fun i j => .int (i % j)) (tOp (rI CMulB fun i j => .int (i * j)) (tVar 2) (tVar 2)) (tC (.int 1000000009))) (tVar 2)) (tC (.int 1000000009))) (tC (.int 32)))))
def rd__law_name_3 (K : PySem.W.Frag) (t : Adr) : TS := (tSeq (tAsg (tC (.str "")) (gName 4))
    (tSeq (tFor (iRng1 (tCons (tVar 2) tNil)) (gName 5)
      (tAsg (tOp rAddS (tVar 4) (tOp rIxS (tVar 3) (tOp (rI (fun _ j => 0 < j) fun i j => .int (i % j)) (tCall sp__law_draw [] E0 (tCons (tVar 0) (tCons (tOp (rI0 fun i j => .int (i + j)) (tOp (rI0 fun i j => .int (i + j)) (tVar 1) (tC (.int 1))) (tVar 5)) tNil))) (tCB (cLen K) (tCons (tVar 3) tNil))))) (gName 4)))
    (tRet (tVar 4))))
def rd__law_name (K : PySem.W.Frag) (t : Adr) : TS := (tSeq (tAsg (tOp (rI0 fun i j => .int (i + j)) (tC (.int 1)) (tOp (rI (fun _ j => 0 < j) fun i j => .int (i % j)) (tCall sp__law_draw [] E0 (tCons (tVar 0) (tCons (tVar 1) tNil))) (tC (.int 6)))) (gName 2))
    (tSeq (tAsg (tC (.str "zyxwvtsrqpnmlkjhgfdcb")) (gName 3))
    (tSeq (tIfS (tTest (tOp rEq (tVar 2) (tC (.int 6))))
      (tAsg (tC (.str "zyxwvutsrqponmlkjihgfedcba")) (gName 3))
      tNext)
    (rd__law_name_3 K t))))
def rd__law_part (K : PySem.W.Frag) (t : Adr) : TS := (tSeq (tAsg (tOp (rI (fun _ j => 0 < j) fun i j => .int (i % j)) (tCall sp__law_draw [] E0 (tCons (tVar 0) (tCons (tVar 1) tNil))) (tC (.int 3))) (gName 2))
    (tSeq (tIfS (tTest (tOp rEq (tVar 2) (tC (.int 0))))
      (tRet (tCall sp__law_name [] E0 (tCons (tVar 0) (tCons (tOp (rI0 fun i j => .int (i + j)) (tVar 1) (tC (.int 1))) tNil))))
      tNext)
    (tSeq (tIfS (tTest (tOp rEq (tVar 2) (tC (.int 1))))
      (tRet (tOp (rI0 fun i j => .int (i - j)) (tOp (rI (fun _ j => 0 < j) fun i j => .int (i % j)) (tCall sp__law_draw [] E0 (tCons (tVar 0) (tCons (tOp (rI0 fun i j => .int (i + j)) (tVar 1) (tC (.int 1))) tNil))) (tC (.int 5))) (tC (.int 1))))
      tNext)
    (tRet (tOp (rI0 fun i j => .int (i - j)) (tOp (rI (fun _ j => 0 < j) fun i j => .int (i % j)) (tOp (rI0 fun i j => .int (i + j)) (tOp (rI CMulB fun i j => .int (i * j)) (tOp (rI CMulB fun i j => .int (i * j)) (tOp (rI (fun _ j => 0 < j) fun i j => .int (i % j)) (tVar 0) (tOp (rI CPow fun i j => .int (i ^ j.toNat)) (tC (.int 10)) (tC (.int 40)))) (tOp (rI0 fun i j => .int (i + j)) (tVar 1) (tC (.int 2)))) (tC (.int 1000003))) (tVar 1)) (tOp (rI0 fun i j => .int (i + j)) (tOp (rI CMulB fun i j => .int (i * j)) (tC (.int 2)) (tOp (rI CPow fun i j => .int (i ^ j.toNat)) (tC (.int 10)) (tC (.int 30)))) (tC (.int 1)))) (tOp (rI CPow fun i j => .int (i ^ j.toNat)) (tC (.int 10)) (tC (.int 30))))))))
def rd__law_term (K : PySem.W.Frag) (t : Adr) : TS := (tSeq (tAsg (tCall sp__law_part [] E0 (tCons (tVar 0) (tCons (tOp (rI0 fun i j => .int (i + j)) (tVar 1) (tC (.int 1))) tNil))) (gName 2))
    (tSeq (tIfS (tTest (tOp rEq (tOp (rI (fun _ j => 0 < j) fun i j => .int (i % j)) (tCall sp__law_draw [] E0 (tCons (tVar 0) (tCons (tVar 1) tNil))) (tC (.int 2))) (tC (.int 0))))
      (tRet (tTup (tCons (tVar 2) tNil)))
      tNext)
    (tSeq (tAsg (tLst (tCons (tC (.str "plus")) (tCons (tC (.str "minus")) (tCons (tC (.str "times")) (tCons (tC (.str "over")) (tCons (tC (.str "rest")) (tCons (tC (.str "under")) (tCons (tC (.str "same")) tNil)))))))) (gName 3))
    (tRet (tTup (tCons (tVar 2) (tCons (tCall sp__law_part [] E0 (tCons (tVar 0) (tCons (tOp (rI0 fun i j => .int (i + j)) (tVar 1) (tC (.int 10))) tNil))) (tCons (tOp (rIxL K) (tVar 3) (tOp (rI (fun _ j => 0 < j) fun i j => .int (i % j)) (tCall sp__law_draw [] E0 (tCons (tVar 0) (tCons (tOp (rI0 fun i j => .int (i + j)) (tVar 1) (tC (.int 20))) tNil))) (tC (.int 7)))) tNil))))))))
def rd__law_row (K : PySem.W.Frag) (t : Adr) : TS := (tSeq (tAsg (tOp (rI (fun _ j => 0 < j) fun i j => .int (i % j)) (tCall sp__law_draw [] E0 (tCons (tVar 0) (tCons (tC (.int 1)) tNil))) (tC (.int 5))) (gName 1))
    (tSeq (tIfS (tTest (tOp rEq (tVar 1) (tC (.int 0))))
      (tRet (tTup (tCons (tC (.str "take")) (tCons (tCall sp__law_name [] E0 (tCons (tVar 0) (tCons (tC (.int 30)) tNil))) (tCons (tCall sp__law_term [] E0 (tCons (tVar 0) (tCons (tC (.int 40)) tNil))) (tCons (tCall sp__law_name [] E0 (tCons (tVar 0) (tCons (tC (.int 70)) tNil))) tNil))))))
      tNext)
    (tSeq (tIfS (tTest (tOp rEq (tVar 1) (tC (.int 1))))
      (tRet (tTup (tCons (tC (.str "give")) (tCons (tCall sp__law_name [] E0 (tCons (tVar 0) (tCons (tC (.int 30)) tNil))) (tCons (tCall sp__law_term [] E0 (tCons (tVar 0) (tCons (tC (.int 40)) tNil))) (tCons (tCall sp__law_term [] E0 (tCons (tVar 0) (tCons (tC (.int 80)) tNil))) tNil))))))
      tNext)
    (tSeq (tIfS (tTest (tOp rEq (tVar 1) (tC (.int 2))))
      (tRet (tTup (tCons (tC (.str "let")) (tCons (tCall sp__law_name [] E0 (tCons (tVar 0) (tCons (tC (.int 30)) tNil))) (tCons (tCall sp__law_term [] E0 (tCons (tVar 0) (tCons (tC (.int 40)) tNil))) tNil)))))
      tNext)
    (tRet (tTup (tCons (tOp (rIxL K) (tLst (tCons (tC (.str "say")) (tCons (tC (.str "off")) tNil))) (tOp (rI0 fun i j => .int (i - j)) (tVar 1) (tC (.int 3)))) (tCons (tCall sp__law_term [] E0 (tCons (tVar 0) (tCons (tC (.int 40)) tNil))) tNil))))))))
def rd__law_rows_C (K : PySem.W.Frag) (t : Adr) : TS := (tDrop (tCall sp__law_closed [] E0 (tCons (tVar 2) tNil)))
def rd__law_rows_G (K : PySem.W.Frag) (t : Adr) : TS := (tDrop (tBM K "list" r_mt_append (tOp (rIxL K) (tOp (rIxL K) (tVar 2) (tUn (rU fun i => .int (-i)) (tC (.int 1)))) (tC (.int 2))) (tCons (tCall sp__law_row [] E0 (tCons (tVar 3) tNil)) tNil)))
def rd__law_rows_B (K : PySem.W.Frag) (t : Adr) : TS := (tSeq (sLPut (tOp (rIxL K) (tVar 2) (tUn (rU fun i => .int (-i)) (tC (.int 1)))) (tC (.int 1)) (tOp (rIxL K) (tOp (rIxL K) (tVar 2) (tUn (rU fun i => .int (-i)) (tC (.int 1)))) (tC (.int 2))))
    (sLPut (tOp (rIxL K) (tVar 2) (tUn (rU fun i => .int (-i)) (tC (.int 1)))) (tC (.int 2)) (tLst tNil)))
def rd__law_rows_F (K : PySem.W.Frag) (t : Adr) : TS := (tIfS (tAnd (tTest (tOp rEq (tVar 4) (tC (.int 11)))) (tTest (tOp (rI0 fun i j => .bl (decide (j < i))) (tCB (cLen K) (tCons (tVar 2) tNil)) (tC (.int 1)))))
      (rd__law_rows_C K t)
      (rd__law_rows_G K t))
def rd__law_rows_A (K : PySem.W.Frag) (t : Adr) : TS := (tDrop (tBM K "list" r_mt_append (tVar 2) (tCons (tLst (tCons (tCall sp__law_term [] E0 (tCons (tVar 3) (tCons (tC (.int 40)) tNil))) (tCons (tC .non) (tCons (tLst tNil) tNil)))) tNil)))
def rd__law_rows_E (K : PySem.W.Frag) (t : Adr) : TS := (tIfS (tAnd (tTest (tOp (rIn K false) (tVar 4) (tTup (tCons (tC (.int 9)) (tCons (tC (.int 10)) tNil))))) (tAnd (tTest (tOp (rI0 fun i j => .bl (decide (j < i))) (tCB (cLen K) (tCons (tVar 2) tNil)) (tC (.int 1)))) (tTest (tOp rIsN (tOp (rIxL K) (tOp (rIxL K) (tVar 2) (tUn (rU fun i => .int (-i)) (tC (.int 1)))) (tC (.int 1))) (tC .non)))))
      (rd__law_rows_B K t)
      (rd__law_rows_F K t))
def rd__law_rows_2 (K : PySem.W.Frag) (t : Adr) : TS := (tSeq (tWhile (tTest (tOp (rI0 fun i j => .bl (decide (j < i))) (tCB (cLen K) (tCons (tVar 2) tNil)) (tC (.int 1)))) (tDrop (tCall sp__law_closed [] E0 (tCons (tVar 2) tNil))))
    (tRet (tOp (rIxL K) (tOp (rIxL K) (tVar 2) (tC (.int 0))) (tC (.int 2)))))
def rd__law_rows_1 (K : PySem.W.Frag) (t : Adr) : TS := (tSeq (tFor (iList K (tVar 0)) (gName 3)
      (tSeq (tAsg (tOp (rI (fun _ j => 0 < j) fun i j => .int (i % j)) (tCall sp__law_draw [] E0 (tCons (tVar 3) (tCons (tC (.int 0)) tNil))) (tC (.int 12))) (gName 4))
    (tSeq (tIfS (tTest (tOp rEq (tVar 1) (tC (.int 1))))
      (tAsg (tOp (rI0 fun i j => .int (i + j)) (tC (.int 5)) (tOp (rI (fun _ j => 0 < j) fun i j => .int (i % j)) (tCall sp__law_draw [] E0 (tCons (tVar 3) (tCons (tC (.int 0)) tNil))) (tC (.int 7)))) (gName 4))
      tNext)
    (tIfS (tAnd (tTest (tOp (rIn K false) (tVar 4) (tTup (tCons (tC (.int 5)) (tCons (tC (.int 6)) (tCons (tC (.int 7)) (tCons (tC (.int 8)) tNil))))))) (tTest (tOp (rI0 fun i j => .bl (decide (i < j))) (tCB (cLen K) (tCons (tVar 2) tNil)) (tC (.int 6)))))
      (rd__law_rows_A K t)
      (rd__law_rows_E K t)))))
    (rd__law_rows_2 K t))
def rd__law_rows (K : PySem.W.Frag) (t : Adr) : TS := (tSeq (tAsg (tLst (tCons (tLst (tCons (tC .non) (tCons (tC .non) (tCons (tLst tNil) tNil)))) tNil)) (gName 2))
    (rd__law_rows_1 K t))
def rd__law_copied (K : PySem.W.Frag) (t : Adr) (n : Nat) : TS := (tSeq (tAsg (tLst tNil) (gName 1))
    (tSeq (tFor (iList K (tVar 0)) (gName 2)
      (tIfS (tTest (tOp rEq (tOp (rIxT K) (tVar 2) (tC (.int 0))) (tC (.str "if"))))
      (tDrop (tBM K "list" r_mt_append (tVar 1) (tCons (tTup (tCons (tC (.str "if")) (tCons (tOp (rIxT K) (tVar 2) (tC (.int 1))) (tCons (tCall (sp__law_copied  n) [] E0 (tCons (tOp (rIxT K) (tVar 2) (tC (.int 2))) tNil)) (tCons (tCall (sp__law_copied  n) [] E0 (tCons (tOp (rIxT K) (tVar 2) (tC (.int 3))) tNil)) tNil))))) tNil)))
      (tDrop (tBM K "list" r_mt_append (tVar 1) (tCons (tVar 2) tNil)))))
    (tRet (tVar 1))))
def rd_block_steps (K : PySem.W.Frag) (t : Adr) (n : Nat) : TS := (tSeq (tAsg (tCall (sp_steps_of  n) [] E0 (tCons (tOp (rIxT K) (tVar 0) (tC (.int 2))) (tCons (tOp (rI0 fun i j => .int (i + j)) (tVar 1) (tC (.int 1))) tNil))) (gName 2))
    (tSeq (tAsg (tOp (rI0 fun i j => .int (i + j)) (tOp (rI0 fun i j => .int (i + j)) (tVar 1) (tC (.int 1))) (tCB (cLen K) (tCons (tVar 2) tNil))) (gName 3))
    (tSeq (tIfS (tTest (tOp (rEqNil K) (tOp (rIxT K) (tVar 0) (tC (.int 3))) (tLst tNil)))
      (tRet (tOp rCat (tLst (tCons (tTup (tCons (tC (.str "skip")) (tCons (tOp (rIxT K) (tVar 0) (tC (.int 1))) (tCons (tVar 3) tNil)))) tNil)) (tVar 2)))
      tNext)
    (tSeq (tAsg (tCall (sp_steps_of  n) [] E0 (tCons (tOp (rIxT K) (tVar 0) (tC (.int 3))) (tCons (tOp (rI0 fun i j => .int (i + j)) (tVar 3) (tC (.int 1))) tNil))) (gName 4))
    (tRet (tOp rCat (tOp rCat (tOp rCat (tLst (tCons (tTup (tCons (tC (.str "skip")) (tCons (tOp (rIxT K) (tVar 0) (tC (.int 1))) (tCons (tOp (rI0 fun i j => .int (i + j)) (tVar 3) (tC (.int 1))) tNil)))) tNil)) (tVar 2)) (tLst (tCons (tTup (tCons (tC (.str "go")) (tCons (tOp (rI0 fun i j => .int (i + j)) (tOp (rI0 fun i j => .int (i + j)) (tVar 3) (tC (.int 1))) (tCB (cLen K) (tCons (tVar 4) tNil))) tNil))) tNil))) (tVar 4)))))))
def rd_steps_of (K : PySem.W.Frag) (t : Adr) (n : Nat) : TS := (tSeq (tAsg (tLst tNil) (gName 2))
    (tSeq (tFor (iList K (tVar 0)) (gName 3)
      (tIfS (tTest (tOp rEq (tOp (rIxT K) (tVar 3) (tC (.int 0))) (tC (.str "if"))))
      (tDrop (tBM K "list" r_mt_extend (tVar 2) (tCons (tCall (sp_block_steps  n) [] E0 (tCons (tVar 3) (tCons (tOp (rI0 fun i j => .int (i + j)) (tVar 1) (tCB (cLen K) (tCons (tVar 2) tNil))) tNil))) tNil)))
      (tDrop (tBM K "list" r_mt_append (tVar 2) (tCons (tVar 3) tNil)))))
    (tRet (tVar 2))))
def rd_code_of (K : PySem.W.Frag) (t : Adr) : TS := (tRet (tCall (sp_steps_of  6) [] E0 (tCons (tVar 0) (tCons (tC (.int 0)) tNil))))
def rd__law_cell_at (K : PySem.W.Frag) (t : Adr) : TS := (tSeq (tIfS (tTest (tOp (rI0 fun i j => .bl (decide (i < j))) (tVar 1) (tCB (cLen K) (tCons (tVar 0) tNil))))
      (tRet (tOp (rIxL K) (tVar 0) (tVar 1)))
      tNext)
    (tRet (tC (.int 0))))
def rd__law_number (K : PySem.W.Frag) (t : Adr) : TS := (tRet (tAndV (tCB (cIsi K) (tCons (tVar 0) (tCons (tC (.ty "int")) tNil))) (tNotV (tCB (cIsi K) (tCons (tVar 0) (tCons (tC (.ty "bool")) tNil))))))
def rd__law_block_8 (K : PySem.W.Frag) (t : Adr) (n : Nat) : TS := (tSeq (tIfS (tTest (tOp rNe (tCall (sp__law_follow  n) [] E0 (tCons (tOp (rIxT K) (tVar 0) (tC (.int 3))) (tCons (tVar 1) (tCons (tOp (rI0 fun i j => .int (i + j)) (tVar 4) (tC (.int 1))) tNil)))) (tOp (rIxT K) (tVar 5) (tC (.int 1)))))
      (tRet (tUn (rU fun i => .int (-i)) (tC (.int 1))))
      tNext)
    (tRet (tOp (rIxT K) (tVar 5) (tC (.int 1)))))
def rd__law_block_7 (K : PySem.W.Frag) (t : Adr) (n : Nat) : TS := (tSeq (tIfS (tOr (tNot (tB (tCB (cIsi K) (tCons (tVar 5) (tCons (tC (.ty "tuple")) tNil))))) (tOr (tTest (tOp rNe (tCB (cLen K) (tCons (tVar 5) tNil)) (tC (.int 2)))) (tOr (tTest (tOp rNe (tOp (rIxT K) (tVar 5) (tC (.int 0))) (tC (.str "go")))) (tNot (tB (tCall sp__law_number [] E0 (tCons (tOp (rIxT K) (tVar 5) (tC (.int 1))) tNil)))))))
      (tRet (tUn (rU fun i => .int (-i)) (tC (.int 1))))
      tNext)
    (rd__law_block_8 K t n))
def rd__law_block_6 (K : PySem.W.Frag) (t : Adr) (n : Nat) : TS := (tSeq (tAsg (tOp (rIxL K) (tVar 1) (tVar 4)) (gName 5))
    (rd__law_block_7 K t n))
def rd__law_block_5 (K : PySem.W.Frag) (t : Adr) (n : Nat) : TS := (tSeq (tIfS (tOr (tTest (tOp (rEqNil K) (tOp (rIxT K) (tVar 0) (tC (.int 3))) (tLst tNil))) (tOr (tTest (tOp (rI0 fun i j => .bl (decide (j ≤ i))) (tVar 4) (tCB (cLen K) (tCons (tVar 1) tNil)))) (tTest (tOp rNe (tOp (rIxT K) (tVar 3) (tC (.int 2))) (tOp (rI0 fun i j => .int (i + j)) (tVar 4) (tC (.int 1)))))))
      (tRet (tUn (rU fun i => .int (-i)) (tC (.int 1))))
      tNext)
    (rd__law_block_6 K t n))
def rd__law_block_4 (K : PySem.W.Frag) (t : Adr) (n : Nat) : TS := (tSeq (tIfS (tAnd (tTest (tOp (rEqNil K) (tOp (rIxT K) (tVar 0) (tC (.int 3))) (tLst tNil))) (tTest (tOp rEq (tOp (rIxT K) (tVar 3) (tC (.int 2))) (tVar 4))))
      (tRet (tVar 4))
      tNext)
    (rd__law_block_5 K t n))
def rd__law_block_3 (K : PySem.W.Frag) (t : Adr) (n : Nat) : TS := (tSeq (tIfS (tOr (tTest (tOp rNe (tOp (rIxT K) (tVar 3) (tC (.int 0))) (tC (.str "skip")))) (tOr (tTest (tOp (rEqD K true) (tOp (rIxT K) (tVar 3) (tC (.int 1))) (tOp (rIxT K) (tVar 0) (tC (.int 1))))) (tTest (tOp (rI0 fun i j => .bl (decide (i < j))) (tVar 4) (tC (.int 0))))))
      (tRet (tUn (rU fun i => .int (-i)) (tC (.int 1))))
      tNext)
    (rd__law_block_4 K t n))
def rd__law_block_2 (K : PySem.W.Frag) (t : Adr) (n : Nat) : TS := (tSeq (tAsg (tCall (sp__law_follow  n) [] E0 (tCons (tOp (rIxT K) (tVar 0) (tC (.int 2))) (tCons (tVar 1) (tCons (tOp (rI0 fun i j => .int (i + j)) (tVar 2) (tC (.int 1))) tNil)))) (gName 4))
    (rd__law_block_3 K t n))
def rd__law_block (K : PySem.W.Frag) (t : Adr) (n : Nat) : TS := (tSeq (tAsg (tOp (rIxL K) (tVar 1) (tVar 2)) (gName 3))
    (tSeq (tIfS (tOr (tNot (tB (tCB (cIsi K) (tCons (tVar 3) (tCons (tC (.ty "tuple")) tNil))))) (tOr (tTest (tOp rNe (tCB (cLen K) (tCons (tVar 3) tNil)) (tC (.int 3)))) (tNot (tB (tCall sp__law_number [] E0 (tCons (tOp (rIxT K) (tVar 3) (tC (.int 2))) tNil))))))
      (tRet (tUn (rU fun i => .int (-i)) (tC (.int 1))))
      tNext)
    (rd__law_block_2 K t n)))
def rd__law_follow (K : PySem.W.Frag) (t : Adr) (n : Nat) : TS := (tSeq (tFor (iList K (tVar 0)) (gName 3)
      (tSeq (tIfS (tTest (tOp (rI0 fun i j => .bl (decide (j ≤ i))) (tVar 2) (tCB (cLen K) (tCons (tVar 1) tNil))))
      (tRet (tUn (rU fun i => .int (-i)) (tC (.int 1))))
      tNext)
    (tIfS (tTest (tOp rEq (tOp (rIxT K) (tVar 3) (tC (.int 0))) (tC (.str "if"))))
      (tSeq (tAsg (tCall (sp__law_block  n) [] E0 (tCons (tVar 3) (tCons (tVar 1) (tCons (tVar 2) tNil)))) (gName 2))
    (tIfS (tTest (tOp (rI0 fun i j => .bl (decide (i < j))) (tVar 2) (tC (.int 0))))
      (tRet (tUn (rU fun i => .int (-i)) (tC (.int 1))))
      tNext))
      (tIfS (tOr (tNot (tB (tCB (cIsi K) (tCons (tOp (rIxL K) (tVar 1) (tVar 2)) (tCons (tC (.ty "tuple")) tNil))))) (tTest (tOp (rEqD K true) (tOp (rIxL K) (tVar 1) (tVar 2)) (tVar 3))))
      (tRet (tUn (rU fun i => .int (-i)) (tC (.int 1))))
      (tAsg (tOp (rI0 fun i j => .int (i + j)) (tVar 2) (tC (.int 1))) (gName 2))))))
    (tRet (tVar 2)))
def rd_law_2 (K : PySem.W.Frag) (t : Adr) : TS := (tSeq (tFor (iRng3 (tCons (tC (.int 0)) (tCons (tCB (cLen K) (tCons (tVar 2) tNil)) (tCons (tVar 1) tNil)))) (gName 3)
      (tSeq (tAsg (tCall sp__law_rows [] E0 (tCons (tSl (rSlL K) (tVar 2) (tPart (tVar 3)) (tPart (tOp (rI0 fun i j => .int (i + j)) (tVar 3) (tVar 1)))) (tCons (tOp (rI (fun _ j => 0 < j) fun i j => .int (i % j)) (tCall sp__law_draw [] E0 (tCons (tCall (sp__law_cell_at K) [] E0 (tCons (tVar 0) (tCons (tVar 3) tNil))) (tCons (tC (.int 201)) tNil))) (tC (.int 4))) tNil))) (gName 4))
    (tSeq (tAsg (tCall (sp__law_copied  6) [] E0 (tCons (tVar 4) tNil)) (gName 5))
    (tSeq (tAsg (tCall sp_code_of [] E0 (tCons (tVar 5) tNil)) (gName 6))
    (tSeq (tIfS (tOr (tNot (tB (tCB (cIsi K) (tCons (tVar 6) (tCons (tC (.ty "list")) tNil))))) (tTest (tOp rNe (tCall (sp__law_follow  6) [] E0 (tCons (tVar 4) (tCons (tVar 6) (tCons (tC (.int 0)) tNil)))) (tCB (cLen K) (tCons (tVar 6) tNil)))))
      (tRet (tC (.bl false)))
      tNext)
    (tSeq (tAsg (tCB (cLst K) (tCons (tVar 6) tNil)) (gName 7))
    (tSeq (tDrop (tBM K "list" r_mt_append (tVar 6) (tCons (tTup (tCons (tC (.str "say")) (tCons (tTup (tCons (tC (.int 1)) tNil)) tNil))) tNil)))
    (tIfS (tOr (tTest (tOp (rEqD K true) (tVar 5) (tVar 4))) (tTest (tOp (rEqD K true) (tCall sp_code_of [] E0 (tCons (tVar 5) tNil)) (tVar 7))))
      (tRet (tC (.bl false)))
      tNext))))))))
    (tRet (tOp (rEqNil K) (tCall sp_code_of [] E0 (tCons (tLst tNil) tNil)) (tLst tNil))))
def rd_law (K : PySem.W.Frag) (t : Adr) : TS := (tSeq (tAsg (tOp (rI0 fun i j => .int (i + j)) (tC (.int 1)) (tOp (rI (fun _ j => 0 < j) fun i j => .int (i % j)) (tCall sp__law_draw [] E0 (tCons (tCall (sp__law_cell_at K) [] E0 (tCons (tVar 0) (tCons (tC (.int 0)) tNil))) (tCons (tC (.int 200)) tNil))) (tC (.int 20)))) (gName 1))
    (tSeq (tAsg (tSl (rSlL K) (tVar 0) tNoPart (tPart (tC (.int 240)))) (gName 2))
    (rd_law_2 K t)))
section
variable {K : PySem.W.Frag} {t : Adr} {H : Hp} {Q : VK}
theorem pow10 {j : Int} (h0 : 0 ≤ j) (h1 : j ≤ 100) : CPow 10 j := ⟨h0, by omega, by decide⟩
theorem small_size {n : Nat} (h : n ≤ 100000) : n ≤ sizeLine := Nat.le_trans h (by decide)
theorem kit_same (T : String) : PySem.W.kitOne K (.type T) (.type T) = some true := by
  unfold PySem.W.kitOne
  rw [if_pos (by simp)]
theorem kf (K : PySem.W.Frag) : KF K := ⟨by with_unfolding_all rfl⟩
theorem dB {i j : Int} (h0 : 0 < j := by decide) (h1 : j < 10000000000000000000000000000000000000000000000 := by decide) : CDivB i j := by
  have hb : (10000000000000000000000000000000000000000000000 : Int) < big := by decide +kernel
  exact ⟨h0, by omega⟩
theorem at_lt {α : Type} {xs : List α} {i : Int} (h0 : 0 ≤ i) (h1 : i < xs.length) : ∃ x, atI xs i = some x ∧ x ∈ xs := by
  obtain ⟨n, rfl⟩ : ∃ n : Nat, i = (n : Int) := ⟨i.toNat, by omega⟩
  have hn : n < xs.length := by omega
  refine ⟨xs[n], ?_, List.getElem_mem hn⟩
  unfold atI ixN
  rw [if_pos h0, if_pos h1]
  simp [hn]
theorem at_mod {α : Type} {xs : List α} (e : Int) (n : Nat) (hl : xs.length = n) (hn : 0 < (n : Int)) : ∃ x, atI xs (e % n) = some x ∧ x ∈ xs :=
  at_lt (Int.emod_nonneg _ (by omega)) (by rw [hl]; exact Int.emod_lt_of_pos _ hn)
theorem last_get {xs : List V} {y : V} : (xs ++ [y])[(xs ++ [y]).length - 1]? = some y := by simp
theorem drop_last {xs : List V} {y : V} : (xs ++ [y]).dropLast = xs := by simp
theorem same_upd {H H' : Hp} {w : Addr} {o : HO} (s : Same H H') (hw : H w = none) : Same H (upd H' w o) := fun b u e => by rw [upd_ne (ne_of_none e hw)]; exact s b u e
theorem rdp__law_cell_at {a : Addr} {ns : List Int} {k : Nat} (hS : SqL K H a (ns.map V.int)) (hl : ns.length ≤ 63) (q : ∀ c H', Same H H' → Q (.int c) H') :
    rd__law_cell_at K t { nx := fun _ H' => Q .non H', rt := Q } (L2.start ["script", "k"] [.ref a, .int k]) H := by
  simp only [rd__law_cell_at, L2.start, tSeq, tRet, tNext, tOp, tVar, tC, tCons, tNil, tIfS, tTest, tCB, LenV, rIxL, rI0, cLen, List.map, List.replicate, List.length, List.append, List.cons_append, List.nil_append, List.append_nil, List.getElem?_cons_zero, List.getElem?_cons_succ, Option.some.injEq, exists_eq_left', exists_eq_left, V.int.injEq, V.ref.injEq, V.str.injEq, V.bl.injEq, V.ty.injEq, List.cons.injEq, and_true, true_and, and_assoc, exists_and_left, List.set_cons_zero, List.set_cons_succ, Nat.reduceSub, Nat.reduceAdd, decide_eq_true_eq, Bool.not_eq_true', decide_eq_false_iff_not, Int.reduceToNat, Int.reducePow, Int.reduceNeg, Int.reduceMul, Int.reduceAdd, if_true, ite_true, Bool.false_eq_true, ite_false, if_false]
  refine ⟨_, .inl ⟨_, hS, rfl⟩, ite2 (fun c => ?_) fun _ => q _ _ (Same.refl H)⟩
  obtain ⟨v, hv, hm⟩ := at_lt (xs := ns.map V.int) (i := (k : Int)) (by omega) c
  obtain ⟨i, _, rfl⟩ := List.mem_map.mp hm
  exact ⟨_, hS, _, hv, q _ _ (Same.refl H)⟩
theorem one_len (c : Nat) : ({ cps := #[c] } : Str).length = 1 := rfl
theorem fresh_of {H H' : Hp} {D : Addr} (s : Same H H') (h : H' D = none) : H D = none := by
  cases e : H D with
  | none => rfl
  | some o => rw [s _ _ e] at h; cases h
theorem fresh_ne {H1 : Hp} {R b : Addr} {o : HO} (h : H1 R = some o) (hb : H1 b = none) : b ≠ R := fun z => by rw [z, h] at hb; cases hb
theorem rdp__law_draw {c j : Int} (h1 : 0 ≤ j) (h2 : j ≤ 1000) (q : ∀ r H', 0 ≤ r → r < 2147483648 → Same H H' → Q (.int r) H') :
    rd__law_draw K t { nx := fun _ H' => Q .non H', rt := Q } (L2.start ["cell", "j", "far"] [.int c, .int j]) H := by
  simp only [rd__law_draw, L2.start, tSeq, tAsg, gName, tRet, tOp, tVar, tC, rI, rI0, List.map, List.replicate, List.length, List.append, List.cons_append, List.nil_append, List.append_nil, List.getElem?_cons_zero, List.getElem?_cons_succ, Option.some.injEq, exists_eq_left', exists_eq_left, V.int.injEq, V.ref.injEq, V.str.injEq, V.bl.injEq, V.ty.injEq, List.cons.injEq, and_true, true_and, and_assoc, exists_and_left, List.set_cons_zero, List.set_cons_succ, Nat.reduceSub, Nat.reduceAdd, decide_eq_true_eq, Bool.not_eq_true', decide_eq_false_iff_not, Int.reduceToNat, Int.reducePow, Int.reduceNeg, Int.reduceMul, Int.reduceAdd, if_true, ite_true, Bool.false_eq_true, ite_false, if_false]
  have hb : (10000000000000000000000000000000000000000000000 : Int) < big := by decide +kernel
  have g1 := Int.emod_nonneg c (b := 1000000007) (by decide)
  have g2 := Int.emod_lt_of_pos c (b := 1000000007) (by decide)
  generalize c % 1000000007 = a at *
  have g3 := Int.emod_nonneg (a * 6700417 + (j + 1) * 104729 * 65537) (b := 1000000009) (by decide)
  have g4 := Int.emod_lt_of_pos (a * 6700417 + (j + 1) * 104729 * 65537) (b := 1000000009) (by decide)
  generalize hf : (a * 6700417 + (j + 1) * 104729 * 65537) % 1000000009 = f at *
  have g5 := Int.emod_nonneg (f * f) (b := 1000000009) (by decide)
  have g6 := Int.emod_lt_of_pos (f * f) (b := 1000000009) (by decide)
  generalize hg : f * f % 1000000009 = g at *
  have g7 := Int.emod_nonneg (g * f) (b := 1000000009) (by decide)
  have g8 := Int.emod_lt_of_pos (g * f) (b := 1000000009) (by decide)
  refine ⟨by decide, ⟨⟨by omega, by omega⟩, by omega, by omega⟩, ⟨⟨by omega, by omega⟩, by omega, by omega⟩, ⟨⟨by omega, by omega⟩, by omega, by omega⟩, by decide, ?_⟩
  refine ⟨⟨⟨by omega, by omega⟩, by omega, by omega⟩, by decide, ⟨⟨by omega, by omega⟩, by omega, by omega⟩, by decide, dB, q _ _ ?_ ?_ (Same.refl H)⟩
  · exact Int.ediv_nonneg g7 (by decide)
  · omega
theorem CsAt.same {H H' : Hp} {v : V} {c : Cs} (h : CsAt H v c) (s : Same H H') : CsAt H' v c := by
  cases c with
  | row r => exact ⟨h.1.mono s, h.2⟩
  | skip e to =>
    obtain ⟨p, te, h1, h2, h3⟩ := h
    exact ⟨p, te, h1, s _ _ h2, s _ _ h3⟩
  | go en =>
    obtain ⟨p, h1, h2⟩ := h
    exact ⟨p, h1, s _ _ h2⟩
theorem cs_same {H H' : Hp} (s : Same H H') : ∀ {xs : List V} {C : List Cs}, Paired (CsAt H) xs C → Paired (CsAt H') xs C
  | _, _, .nil => .nil
  | _, _, .cons h r => .cons (h.same s) (cs_same s r)
theorem CoAt.same {H H' : Hp} {l : Addr} {k : Nat} {X : List Cs} (h : CoAt H l k X) (s : Same H H') : CoAt H' l k X := by
  obtain ⟨xs, C, P, S, h1, h2, h3⟩ := h.ex
  exact ⟨xs, C, P, S, s _ _ h1, cs_same s h2, h3⟩
theorem CoAt.sub {H : Hp} {l : Addr} {k : Nat} {A B : List Cs} {X : List Cs} (h : CoAt H l k (A ++ (X ++ B))) : CoAt H l (k + A.length) X := by
  obtain ⟨xs, C, P, S, h1, h2, h3, h4, h5⟩ := h.ex
  exact ⟨xs, C, P ++ A, B ++ S, h1, h2, by rw [h3]; simp, by simp [h4], h5⟩
theorem CoAt.at_ {H : Hp} {l : Addr} {k : Nat} {c : Cs} {B : List Cs} (h : CoAt H l k (c :: B)) : ∃ xs v, H l = some (.lst xs) ∧ atI xs (k : Int) = some v ∧ CsAt H v c ∧ k < xs.length ∧ xs.length ≤ 500 := by
  obtain ⟨xs, C, P, S, h1, h2, h3, h4, h5⟩ := h.ex
  have lx := Paired.length h2
  have e : C[k]? = some c := by
    rw [h3, List.getElem?_append_right (by omega), h4, Nat.sub_self]; rfl
  have hk := (List.getElem?_eq_some_iff.mp e).1
  have ev : xs[k]? = some xs[k] := List.getElem?_eq_getElem (by omega)
  exact ⟨xs, xs[k], h1, atI_nat ev, paired_get h2 ev e, by omega, by omega⟩
theorem nil__law_follow {vs : List V} {H : Hp} {Q : VK} {E : XK} (h : sp__law_follow 0 vs H Q E) : False := by
  obtain ⟨v, l, k, r, _, _, h, _⟩ := h
  exact Nat.not_lt_zero _ h.dp
theorem rdp__law_number {i : Int} (F : KF K) (q : ∀ H', Same H H' → Q (.bl true) H') :
    rd__law_number K t { nx := fun _ H' => Q .non H', rt := Q } (L2.start ["found"] [.int i]) H := by
  simp only [rd__law_number, L2.start, tRet, tVar, tC, tCons, tNil, tAndV, tNotV, tCB, cIsi, List.map, List.replicate, List.length, List.append, List.cons_append, List.nil_append, List.append_nil, List.getElem?_cons_zero, List.getElem?_cons_succ, Option.some.injEq, exists_eq_left', exists_eq_left, V.int.injEq, V.ref.injEq, V.str.injEq, V.bl.injEq, V.ty.injEq, List.cons.injEq, and_true, true_and, and_assoc, exists_and_left, List.set_cons_zero, List.set_cons_succ, Nat.reduceSub, Nat.reduceAdd, decide_eq_true_eq, Bool.not_eq_true', decide_eq_false_iff_not, Int.reduceToNat, Int.reducePow, Int.reduceNeg, Int.reduceMul, Int.reduceAdd, if_true, ite_true, Bool.false_eq_true, ite_false, if_false]
  refine ⟨_, .int i, true, kit_same _, ?_⟩
  rw [if_pos rfl]
  exact ⟨_, .int i, false, F.i_b, q H (Same.refl H)⟩
theorem rdp_blk8 {r l p pg lb : Addr} {k bh n : Nat} {e : List V} {b : Rws} {te la : V} {ys : List V} (e1 : H r = some (.tup [.str "if", te, la, .ref lb])) (e5 : H lb = some (.lst ys)) (e6 : RwsAt anyA H ys b) (h4 : RsOk n b) (hc : CoAt H l (bh + 1) (codeRs b (bh + 1))) (hg : H pg = some (.tup [.str "go", .int (bh + 1 + (codeRs b (bh + 1)).length : Nat)])) (q : ∀ H', Same H H' → Q (.int (bh + 1 + (codeRs b (bh + 1)).length : Nat)) H') :
    rd__law_block_8 K t n { nx := fun _ H' => Q .non H', rt := Q } [some (.ref r), some (.ref l), some (.int k), some (.ref p), some (.int bh), some (.ref pg)] H := by
  simp only [rd__law_block_8, sp__law_follow, L2.start, rIxT, tSeq, tRet, tNext, tOp, tUn, tVar, tC, tCons, tNil, tIfS, tTest, tCall, rIxT, rNe, rI0, rU, scal, List.map, List.replicate, List.length, List.append, List.cons_append, List.nil_append, List.append_nil, List.getElem?_cons_zero, List.getElem?_cons_succ, Option.some.injEq, exists_eq_left', exists_eq_left, V.int.injEq, V.ref.injEq, V.str.injEq, V.bl.injEq, V.ty.injEq, List.cons.injEq, and_true, true_and, and_assoc, exists_and_left, List.set_cons_zero, List.set_cons_succ, Nat.reduceSub, Nat.reduceAdd, decide_eq_true_eq, Bool.not_eq_true', decide_eq_false_iff_not, Int.reduceToNat, Int.reducePow, Int.reduceNeg, Int.reduceMul, Int.reduceAdd, if_true, ite_true, Bool.false_eq_true, ite_false, if_false]
  refine ⟨_, SqT.of e1, _, rfl, bh + 1, by simp, b, ⟨lb, ys, rfl, trivial, e5, e6⟩, h4, hc, fun H1 s1 => ⟨_, SqT.of (s1 _ _ hg), _, rfl, ?_⟩⟩
  refine ⟨rfl, ?_⟩
  rw [if_neg (by simp)]
  exact ⟨_, SqT.of (s1 _ _ hg), _, rfl, q H1 s1⟩
theorem rdp_blk7 {r l p pg lb : Addr} {k bh n : Nat} {e : List V} {b : Rws} {te la : V} {ys : List V} (e1 : H r = some (.tup [.str "if", te, la, .ref lb])) (e5 : H lb = some (.lst ys)) (e6 : RwsAt anyA H ys b) (h4 : RsOk n b) (hc : CoAt H l (bh + 1) (codeRs b (bh + 1))) (hg : H pg = some (.tup [.str "go", .int (bh + 1 + (codeRs b (bh + 1)).length : Nat)])) (q : ∀ H', Same H H' → Q (.int (bh + 1 + (codeRs b (bh + 1)).length : Nat)) H') :
    rd__law_block_7 K t n { nx := fun _ H' => Q .non H', rt := Q } [some (.ref r), some (.ref l), some (.int k), some (.ref p), some (.int bh), some (.ref pg)] H := by
  simp only [rd__law_block_7, sp__law_number, L2.start, rIxT, tSeq, tRet, tNext, tOp, tUn, tVar, tC, tCons, tNil, tIfS, tOr, tNot, tTest, tB, tCB, tCall, LenV, rIxT, rNe, rI0, rU, cLen, cIsi, scal, List.map, List.replicate, List.length, List.append, List.cons_append, List.nil_append, List.append_nil, List.getElem?_cons_zero, List.getElem?_cons_succ, Option.some.injEq, exists_eq_left', exists_eq_left, V.int.injEq, V.ref.injEq, V.str.injEq, V.bl.injEq, V.ty.injEq, List.cons.injEq, and_true, true_and, and_assoc, exists_and_left, List.set_cons_zero, List.set_cons_succ, Nat.reduceSub, Nat.reduceAdd, decide_eq_true_eq, Bool.not_eq_true', decide_eq_false_iff_not, Int.reduceToNat, Int.reducePow, Int.reduceNeg, Int.reduceMul, Int.reduceAdd, if_true, ite_true, Bool.false_eq_true, ite_false, if_false]
  refine ⟨_, .tup hg, true, kit_same _, ?_⟩
  rw [if_neg (by decide)]
  refine ⟨2, .inr ⟨_, SqT.of hg, rfl⟩, ?_⟩
  rw [if_neg (by decide)]
  refine ⟨_, SqT.of hg, _, rfl, rfl, ?_⟩
  rw [if_neg (by simp)]
  refine ⟨_, SqT.of hg, _, rfl, _, rfl, fun H1 s1 => ?_⟩
  rw [if_neg (by decide)]
  exact rdp_blk8 (e := e) (s1 _ _ e1) (s1 _ _ e5) (e6.mono s1) h4 (hc.same s1) (s1 _ _ hg) fun H' s => q H' (s1.trans s)
theorem rdp_blk5 {r l p lb : Addr} {k bh n to : Nat} {e : List V} {b : Rws} {te la tes : V} {ys : List V} (e1 : H r = some (.tup [.str "if", te, la, .ref lb])) (e5 : H lb = some (.lst ys)) (e6 : RwsAt anyA H ys b) (h4 : RsOk n b) (hs : H p = some (.tup [.str "skip", tes, .int (to : Nat)]))
    (hb : (b = .nil ∧ to = bh ∧ ∀ H', Same H H' → Q (.int bh) H') ∨ (b ≠ .nil ∧ to = bh + 1 ∧ CoAt H l bh (.go (bh + 1 + (codeRs b (bh + 1)).length) :: codeRs b (bh + 1)) ∧ ∀ H', Same H H' → Q (.int (bh + 1 + (codeRs b (bh + 1)).length : Nat)) H')) :
    rd__law_block_4 K t n { nx := fun _ H' => Q .non H', rt := Q } [some (.ref r), some (.ref l), some (.int k), some (.ref p), some (.int bh), none] H := by
  simp only [rd__law_block_4, L2.start, rEqNil, rIxT, tSeq, tAsg, gName, tRet, tNext, tOp, tUn, tVar, tC, tLst, tCons, tNil, tIfS, tAnd, tOr, tNot, tTest, tB, tCB, tCall, LenV, rIxL, rIxT, rEq, rNe, rI0, rU, cLen, cIsi, scal, List.map, List.replicate, List.length, List.append, List.cons_append, List.nil_append, List.append_nil, List.getElem?_cons_zero, List.getElem?_cons_succ, Option.some.injEq, exists_eq_left', exists_eq_left, V.int.injEq, V.ref.injEq, V.str.injEq, V.bl.injEq, V.ty.injEq, List.cons.injEq, and_true, true_and, and_assoc, exists_and_left, List.set_cons_zero, List.set_cons_succ, Nat.reduceSub, Nat.reduceAdd, decide_eq_true_eq, Bool.not_eq_true', decide_eq_false_iff_not, Int.reduceToNat, Int.reducePow, Int.reduceNeg, Int.reduceMul, Int.reduceAdd, if_true, ite_true, Bool.false_eq_true, ite_false, if_false]
  refine ⟨_, SqT.of e1, _, rfl, by decide, fun p2 g2 => ?_⟩
  have s1 := isV (o := HO.lst []) p2 g2
  refine ⟨lb, rfl, ys, SqL.of (s1 _ _ e5), SqL.of upd_same, ?_⟩
  rcases hb with ⟨rfl, rfl, q⟩ | ⟨nb, rfl, hc, q⟩
  · unfold RwsAt at e6
    subst e6
    rw [if_pos rfl]
    refine ⟨_, SqT.of (s1 _ _ hs), _, rfl, rfl, ?_⟩
    rw [if_pos rfl]
    exact q _ s1
  · have ny : ys ≠ [] := fun z => by
      cases b with
      | nil => exact nb rfl
      | cons x rs =>
        unfold RwsAt at e6
        obtain ⟨u, us, e, _⟩ := e6
        rw [z] at e; cases e
    rw [if_neg ny]
    simp only [rd__law_block_5, L2.start, rEqNil, rIxT, tSeq, tAsg, gName, tRet, tNext, tOp, tUn, tVar, tC, tLst, tCons, tNil, tIfS, tAnd, tOr, tNot, tTest, tB, tCB, tCall, LenV, rIxL, rIxT, rEq, rNe, rI0, rU, cLen, cIsi, scal, List.map, List.replicate, List.length, List.append, List.cons_append, List.nil_append, List.append_nil, List.getElem?_cons_zero, List.getElem?_cons_succ, Option.some.injEq, exists_eq_left', exists_eq_left, V.int.injEq, V.ref.injEq, V.str.injEq, V.bl.injEq, V.ty.injEq, List.cons.injEq, and_true, true_and, and_assoc, exists_and_left, List.set_cons_zero, List.set_cons_succ, Nat.reduceSub, Nat.reduceAdd, decide_eq_true_eq, Bool.not_eq_true', decide_eq_false_iff_not, Int.reduceToNat, Int.reducePow, Int.reduceNeg, Int.reduceMul, Int.reduceAdd, if_true, ite_true, Bool.false_eq_true, ite_false, if_false]
    refine ⟨_, SqT.of (s1 _ _ e1), _, rfl, by decide, fun p3 g3 => ?_⟩
    have s2 := isV (o := HO.lst []) p3 g3
    refine ⟨lb, rfl, ys, SqL.of ((s1.trans s2) _ _ e5), SqL.of upd_same, ?_⟩
    rw [if_neg ny]
    have S := s1.trans s2
    obtain ⟨xs, v, c1, c2, c3, c4, c5⟩ := (hc.same S).at_
    obtain ⟨pg, rfl, hg⟩ := c3
    refine ⟨xs.length, .inl ⟨_, SqL.of c1, rfl⟩, ?_⟩
    rw [if_neg (by omega)]
    refine ⟨_, SqT.of (S _ _ hs), _, rfl, rfl, ?_⟩
    rw [if_neg (by simp)]
    simp only [rd__law_block_6, L2.start, rEqNil, rIxT, tSeq, tAsg, gName, tRet, tNext, tOp, tUn, tVar, tC, tLst, tCons, tNil, tIfS, tAnd, tOr, tNot, tTest, tB, tCB, tCall, LenV, rIxL, rIxT, rEq, rNe, rI0, rU, cLen, cIsi, scal, List.map, List.replicate, List.length, List.append, List.cons_append, List.nil_append, List.append_nil, List.getElem?_cons_zero, List.getElem?_cons_succ, Option.some.injEq, exists_eq_left', exists_eq_left, V.int.injEq, V.ref.injEq, V.str.injEq, V.bl.injEq, V.ty.injEq, List.cons.injEq, and_true, true_and, and_assoc, exists_and_left, List.set_cons_zero, List.set_cons_succ, Nat.reduceSub, Nat.reduceAdd, decide_eq_true_eq, Bool.not_eq_true', decide_eq_false_iff_not, Int.reduceToNat, Int.reducePow, Int.reduceNeg, Int.reduceMul, Int.reduceAdd, if_true, ite_true, Bool.false_eq_true, ite_false, if_false]
    refine ⟨_, SqL.of c1, _, c2, ?_⟩
    have hc2 := CoAt.sub (A := [Cs.go (bh + 1 + (codeRs b (bh + 1)).length)]) (B := []) (X := codeRs b (bh + 1)) (by rw [List.append_nil]; exact hc.same S)
    exact rdp_blk7 (e := e) (S _ _ e1) (S _ _ e5) (e6.mono S) h4 hc2 hg fun H' s => q H' (S.trans s)
theorem rdp__law_block {v : V} {l : Addr} {k n : Nat} {e : List V} {a b : Rws} (h1 : RwAt anyA H v (.iff e a b)) (h2 : tmP e) (h3 : RsOk n a) (h4 : RsOk n b) (h5 : CoAt H l k (codeR (.iff e a b) k)) (q : ∀ H', Same H H' → Q (.int (k + (codeR (.iff e a b) k).length : Nat)) H') :
    rd__law_block K t n { nx := fun _ H' => Q .non H', rt := Q } (L2.start ["row", "code", "at", "skip", "behind", "go"] [v, .ref l, .int k]) H := by
  unfold RwAt at h1
  obtain ⟨r, te, la, lb, xs, ys, rfl, _, _, _, _, e1, e2, e3, e4, e5, e6⟩ := h1
  have eC : codeR (.iff e a b) k = blk e k (codeRs a (k + 1)) (Rws.isNil b) (codeRs b (k + 2 + (codeRs a (k + 1)).length)) := by rw [codeR]
  have pe : plainD (termD e) = true := term_plain h2
  have de : (termD e).depth ≤ 64 := by have := term_deep e; omega
  obtain ⟨to, B, eX, hto⟩ : ∃ to B, codeR (.iff e a b) k = .skip e to :: (codeRs a (k + 1) ++ B) ∧ ((b = .nil ∧ B = [] ∧ to = k + 1 + (codeRs a (k + 1)).length) ∨ (b ≠ .nil ∧ to = k + 1 + (codeRs a (k + 1)).length + 1 ∧ B = .go (k + 1 + (codeRs a (k + 1)).length + 1 + (codeRs b (k + 1 + (codeRs a (k + 1)).length + 1)).length) :: codeRs b (k + 1 + (codeRs a (k + 1)).length + 1))) := by
    rw [eC]
    cases b with
    | nil => exact ⟨_, [], by rw [List.append_nil]; rfl, .inl ⟨rfl, rfl, rfl⟩⟩
    | cons x rs =>
      have ar : k + 2 + (codeRs a (k + 1)).length = k + 1 + (codeRs a (k + 1)).length + 1 := by omega
      refine ⟨_, _, ?_, .inr ⟨(fun z => nomatch z), rfl, rfl⟩⟩
      unfold blk
      rw [if_neg (by simp [Rws.isNil]), ar]
  rw [eX] at h5 q
  simp only [rd__law_block, sp__law_number, rEqD, L2.start, rEqNil, rIxT, tSeq, tAsg, gName, tRet, tNext, tOp, tUn, tVar, tC, tLst, tCons, tNil, tIfS, tAnd, tOr, tNot, tTest, tB, tCB, tCall, LenV, rIxL, rIxT, rEq, rNe, rI0, rU, cLen, cIsi, scal, List.map, List.replicate, List.length, List.append, List.cons_append, List.nil_append, List.append_nil, List.getElem?_cons_zero, List.getElem?_cons_succ, Option.some.injEq, exists_eq_left', exists_eq_left, V.int.injEq, V.ref.injEq, V.str.injEq, V.bl.injEq, V.ty.injEq, List.cons.injEq, and_true, true_and, and_assoc, exists_and_left, List.set_cons_zero, List.set_cons_succ, Nat.reduceSub, Nat.reduceAdd, decide_eq_true_eq, Bool.not_eq_true', decide_eq_false_iff_not, Int.reduceToNat, Int.reducePow, Int.reduceNeg, Int.reduceMul, Int.reduceAdd, if_true, ite_true, Bool.false_eq_true, ite_false, if_false]
  obtain ⟨zs, u, g1, g2, g3, g4, g5⟩ := h5.at_
  obtain ⟨p, te2, rfl, g6, g7⟩ := g3
  refine ⟨zs, SqL.of g1, _, g2, ?_⟩
  refine ⟨_, .tup g6, true, kit_same _, ?_⟩
  rw [if_neg (by decide)]
  refine ⟨3, .inr ⟨_, SqT.of g6, rfl⟩, ?_⟩
  rw [if_neg (by decide)]
  refine ⟨p, rfl, _, SqT.of g6, _, rfl, _, rfl, fun H1 s1 => ?_⟩
  rw [if_neg (by decide)]
  simp only [rd__law_block_2, sp__law_follow, rEqD, L2.start, rEqNil, rIxT, tSeq, tAsg, gName, tRet, tNext, tOp, tUn, tVar, tC, tLst, tCons, tNil, tIfS, tAnd, tOr, tNot, tTest, tB, tCB, tCall, LenV, rIxL, rIxT, rEq, rNe, rI0, rU, cLen, cIsi, scal, List.map, List.replicate, List.length, List.append, List.cons_append, List.nil_append, List.append_nil, List.getElem?_cons_zero, List.getElem?_cons_succ, Option.some.injEq, exists_eq_left', exists_eq_left, V.int.injEq, V.ref.injEq, V.str.injEq, V.bl.injEq, V.ty.injEq, List.cons.injEq, and_true, true_and, and_assoc, exists_and_left, List.set_cons_zero, List.set_cons_succ, Nat.reduceSub, Nat.reduceAdd, decide_eq_true_eq, Bool.not_eq_true', decide_eq_false_iff_not, Int.reduceToNat, Int.reducePow, Int.reduceNeg, Int.reduceMul, Int.reduceAdd, if_true, ite_true, Bool.false_eq_true, ite_false, if_false]
  have hcA := (CoAt.sub (A := [Cs.skip e to]) (X := codeRs a (k + 1)) (B := B) h5).same s1
  refine ⟨_, SqT.of (s1 _ _ e1), _, rfl, k + 1, by simp, a, ⟨la, xs, rfl, trivial, s1 _ _ e3, e4.mono s1⟩, h3, hcA, fun H2 s2 => ?_⟩
  have S := s1.trans s2
  simp only [rd__law_block_3, rEqD, L2.start, rEqNil, rIxT, tSeq, tAsg, gName, tRet, tNext, tOp, tUn, tVar, tC, tLst, tCons, tNil, tIfS, tAnd, tOr, tNot, tTest, tB, tCB, tCall, LenV, rIxL, rIxT, rEq, rNe, rI0, rU, cLen, cIsi, scal, List.map, List.replicate, List.length, List.append, List.cons_append, List.nil_append, List.append_nil, List.getElem?_cons_zero, List.getElem?_cons_succ, Option.some.injEq, exists_eq_left', exists_eq_left, V.int.injEq, V.ref.injEq, V.str.injEq, V.bl.injEq, V.ty.injEq, List.cons.injEq, and_true, true_and, and_assoc, exists_and_left, List.set_cons_zero, List.set_cons_succ, Nat.reduceSub, Nat.reduceAdd, decide_eq_true_eq, Bool.not_eq_true', decide_eq_false_iff_not, Int.reduceToNat, Int.reducePow, Int.reduceNeg, Int.reduceMul, Int.reduceAdd, if_true, ite_true, Bool.false_eq_true, ite_false, if_false]
  refine ⟨_, SqT.of (S _ _ g6), _, rfl, rfl, ?_⟩
  rw [if_neg (by simp)]
  refine ⟨_, SqT.of (S _ _ g6), _, rfl, _, SqT.of (S _ _ e1), _, rfl, termD e, term_dat (S _ _ g7) h2, termD e, term_dat (S _ _ e2) h2, pe, pe, de, de, fun bb hb => ?_⟩
  rw [if_neg (by rw [hb.mpr rfl]; decide), if_neg (by omega)]
  refine rdp_blk5 (e := e) (S _ _ e1) (S _ _ e5) (e6.mono S) h4 (S _ _ g6) ?_
  rcases hto with ⟨b1, b2, b3⟩ | ⟨b1, b2, b3⟩
  · subst b2
    refine .inl ⟨b1, b3, fun H' s => ?_⟩
    have := q H' (S.trans s)
    rw [List.append_nil, List.length_cons] at this
    rw [show k + 1 + (codeRs a (k + 1)).length = k + ((codeRs a (k + 1)).length + 1) by omega]
    exact this
  · subst b3
    have hcB := (CoAt.sub (A := Cs.skip e to :: codeRs a (k + 1)) (X := .go (k + 1 + (codeRs a (k + 1)).length + 1 + (codeRs b (k + 1 + (codeRs a (k + 1)).length + 1)).length) :: codeRs b (k + 1 + (codeRs a (k + 1)).length + 1)) (B := []) (by rw [List.append_nil]; exact h5)).same S
    rw [List.length_cons, show k + ((codeRs a (k + 1)).length + 1) = k + 1 + (codeRs a (k + 1)).length by omega] at hcB
    refine .inr ⟨b1, b2, hcB, fun H' s => ?_⟩
    have := q H' (S.trans s)
    rw [show k + (Cs.skip e to :: (codeRs a (k + 1) ++ (.go (k + 1 + (codeRs a (k + 1)).length + 1 + (codeRs b (k + 1 + (codeRs a (k + 1)).length + 1)).length) :: codeRs b (k + 1 + (codeRs a (k + 1)).length + 1)))).length = k + 1 + (codeRs a (k + 1)).length + 1 + (codeRs b (k + 1 + (codeRs a (k + 1)).length + 1)).length by simp; omega] at this
    exact this
theorem noIf_em (x : Rw) : (∃ e a b, x = .iff e a b) ∨ noIf x := by
  cases x with
  | iff e a b => exact .inl ⟨e, a, b, rfl⟩
  | _ => exact .inr trivial
theorem codeR_row {x : Rw} (h : noIf x) (k : Nat) : codeR x k = [.row x] := by
  cases x with
  | iff e a b => exact h.elim
  | _ => rw [codeR]; intro e a b z; cases z
theorem codeR_ne (x : Rw) (k : Nat) : ∃ c C, codeR x k = c :: C := by
  rcases noIf_em x with ⟨e, a, b, rfl⟩ | h
  · rw [codeR]
    unfold blk
    split <;> exact ⟨_, _, rfl⟩
  · exact ⟨_, _, codeR_row h k⟩
theorem row_tup {F : Addr → Prop} {v : V} {r : Rw} (h : RwAt F H v r) : ∃ p xs hd, v = .ref p ∧ H p = some (.tup xs) ∧ atI xs 0 = some (.str hd) ∧ (hd = "if" ↔ ¬ noIf r) := by
  cases r with
  | take sh e sl =>
    unfold RwAt at h
    obtain ⟨r, te, rfl, _, _, e2, e3⟩ := h
    exact ⟨r, _, _, rfl, e2, rfl, ⟨fun z => absurd z (by decide +kernel), fun z => absurd trivial z⟩⟩
  | give sh e f =>
    unfold RwAt at h
    obtain ⟨r, te, tf, rfl, _, _, _, e2, e3⟩ := h
    exact ⟨r, _, _, rfl, e2, rfl, ⟨fun z => absurd z (by decide +kernel), fun z => absurd trivial z⟩⟩
  | lt sl e =>
    unfold RwAt at h
    obtain ⟨r, te, rfl, _, _, e2, e3⟩ := h
    exact ⟨r, _, _, rfl, e2, rfl, ⟨fun z => absurd z (by decide +kernel), fun z => absurd trivial z⟩⟩
  | say e =>
    unfold RwAt at h
    obtain ⟨r, te, rfl, _, _, e2, e3⟩ := h
    exact ⟨r, _, _, rfl, e2, rfl, ⟨fun z => absurd z (by decide +kernel), fun z => absurd trivial z⟩⟩
  | off e =>
    unfold RwAt at h
    obtain ⟨r, te, rfl, _, _, e2, e3⟩ := h
    exact ⟨r, _, _, rfl, e2, rfl, ⟨fun z => absurd z (by decide +kernel), fun z => absurd trivial z⟩⟩
  | iff e a b =>
    unfold RwAt at h
    obtain ⟨r, te, la, lb, xs, ys, rfl, f1, f2, f3, f4, e2, e3⟩ := h
    exact ⟨r, _, _, rfl, e2, rfl, ⟨fun _ z => z, fun _ => rfl⟩⟩
def fwI (v : V) (l : Addr) (xs : List V) (n R : Nat) (H : Hp) (i : Nat) (σ : St) (H' : Hp) : Prop := ∃ (rest : Rws) (m : Nat), (∃ o, σ = [some v, some (.ref l), some (.int m), o]) ∧ Same H H' ∧ RwsAt anyA H (xs.drop i) rest ∧ RsOk (n + 1) rest ∧ CoAt H l m (codeRs rest m) ∧ m + (codeRs rest m).length = R
theorem rdp__law_follow {v : V} {l : Addr} {k n : Nat} {r : Rws} (h1 : RlAt anyA H v r) (h2 : RsOk (n + 1) r) (h3 : CoAt H l k (codeRs r k)) (q : ∀ H', Same H H' → Q (.int (k + (codeRs r k).length : Nat)) H') :
    rd__law_follow K t n { nx := fun _ H' => Q .non H', rt := Q } (L2.start ["rows", "code", "at", "row"] [v, .ref l, .int k]) H := by
  obtain ⟨p, xs, rfl, _, hp, hx⟩ := h1
  simp only [rd__law_follow, sp__law_block, rEqD, L2.start, rIxT, tSeq, tAsg, gName, tRet, tNext, tOp, tUn, tVar, tC, tCons, tNil, tFor, tIfS, tOr, tNot, tTest, tB, tCB, tCall, LenV, iList, rIxL, rIxT, rEq, rI0, rU, cLen, cIsi, scal, List.map, List.replicate, List.length, List.append, List.cons_append, List.nil_append, List.append_nil, List.getElem?_cons_zero, List.getElem?_cons_succ, Option.some.injEq, exists_eq_left', exists_eq_left, V.int.injEq, V.ref.injEq, V.str.injEq, V.bl.injEq, V.ty.injEq, List.cons.injEq, and_true, true_and, and_assoc, exists_and_left, List.set_cons_zero, List.set_cons_succ, Nat.reduceSub, Nat.reduceAdd, decide_eq_true_eq, Bool.not_eq_true', decide_eq_false_iff_not, Int.reduceToNat, Int.reducePow, Int.reduceNeg, Int.reduceMul, Int.reduceAdd, if_true, ite_true, Bool.false_eq_true, ite_false, if_false]
  refine ⟨⟨_, SqL.of hp⟩, loop_list xs (fwI (.ref p) l xs n (k + (codeRs r k).length) H) ⟨r, k, ⟨_, rfl⟩, Same.refl H, by rw [List.drop_zero]; exact hx, h2, h3, rfl⟩ (fun i σ H' ⟨_, _, _, s, _⟩ => SqL.of (s _ _ hp)) ?_ ?_⟩
  · rintro i u σ H' hu ⟨rest, m, ⟨o, rfl⟩, s, hr, ok, hc, eq⟩
    obtain ⟨x, rs, rfl, rx, rr⟩ := hr.get hu
    have e0 : codeRs (.cons x rs) m = codeR x m ++ codeRs rs (m + (codeR x m).length) := by rw [codeRs]
    rw [e0] at hc eq
    obtain ⟨c, C, eC⟩ := codeR_ne x m
    have hc' := hc
    rw [eC, List.cons_append] at hc'
    obtain ⟨zs, w, g1, g2, g3, g4, g5⟩ := hc'.at_
    have okd := ok.dp
    have c1 : (Rws.cons x rs).deep = max x.deep rs.deep := by rw [Rws.deep]
    rw [c1] at okd
    have okc := ok.ct
    have c2 : (Rws.cons x rs).cnt = x.cnt + rs.cnt := by rw [Rws.cnt]
    rw [c2] at okc
    have okp := ok.pl
    unfold RwsPl at okp
    have nx : ∀ {H2 : Hp} {o' : Option V}, Same H' H2 → fwI (.ref p) l xs n (k + (codeRs r k).length) H (i + 1) [some (.ref p), some (.ref l), some (.int (m + (codeR x m).length : Nat)), o'] H2 := fun {H2 o'} s2 =>
      ⟨rs, m + (codeR x m).length, ⟨_, rfl⟩, s.trans s2, rr, ⟨by omega, by omega, okp.2⟩, CoAt.sub (A := codeR x m) (B := []) (by rw [List.append_nil]; exact hc), by rw [List.length_append] at eq; omega⟩
    obtain ⟨p1, fs, hd, rfl, e2, e3, e4⟩ := row_tup rx
    simp only [rEqD, L2.start, rIxT, tSeq, tAsg, gName, tRet, tNext, tOp, tUn, tVar, tC, tCons, tNil, tFor, tIfS, tOr, tNot, tTest, tB, tCB, tCall, LenV, iList, rIxL, rIxT, rEq, rI0, rU, cLen, cIsi, scal, List.map, List.replicate, List.length, List.append, List.cons_append, List.nil_append, List.append_nil, List.getElem?_cons_zero, List.getElem?_cons_succ, Option.some.injEq, exists_eq_left', exists_eq_left, V.int.injEq, V.ref.injEq, V.str.injEq, V.bl.injEq, V.ty.injEq, List.cons.injEq, and_true, true_and, and_assoc, exists_and_left, List.set_cons_zero, List.set_cons_succ, Nat.reduceSub, Nat.reduceAdd, decide_eq_true_eq, Bool.not_eq_true', decide_eq_false_iff_not, Int.reduceToNat, Int.reducePow, Int.reduceNeg, Int.reduceMul, Int.reduceAdd, if_true, ite_true, Bool.false_eq_true, ite_false, if_false]
    refine ⟨zs.length, .inl ⟨_, SqL.of (s _ _ g1), rfl⟩, ?_⟩
    rw [if_neg (by omega)]
    refine ⟨_, SqT.of (s _ _ e2), _, e3, rfl, ?_⟩
    rcases noIf_em x with ⟨e, a, b, rfl⟩ | hni
    · rw [if_pos (congrArg V.str (e4.mpr (fun z => z)))]
      have d1 : (Rw.iff e a b).deep = max a.deep b.deep + 1 := by rw [Rw.deep]
      have d2 : (Rw.iff e a b).cnt = max a.cnt b.cnt + 1 := by rw [Rw.cnt]
      rw [d1] at okd
      rw [d2] at okc
      have pl := okp.1
      unfold RwPl at pl
      refine ⟨m, rfl, e, a, b, rx.mono s, pl.1, ⟨by omega, by omega, pl.2.1⟩, ⟨by omega, by omega, pl.2.2⟩, (CoAt.sub (A := []) (X := codeR (.iff e a b) m) (B := codeRs rs (m + (codeR (.iff e a b) m).length)) hc).same s, fun H2 s2 => ?_⟩
      rw [if_neg (by omega)]
      exact nx s2
    · rw [if_neg (fun z => e4.mp (V.str.inj z) hni)]
      have ec := codeR_row hni m
      rw [ec] at eC
      cases eC
      obtain ⟨p2, fs2, hd2, rfl, f2, _⟩ := row_tup g3.1
      have pd := rw_plain x okp.1
      have dd : (rwD x).depth ≤ 64 := by
        have := rw_deep x
        have d0 : x.deep = 0 := by cases x <;> first | exact hni.elim | simp [Rw.deep]
        omega
      refine ⟨_, SqL.of (s _ _ g1), _, g2, _, .tup (s _ _ f2), true, kit_same _, ?_⟩
      rw [if_neg (by decide)]
      refine ⟨_, SqL.of (s _ _ g1), _, g2, rwD x, rw_dat x (g3.1.mono s) okp.1, rwD x, rw_dat x (rx.mono s) okp.1, pd, pd, dd, dd, fun bb hb => ?_⟩
      rw [if_neg (by rw [hb.mpr rfl]; decide)]
      have := nx (o' := some (.ref p1)) (Same.refl H')
      rw [ec] at this
      exact this
  · rintro σ H' ⟨rest, m, ⟨o, rfl⟩, s, hr, ok, hc, eq⟩
    have e := hr.none
    subst e
    refine ⟨_, rfl, ?_⟩
    rw [show codeRs .nil m = [] by rw [codeRs]] at eq
    have e2 : m = k + (codeRs r k).length := by simpa using eq
    rw [e2]
    exact q H' s
theorem row_ref2 {F : Addr → Prop} {v : V} {r : Rw} (h : RwAt F H v r) (d : ¬ ∃ e a b, r = .iff e a b) : ∃ p xs hd, v = .ref p ∧ H p = some (.tup xs) ∧ atI xs 0 = some (.str hd) ∧ hd ≠ "if" := by
  obtain ⟨p, xs, hd, e1, e2, e3, e4⟩ := row_tup h
  refine ⟨p, xs, hd, e1, e2, e3, fun z => ?_⟩
  rcases noIf_em r with h | h
  · exact d h
  · exact e4.mp z h
theorem nil__law_copied {vs : List V} {H : Hp} {Q : VK} {E : XK} (h : sp__law_copied 0 vs H Q E) : False := by
  obtain ⟨F, v, rws, _, _, _, h, _⟩ := h
  exact Nat.not_lt_zero _ h
def cpI (a R : Addr) (F : Addr → Prop) (rws : Rws) (xs : List V) (n : Nat) (H : Hp) (i : Nat) (σ : St) (H' : Hp) : Prop := ∃ (ys : List V) (d rest : Rws), (∃ o, σ = [some (.ref a), some (.ref R), o]) ∧ Same H H' ∧ H' R = some (.lst ys) ∧ ys.length ≤ i ∧ RwsAt (fun b => F b ∧ b ≠ R) H' ys d ∧ RwsAt (fun b => F b ∧ b ≠ R) H (xs.drop i) rest ∧ d.app rest = rws ∧ rest.deep < n + 1 ∧ rest.cnt ≤ 500
theorem rdp__law_copied {F : Addr → Prop} {v : V} {rws : Rws} {n : Nat} (h1 : RlAt F H v rws) (h2 : ∀ b, H b = none → F b) (h3 : rws.deep < n + 1) (h4 : rws.cnt ≤ 500) (q : ∀ v' H', Same H H' → RlAt F H' v' rws → Q v' H') :
    rd__law_copied K t n { nx := fun _ H' => Q .non H', rt := Q } (L2.start ["rows", "found", "row"] [v]) H := by
  obtain ⟨a, xs, rfl, fa, ha, hx⟩ := h1
  have lx := RwsAt.len rws hx
  simp only [rd__law_copied, sp__law_copied, L2.start, r_mt_append, rAppend, rIxT, tSeq, tAsg, gName, tRet, tDrop, tOp, tVar, tC, tLst, tTup, tCons, tNil, tFor, tIfS, tTest, tBM, tyV, tCall, iList, rIxT, rEq, scal, List.map, List.replicate, List.length, List.append, List.cons_append, List.nil_append, List.append_nil, List.getElem?_cons_zero, List.getElem?_cons_succ, Option.some.injEq, exists_eq_left', exists_eq_left, V.int.injEq, V.ref.injEq, V.str.injEq, V.bl.injEq, V.ty.injEq, List.cons.injEq, and_true, true_and, and_assoc, exists_and_left, List.set_cons_zero, List.set_cons_succ, Nat.reduceSub, Nat.reduceAdd, decide_eq_true_eq, Bool.not_eq_true', decide_eq_false_iff_not, Int.reduceToNat, Int.reducePow, Int.reduceNeg, Int.reduceMul, Int.reduceAdd, if_true, ite_true, Bool.false_eq_true, ite_false, if_false]
  refine ⟨by decide, fun R hR => ?_⟩
  have s0 := isV (o := HO.lst []) R hR
  have hx' : RwsAt (fun b => F b ∧ b ≠ R) H xs rws := hx.to rws (fun b o f e => ⟨f, ne_of_none e hR⟩) fun b o _ e => e
  refine ⟨⟨_, SqL.of (s0 _ _ ha)⟩, loop_list xs (cpI a R F rws xs n H) ⟨[], .nil, rws, ⟨_, rfl⟩, s0, upd_same, Nat.le_refl _, by unfold RwsAt; rfl, by rw [List.drop_zero]; exact hx', rfl, h3, h4⟩ (fun i σ H' ⟨ys, d, rest, _, s, _⟩ => SqL.of (s _ _ ha)) ?_ ?_⟩
  · rintro i v σ H' hv ⟨ys, d, rest, ⟨o, rfl⟩, s, hy, ly, hd, hr, ha2, dp, ct⟩
    have hi := (List.getElem?_eq_some_iff.mp hv).1
    obtain ⟨x, rs, rfl, rx, rr⟩ := hr.get hv
    have c1 : (Rws.cons x rs).deep = max x.deep rs.deep := by rw [Rws.deep]
    have c2 : (Rws.cons x rs).cnt = x.cnt + rs.cnt := by rw [Rws.cnt]
    rw [c1] at dp
    rw [c2] at ct
    have sl : ys.length < sizeLine := Nat.lt_of_le_of_lt (by omega : ys.length ≤ 500) (by decide)
    have fin : ∀ (H2 : Hp) (u : V), Same H' H2 → RwAt (fun b => F b ∧ b ≠ R) H2 u x → cpI a R F rws xs n H (i + 1) [some (.ref a), some (.ref R), some v] (upd H2 R (.lst (ys ++ [u]))) := fun H2 u s2 hu =>
      ⟨ys ++ [u], d.snoc x, rs, ⟨_, rfl⟩, same_upd (s.trans s2) hR, upd_same, by rw [List.length_append, List.length_singleton]; omega, RwsAt.snoc (hu.up fun b f => f.2) d ((hd.mono s2).up fun b f => f.2), rr, by rw [Rws.snoc_app]; exact ha2, by omega, by omega⟩
    by_cases hI : ∃ e a b, x = .iff e a b
    · obtain ⟨e, a', b', rfl⟩ := hI
      have k1 : (Rw.iff e a' b').deep = max a'.deep b'.deep + 1 := by rw [Rw.deep]
      have k2 : (Rw.iff e a' b').cnt = max a'.cnt b'.cnt + 1 := by rw [Rw.cnt]
      rw [k1] at dp
      rw [k2] at ct
      unfold RwAt at rx
      obtain ⟨r, te, la, lb, as, bs, rfl, f1, f2, f3, f4, e2, e3, e4, e5, e6, e7⟩ := rx
      simp only [L2.start, r_mt_append, rAppend, rIxT, tSeq, tAsg, gName, tRet, tDrop, tOp, tVar, tC, tLst, tTup, tCons, tNil, tFor, tIfS, tTest, tBM, tyV, tCall, iList, rIxT, rEq, scal, List.map, List.replicate, List.length, List.append, List.cons_append, List.nil_append, List.append_nil, List.getElem?_cons_zero, List.getElem?_cons_succ, Option.some.injEq, exists_eq_left', exists_eq_left, V.int.injEq, V.ref.injEq, V.str.injEq, V.bl.injEq, V.ty.injEq, List.cons.injEq, and_true, true_and, and_assoc, exists_and_left, List.set_cons_zero, List.set_cons_succ, Nat.reduceSub, Nat.reduceAdd, decide_eq_true_eq, Bool.not_eq_true', decide_eq_false_iff_not, Int.reduceToNat, Int.reducePow, Int.reduceNeg, Int.reduceMul, Int.reduceAdd, if_true, ite_true, Bool.false_eq_true, ite_false, if_false]
      refine ⟨_, SqT.of (s _ _ e2), _, rfl, rfl, ?_⟩
      rw [if_pos rfl]
      have fr : ∀ {H2 : Hp}, Same H' H2 → ∀ b, H2 b = none → F b ∧ b ≠ R := fun s2 b hb => ⟨h2 _ (fresh_of (s.trans s2) hb), fresh_ne (s2 _ _ hy) hb⟩
      refine ⟨.inl ⟨_, SqL.of hy⟩, _, SqT.of (s _ _ e2), _, rfl, _, SqT.of (s _ _ e2), _, rfl, fun b => F b ∧ b ≠ R, a', ⟨la, as, rfl, f3, s _ _ e4, e5.mono s⟩, fr (Same.refl _), by omega, by omega, fun v1 H2 t1 hv1 => ?_⟩
      obtain ⟨l1, as1, rfl, g1, hl1, r1⟩ := hv1
      have T1 := s.trans t1
      refine ⟨_, SqT.of (T1 _ _ e2), _, rfl, fun b => F b ∧ b ≠ R, b', ⟨lb, bs, rfl, f4, T1 _ _ e6, e7.mono T1⟩, fr t1, by omega, by omega, fun v2 H3 t2 hv2 => ⟨by decide, fun r2 hr2 => ?_⟩⟩
      obtain ⟨l2, bs1, rfl, g2, hl2, r2'⟩ := hv2
      have t3 := isV (o := HO.tup [V.str (Str.ofString "if"), V.ref te, V.ref l1, V.ref l2]) r2 hr2
      have T := t1.trans (t2.trans t3)
      refine ⟨ys, T _ _ hy, sl, fin _ (.ref r2) T ?_⟩
      unfold RwAt
      exact ⟨r2, te, l1, l2, as1, bs1, rfl, fr (t1.trans t2) r2 hr2, f2, g1, g2, upd_same, (s.trans T) _ _ e3, (t2.trans t3) _ _ hl1, r1.mono (t2.trans t3), t3 _ _ hl2, r2'.mono t3⟩
    · obtain ⟨p, ws, hd', rfl, e2, e3, n1⟩ := row_ref2 rx hI
      simp only [L2.start, r_mt_append, rAppend, rIxT, tSeq, tAsg, gName, tRet, tDrop, tOp, tVar, tC, tLst, tTup, tCons, tNil, tFor, tIfS, tTest, tBM, tyV, tCall, iList, rIxT, rEq, scal, List.map, List.replicate, List.length, List.append, List.cons_append, List.nil_append, List.append_nil, List.getElem?_cons_zero, List.getElem?_cons_succ, Option.some.injEq, exists_eq_left', exists_eq_left, V.int.injEq, V.ref.injEq, V.str.injEq, V.bl.injEq, V.ty.injEq, List.cons.injEq, and_true, true_and, and_assoc, exists_and_left, List.set_cons_zero, List.set_cons_succ, Nat.reduceSub, Nat.reduceAdd, decide_eq_true_eq, Bool.not_eq_true', decide_eq_false_iff_not, Int.reduceToNat, Int.reducePow, Int.reduceNeg, Int.reduceMul, Int.reduceAdd, if_true, ite_true, Bool.false_eq_true, ite_false, if_false]
      refine ⟨_, SqT.of (s _ _ e2), _, e3, rfl, ?_⟩
      rw [if_neg (fun z => n1 (V.str.inj z))]
      exact ⟨.inl ⟨_, SqL.of hy⟩, ys, hy, sl, fin _ _ (Same.refl _) (rx.mono s)⟩
  · rintro σ H' ⟨ys, d, rest, ⟨o, rfl⟩, s, hy, ly, hd, hr, ha2, _⟩
    have e := hr.none
    subst e
    rw [Rws.app_nil] at ha2
    subst ha2
    exact ⟨_, rfl, q (.ref R) H' s ⟨R, ys, rfl, h2 R hR, hy, hd.to d (fun b o f _ => f.1) fun b o _ e => e⟩⟩
def nmI (c j : Int) (sz : Nat) (sg : Str) (H : Hp) (i : Nat) (σ : St) (H' : Hp) : Prop := (∃ (x : Str) (o : Option V), σ = [some (.int c), some (.int j), some (.int sz), some (.str sg), some (.str x), o] ∧ x.length = i ∧ ∀ c ∈ x.cps.toList, c < 128) ∧ Same H H'
theorem asc_ok {x : Str} (h : ∀ c ∈ x.cps.toList, c < 128) : PyData.strOk x = true := (show Asc x from h).flat
theorem rdp_nm3 {c j : Int} {sz : Nat} {sg : Str} (h1 : 0 ≤ j) (h2 : j ≤ 900) (s6 : sz ≤ 6) (lo : 21 ≤ sg.length) (hi : sg.length ≤ 26) (al : ∀ c ∈ sg.cps.toList, c < 128) (q : ∀ (x : Str) H', PyData.strOk x = true → Same H H' → Q (.str x) H') :
    rd__law_name_3 K t { nx := fun _ H' => Q .non H', rt := Q } [some (.int c), some (.int j), some (.int sz), some (.str sg), none, none] H := by
  simp only [rd__law_name_3, sp__law_draw, L2.start, tSeq, tAsg, gName, tRet, tOp, tVar, tC, tCons, tNil, tFor, tCB, tCall, LenV, iRng1, rIxS, rI, rI0, rAddS, cLen, List.map, List.replicate, List.length, List.append, List.cons_append, List.nil_append, List.append_nil, List.getElem?_cons_zero, List.getElem?_cons_succ, Option.some.injEq, exists_eq_left', exists_eq_left, V.int.injEq, V.ref.injEq, V.str.injEq, V.bl.injEq, V.ty.injEq, List.cons.injEq, and_true, true_and, and_assoc, exists_and_left, List.set_cons_zero, List.set_cons_succ, Nat.reduceSub, Nat.reduceAdd, decide_eq_true_eq, Bool.not_eq_true', decide_eq_false_iff_not, Int.reduceToNat, Int.reducePow, Int.reduceNeg, Int.reduceMul, Int.reduceAdd, if_true, ite_true, Bool.false_eq_true, ite_false, if_false]
  refine ⟨by omega, by omega, loop_range (nmI c j sz sg H) ⟨⟨_, none, rfl, by decide +kernel, (by decide +kernel : ∀ c ∈ (Str.ofString "").cps.toList, c < 128)⟩, Same.refl H⟩ ?_ ?_⟩
  · rintro i σ H' hi' ⟨⟨x, o, rfl, hx, hp⟩, s⟩
    simp only [L2.start, tSeq, tAsg, gName, tRet, tOp, tVar, tC, tCons, tNil, tFor, tCB, tCall, LenV, iRng1, rIxS, rI, rI0, rAddS, cLen, List.map, List.replicate, List.length, List.append, List.cons_append, List.nil_append, List.append_nil, List.getElem?_cons_zero, List.getElem?_cons_succ, Option.some.injEq, exists_eq_left', exists_eq_left, V.int.injEq, V.ref.injEq, V.str.injEq, V.bl.injEq, V.ty.injEq, List.cons.injEq, and_true, true_and, and_assoc, exists_and_left, List.set_cons_zero, List.set_cons_succ, Nat.reduceSub, Nat.reduceAdd, decide_eq_true_eq, Bool.not_eq_true', decide_eq_false_iff_not, Int.reduceToNat, Int.reducePow, Int.reduceNeg, Int.reduceMul, Int.reduceAdd, if_true, ite_true, Bool.false_eq_true, ite_false, if_false, Int.zero_add]
    refine ⟨by omega, by omega, fun r1 H1 a1 b1 s1' => ⟨small_size (by omega), by omega, ?_⟩⟩
    obtain ⟨d, hd, hm⟩ := at_lt (xs := sg.cps.toList) (i := r1 % (sg.length : Int)) (Int.emod_nonneg _ (by omega)) (by rw [← len_cps]; exact Int.emod_lt_of_pos _ (by omega))
    refine ⟨small_size (by omega), d, hd, small_size (by rw [one_len]; omega), ⟨_, _, rfl, by rw [len_app, one_len]; omega, fun y hy => ?_⟩, s.trans s1'⟩
    rw [cps_app] at hy
    rcases List.mem_append.mp hy with hy | hy
    · exact hp y hy
    · rw [List.mem_singleton.mp hy]; exact al d hm
  · rintro σ H' ⟨⟨x, o, rfl, hx, hp⟩, s⟩
    exact ⟨_, rfl, q x H' (asc_ok hp) s⟩
theorem rdp__law_name {c j : Int} (h1 : 0 ≤ j) (h2 : j ≤ 900) (q : ∀ (x : Str) H', PyData.strOk x = true → Same H H' → Q (.str x) H') :
    rd__law_name K t { nx := fun _ H' => Q .non H', rt := Q } (L2.start ["cell", "j", "size", "signs", "name", "k"] [.int c, .int j]) H := by
  simp only [rd__law_name, sp__law_draw, L2.start, tSeq, tAsg, gName, tRet, tNext, tOp, tVar, tC, tCons, tNil, tFor, tIfS, tTest, tCB, tCall, LenV, iRng1, rIxS, rEq, rI, rI0, rAddS, cLen, scal, List.map, List.replicate, List.length, List.append, List.cons_append, List.nil_append, List.append_nil, List.getElem?_cons_zero, List.getElem?_cons_succ, Option.some.injEq, exists_eq_left', exists_eq_left, V.int.injEq, V.ref.injEq, V.str.injEq, V.bl.injEq, V.ty.injEq, List.cons.injEq, and_true, true_and, and_assoc, exists_and_left, List.set_cons_zero, List.set_cons_succ, Nat.reduceSub, Nat.reduceAdd, decide_eq_true_eq, Bool.not_eq_true', decide_eq_false_iff_not, Int.reduceToNat, Int.reducePow, Int.reduceNeg, Int.reduceMul, Int.reduceAdd, if_true, ite_true, Bool.false_eq_true, ite_false, if_false]
  refine ⟨h1, by omega, fun r1 H1 a1 b1 s1' => ⟨by decide, ?_⟩⟩
  obtain ⟨k, ek⟩ : ∃ k : Nat, 1 + r1 % 6 = k := ⟨(1 + r1 % 6).toNat, by omega⟩
  rw [ek]
  refine ite2 (fun e => ?_) fun e => ?_
  · exact rdp_nm3 h1 h2 (by omega) (by decide +kernel) (by decide +kernel) (by decide +kernel) fun x H' a b => q x H' a (s1'.trans b)
  · exact rdp_nm3 h1 h2 (by omega) (by decide +kernel) (by decide +kernel) (by decide +kernel) fun x H' a b => q x H' a (s1'.trans b)
theorem rdp__law_part {c j : Int} (h1 : 0 ≤ j) (h2 : j ≤ 800) (q : ∀ v H', plV v → Same H H' → Q v H') :
    rd__law_part K t { nx := fun _ H' => Q .non H', rt := Q } (L2.start ["cell", "j", "way"] [.int c, .int j]) H := by
  simp only [rd__law_part, sp__law_draw, sp__law_name, L2.start, tSeq, tAsg, gName, tRet, tNext, tOp, tVar, tC, tCons, tNil, tIfS, tTest, tCall, rEq, rI, rI0, scal, List.map, List.replicate, List.length, List.append, List.cons_append, List.nil_append, List.append_nil, List.getElem?_cons_zero, List.getElem?_cons_succ, Option.some.injEq, exists_eq_left', exists_eq_left, V.int.injEq, V.ref.injEq, V.str.injEq, V.bl.injEq, V.ty.injEq, List.cons.injEq, and_true, true_and, and_assoc, exists_and_left, List.set_cons_zero, List.set_cons_succ, Nat.reduceSub, Nat.reduceAdd, decide_eq_true_eq, Bool.not_eq_true', decide_eq_false_iff_not, Int.reduceToNat, Int.reducePow, Int.reduceNeg, Int.reduceMul, Int.reduceAdd, if_true, ite_true, Bool.false_eq_true, ite_false, if_false]
  have P30 := pow10 (j := 30) (by decide) (by decide)
  have P40 := pow10 (j := 40) (by decide) (by decide)
  have hb : (1000000000000000000000000000000000000000000000000000000000000 : Int) < big := by decide +kernel
  refine ⟨h1, by omega, fun r1 H1 a1 b1 s1 => ⟨by decide, ite2 (fun _ => ⟨by omega, by omega, fun x H2 hx s2 => q _ _ (.inr ⟨x, rfl, hx⟩) (s1.trans s2)⟩) fun _ => ite2 (fun _ => ⟨by omega, by omega, fun r2 H2 a2 b2 s2 => ⟨by decide, q _ _ (.inl ⟨_, rfl⟩) (s1.trans s2)⟩⟩) fun _ => ?_⟩⟩
  have g1 := Int.emod_nonneg c (b := 10000000000000000000000000000000000000000) (by decide)
  have g2 := Int.emod_lt_of_pos c (b := 10000000000000000000000000000000000000000) (by decide)
  generalize c % 10000000000000000000000000000000000000000 = d at *
  have m1 : 0 ≤ d * (j + 2) := Int.mul_nonneg g1 (by omega)
  have m2 : d * (j + 2) ≤ 10000000000000000000000000000000000000000 * 1000 := Int.mul_le_mul (by omega) (by omega) (by omega) (by decide)
  generalize d * (j + 2) = f at *
  exact ⟨P40, by decide, ⟨by omega, by omega⟩, ⟨by omega, by omega⟩, P30, ⟨by omega, by omega⟩, by decide, P30, q _ _ (.inl ⟨_, rfl⟩) s1⟩
theorem rdp__law_term {c j : Int} (h1 : 0 ≤ j) (h2 : j ≤ 700) (q : ∀ p e H', Same H H' → H p = none → H' p = some (.tup e) → tmP e → Q (.ref p) H') :
    rd__law_term K t { nx := fun _ H' => Q .non H', rt := Q } (L2.start ["cell", "j", "one", "words"] [.int c, .int j]) H := by
  simp only [rd__law_term, sp__law_draw, sp__law_part, L2.start, tSeq, tAsg, gName, tRet, tNext, tOp, tVar, tC, tLst, tTup, tCons, tNil, tIfS, tTest, tCall, rIxL, rEq, rI, rI0, scal, List.map, List.replicate, List.length, List.append, List.cons_append, List.nil_append, List.append_nil, List.getElem?_cons_zero, List.getElem?_cons_succ, Option.some.injEq, exists_eq_left', exists_eq_left, V.int.injEq, V.ref.injEq, V.str.injEq, V.bl.injEq, V.ty.injEq, List.cons.injEq, and_true, true_and, and_assoc, exists_and_left, List.set_cons_zero, List.set_cons_succ, Nat.reduceSub, Nat.reduceAdd, decide_eq_true_eq, Bool.not_eq_true', decide_eq_false_iff_not, Int.reduceToNat, Int.reducePow, Int.reduceNeg, Int.reduceMul, Int.reduceAdd, if_true, ite_true, Bool.false_eq_true, ite_false, if_false]
  refine ⟨by omega, by omega, fun u H1 hu s1 => ⟨h1, by omega, fun r1 H2 a1 b1 s2 => ⟨by decide, ite2 (fun _ => ⟨by decide, fun p hp => ?_⟩) fun _ => ⟨by decide, fun l hl => ?_⟩⟩⟩⟩
  · have S := s1.trans s2
    exact q p [u] _ (S.trans (isV p hp)) (fresh_of S hp) upd_same fun z hz => by rw [List.mem_singleton.mp hz]; exact hu
  · obtain ⟨H3, e3, s3, q3⟩ := new_obj (o := HO.lst [V.str (Str.ofString "plus"), V.str (Str.ofString "minus"), V.str (Str.ofString "times"), V.str (Str.ofString "over"), V.str (Str.ofString "rest"), V.str (Str.ofString "under"), V.str (Str.ofString "same")]) hl
    rw [← e3]; clear e3
    refine ⟨by omega, by omega, fun v H4 hv s4 => ⟨by omega, by omega, fun r2 H5 a2 b2 s5 => ⟨by decide, ?_⟩⟩⟩
    obtain ⟨x, hx, hm⟩ := at_mod r2 7 (xs := [V.str (Str.ofString "plus"), V.str (Str.ofString "minus"), V.str (Str.ofString "times"), V.str (Str.ofString "over"), V.str (Str.ofString "rest"), V.str (Str.ofString "under"), V.str (Str.ofString "same")]) rfl (by decide)
    obtain ⟨w, rfl, sw⟩ : ∃ w : Str, x = .str w ∧ PyData.strOk w = true := by
      simp only [List.mem_cons, List.not_mem_nil, or_false] at hm
      rcases hm with rfl | rfl | rfl | rfl | rfl | rfl | rfl <;> exact ⟨_, rfl, by decide +kernel⟩
    refine ⟨_, SqL.of ((s4.trans s5) _ _ q3), _, hx, by decide, fun p hp => ?_⟩
    have S := s1.trans (s2.trans (s3.trans (s4.trans s5)))
    refine q p [u, v, .str w] _ (S.trans (isV p hp)) (fresh_of S hp) upd_same fun z hz => ?_
    simp only [List.mem_cons, List.not_mem_nil, or_false] at hz
    rcases hz with rfl | rfl | rfl
    · exact hu
    · exact hv
    · exact .inr ⟨w, rfl, sw⟩
theorem rdp__law_row {c : Int} (q : ∀ v r H', Same H H' → RwAt (fun b => H b = none) H' v r → rwV r → Q v H') :
    rd__law_row K t { nx := fun _ H' => Q .non H', rt := Q } (L2.start ["cell", "kind"] [.int c]) H := by
  simp only [rd__law_row, sp__law_draw, sp__law_name, sp__law_term, L2.start, tSeq, tAsg, gName, tRet, tNext, tOp, tVar, tC, tLst, tTup, tCons, tNil, tIfS, tTest, tCall, rIxL, rEq, rI, rI0, scal, List.map, List.replicate, List.length, List.append, List.cons_append, List.nil_append, List.append_nil, List.getElem?_cons_zero, List.getElem?_cons_succ, Option.some.injEq, exists_eq_left', exists_eq_left, V.int.injEq, V.ref.injEq, V.str.injEq, V.bl.injEq, V.ty.injEq, List.cons.injEq, and_true, true_and, and_assoc, exists_and_left, List.set_cons_zero, List.set_cons_succ, Nat.reduceSub, Nat.reduceAdd, decide_eq_true_eq, Bool.not_eq_true', decide_eq_false_iff_not, Int.reduceToNat, Int.reducePow, Int.reduceNeg, Int.reduceMul, Int.reduceAdd, if_true, ite_true, Bool.false_eq_true, ite_false, if_false]
  refine ⟨by decide, by decide, fun r1 H1 a1 b1 s1 => ⟨by decide, ite2 (fun _ => ⟨by decide, by decide, fun x H2 hx s2 => ⟨by decide, by decide, fun p e H3 s3 fp hp te => ⟨by decide, by decide, fun y H4 hy s4 => ⟨by decide, fun r hr => ?_⟩⟩⟩⟩) fun k0 => ite2 (fun _ => ⟨by decide, by decide, fun x H2 hx s2 => ⟨by decide, by decide, fun p e H3 s3 fp hp te => ⟨by decide, by decide, fun p2 f H4 s4 fp2 hp2 tf => ⟨by decide, fun r hr => ?_⟩⟩⟩⟩) fun k1 => ite2 (fun _ => ⟨by decide, by decide, fun x H2 hx s2 => ⟨by decide, by decide, fun p e H3 s3 fp hp te => ⟨by decide, fun r hr => ?_⟩⟩⟩) fun k2 => ⟨by decide, fun l hl => ?_⟩⟩⟩
  · have S := s1.trans (s2.trans (s3.trans s4))
    refine q (.ref r) (.take x e y) _ (S.trans (isV r hr)) ?_ ⟨trivial, ⟨hx, te, hy⟩⟩
    exact ⟨r, p, rfl, fresh_of S hr, fresh_of (s1.trans s2) fp, upd_same, isV r hr _ _ (s4 _ _ hp)⟩
  · have S := s1.trans (s2.trans (s3.trans s4))
    refine q (.ref r) (.give x e f) _ (S.trans (isV r hr)) ?_ ⟨trivial, ⟨hx, te, tf⟩⟩
    exact ⟨r, p, p2, rfl, fresh_of S hr, fresh_of (s1.trans s2) fp, fresh_of (s1.trans (s2.trans s3)) fp2, upd_same, isV r hr _ _ (s4 _ _ hp), isV r hr _ _ hp2⟩
  · have S := s1.trans (s2.trans s3)
    refine q (.ref r) (.lt x e) _ (S.trans (isV r hr)) ?_ ⟨trivial, ⟨hx, te⟩⟩
    exact ⟨r, p, rfl, fresh_of S hr, fresh_of (s1.trans s2) fp, upd_same, isV r hr _ _ hp⟩
  · have s2 := isV (o := HO.lst [V.str (Str.ofString "say"), V.str (Str.ofString "off")]) l hl
    have k0 : ¬ r1 % 5 = 0 := by simpa using k0
    have k1 : ¬ r1 % 5 = 1 := by simpa using k1
    have k2 : ¬ r1 % 5 = 2 := by simpa using k2
    have : r1 % 5 - 3 = 0 ∨ r1 % 5 - 3 = 1 := by omega
    rcases this with e5 | e5 <;> rw [e5]
    · refine ⟨_, SqL.of upd_same, _, rfl, by decide, by decide, fun p e H3 s3 fp hp te => ⟨by decide, fun r hr => ?_⟩⟩
      have S := s1.trans (s2.trans s3)
      refine q (.ref r) (.say e) _ (S.trans (isV r hr)) ?_ ⟨trivial, te⟩
      exact ⟨r, p, rfl, fresh_of S hr, fresh_of (s1.trans s2) fp, upd_same, isV r hr _ _ hp⟩
    · refine ⟨_, SqL.of upd_same, _, rfl, by decide, by decide, fun p e H3 s3 fp hp te => ⟨by decide, fun r hr => ?_⟩⟩
      have S := s1.trans (s2.trans s3)
      refine q (.ref r) (.off e) _ (S.trans (isV r hr)) ?_ ⟨trivial, te⟩
      exact ⟨r, p, rfl, fresh_of S hr, fresh_of (s1.trans s2) fp, upd_same, isV r hr _ _ hp⟩
theorem FsAt.to {F G : Addr → Prop} {H H' : Hp} (g : ∀ b o, F b → H b = some o → G b) (s : ∀ b o, F b → H b = some o → H' b = some o) : ∀ (gs : List Gm) {fs : List V} {sp : List Addr}, (∀ a ∈ sp, ∀ o, H a = some o → H' a = some o) → FsAt F H gs fs sp → FsAt G H' gs fs sp
  | [], fs, sp, p, h => h
  | m :: gs, fs, sp, p, h => by
    obtain ⟨f, tv, fi, c, xs, fs', sp', e1, e2, h1, h2, h3, h4, h5, h6⟩ := h
    subst e2
    refine ⟨f, tv, fi, c, xs, fs', sp', e1, rfl, p f (by simp) _ h1, p c (by simp) _ h2, RwsAt.to _ g s h3, fun n => ?_, ?_, FsAt.to g s gs (fun a ha => p a (by simp [ha])) h6⟩
    · obtain ⟨te, a1, a2, a3, a4⟩ := h4 n
      exact ⟨te, a1, g _ _ a2 a3, s _ _ a2 a3, a4⟩
    · rcases h5 with h5 | ⟨a, ys, A, a1, a2, a3, a4, a5⟩
      · exact .inl h5
      · exact .inr ⟨a, ys, A, a1, a2, g _ _ a3 a4, s _ _ a3 a4, RwsAt.to _ g s a5⟩
theorem FsAt.alive {F : Addr → Prop} {H : Hp} : ∀ (gs : List Gm) {fs : List V} {sp : List Addr}, FsAt F H gs fs sp → ∀ a ∈ sp, ∃ o, H a = some o
  | [], fs, sp, h, a, ha => by rw [h.2] at ha; cases ha
  | m :: gs, fs, sp, h, a, ha => by
    obtain ⟨f, tv, fi, c, xs, fs', sp', e1, e2, h1, h2, h3, h4, h5, h6⟩ := h
    subst e2
    simp only [List.mem_cons] at ha
    rcases ha with rfl | rfl | ha
    · exact ⟨_, h1⟩
    · exact ⟨_, h2⟩
    · exact FsAt.alive gs h6 a ha
theorem FsAt.len {F : Addr → Prop} {H : Hp} : ∀ (gs : List Gm) {fs : List V} {sp : List Addr}, FsAt F H gs fs sp → fs.length = gs.length
  | [], fs, sp, h => by rw [h.1]; rfl
  | m :: gs, fs, sp, h => by
    obtain ⟨f, tv, fi, c, xs, fs', sp', e1, e2, h1, h2, h3, h4, h5, h6⟩ := h
    rw [e1, List.length_cons, List.length_cons, FsAt.len gs h6]
theorem FZ.same {H0 H H' : Hp} {FR : Addr} {gs : List Gm} {fs : List V} {sp : List Addr} (Z : FZ H0 H FR gs fs sp) (s : Same H H') : FZ H0 H' FR gs fs sp :=
  ⟨Z.sm.trans s, s _ _ Z.hf, FsAt.to (fun _ _ f _ => f) (fun _ _ _ e => s _ _ e) gs (fun _ _ _ e => s _ _ e) Z.fa, Z.nd, Z.nf, Z.fr, Z.f0⟩
theorem at_lst {α : Type} {xs : List α} {a : α} : atI (xs ++ [a]) (-1) = some a := by
  unfold atI ixN
  rw [if_neg (by decide), if_pos (by simp; omega)]
  have e : (-1 + ((xs ++ [a]).length : Int)).toNat = xs.length := by simp; omega
  rw [e]
  simp
/-- one more row at the innermost list -/
theorem FZ.push {H0 H : Hp} {FR c : Addr} {g : Gm} {gs : List Gm} {fs : List V} {sp : List Addr} {xs : List V} {v : V} {r : Rw} {f : Addr} {tv fi : V} {fs' : List V} {sp' : List Addr} (Z : FZ H0 H FR (g :: gs) fs sp) (e1 : fs = .ref f :: fs') (e2 : sp = f :: c :: sp') (h1 : H f = some (.lst [tv, fi, .ref c])) (h2 : H c = some (.lst xs)) (hv : RwAt (Fz H0 sp FR) H v r) : FZ H0 (upd H c (.lst (xs ++ [v]))) FR ({ g with D := g.D.snoc r } :: gs) fs sp := by
  have fa := Z.fa
  obtain ⟨f', tv', fi', c', xs', fs1, sp1, e1', e2', h1', h2', h3, h4, h5, h6⟩ := fa
  have nd := Z.nd
  have ec : c ∈ sp := by rw [e2]; simp
  subst e1
  subst e2
  obtain ⟨rfl, rfl⟩ : f = f' ∧ fs' = fs1 := by injection e1' with a b; exact ⟨V.ref.inj a, b⟩
  obtain ⟨_, rfl, rfl⟩ : f = f ∧ c = c' ∧ sp' = sp1 := by injection e2' with a b; injection b with b d; exact ⟨rfl, b, d⟩
  rw [h1] at h1'
  cases h1'
  rw [h2] at h2'
  cases h2'
  rw [List.nodup_cons, List.nodup_cons] at nd
  obtain ⟨n1, n2, n3⟩ := nd
  have nfc : f ≠ c := fun z => n1 (by simp [z])
  have s : ∀ b o, Fz H0 (f :: c :: sp') FR b → H b = some o → upd H c (.lst (xs ++ [v])) b = some o := fun b o fz e => by rw [upd_ne (fun z => fz.1 (by simp [z]))]; exact e
  refine ⟨same_upd Z.sm (Z.fr c ec), by rw [upd_ne (fun z => Z.nf (by rw [z]; exact ec))]; exact Z.hf, ?_, Z.nd, Z.nf, Z.fr, Z.f0⟩
  refine ⟨f, tv, fi, c, xs ++ [v], fs', sp', rfl, rfl, by rw [upd_ne nfc]; exact h1, upd_same, RwsAt.snoc (hv.to r (fun _ _ f _ => f) s) g.D (RwsAt.to _ (fun _ _ f _ => f) s h3), fun n => ?_, ?_, FsAt.to (fun _ _ f _ => f) s gs (fun a ha o e => by rw [upd_ne (fun z => n2 (by rw [← z]; exact ha))]; exact e) h6⟩
  · obtain ⟨te, a1, a2, a3, a4⟩ := h4 n
    exact ⟨te, a1, a2, s _ _ a2 a3, a4⟩
  · rcases h5 with h5 | ⟨a, ys, A, a1, a2, a3, a4, a5⟩
    · exact .inl h5
    · exact .inr ⟨a, ys, A, a1, a2, a3, s _ _ a3 a4, RwsAt.to _ (fun _ _ f _ => f) s a5⟩
/-- the innermost frame taken away -/
theorem FZ.pop {H0 H : Hp} {FR : Addr} {g h : Gm} {gs : List Gm} {fs : List V} {sp : List Addr} (Z : FZ H0 H FR (g :: h :: gs) fs sp) : ∃ f te fi c xs fs' sp', fs = .ref f :: fs' ∧ sp = f :: c :: sp' ∧ FZ H0 (upd H FR (.lst fs'.reverse)) FR (h :: gs) fs' sp' ∧ upd H FR (.lst fs'.reverse) f = some (.lst [.ref te, fi, .ref c]) ∧ upd H FR (.lst fs'.reverse) te = some (.tup g.e) ∧ tmP g.e ∧ Fz H0 sp' FR te ∧ Fz H0 sp' FR c ∧ upd H FR (.lst fs'.reverse) c = some (.lst xs) ∧ RwsAt (Fz H0 sp' FR) (upd H FR (.lst fs'.reverse)) xs g.D ∧ ((g.a = none ∧ fi = .non) ∨ ∃ a ys A, g.a = some A ∧ fi = .ref a ∧ Fz H0 sp' FR a ∧ upd H FR (.lst fs'.reverse) a = some (.lst ys) ∧ RwsAt (Fz H0 sp' FR) (upd H FR (.lst fs'.reverse)) ys A) := by
  have fa := Z.fa
  obtain ⟨f, tv, fi, c, xs, fs', sp', e1, e2, h1, h2, h3, h4, h5, h6⟩ := fa
  have nd := Z.nd
  have fr := Z.fr
  have nf := Z.nf
  subst e2
  rw [List.nodup_cons, List.nodup_cons] at nd
  obtain ⟨n1, n2, n3⟩ := nd
  obtain ⟨te, rfl, a2, a3, a4⟩ := h4 (by simp)
  have g' : ∀ b o, Fz H0 (f :: c :: sp') FR b → H b = some o → Fz H0 sp' FR b := fun b o fz _ => ⟨fun z => fz.1 (by simp [z]), fz.2⟩
  have s : ∀ b o, Fz H0 (f :: c :: sp') FR b → H b = some o → upd H FR (.lst fs'.reverse) b = some o := fun b o fz e => by rw [upd_ne fz.2.1]; exact e
  have p : ∀ a ∈ f :: c :: sp', ∀ o, H a = some o → upd H FR (.lst fs'.reverse) a = some o := fun a ha o e => by rw [upd_ne (fun z => nf (by rw [← z]; exact ha))]; exact e
  refine ⟨f, te, fi, c, xs, fs', sp', e1, rfl, ⟨same_upd Z.sm Z.f0, upd_same, FsAt.to g' s _ (fun a ha => p a (by simp [ha])) h6, n3, fun z => nf (by simp [z]), fun a ha => fr a (by simp [ha]), Z.f0⟩, p f (by simp) _ h1, s _ _ a2 a3, a4, g' _ _ a2 a3, ⟨n2, fun z => nf (by simp [← z]), fr c (by simp)⟩, p c (by simp) _ h2, RwsAt.to _ g' s h3, ?_⟩
  rcases h5 with h5 | ⟨a, ys, A, b1, b2, b3, b4, b5⟩
  · exact .inl h5
  · exact .inr ⟨a, ys, A, b1, b2, g' _ _ b3 b4, s _ _ b3 b4, RwsAt.to _ g' s b5⟩
theorem rdp__law_closed {FR : Addr} {H0 : Hp} {g h : Gm} {gs : List Gm} {fs : List V} {sp : List Addr} (Z : FZ H0 H FR (g :: h :: gs) fs sp) (hc : h.D.cnt ≤ 500) (q : ∀ fs' sp' H', FZ H0 H' FR (closeG g h :: gs) fs' sp' → Q .non H') :
    rd__law_closed K t { nx := fun _ H' => Q .non H', rt := Q } (L2.start ["frames", "frame"] [.ref FR]) H := by
  simp only [rd__law_closed, L2.start, r_mt_append, r_mt_pop, rAppend, rPop, tSeq, tAsg, gName, tDrop, tOp, tUn, tVar, tC, tLst, tTup, tCons, tNil, tIfS, tTest, tBM, tBM0, tyV, rIxL, rU, rIsN, List.map, List.replicate, List.length, List.append, List.cons_append, List.nil_append, List.append_nil, List.getElem?_cons_zero, List.getElem?_cons_succ, Option.some.injEq, exists_eq_left', exists_eq_left, V.int.injEq, V.ref.injEq, V.str.injEq, V.bl.injEq, V.ty.injEq, List.cons.injEq, and_true, true_and, and_assoc, exists_and_left, List.set_cons_zero, List.set_cons_succ, Nat.reduceSub, Nat.reduceAdd, decide_eq_true_eq, Bool.not_eq_true', decide_eq_false_iff_not, Int.reduceToNat, Int.reducePow, Int.reduceNeg, Int.reduceMul, Int.reduceAdd, if_true, ite_true, Bool.false_eq_true, ite_false, if_false]
  have hf := Z.hf
  obtain ⟨f, te, fi, c, xs, fs1, sp1, e1, e2, Z1, h1, h2, h3, h4, h5, h6, h7, h8⟩ := Z.pop
  have er : fs.reverse = fs1.reverse ++ [.ref f] := by rw [e1, List.reverse_cons]
  rw [er] at hf
  refine ⟨.inl ⟨_, SqL.of hf⟩, fs1.reverse ++ [.ref f], hf, .ref f, last_get, ?_⟩
  rw [drop_last]
  obtain ⟨f2, tv2, fi2, c2, xs2, fs2, sp2, d1, d2, k1, k2, k3, k4, k5, k6⟩ := Z1.fa
  have hF1 := Z1.hf
  have er1 : fs1.reverse = fs2.reverse ++ [.ref f2] := by rw [d1, List.reverse_cons]
  generalize upd H FR (HO.lst fs1.reverse) = H1 at *
  rw [er1] at hF1
  have lx : xs2.length < sizeLine := by
    have := RwsAt.len h.D k3
    exact Nat.lt_of_le_of_lt (by omega : _ ≤ 900) (by decide)
  refine ⟨f, rfl, _, SqL.of h1, _, rfl, ?_⟩
  rcases h8 with ⟨ga, rfl⟩ | ⟨a, ys, A, ga, rfl, b3, b4, b5⟩
  · rw [if_pos rfl]
    refine ⟨_, SqL.of hF1, _, at_lst, f2, rfl, _, SqL.of k1, _, rfl, .inl ⟨_, SqL.of k2⟩, f, rfl, _, SqL.of h1, _, rfl, f, rfl, _, SqL.of h1, _, rfl, by decide, fun p3 g3 => ⟨by decide, fun r hr => ?_⟩⟩
    have s1 := isV (o := HO.lst []) p3 g3
    have s2 := isV (o := HO.tup [V.str (Str.ofString "if"), V.ref te, V.ref c, V.ref p3]) r hr
    have S := s1.trans s2
    have Z2 := Z1.same S
    have al : ∀ a ∈ sp1, ∃ o, H1 a = some o := FsAt.alive _ Z1.fa
    have f3 : Fz H0 sp1 FR p3 := ⟨(fun z => by obtain ⟨o, e⟩ := al p3 z; rw [g3] at e; cases e), fresh_ne hF1 g3, fresh_of Z1.sm g3⟩
    have fr : Fz H0 sp1 FR r := ⟨(fun z => by obtain ⟨o, e⟩ := al r z; rw [s1 _ _ e] at hr; cases hr), fresh_ne (s1 _ _ hF1) hr, fresh_of (Z1.sm.trans s1) hr⟩
    refine ⟨c2, rfl, xs2, S _ _ k2, lx, ?_⟩
    have hv : RwAt (Fz H0 sp1 FR) (upd (upd H1 p3 (HO.lst [])) r (HO.tup [V.str (Str.ofString "if"), V.ref te, V.ref c, V.ref p3])) (.ref r) (.iff g.e g.D .nil) := by
      unfold RwAt
      exact ⟨r, te, c, p3, xs, [], rfl, fr, h4, h5, f3, upd_same, S _ _ h2, S _ _ h6, h7.mono S, s2 _ _ upd_same, by unfold RwsAt; rfl⟩
    have := Z2.push d1 d2 (S _ _ k1) (S _ _ k2) hv
    refine q fs1 sp1 _ ?_
    unfold closeG
    rw [ga]
    exact this
  · rw [if_neg (by simp)]
    refine ⟨_, SqL.of hF1, _, at_lst, f2, rfl, _, SqL.of k1, _, rfl, .inl ⟨_, SqL.of k2⟩, f, rfl, _, SqL.of h1, _, rfl, f, rfl, _, SqL.of h1, _, rfl, f, rfl, _, SqL.of h1, _, rfl, by decide, fun r hr => ?_⟩
    have s2 := isV (o := HO.tup [V.str (Str.ofString "if"), V.ref te, V.ref a, V.ref c]) r hr
    have Z2 := Z1.same s2
    have al : ∀ a ∈ sp1, ∃ o, H1 a = some o := FsAt.alive _ Z1.fa
    have fr : Fz H0 sp1 FR r := ⟨(fun z => by obtain ⟨o, e⟩ := al r z; rw [e] at hr; cases hr), fresh_ne hF1 hr, fresh_of Z1.sm hr⟩
    refine ⟨c2, rfl, xs2, s2 _ _ k2, lx, ?_⟩
    have hv : RwAt (Fz H0 sp1 FR) (upd H1 r (HO.tup [V.str (Str.ofString "if"), V.ref te, V.ref a, V.ref c])) (.ref r) (.iff g.e A g.D) := by
      unfold RwAt
      exact ⟨r, te, a, c, ys, xs, rfl, fr, h4, b3, h5, upd_same, s2 _ _ h2, s2 _ _ b4, b5.mono s2, s2 _ _ h6, h7.mono s2⟩
    have := Z2.push d1 d2 (s2 _ _ k1) (s2 _ _ k2) hv
    refine q fs1 sp1 _ ?_
    unfold closeG
    rw [ga]
    exact this
mutual
def szR : Rw → Nat
  | .iff _ a b => szRs a + szRs b + 2
  | _ => 1
def szRs : Rws → Nat
  | .nil => 0
  | .cons r rs => szR r + szRs rs
end
mutual
theorem code_sz : ∀ (r : Rw) (k : Nat), (codeR r k).length ≤ szR r ∧ r.cnt ≤ szR r
  | .iff e a b, k => by
    have h1 := codes_sz a (k + 1)
    have h2 := codes_sz b (k + 2 + (codeRs a (k + 1)).length)
    have c : (Rw.iff e a b).cnt = max a.cnt b.cnt + 1 := by rw [Rw.cnt]
    have z : szR (.iff e a b) = szRs a + szRs b + 2 := by rw [szR]
    rw [codeR, c, z]
    unfold blk
    split
    · exact ⟨by simp; omega, by omega⟩
    · exact ⟨by simp; omega, by omega⟩
  | .take sh e sl, k => by simp [codeR, szR, Rw.cnt]
  | .give sh e f, k => by simp [codeR, szR, Rw.cnt]
  | .lt sl e, k => by simp [codeR, szR, Rw.cnt]
  | .say e, k => by simp [codeR, szR, Rw.cnt]
  | .off e, k => by simp [codeR, szR, Rw.cnt]
theorem codes_sz : ∀ (r : Rws) (k : Nat), (codeRs r k).length ≤ szRs r ∧ r.cnt ≤ szRs r
  | .nil, k => by simp [codeRs, szRs, Rws.cnt]
  | .cons r rs, k => by
    have h1 := code_sz r k
    have h2 := codes_sz rs (k + (codeR r k).length)
    rw [codeRs, szRs, Rws.cnt, List.length_append]
    omega
end
theorem szRs_snoc (x : Rw) : ∀ (r : Rws), szRs (r.snoc x) = szRs r + szR x
  | .nil => by show szRs (.cons x .nil) = _; simp [szRs]
  | .cons y r => by
    show szRs (.cons y (r.snoc x)) = _
    rw [szRs, szRs, szRs_snoc x r]; omega
def szA : Option Rws → Nat
  | none => 0
  | some A => szRs A
def szG : List Gm → Nat
  | [] => 0
  | g :: gs => szRs g.D + szA g.a + 2 + szG gs
def okG : List Gm → Prop
  | [] => True
  | g :: gs => g.D.deep + gs.length ≤ 5 ∧ RwsPl g.D ∧ tmP g.e ∧ (∀ A, g.a = some A → A.deep + gs.length ≤ 5 ∧ RwsPl A) ∧ okG gs
theorem close_ok {g h : Gm} {gs : List Gm} (k : okG (g :: h :: gs)) : okG (closeG g h :: gs) ∧ szG (closeG g h :: gs) = szG (g :: h :: gs) := by
  obtain ⟨k1, k2, k3, k4, k5, k6, k7, k8, k9⟩ := k
  rw [List.length_cons] at k1 k4
  have hx : ∀ (x : Rw), x.deep + gs.length ≤ 5 → RwPl x → szR x = szRs g.D + szA g.a + 2 → okG ({ h with D := h.D.snoc x } :: gs) ∧ szG ({ h with D := h.D.snoc x } :: gs) = szG (g :: h :: gs) := fun x d p z =>
    ⟨⟨by show (h.D.snoc x).deep + gs.length ≤ 5; rw [snoc_deep]; omega, snoc_pl p h.D k6, k7, k8, k9⟩, by show szRs (h.D.snoc x) + szA h.a + 2 + szG gs = szRs g.D + szA g.a + 2 + (szRs h.D + szA h.a + 2 + szG gs); rw [szRs_snoc, z]; omega⟩
  unfold closeG
  cases ga : g.a with
  | none =>
    refine hx (.iff g.e g.D .nil) ?_ ?_ ?_
    · have : (Rw.iff g.e g.D .nil).deep = max g.D.deep Rws.nil.deep + 1 := by rw [Rw.deep]
      rw [this, Rws.deep]; omega
    · unfold RwPl
      exact ⟨k3, k2, by unfold RwsPl; trivial⟩
    · rw [ga, szR, szRs]; rfl
  | some A =>
    obtain ⟨a1, a2⟩ := k4 A ga
    refine hx (.iff g.e A g.D) ?_ ?_ ?_
    · have : (Rw.iff g.e A g.D).deep = max A.deep g.D.deep + 1 := by rw [Rw.deep]
      rw [this]; omega
    · unfold RwPl
      exact ⟨k3, a2, k2⟩
    · rw [ga, szR]
      show szRs A + szRs g.D + 2 = szRs g.D + szRs A + 2
      omega
theorem rwV.deep {r : Rw} (h : rwV r) : r.deep = 0 ∧ szR r = 1 := by
  have := h.ni
  cases r with
  | iff e a b => exact this.elim
  | _ => exact ⟨by simp [Rw.deep], by simp [szR]⟩
def rwI (p FR : Addr) (tn : Int) (H : Hp) (i : Nat) (σ : St) (H' : Hp) : Prop := ∃ gs fs sp, (∃ o3 o4, σ = [some (.ref p), some (.int tn), some (.ref FR), o3, o4]) ∧ FZ H H' FR gs fs sp ∧ okG gs ∧ gs ≠ [] ∧ gs.length ≤ 6 ∧ szG gs ≤ 2 * i + 2
section
variable {p FR : Addr} {tn c k : Int} {H0 : Hp} {i : Nat} {gs : List Gm} {fs : List V} {sp : List Addr} {E : Ends}
theorem fz_len (Z : FZ H0 H FR gs fs sp) : (fs.reverse).length = gs.length := by rw [List.length_reverse]; exact FsAt.len gs Z.fa
theorem rdp_rwG (Z : FZ H0 H FR gs fs sp) (ok : okG gs) (ne : gs ≠ []) (l6 : gs.length ≤ 6) (sz : szG gs ≤ 2 * i + 2) (hi : i < 63) (q : ∀ σ H', rwI p FR tn H0 (i + 1) σ H' → E.nx σ H') :
    rd__law_rows_G K t E [some (.ref p), some (.int tn), some (.ref FR), some (.int c), some (.int k)] H := by
  simp only [rd__law_rows_G, sp__law_row, L2.start, r_mt_append, rAppend, tDrop, tOp, tUn, tVar, tC, tCons, tNil, tBM, tyV, tCall, rIxL, rU, List.map, List.replicate, List.length, List.append, List.cons_append, List.nil_append, List.append_nil, List.getElem?_cons_zero, List.getElem?_cons_succ, Option.some.injEq, exists_eq_left', exists_eq_left, V.int.injEq, V.ref.injEq, V.str.injEq, V.bl.injEq, V.ty.injEq, List.cons.injEq, and_true, true_and, and_assoc, exists_and_left, List.set_cons_zero, List.set_cons_succ, Nat.reduceSub, Nat.reduceAdd, decide_eq_true_eq, Bool.not_eq_true', decide_eq_false_iff_not, Int.reduceToNat, Int.reducePow, Int.reduceNeg, Int.reduceMul, Int.reduceAdd, if_true, ite_true, Bool.false_eq_true, ite_false, if_false]
  cases gs with
  | nil => exact absurd rfl ne
  | cons g gs =>
    obtain ⟨f, tv, fi, cc, xs, fs', sp', e1, e2, h1, h2, h3, h4, h5, h6⟩ := Z.fa
    have hf := Z.hf
    have er : fs.reverse = fs'.reverse ++ [.ref f] := by rw [e1, List.reverse_cons]
    rw [er] at hf
    have lx : xs.length < sizeLine := by
      have a1 := RwsAt.len g.D h3
      have a2 := (codes_sz g.D 0).2
      have a3 : szG (g :: gs) = szRs g.D + szA g.a + 2 + szG gs := rfl
      exact Nat.lt_of_le_of_lt (by omega : _ ≤ 900) (by decide)
    refine ⟨_, SqL.of hf, _, at_lst, f, rfl, _, SqL.of h1, _, rfl, .inl ⟨_, SqL.of h2⟩, fun v r H1 s1 hr vr => ?_⟩
    have Z1 := Z.same s1
    refine ⟨cc, rfl, xs, s1 _ _ h2, lx, ?_⟩
    have al : ∀ a ∈ sp, ∃ o, H a = some o := FsAt.alive _ Z.fa
    have hv : RwAt (Fz H0 sp FR) H1 v r := hr.to r (fun b o fz _ => ⟨(fun z => by obtain ⟨o, e⟩ := al b z; rw [fz] at e; cases e), fresh_ne hf fz, fresh_of Z.sm fz⟩) fun b o _ e => e
    have Z2 := Z1.push e1 e2 (s1 _ _ h1) (s1 _ _ h2) hv
    obtain ⟨d0, z1⟩ := vr.deep
    obtain ⟨o1, o2, o3, o4, o5⟩ := ok
    refine q _ _ ⟨_, fs, sp, ⟨_, _, rfl⟩, Z2, ⟨by show (g.D.snoc r).deep + gs.length ≤ 5; rw [snoc_deep, d0]; omega, snoc_pl vr.pl g.D o2, o3, o4, o5⟩, by simp, by simpa using l6, ?_⟩
    have a3 : szG (g :: gs) = szRs g.D + szA g.a + 2 + szG gs := rfl
    show szRs (g.D.snoc r) + szA g.a + 2 + szG gs ≤ 2 * (i + 1) + 2
    rw [szRs_snoc, z1]
    omega
end
theorem FZ.out {H0 H : Hp} {FR c : Addr} {gs : List Gm} {fs : List V} {sp : List Addr} (Z : FZ H0 H FR gs fs sp) (c0 : H c = none) : c ∉ sp ∧ c ≠ FR ∧ H0 c = none :=
  ⟨(fun z => by obtain ⟨o, e⟩ := FsAt.alive _ Z.fa c z; rw [c0] at e; cases e), fresh_ne Z.hf c0, fresh_of Z.sm c0⟩
theorem FZ.new {H0 Hz H : Hp} {FR f c pt : Addr} {gs : List Gm} {fs : List V} {sp : List Addr} {e : List V} (Z : FZ H0 Hz FR gs fs sp) (s : Same Hz H) (te : tmP e) (hp : H pt = some (.tup e)) (p0 : Hz pt = none) (hc : H c = some (.lst [])) (c0 : Hz c = none) (hf : H f = none) : FZ H0 (upd (upd H f (.lst [.ref pt, .non, .ref c])) FR (.lst (fs.reverse ++ [.ref f]))) FR (⟨e, none, .nil⟩ :: gs) (.ref f :: fs) (f :: c :: sp) := by
  obtain ⟨nc, ncF, fc⟩ := Z.out c0
  obtain ⟨np, npF, fp⟩ := Z.out p0
  have ZH := Z.same s
  obtain ⟨nfs, nF, ff⟩ := ZH.out hf
  have ncf : c ≠ f := fun z => by rw [z, hf] at hc; cases hc
  have npf : pt ≠ f := fun z => by rw [z, hf] at hp; cases hp
  have npc : pt ≠ c := ne_of hp hc (fun z => nomatch z)
  have kp : ∀ {b : Addr} {o : HO}, b ≠ FR → H b = some o → upd (upd H f (.lst [.ref pt, .non, .ref c])) FR (.lst (fs.reverse ++ [.ref f])) b = some o := fun n e => by rw [upd_ne n, upd_ne (ne_of_none e hf)]; exact e
  refine ⟨same_upd (ZH.sm.trans (isV f hf)) Z.f0, by rw [upd_same, List.reverse_cons], ?_, ?_, ?_, ?_, Z.f0⟩
  · refine ⟨f, .ref pt, .non, c, [], fs, sp, rfl, rfl, by rw [upd_ne nF, upd_same], kp ncF hc, by unfold RwsAt; rfl, fun _ => ⟨pt, rfl, ⟨by simp [npf, npc, np], npF, fp⟩, kp npF hp, te⟩, .inl ⟨rfl, rfl⟩, ?_⟩
    refine FsAt.to (fun b o fz e => ⟨?_, fz.2⟩) (fun b o fz e => kp fz.2.1 (s _ _ e)) gs (fun a ha o e => kp (fun z => Z.nf (z ▸ ha)) (s _ _ e)) Z.fa
    simp only [List.mem_cons, not_or]
    exact ⟨ne_of_none (s _ _ e) hf, ne_of_none e c0, fz.1⟩
  · rw [List.nodup_cons, List.nodup_cons]
    exact ⟨by simp [Ne.symm ncf, nfs], nc, Z.nd⟩
  · simp only [List.mem_cons, not_or]
    exact ⟨Ne.symm nF, Ne.symm ncF, Z.nf⟩
  · intro a ha
    simp only [List.mem_cons] at ha
    rcases ha with rfl | rfl | ha
    · exact ff
    · exact fc
    · exact Z.fr a ha
theorem FZ.turn {H0 H : Hp} {FR f c d : Addr} {g : Gm} {gs : List Gm} {fs fs' : List V} {sp sp' : List Addr} {tv fi : V} (Z : FZ H0 H FR (g :: gs) fs sp) (e1 : fs = .ref f :: fs') (e2 : sp = f :: c :: sp') (h1 : H f = some (.lst [tv, fi, .ref c])) (d0 : H d = none) {H2 : Hp} (k : ∀ b o, b ≠ f → H b = some o → H2 b = some o) (hf : H2 f = some (.lst [tv, .ref c, .ref d])) (hd : H2 d = some (.lst [])) : FZ H0 H2 FR (⟨g.e, some g.D, .nil⟩ :: gs) fs (f :: d :: sp') := by
  obtain ⟨nd1, ndF, fd⟩ := Z.out d0
  have fa := Z.fa
  obtain ⟨f', tv', fi', c', xs', fs1, sp1, e1', e2', h1', h2', h3, h4, h5, h6⟩ := fa
  have nd := Z.nd
  have nf := Z.nf
  have fr := Z.fr
  subst e1
  subst e2
  obtain ⟨rfl, rfl⟩ : f = f' ∧ fs' = fs1 := by injection e1' with a b; exact ⟨V.ref.inj a, b⟩
  obtain ⟨_, rfl, rfl⟩ : f = f ∧ c = c' ∧ sp' = sp1 := by injection e2' with a b; injection b with b d; exact ⟨rfl, b, d⟩
  rw [h1] at h1'
  cases h1'
  rw [List.nodup_cons, List.nodup_cons] at nd
  obtain ⟨n1, n2, n3⟩ := nd
  simp only [List.mem_cons, not_or] at nd1 nf n1
  have gF : ∀ b o, Fz H0 (f :: c :: sp') FR b → H b = some o → Fz H0 (f :: d :: sp') FR b := fun b o fz e => ⟨by
    have := fz.1
    simp only [List.mem_cons, not_or] at this ⊢
    exact ⟨this.1, ne_of_none e d0, this.2.2⟩, fz.2⟩
  have sF : ∀ b o, Fz H0 (f :: c :: sp') FR b → H b = some o → H2 b = some o := fun b o fz e => k b o (fun z => fz.1 (by simp [z])) e
  refine ⟨fun b o e => k b o (fun z => by rw [z, fr f (by simp)] at e; cases e) (Z.sm b o e), k _ _ nf.1 Z.hf, ?_, ?_, ?_, ?_, Z.f0⟩
  · refine ⟨f, tv, .ref c, d, [], fs', sp', rfl, rfl, hf, hd, by unfold RwsAt; rfl, fun n => ?_, .inr ⟨c, xs', g.D, rfl, rfl, ⟨?_, fun z => nf.2.1 z.symm, fr c (by simp)⟩, k _ _ (fun z => n1.1 z.symm) h2', RwsAt.to _ gF sF h3⟩, FsAt.to gF sF gs (fun a ha o e => k a o (fun z => n1.2 (z ▸ ha)) e) h6⟩
    · obtain ⟨te, a1, a2, a3, a4⟩ := h4 n
      exact ⟨te, a1, gF _ _ a2 a3, sF _ _ a2 a3, a4⟩
    · simp only [List.mem_cons, not_or]
      exact ⟨fun z => n1.1 z.symm, ne_of_none h2' d0, n2⟩
  · rw [List.nodup_cons, List.nodup_cons]
    exact ⟨by simp only [List.mem_cons, not_or]; exact ⟨fun z => nd1.1 z.symm, n1.2⟩, nd1.2.2, n3⟩
  · simp only [List.mem_cons, not_or]
    exact ⟨nf.1, Ne.symm ndF, nf.2.2⟩
  · intro a ha
    simp only [List.mem_cons] at ha
    rcases ha with rfl | rfl | ha
    · exact fr _ (by simp)
    · exact fd
    · exact fr a (by simp [ha])
theorem FZ.sp_nF {H0 H : Hp} {FR f c : Addr} {gs : List Gm} {fs : List V} {sp sp' : List Addr} (Z : FZ H0 H FR gs fs sp) (e2 : sp = f :: c :: sp') : FR ≠ f := fun z => Z.nf (by rw [e2, z]; simp)
section
variable {p FR : Addr} {tn c k : Int} {H0 : Hp} {i : Nat} {gs : List Gm} {fs : List V} {sp : List Addr} {E : Ends}
theorem rdp_rwA (Z : FZ H0 H FR gs fs sp) (ok : okG gs) (l6 : gs.length < 6) (sz : szG gs ≤ 2 * i + 2) (q : ∀ σ H', rwI p FR tn H0 (i + 1) σ H' → E.nx σ H') :
    rd__law_rows_A K t E [some (.ref p), some (.int tn), some (.ref FR), some (.int c), some (.int k)] H := by
  simp only [rd__law_rows_A, sp__law_term, L2.start, r_mt_append, rAppend, tDrop, tVar, tC, tLst, tCons, tNil, tBM, tyV, tCall, List.map, List.replicate, List.length, List.append, List.cons_append, List.nil_append, List.append_nil, List.getElem?_cons_zero, List.getElem?_cons_succ, Option.some.injEq, exists_eq_left', exists_eq_left, V.int.injEq, V.ref.injEq, V.str.injEq, V.bl.injEq, V.ty.injEq, List.cons.injEq, and_true, true_and, and_assoc, exists_and_left, List.set_cons_zero, List.set_cons_succ, Nat.reduceSub, Nat.reduceAdd, decide_eq_true_eq, Bool.not_eq_true', decide_eq_false_iff_not, Int.reduceToNat, Int.reducePow, Int.reduceNeg, Int.reduceMul, Int.reduceAdd, if_true, ite_true, Bool.false_eq_true, ite_false, if_false]
  have lf := fz_len Z
  refine ⟨.inl ⟨_, SqL.of Z.hf⟩, by decide, by decide, fun pt e H1 s1 fp hp te => ⟨by decide, fun cc gc => ⟨by decide, fun f gf => ?_⟩⟩⟩
  have s2 := isV (o := HO.lst []) cc gc
  have S := s1.trans s2
  have Z3 := Z.new (f := f) S te (s2 _ _ hp) fp upd_same (fresh_of s1 gc) gf
  refine ⟨_, (S.trans (isV f gf)) _ _ Z.hf, Nat.lt_of_le_of_lt (by omega : _ ≤ 900) (by decide), ?_⟩
  refine q _ _ ⟨_, _, _, ⟨_, _, rfl⟩, Z3, ⟨by show Rws.nil.deep + gs.length ≤ 5; rw [Rws.deep]; omega, by unfold RwsPl; trivial, te, (fun A z => nomatch z), ok⟩, by simp, by simp; omega, ?_⟩
  show szRs .nil + 0 + 2 + szG gs ≤ _
  rw [szRs]; omega
theorem rdp_rwF (Z : FZ H0 H FR gs fs sp) (ok : okG gs) (ne : gs ≠ []) (l6 : gs.length ≤ 6) (sz : szG gs ≤ 2 * i + 2) (hi : i < 63) (q : ∀ σ H', rwI p FR tn H0 (i + 1) σ H' → E.nx σ H') :
    rd__law_rows_F K t E [some (.ref p), some (.int tn), some (.ref FR), some (.int c), some (.int k)] H := by
  simp only [rd__law_rows_F, L2.start, r_mt_append, rAppend, tDrop, tOp, tUn, tVar, tC, tCons, tNil, tIfS, tAnd, tTest, tCB, tBM, tyV, tCall, LenV, rIxL, rEq, rI0, rU, cLen, scal, List.map, List.replicate, List.length, List.append, List.cons_append, List.nil_append, List.append_nil, List.getElem?_cons_zero, List.getElem?_cons_succ, Option.some.injEq, exists_eq_left', exists_eq_left, V.int.injEq, V.ref.injEq, V.str.injEq, V.bl.injEq, V.ty.injEq, List.cons.injEq, and_true, true_and, and_assoc, exists_and_left, List.set_cons_zero, List.set_cons_succ, Nat.reduceSub, Nat.reduceAdd, decide_eq_true_eq, Bool.not_eq_true', decide_eq_false_iff_not, Int.reduceToNat, Int.reducePow, Int.reduceNeg, Int.reduceMul, Int.reduceAdd, if_true, ite_true, Bool.false_eq_true, ite_false, if_false]
  refine ite2 (fun _ => ⟨gs.length, .inl ⟨_, SqL.of Z.hf, (fz_len Z).symm⟩, ite2 (fun h1 => ?_) fun _ => rdp_rwG Z ok ne l6 sz hi q⟩) fun _ => rdp_rwG Z ok ne l6 sz hi q
  simp only [rd__law_rows_C, sp__law_closed, L2.start, r_mt_append, rAppend, tDrop, tOp, tUn, tVar, tC, tCons, tNil, tIfS, tAnd, tTest, tCB, tBM, tyV, tCall, LenV, rIxL, rEq, rI0, rU, cLen, scal, List.map, List.replicate, List.length, List.append, List.cons_append, List.nil_append, List.append_nil, List.getElem?_cons_zero, List.getElem?_cons_succ, Option.some.injEq, exists_eq_left', exists_eq_left, V.int.injEq, V.ref.injEq, V.str.injEq, V.bl.injEq, V.ty.injEq, List.cons.injEq, and_true, true_and, and_assoc, exists_and_left, List.set_cons_zero, List.set_cons_succ, Nat.reduceSub, Nat.reduceAdd, decide_eq_true_eq, Bool.not_eq_true', decide_eq_false_iff_not, Int.reduceToNat, Int.reducePow, Int.reduceNeg, Int.reduceMul, Int.reduceAdd, if_true, ite_true, Bool.false_eq_true, ite_false, if_false]
  match gs, Z, ok, ne, l6, sz, h1 with
  | g :: h :: gs, Z, ok, ne, l6, sz, _ =>
    obtain ⟨k1, k2⟩ := close_ok ok
    have a2 := (codes_sz h.D 0).2
    have a3 : szG (g :: h :: gs) = szRs g.D + szA g.a + 2 + (szRs h.D + szA h.a + 2 + szG gs) := rfl
    refine ⟨H0, g, h, gs, fs, sp, Z, by omega, fun fs' sp' H' Z' => q _ _ ⟨_, fs', sp', ⟨_, _, rfl⟩, Z', k1, by simp, by simp at l6 ⊢; omega, by rw [k2]; omega⟩⟩
  | [g], Z, ok, ne, l6, sz, h1 => exact absurd h1 (by simp)
theorem rdp_rwE (Z : FZ H0 H FR gs fs sp) (ok : okG gs) (ne : gs ≠ []) (l6 : gs.length ≤ 6) (sz : szG gs ≤ 2 * i + 2) (hi : i < 63) (q : ∀ σ H', rwI p FR tn H0 (i + 1) σ H' → E.nx σ H') :
    rd__law_rows_E K t E [some (.ref p), some (.int tn), some (.ref FR), some (.int c), some (.int k)] H := by
  simp only [rd__law_rows_E, sLPut, L2.start, r_mt_append, rAppend, tSeq, tDrop, tOp, tUn, tVar, tC, tLst, tTup, tCons, tNil, tIfS, tAnd, tTest, tCB, tBM, tyV, tCall, LenV, rIxL, rEq, rI0, rU, rIn, rIsN, cLen, scal, List.map, List.replicate, List.length, List.append, List.cons_append, List.nil_append, List.append_nil, List.getElem?_cons_zero, List.getElem?_cons_succ, Option.some.injEq, exists_eq_left', exists_eq_left, V.int.injEq, V.ref.injEq, V.str.injEq, V.bl.injEq, V.ty.injEq, List.cons.injEq, and_true, true_and, and_assoc, exists_and_left, List.set_cons_zero, List.set_cons_succ, Nat.reduceSub, Nat.reduceAdd, decide_eq_true_eq, Bool.not_eq_true', decide_eq_false_iff_not, Int.reduceToNat, Int.reducePow, Int.reduceNeg, Int.reduceMul, Int.reduceAdd, if_true, ite_true, Bool.false_eq_true, ite_false, if_false]
  refine ⟨by decide, fun p1 g1 => ⟨_, .inr (SqT.of upd_same), rfl, by decide, ?_⟩⟩
  have Z1 := Z.same (isV (o := HO.tup [V.int 9, V.int 10]) p1 g1)
  generalize upd H p1 (HO.tup [V.int 9, V.int 10]) = H1 at *
  refine ite2 (fun _ => ⟨gs.length, .inl ⟨_, SqL.of Z1.hf, (fz_len Z1).symm⟩, ite2 (fun h1 => ?_) fun _ => rdp_rwF Z1 ok ne l6 sz hi q⟩) fun _ => rdp_rwF Z1 ok ne l6 sz hi q
  cases gs with
  | nil => exact absurd rfl ne
  | cons g gs =>
    obtain ⟨f, tv, fi, cc, xs, fs', sp', e1, e2, h1, h2, h3, h4, h5, h6⟩ := Z1.fa
    have hf := Z1.hf
    have er : fs.reverse = fs'.reverse ++ [.ref f] := by rw [e1, List.reverse_cons]
    rw [er] at hf
    refine ⟨_, SqL.of hf, _, at_lst, f, rfl, _, SqL.of h1, _, rfl, ?_⟩
    refine ite2 (fun hn => ?_) fun _ => rdp_rwF Z1 ok ne l6 sz hi q
    simp only [rd__law_rows_B, sLPut, L2.start, r_mt_append, rAppend, tSeq, tDrop, tOp, tUn, tVar, tC, tLst, tTup, tCons, tNil, tIfS, tAnd, tTest, tCB, tBM, tyV, tCall, LenV, rIxL, rEq, rI0, rU, rIn, rIsN, cLen, scal, List.map, List.replicate, List.length, List.append, List.cons_append, List.nil_append, List.append_nil, List.getElem?_cons_zero, List.getElem?_cons_succ, Option.some.injEq, exists_eq_left', exists_eq_left, V.int.injEq, V.ref.injEq, V.str.injEq, V.bl.injEq, V.ty.injEq, List.cons.injEq, and_true, true_and, and_assoc, exists_and_left, List.set_cons_zero, List.set_cons_succ, Nat.reduceSub, Nat.reduceAdd, decide_eq_true_eq, Bool.not_eq_true', decide_eq_false_iff_not, Int.reduceToNat, Int.reducePow, Int.reduceNeg, Int.reduceMul, Int.reduceAdd, if_true, ite_true, Bool.false_eq_true, ite_false, if_false]
    have sp0 := Z1.sp_nF e2
    refine ⟨_, SqL.of hf, _, at_lst, f, rfl, _, SqL.of h1, _, rfl, _, SqL.of hf, _, at_lst, f, rfl, _, h1, 1, rfl, by decide, by decide, by decide, fun d gd => ?_⟩
    have ndf : d ≠ f := fun z => by rw [z, upd_same] at gd; cases gd
    have d0 : H1 d = none := by rw [upd_ne ndf] at gd; exact gd
    have nFf : FR ≠ f := sp0
    have hF2 : upd (upd H1 f (HO.lst ([tv, fi, V.ref cc].set 1 (.ref cc)))) d (HO.lst []) FR = some (.lst (fs'.reverse ++ [.ref f])) := by
      rw [upd_ne (fun z => by rw [← z, hf] at d0; cases d0), upd_ne nFf]; exact hf
    have hf2 : upd (upd H1 f (HO.lst ([tv, fi, V.ref cc].set 1 (.ref cc)))) d (HO.lst []) f = some (.lst [tv, .ref cc, .ref cc]) := by
      rw [upd_ne (Ne.symm ndf), upd_same]; rfl
    refine ⟨_, SqL.of hF2, _, at_lst, f, rfl, _, hf2, 2, rfl, by decide, by decide, ?_⟩
    have fn : fi = .non := by simpa using hn
    have ga : g.a = none := by
      rcases h5 with h5 | ⟨a, ys, A, a1, a2, _⟩
      · exact h5.1
      · rw [fn] at a2; cases a2
    have Z2 := Z1.turn e1 e2 h1 d0 (H2 := upd (upd (upd H1 f (HO.lst ([tv, fi, V.ref cc].set 1 (.ref cc)))) d (HO.lst [])) f (HO.lst ([tv, V.ref cc, V.ref cc].set 2 (.ref d)))) (fun b o n e => by
      rw [upd_ne n, upd_ne (fun z => by rw [z, d0] at e; cases e), upd_ne n]; exact e) (by rw [upd_same]; rfl) (by rw [upd_ne ndf, upd_same])
    obtain ⟨o1, o2, o3, o4, o5⟩ := ok
    refine q _ _ ⟨_, _, _, ⟨_, _, rfl⟩, Z2, ⟨by show Rws.nil.deep + gs.length ≤ 5; rw [Rws.deep]; omega, by unfold RwsPl; trivial, o3, fun A z => ?_, o5⟩, by simp, by simpa using l6, ?_⟩
    · have z : g.D = A := Option.some.inj z
      rw [← z]; exact ⟨o1, o2⟩
    · have a3 : szG (g :: gs) = szRs g.D + szA g.a + 2 + szG gs := rfl
      rw [ga] at a3
      have a4 : szA none = 0 := rfl
      show szRs .nil + szRs g.D + 2 + szG gs ≤ _
      rw [szRs]; omega
end
def whI (p FR : Addr) (tn : Int) (H0 : Hp) (N : Nat) (o3 o4 : Option V) (m : Nat) (σ : St) (H' : Hp) : Prop := ∃ gs fs sp, σ = [some (.ref p), some (.int tn), some (.ref FR), o3, o4] ∧ FZ H0 H' FR gs fs sp ∧ okG gs ∧ gs.length = m ∧ gs ≠ [] ∧ szG gs ≤ N
theorem rdp_rows2 {p FR : Addr} {tn : Int} {H0 : Hp} {o3 o4 : Option V} {gs : List Gm} {fs : List V} {sp : List Addr} (Z : FZ H0 H FR gs fs sp) (ok : okG gs) (ne : gs ≠ []) (sz : szG gs ≤ 128) (q : ∀ v r H', Same H0 H' → RlAt (fun b => H0 b = none) H' v r → RsOk 6 r → (codeRs r 0).length ≤ 500 → Q v H') :
    rd__law_rows_2 K t { nx := fun _ H' => Q .non H', rt := Q } [some (.ref p), some (.int tn), some (.ref FR), o3, o4] H := by
  simp only [rd__law_rows_2, tWhile, sp__law_closed, L2.start, tSeq, tRet, tDrop, tOp, tVar, tC, tCons, tNil, tTest, tCB, tCall, LenV, rIxL, rI0, cLen, List.map, List.replicate, List.length, List.append, List.cons_append, List.nil_append, List.append_nil, List.getElem?_cons_zero, List.getElem?_cons_succ, Option.some.injEq, exists_eq_left', exists_eq_left, V.int.injEq, V.ref.injEq, V.str.injEq, V.bl.injEq, V.ty.injEq, List.cons.injEq, and_true, true_and, and_assoc, exists_and_left, List.set_cons_zero, List.set_cons_succ, Nat.reduceSub, Nat.reduceAdd, decide_eq_true_eq, Bool.not_eq_true', decide_eq_false_iff_not, Int.reduceToNat, Int.reducePow, Int.reduceNeg, Int.reduceMul, Int.reduceAdd, if_true, ite_true, Bool.false_eq_true, ite_false, if_false]
  refine ⟨whI p FR tn H0 128 o3 o4, ⟨_, gs, fs, sp, rfl, Z, ok, rfl, ne, sz⟩, ?_⟩
  rintro m σ H1 ⟨gs, fs, sp, rfl, Z, ok, rfl, ne, sz⟩
  simp only [L2.start, tSeq, tRet, tDrop, tOp, tVar, tC, tCons, tNil, tTest, tCB, tCall, LenV, rIxL, rI0, cLen, List.map, List.replicate, List.length, List.append, List.cons_append, List.nil_append, List.append_nil, List.getElem?_cons_zero, List.getElem?_cons_succ, Option.some.injEq, exists_eq_left', exists_eq_left, V.int.injEq, V.ref.injEq, V.str.injEq, V.bl.injEq, V.ty.injEq, List.cons.injEq, and_true, true_and, and_assoc, exists_and_left, List.set_cons_zero, List.set_cons_succ, Nat.reduceSub, Nat.reduceAdd, decide_eq_true_eq, Bool.not_eq_true', decide_eq_false_iff_not, Int.reduceToNat, Int.reducePow, Int.reduceNeg, Int.reduceMul, Int.reduceAdd, if_true, ite_true, Bool.false_eq_true, ite_false, if_false]
  refine ⟨gs.length, .inl ⟨_, SqL.of Z.hf, (fz_len Z).symm⟩, ite2 (fun c1 => ?_) fun c1 => ?_⟩
  · match gs, Z, ok, ne, sz, c1 with
    | g :: h :: gs, Z, ok, ne, sz, _ =>
      obtain ⟨k1, k2⟩ := close_ok ok
      have a2 := (codes_sz h.D 0).2
      have a3 : szG (g :: h :: gs) = szRs g.D + szA g.a + 2 + (szRs h.D + szA h.a + 2 + szG gs) := rfl
      refine ⟨whI p FR tn H0 128 o3 o4 (gs.length + 1), fun σ' H' z => ⟨gs.length + 1, by simp, z⟩, H0, g, h, gs, fs, sp, Z, by omega, fun fs' sp' H' Z' => ⟨_, fs', sp', rfl, Z', k1, by simp, by simp, by rw [k2]; exact sz⟩⟩
    | [g], Z, ok, ne, sz, h1 => exact absurd h1 (by simp)
  · match gs, Z, ok, ne, sz, c1 with
    | [g], Z, ok, ne, sz, _ =>
      obtain ⟨f, tv, fi, cc, xs, fs', sp', e1, e2, h1, h2, h3, h4, h5, h6⟩ := Z.fa
      have hf := Z.hf
      obtain ⟨rfl, rfl⟩ := h6
      subst e1
      obtain ⟨o1, o2, o3', o4', o5⟩ := ok
      have a1 := codes_sz g.D 0
      have a3 : szG [g] = szRs g.D + szA g.a + 2 + 0 := rfl
      have fr := Z.fr cc (by rw [e2]; simp)
      refine ⟨_, SqL.of hf, _, rfl, f, rfl, _, SqL.of h1, _, rfl, ?_⟩
      exact q (.ref cc) g.D _ Z.sm ⟨cc, xs, rfl, fr, h2, RwsAt.to _ (fun b o fz _ => fz.2.2) (fun b o _ e => e) h3⟩ ⟨by simp at o1; omega, by omega, o2⟩ (by omega)
    | g :: h :: gs, Z, ok, ne, sz, h1 => exact absurd (show (1 : Int) < ((g :: h :: gs).length : Nat) by simp; omega) h1
    | [], Z, ok, ne, sz, h1 => exact absurd rfl ne
theorem rdp_rows1 {p FR : Addr} {tn : Int} {H0 : Hp} {ns : List Int} {gs : List Gm} {fs : List V} {sp : List Addr} (hp : H0 p = some (.lst (ns.map V.int))) (hn : ns.length ≤ 63) (Z : FZ H0 H FR gs fs sp) (ok : okG gs) (ne : gs ≠ []) (l6 : gs.length ≤ 6) (sz : szG gs ≤ 2) (q : ∀ v r H', Same H0 H' → RlAt (fun b => H0 b = none) H' v r → RsOk 6 r → (codeRs r 0).length ≤ 500 → Q v H') :
    rd__law_rows_1 K t { nx := fun _ H' => Q .non H', rt := Q } [some (.ref p), some (.int tn), some (.ref FR), none, none] H := by
  simp only [rd__law_rows_1, sp__law_draw, sLPut, L2.start, r_mt_append, rAppend, tSeq, tAsg, gName, tRet, tDrop, tNext, tOp, tUn, tVar, tC, tLst, tTup, tCons, tNil, tFor, tIfS, tAnd, tTest, tCB, tBM, tyV, tCall, LenV, iList, rIxL, rEq, rI, rI0, rU, rIn, rIsN, cLen, scal, List.map, List.replicate, List.length, List.append, List.cons_append, List.nil_append, List.append_nil, List.getElem?_cons_zero, List.getElem?_cons_succ, Option.some.injEq, exists_eq_left', exists_eq_left, V.int.injEq, V.ref.injEq, V.str.injEq, V.bl.injEq, V.ty.injEq, List.cons.injEq, and_true, true_and, and_assoc, exists_and_left, List.set_cons_zero, List.set_cons_succ, Nat.reduceSub, Nat.reduceAdd, decide_eq_true_eq, Bool.not_eq_true', decide_eq_false_iff_not, Int.reduceToNat, Int.reducePow, Int.reduceNeg, Int.reduceMul, Int.reduceAdd, if_true, ite_true, Bool.false_eq_true, ite_false, if_false]
  refine ⟨⟨_, SqL.of (Z.sm _ _ hp)⟩, loop_list (ns.map V.int) (rwI p FR tn H0) ⟨gs, fs, sp, ⟨_, _, rfl⟩, Z, ok, ne, l6, sz⟩ (fun i σ H' ⟨_, _, _, _, Z, _⟩ => SqL.of (Z.sm _ _ hp)) ?_ ?_⟩
  · rintro i v σ H' hv ⟨gs, fs, sp, ⟨o3, o4, rfl⟩, Z, ok, ne, l6, sz⟩
    obtain ⟨c, _, rfl⟩ := List.mem_map.mp (List.mem_of_getElem? hv)
    have hi : i < 63 := by have := (List.getElem?_eq_some_iff.mp hv).1; rw [List.length_map] at this; omega
    simp only [sLPut, L2.start, r_mt_append, rAppend, tSeq, tAsg, gName, tRet, tDrop, tNext, tOp, tUn, tVar, tC, tLst, tTup, tCons, tNil, tFor, tIfS, tAnd, tTest, tCB, tBM, tyV, tCall, LenV, iList, rIxL, rEq, rI, rI0, rU, rIn, rIsN, cLen, scal, List.map, List.replicate, List.length, List.append, List.cons_append, List.nil_append, List.append_nil, List.getElem?_cons_zero, List.getElem?_cons_succ, Option.some.injEq, exists_eq_left', exists_eq_left, V.int.injEq, V.ref.injEq, V.str.injEq, V.bl.injEq, V.ty.injEq, List.cons.injEq, and_true, true_and, and_assoc, exists_and_left, List.set_cons_zero, List.set_cons_succ, Nat.reduceSub, Nat.reduceAdd, decide_eq_true_eq, Bool.not_eq_true', decide_eq_false_iff_not, Int.reduceToNat, Int.reducePow, Int.reduceNeg, Int.reduceMul, Int.reduceAdd, if_true, ite_true, Bool.false_eq_true, ite_false, if_false]
    refine ⟨by decide, by decide, fun r1 H1 a1 b1 s1 => ⟨by decide, ?_⟩⟩
    refine ite2 (fun _ => ⟨by decide, by decide, fun r2 H2 a2 b2 s2 => ⟨by decide, by decide, fun p1 g1 => ?_⟩⟩) fun _ => ⟨by decide, fun p1 g1 => ?_⟩
    · have Zp := (Z.same (s1.trans s2)).same (isV (o := HO.tup [V.int 5, V.int 6, V.int 7, V.int 8]) p1 g1)
      exact ⟨_, .inr (SqT.of upd_same), rfl, by decide, ite2 (fun _ => ⟨gs.length, .inl ⟨_, SqL.of Zp.hf, (fz_len Zp).symm⟩, ite2 (fun h6 => rdp_rwA Zp ok (by omega) sz fun σ H' z => z) fun _ => rdp_rwE Zp ok ne l6 sz hi fun σ H' z => z⟩) fun _ => rdp_rwE Zp ok ne l6 sz hi fun σ H' z => z⟩
    · have Zp := (Z.same s1).same (isV (o := HO.tup [V.int 5, V.int 6, V.int 7, V.int 8]) p1 g1)
      exact ⟨_, .inr (SqT.of upd_same), rfl, by decide, ite2 (fun _ => ⟨gs.length, .inl ⟨_, SqL.of Zp.hf, (fz_len Zp).symm⟩, ite2 (fun h6 => rdp_rwA Zp ok (by omega) sz fun σ H' z => z) fun _ => rdp_rwE Zp ok ne l6 sz hi fun σ H' z => z⟩) fun _ => rdp_rwE Zp ok ne l6 sz hi fun σ H' z => z⟩
  · rintro σ H' ⟨gs, fs, sp, ⟨o3, o4, rfl⟩, Z, ok, ne, l6, sz⟩
    rw [List.length_map] at sz
    exact rdp_rows2 Z ok ne (by omega) q
theorem rdp__law_rows {p : Addr} {ns : List Int} {tn : Int} (hp : H p = some (.lst (ns.map V.int))) (hn : ns.length ≤ 63) (q : ∀ v r H', Same H H' → RlAt (fun b => H b = none) H' v r → RsOk 6 r → (codeRs r 0).length ≤ 500 → Q v H') :
    rd__law_rows K t { nx := fun _ H' => Q .non H', rt := Q } (L2.start ["cells", "turn", "frames", "cell", "kind"] [.ref p, .int tn]) H := by
  simp only [rd__law_rows, sLPut, L2.start, r_mt_append, rAppend, tSeq, tAsg, gName, tRet, tDrop, tNext, tOp, tUn, tVar, tC, tLst, tTup, tCons, tNil, tFor, tIfS, tAnd, tTest, tCB, tBM, tyV, tCall, LenV, iList, rIxL, rEq, rI, rI0, rU, rIn, rIsN, cLen, scal, List.map, List.replicate, List.length, List.append, List.cons_append, List.nil_append, List.append_nil, List.getElem?_cons_zero, List.getElem?_cons_succ, Option.some.injEq, exists_eq_left', exists_eq_left, V.int.injEq, V.ref.injEq, V.str.injEq, V.bl.injEq, V.ty.injEq, List.cons.injEq, and_true, true_and, and_assoc, exists_and_left, List.set_cons_zero, List.set_cons_succ, Nat.reduceSub, Nat.reduceAdd, decide_eq_true_eq, Bool.not_eq_true', decide_eq_false_iff_not, Int.reduceToNat, Int.reducePow, Int.reduceNeg, Int.reduceMul, Int.reduceAdd, if_true, ite_true, Bool.false_eq_true, ite_false, if_false]
  refine ⟨by decide, fun c gc => ⟨by decide, fun f gf => ⟨by decide, fun FR gF => ?_⟩⟩⟩
  have s1 := isV (o := HO.lst []) c gc
  have s2 := isV (o := HO.lst [V.non, V.non, V.ref c]) f gf
  have s3 := isV (o := HO.lst [V.ref f]) FR gF
  have nfc : f ≠ c := fresh_ne upd_same gf
  have nF1 : FR ≠ f := fresh_ne upd_same gF
  have nF2 : FR ≠ c := fresh_ne (s2 _ _ upd_same) gF
  refine rdp_rows1 (gs := [⟨[], none, .nil⟩]) (fs := [.ref f]) (sp := [f, c]) hp hn ⟨s1.trans (s2.trans s3), upd_same, ?_, by simp [nfc], by simp [nF1, nF2], fun a ha => ?_, fresh_of (s1.trans s2) gF⟩ ⟨by simp [Rws.deep], by unfold RwsPl; trivial, (fun _ z => nomatch z), (fun A z => nomatch z), trivial⟩ (by simp) (by decide) (by simp [szG, szRs, szA]) q
  · exact ⟨f, .non, .non, c, [], [], [], rfl, rfl, s3 _ _ upd_same, (s2.trans s3) _ _ upd_same, by unfold RwsAt; rfl, fun n => absurd rfl n, .inl ⟨rfl, rfl⟩, rfl, rfl⟩
  · simp only [List.mem_cons, List.not_mem_nil, or_false] at ha
    rcases ha with rfl | rfl
    · exact fresh_of s1 gf
    · exact gc
theorem cut_one (ns : List Int) (lo hi : Option Int) : ∃ ys : List Int, cutV (ns.map V.int) lo hi = ys.map V.int ∧ ys.length ≤ ns.length := by
  refine ⟨(ns.drop (HT.sIx ns.length 0 lo)).take (HT.sIx ns.length ns.length hi - HT.sIx ns.length 0 lo), ?_, ?_⟩
  · unfold cutV
    rw [List.map_take, List.map_drop, List.length_map]
  · rw [List.length_take, List.length_drop]; omega
theorem loop_range3 {σ : St} {H : Hp} {nx : St → Hp → Prop} {B : V → St → Hp → (St → Hp → Prop) → Prop} {lo c : Int} {n : Nat} (Pv : Nat → St → Hp → Prop) (h0 : Pv 0 σ H) (hs : ∀ i σ H, i < n → Pv i σ H → B (.int (lo + i * c)) σ H (Pv (i + 1))) (hd : ∀ σ H, Pv n σ H → nx σ H) :
    ∃ W : Nat → Nat → St → Hp → Prop, (∃ m, W 0 m σ H) ∧ ∀ i m σ H, W i m σ H → ((Itr3 lo c n).stop i H ∧ nx σ H) ∨ ((Itr3 lo c n).go i H ∧ ∃ N : St → Hp → Prop, (∀ σ' H', N σ' H' → ∃ m', m' < m ∧ W (i + 1) m' σ' H') ∧ ∀ x H', (Itr3 lo c n).yld i H x H' → B x σ H' N) := by
  refine ⟨fun i m σ H => m = n - i ∧ i ≤ n ∧ Pv i σ H, ⟨n, by simp, Nat.zero_le _, h0⟩, ?_⟩
  rintro i m σ H ⟨rfl, hi, p⟩
  by_cases hlt : i < n
  · refine .inr ⟨hlt, Pv (i + 1), fun σ' H' p' => ⟨n - (i + 1), by omega, rfl, hlt, p'⟩, ?_⟩
    rintro x H' ⟨rfl, rfl⟩
    exact hs i σ _ hlt p
  · obtain rfl : i = n := by omega
    exact .inl ⟨Nat.le_refl _, hd σ H p⟩
def csD : Cs → PyData
  | .row r => rwD r
  | .skip e to => .tuple [.str "skip", termD e, .int (to : Nat)]
  | .go en => .tuple [.str "go", .int (en : Nat)]
def csP : Cs → Prop
  | .row r => RwPl r ∧ noIf r
  | .skip e _ => tmP e
  | .go _ => True
theorem cs_dat {v : V} {c : Cs} (h : CsAt H v c) (p : csP c) : Dat K H v (csD c) := by
  cases c with
  | row r => exact rw_dat r h.1 p.1
  | skip e to =>
    obtain ⟨q, te, rfl, h2, h3⟩ := h
    exact .tup (SqT.of h2) (.cons (.str _) (.cons (term_dat h3 p) (.cons (.int _) .nil)))
  | go en =>
    obtain ⟨q, rfl, h2⟩ := h
    exact .tup (SqT.of h2) (.cons (.str _) (.cons (.int _) .nil))
theorem css_dat : ∀ {xs : List V} {C : List Cs}, Paired (CsAt H) xs C → (∀ c ∈ C, csP c) → DatAll K H xs (C.map csD)
  | _, _, .nil, _ => .nil
  | _, _, .cons h r, p => .cons (cs_dat h (p _ List.mem_cons_self)) (css_dat r fun c hc => p c (List.mem_cons_of_mem _ hc))
theorem sok_skip : PyData.strOk "skip" = true := by decide +kernel
theorem sok_go : PyData.strOk "go" = true := by decide +kernel
theorem cs_plain {c : Cs} (p : csP c) : plainD (csD c) = true ∧ (csD c).depth ≤ 3 := by
  cases c with
  | row r =>
    have d0 : r.deep = 0 := by
      have := p.2
      cases r <;> first | exact this.elim | simp [Rw.deep]
    have := rw_deep r
    exact ⟨rw_plain r p.1, by show (rwD r).depth ≤ 3; omega⟩
  | skip e to => exact ⟨by simp [csD, plainD, plainDs, sok_skip, term_plain p], by have := term_deep e; simp [csD, PyData.depth, PyData.depthAll]; omega⟩
  | go en => exact ⟨by simp [csD, plainD, plainDs, sok_go], by simp [csD, PyData.depth, PyData.depthAll]⟩
theorem css_plain : ∀ {C : List Cs}, (∀ c ∈ C, csP c) → plainDs (C.map csD) = true ∧ PyData.depthAll (C.map csD) ≤ 3
  | [], _ => by simp [plainDs, PyData.depthAll]
  | c :: C, p => by
    have h1 := cs_plain (p c List.mem_cons_self)
    have h2 := css_plain (C := C) fun x hx => p x (List.mem_cons_of_mem _ hx)
    rw [List.map_cons, plainDs, PyData.depthAll, h1.1, h2.1]
    exact ⟨rfl, by omega⟩
mutual
theorem code_pl : ∀ (r : Rw) (k : Nat), RwPl r → ∀ c ∈ codeR r k, csP c
  | .iff e a b, k, p, c, hc => by
    unfold RwPl at p
    rw [codeR] at hc
    unfold blk at hc
    split at hc
    · rcases List.mem_cons.mp hc with rfl | hc
      · exact p.1
      · exact codes_pl a _ p.2.1 c hc
    · rcases List.mem_cons.mp hc with rfl | hc
      · exact p.1
      rcases List.mem_append.mp hc with hc | hc
      · exact codes_pl a _ p.2.1 c hc
      rcases List.mem_cons.mp hc with rfl | hc
      · trivial
      · exact codes_pl b _ p.2.2 c hc
  | .take sh e sl, k, p, c, hc => by rw [codeR_row (x := .take sh e sl) trivial, List.mem_singleton] at hc; rw [hc]; exact ⟨p, trivial⟩
  | .give sh e f, k, p, c, hc => by rw [codeR_row (x := .give sh e f) trivial, List.mem_singleton] at hc; rw [hc]; exact ⟨p, trivial⟩
  | .lt sl e, k, p, c, hc => by rw [codeR_row (x := .lt sl e) trivial, List.mem_singleton] at hc; rw [hc]; exact ⟨p, trivial⟩
  | .say e, k, p, c, hc => by rw [codeR_row (x := .say e) trivial, List.mem_singleton] at hc; rw [hc]; exact ⟨p, trivial⟩
  | .off e, k, p, c, hc => by rw [codeR_row (x := .off e) trivial, List.mem_singleton] at hc; rw [hc]; exact ⟨p, trivial⟩
theorem codes_pl : ∀ (r : Rws) (k : Nat), RwsPl r → ∀ c ∈ codeRs r k, csP c
  | .nil, k, p, c, hc => by rw [codeRs] at hc; cases hc
  | .cons r rs, k, p, c, hc => by
    unfold RwsPl at p
    rw [codeRs] at hc
    rcases List.mem_append.mp hc with hc | hc
    · exact code_pl r k p.1 c hc
    · exact codes_pl rs _ p.2 c hc
end
def TSm (H H' : Hp) : Prop := ∀ b ys, H b = some (.tup ys) → H' b = some (.tup ys)
theorem CsAt.ts {H H' : Hp} {v : V} {c : Cs} (s : TSm H H') (h : CsAt H v c) : CsAt H' v c := by
  cases c with
  | row r =>
    obtain ⟨h, n⟩ := h
    refine ⟨?_, n⟩
    cases r with
    | iff e a b => exact n.elim
    | take sh e sl =>
      obtain ⟨r, te, a1, a2, a3, a4, a5⟩ := h
      exact ⟨r, te, a1, a2, a3, s _ _ a4, s _ _ a5⟩
    | give sh e f =>
      obtain ⟨r, te, tf, a1, a2, a3, a4, a5, a6, a7⟩ := h
      exact ⟨r, te, tf, a1, a2, a3, a4, s _ _ a5, s _ _ a6, s _ _ a7⟩
    | lt sl e =>
      obtain ⟨r, te, a1, a2, a3, a4, a5⟩ := h
      exact ⟨r, te, a1, a2, a3, s _ _ a4, s _ _ a5⟩
    | say e =>
      obtain ⟨r, te, a1, a2, a3, a4, a5⟩ := h
      exact ⟨r, te, a1, a2, a3, s _ _ a4, s _ _ a5⟩
    | off e =>
      obtain ⟨r, te, a1, a2, a3, a4, a5⟩ := h
      exact ⟨r, te, a1, a2, a3, s _ _ a4, s _ _ a5⟩
  | skip e to =>
    obtain ⟨p, te, h1, h2, h3⟩ := h
    exact ⟨p, te, h1, s _ _ h2, s _ _ h3⟩
  | go en =>
    obtain ⟨p, h1, h2⟩ := h
    exact ⟨p, h1, s _ _ h2⟩
theorem css_ts {H H' : Hp} (s : TSm H H') : ∀ {xs : List V} {C : List Cs}, Paired (CsAt H) xs C → Paired (CsAt H') xs C
  | _, _, .nil => .nil
  | _, _, .cons h r => .cons (h.ts s) (css_ts s r)
def lwI (a cl : Addr) (mn : Int) (H : Hp) (i : Nat) (σ : St) (H' : Hp) : Prop := (∃ o3 o4 o5 o6 o7, σ = [some (.ref a), some (.int mn), some (.ref cl), o3, o4, o5, o6, o7]) ∧ Same H H'
theorem rdp_law2 {a cl : Addr} {mn : Int} {ns cs : List Int} (hS : SqL K H a (ns.map V.int)) (hn : ns.length ≤ 63) (hc : H cl = some (.lst (cs.map V.int))) (lc : cs.length ≤ 63) (m1 : 1 ≤ mn) (m2 : mn ≤ 20) (q : ∀ H', Q (.bl true) H') :
    rd_law_2 K t { nx := fun _ H' => Q .non H', rt := Q } [some (.ref a), some (.int mn), some (.ref cl), none, none, none, none, none] H := by
  simp only [rd_law_2, sp__law_cell_at, sp__law_draw, sp__law_rows, sp__law_copied, sp_code_of, sp__law_follow, rEqD, iRng3, L2.start, cLst, rEqNil, r_mt_append, rAppend, tSeq, tAsg, gName, tRet, tDrop, tNext, tOp, tVar, tC, tLst, tTup, tCons, tNil, tFor, tIfS, tOr, tNot, tTest, tB, tCB, tBM, tyV, tSl, tPart, tCall, LenV, rNe, rI, rI0, rSlL, cLen, cIsi, scal, List.map, List.replicate, List.length, List.append, List.cons_append, List.nil_append, List.append_nil, List.getElem?_cons_zero, List.getElem?_cons_succ, Option.some.injEq, exists_eq_left', exists_eq_left, V.int.injEq, V.ref.injEq, V.str.injEq, V.bl.injEq, V.ty.injEq, List.cons.injEq, and_true, true_and, and_assoc, exists_and_left, List.set_cons_zero, List.set_cons_succ, Nat.reduceSub, Nat.reduceAdd, decide_eq_true_eq, Bool.not_eq_true', decide_eq_false_iff_not, Int.reduceToNat, Int.reducePow, Int.reduceNeg, Int.reduceMul, Int.reduceAdd, if_true, ite_true, Bool.false_eq_true, ite_false, if_false]
  have lm : (cs.map V.int).length = cs.length := List.length_map ..
  refine ⟨cs.length, .inl ⟨_, SqL.of hc, by rw [lm]⟩, by omega, by omega, by omega, by omega, by omega, by omega, loop_range3 (lwI a cl mn H) ⟨⟨_, _, _, _, _, rfl⟩, Same.refl H⟩ ?_ ?_⟩
  · rintro i σ H1 hi ⟨⟨o3, o4, o5, o6, o7, rfl⟩, s1⟩
    simp only [rEqD, iRng3, L2.start, cLst, rEqNil, r_mt_append, rAppend, tSeq, tAsg, gName, tRet, tDrop, tNext, tOp, tVar, tC, tLst, tTup, tCons, tNil, tFor, tIfS, tOr, tNot, tTest, tB, tCB, tBM, tyV, tSl, tPart, tCall, LenV, rNe, rI, rI0, rSlL, cLen, cIsi, scal, List.map, List.replicate, List.length, List.append, List.cons_append, List.nil_append, List.append_nil, List.getElem?_cons_zero, List.getElem?_cons_succ, Option.some.injEq, exists_eq_left', exists_eq_left, V.int.injEq, V.ref.injEq, V.str.injEq, V.bl.injEq, V.ty.injEq, List.cons.injEq, and_true, true_and, and_assoc, exists_and_left, List.set_cons_zero, List.set_cons_succ, Nat.reduceSub, Nat.reduceAdd, decide_eq_true_eq, Bool.not_eq_true', decide_eq_false_iff_not, Int.reduceToNat, Int.reducePow, Int.reduceNeg, Int.reduceMul, Int.reduceAdd, if_true, ite_true, Bool.false_eq_true, ite_false, if_false, Int.zero_add]
    refine ⟨_, SqL.of (s1 _ _ hc), fun p hp => ?_⟩
    obtain ⟨es, ee, le⟩ := cut_one cs (some ((i : Int) * mn)) (some ((i : Int) * mn + mn))
    rw [ee]
    have s2 := isV (o := HO.lst (es.map V.int)) p hp
    have im : 0 ≤ (i : Int) * mn := Int.mul_nonneg (by omega) (by omega)
    refine ⟨ns, ((i : Int) * mn).toNat, (Int.toNat_of_nonneg im).symm, hS.mono (s1.trans s2), hn, fun c H2 s3 => ⟨by decide, by decide, fun r2 H3 a3 b3 s4 => ⟨by decide, es, (s3.trans s4) _ _ upd_same, by omega, fun v r H4 s5 hv ok lr => ?_⟩⟩⟩
    have S4 := s1.trans (s2.trans (s3.trans (s4.trans s5)))
    refine ⟨anyA, r, hv.any, fun _ _ => trivial, ok.dp, ok.ct, fun v2 H5 s6 hv2 => ?_⟩
    have S5 := S4.trans s6
    refine ⟨r, hv2, ok, lr, fun l xs H6 s7 fl hl pr => ?_⟩
    have S6 := S5.trans s7
    have hv6 := hv.any.mono (s6.trans s7)
    have hv26 := hv2.mono s7
    have lx := Paired.length pr
    refine ⟨_, .lst hl, true, kit_same _, ?_⟩
    rw [if_neg (by decide)]
    refine ⟨0, rfl, r, hv6, ok, ⟨xs, codeRs r 0, [], [], hl, pr, by simp, rfl, lr⟩, fun H7 s8 => ?_⟩
    have hl7 := s8 _ _ hl
    refine ⟨xs.length, .inl ⟨_, SqL.of hl7, rfl⟩, ?_⟩
    rw [if_neg (by rw [lx]; simp)]
    refine ⟨xs, .inl (SqL.of hl7), fun kp gk => ⟨.inl ⟨_, SqL.of (isV kp gk _ _ hl7)⟩, by decide, fun p1 g1 => ⟨by decide, fun p2 g2 => ?_⟩⟩⟩
    have t1 := isV (o := HO.lst xs) kp gk
    have t2 := isV (o := HO.tup [V.int 1]) p1 g1
    have t3 := isV (o := HO.tup [V.str (Str.ofString "say"), V.ref p1]) p2 g2
    have T := t1.trans (t2.trans t3)
    have hl8 := T _ _ hl7
    refine ⟨xs, hl8, Nat.lt_of_le_of_lt (by omega : xs.length ≤ 900) (by decide), ?_⟩
    have hk := (t2.trans t3) _ _ (show upd H7 kp (HO.lst xs) kp = some (.lst xs) from upd_same)
    have nk : kp ≠ l := fresh_ne hl7 gk
    have S8 := same_upd (o := HO.lst (xs ++ [V.ref p2])) (s7.trans (s8.trans T)) fl
    have pr8 : Paired (CsAt _) xs (codeRs r 0) := css_ts (H' := upd (upd (upd (upd H7 kp (HO.lst xs)) p1 (HO.tup [V.int 1])) p2 (HO.tup [V.str (Str.ofString "say"), V.ref p1])) l (HO.lst (xs ++ [V.ref p2]))) (fun b ys e => by
      rw [upd_ne (ne_of ((s8.trans T) _ _ e) hl8 (fun z => nomatch z))]; exact (s8.trans T) _ _ e) pr
    have hk8 : upd (upd (upd (upd H7 kp (HO.lst xs)) p1 (HO.tup [V.int 1])) p2 (HO.tup [V.str (Str.ofString "say"), V.ref p1])) l (HO.lst (xs ++ [V.ref p2])) kp = some (.lst xs) := by rw [upd_ne nk]; exact hk
    generalize upd (upd (upd (upd H7 kp (HO.lst xs)) p1 (HO.tup [V.int 1])) p2 (HO.tup [V.str (Str.ofString "say"), V.ref p1])) l (HO.lst (xs ++ [V.ref p2])) = H8 at *
    have hv8 := hv.any.mono (s6.trans S8)
    have hv28 := hv2.mono S8
    have pl := ok.pl
    have pd : plainD (.list (rwsD r)) = true := by rw [plainD]; exact rws_plain r pl
    have dd : (PyData.list (rwsD r)).depth ≤ 64 := by have := rws_deep r; have := ok.dp; rw [PyData.depth]; omega
    refine ⟨_, hv28.dat pl, _, hv8.dat pl, pd, pd, dd, dd, fun b hb => ?_⟩
    rw [if_neg (by rw [hb.mpr rfl]; decide)]
    refine ⟨r, hv28, ok, lr, fun l2 xs2 H9 s9 fl2 hl2 pr2 => ?_⟩
    have cp := codes_pl r 0 pl
    obtain ⟨c1, c2⟩ := css_plain cp
    have pd2 : plainD (.list ((codeRs r 0).map csD)) = true := by rw [plainD]; exact c1
    have dd2 : (PyData.list ((codeRs r 0).map csD)).depth ≤ 64 := by rw [PyData.depth]; omega
    refine ⟨_, .lst (SqL.of hl2) (css_dat pr2 cp), _, .lst (SqL.of (s9 _ _ hk8)) (css_dat (cs_same s9 pr8) cp), pd2, pd2, dd2, dd2, fun b hb => ?_⟩
    rw [if_neg (by rw [hb.mpr rfl]; decide)]
    exact ⟨⟨_, _, _, _, _, rfl⟩, S5.trans (S8.trans s9)⟩
  · rintro σ H1 ⟨⟨o3, o4, o5, o6, o7, rfl⟩, s1⟩
    refine ⟨by decide, fun p hp => ?_⟩
    refine ⟨.nil, ⟨p, [], rfl, trivial, upd_same, by unfold RwsAt; rfl⟩, ⟨by rw [Rws.deep]; decide, by rw [Rws.cnt]; decide, by unfold RwsPl; trivial⟩, by rw [codeRs]; decide, fun l xs H' s3 fl hl pr => ⟨by decide, fun p2 g2 => ⟨xs, SqL.of (isV p2 g2 _ _ hl), SqL.of upd_same, ?_⟩⟩⟩
    rw [codeRs] at pr
    cases pr
    exact q _
theorem rdp_law {a : Addr} {ns : List Int} (hS : SqL K H a (ns.map V.int)) (hn : ns.length ≤ 63) (q : ∀ H', Q (.bl true) H') :
    rd_law K t { nx := fun _ H' => Q .non H', rt := Q } (L2.start ["script", "many", "cells", "at", "rows", "handed", "code", "kept"] [.ref a]) H := by
  simp only [rd_law, sp__law_cell_at, sp__law_draw, rEqD, iRng3, L2.start, cLst, rEqNil, r_mt_append, rAppend, tSeq, tAsg, gName, tRet, tDrop, tNext, tOp, tVar, tC, tLst, tTup, tCons, tNil, tFor, tIfS, tOr, tNot, tTest, tB, tCB, tBM, tyV, tSl, tPart, tNoPart, tCall, LenV, rNe, rI, rI0, rSlL, cLen, cIsi, scal, List.map, List.replicate, List.length, List.append, List.cons_append, List.nil_append, List.append_nil, List.getElem?_cons_zero, List.getElem?_cons_succ, Option.some.injEq, exists_eq_left', exists_eq_left, V.int.injEq, V.ref.injEq, V.str.injEq, V.bl.injEq, V.ty.injEq, List.cons.injEq, and_true, true_and, and_assoc, exists_and_left, List.set_cons_zero, List.set_cons_succ, Nat.reduceSub, Nat.reduceAdd, decide_eq_true_eq, Bool.not_eq_true', decide_eq_false_iff_not, Int.reduceToNat, Int.reducePow, Int.reduceNeg, Int.reduceMul, Int.reduceAdd, if_true, ite_true, Bool.false_eq_true, ite_false, if_false]
  refine ⟨ns, 0, rfl, hS, hn, fun c1 H1 s1 => ⟨by decide, by decide, fun r H2 a2 b2 s2 => ⟨by decide, ?_⟩⟩⟩
  have S := s1.trans s2
  refine ⟨_, hS.mono S, fun p hp => ?_⟩
  obtain ⟨cs, ec, lc⟩ := cut_one ns none (some 240)
  rw [ec]
  have s3 := isV (o := HO.lst (cs.map V.int)) p hp
  have g1 := Int.emod_nonneg r (b := 20) (by decide)
  have g2 := Int.emod_lt_of_pos r (b := 20) (by decide)
  exact rdp_law2 (hS.mono (S.trans s3)) hn upd_same (by omega) (by omega) (by omega) q
theorem Paired.app2 {α β : Type} {F : α → β → Prop} : ∀ {a : List α} {b : List β} {c : List α} {d : List β}, Paired F a b → Paired F c d → Paired F (a ++ c) (b ++ d)
  | _, _, _, _, .nil, h => h
  | _, _, _, _, .cons h r, h2 => .cons h (Paired.app2 r h2)
theorem rdp_code_of {v : V} {r : Rws} (h1 : RlAt anyA H v r) (h2 : RsOk 6 r) (h3 : (codeRs r 0).length ≤ 500) (q : ∀ l xs H', Same H H' → H l = none → H' l = some (.lst xs) → Paired (CsAt H') xs (codeRs r 0) → Q (.ref l) H') :
    rd_code_of K t { nx := fun _ H' => Q .non H', rt := Q } (L2.start ["rows"] [v]) H := by
  simp only [rd_code_of, sp_steps_of, L2.start, tRet, tVar, tC, tCons, tNil, tCall, List.map, List.replicate, List.length, List.append, List.cons_append, List.nil_append, List.append_nil, List.getElem?_cons_zero, List.getElem?_cons_succ, Option.some.injEq, exists_eq_left', exists_eq_left, V.int.injEq, V.ref.injEq, V.str.injEq, V.bl.injEq, V.ty.injEq, List.cons.injEq, and_true, true_and, and_assoc, exists_and_left, List.set_cons_zero, List.set_cons_succ, Nat.reduceSub, Nat.reduceAdd, decide_eq_true_eq, Bool.not_eq_true', decide_eq_false_iff_not, Int.reduceToNat, Int.reducePow, Int.reduceNeg, Int.reduceMul, Int.reduceAdd, if_true, ite_true, Bool.false_eq_true, ite_false, if_false]
  exact ⟨r, 0, rfl, h1, h2, by omega, q⟩
def sfI (v : V) (L : Addr) (xs : List V) (k n : Nat) (r : Rws) (H : Hp) (i : Nat) (σ : St) (H' : Hp) : Prop := ∃ (rest : Rws) (ys : List V) (C : List Cs), (∃ o, σ = [some v, some (.int k), some (.ref L), o]) ∧ Same H H' ∧ H' L = some (.lst ys) ∧ Paired (CsAt H') ys C ∧ RwsAt anyA H (xs.drop i) rest ∧ RsOk (n + 1) rest ∧ C ++ codeRs rest (k + C.length) = codeRs r k
theorem ts_upd {H : Hp} {L : Addr} {ys zs : List V} (h : H L = some (.lst ys)) : TSm H (upd H L (.lst zs)) := fun b us e => by rw [upd_ne (ne_of e h (fun z => nomatch z))]; exact e
theorem rdp_steps_of {v : V} {r : Rws} {k n : Nat} (h1 : RlAt anyA H v r) (h2 : RsOk (n + 1) r) (h3 : k + (codeRs r k).length ≤ 500) (q : ∀ l xs H', Same H H' → H l = none → H' l = some (.lst xs) → Paired (CsAt H') xs (codeRs r k) → Q (.ref l) H') :
    rd_steps_of K t n { nx := fun _ H' => Q .non H', rt := Q } (L2.start ["rows", "first", "steps", "row"] [v, .int k]) H := by
  obtain ⟨p, xs, rfl, _, hp, hx⟩ := h1
  simp only [rd_steps_of, sp_block_steps, r_mt_extend, rExtend, L2.start, r_mt_append, rAppend, rIxT, tSeq, tAsg, gName, tRet, tDrop, tOp, tVar, tC, tLst, tCons, tNil, tFor, tIfS, tTest, tCB, tBM, tyV, tCall, LenV, iList, rIxT, rEq, rI0, cLen, scal, List.map, List.replicate, List.length, List.append, List.cons_append, List.nil_append, List.append_nil, List.getElem?_cons_zero, List.getElem?_cons_succ, Option.some.injEq, exists_eq_left', exists_eq_left, V.int.injEq, V.ref.injEq, V.str.injEq, V.bl.injEq, V.ty.injEq, List.cons.injEq, and_true, true_and, and_assoc, exists_and_left, List.set_cons_zero, List.set_cons_succ, Nat.reduceSub, Nat.reduceAdd, decide_eq_true_eq, Bool.not_eq_true', decide_eq_false_iff_not, Int.reduceToNat, Int.reducePow, Int.reduceNeg, Int.reduceMul, Int.reduceAdd, if_true, ite_true, Bool.false_eq_true, ite_false, if_false]
  refine ⟨by decide, fun L hL => ?_⟩
  have s0 := isV (o := HO.lst []) L hL
  refine ⟨⟨_, SqL.of (s0 _ _ hp)⟩, loop_list xs (sfI (.ref p) L xs k n r H) ⟨r, [], [], ⟨_, rfl⟩, s0, upd_same, .nil, by rw [List.drop_zero]; exact hx, h2, rfl⟩ (fun i σ H' ⟨_, _, _, _, s, _⟩ => SqL.of (s _ _ hp)) ?_ ?_⟩
  · rintro i u σ H' hu ⟨rest, ys, C, ⟨o, rfl⟩, s, hy, pr, hr, ok, eq⟩
    obtain ⟨x, rs, rfl, rx, rr⟩ := hr.get hu
    have e0 : codeRs (.cons x rs) (k + C.length) = codeR x (k + C.length) ++ codeRs rs (k + C.length + (codeR x (k + C.length)).length) := by rw [codeRs]
    rw [e0] at eq
    have okd := ok.dp
    have c1 : (Rws.cons x rs).deep = max x.deep rs.deep := by rw [Rws.deep]
    rw [c1] at okd
    have okc := ok.ct
    have c2 : (Rws.cons x rs).cnt = x.cnt + rs.cnt := by rw [Rws.cnt]
    rw [c2] at okc
    have okp := ok.pl
    unfold RwsPl at okp
    have le := congrArg List.length eq
    rw [List.length_append, List.length_append] at le
    have ly := Paired.length pr
    have nx : ∀ {H2 : Hp} {o' : Option V} {zs : List V}, Same H H2 → H2 L = some (.lst zs) → Paired (CsAt H2) zs (C ++ codeR x (k + C.length)) → sfI (.ref p) L xs k n r H (i + 1) [some (.ref p), some (.int k), some (.ref L), o'] H2 := fun {H2 o' zs} s2 g2 p2 =>
      ⟨rs, zs, _, ⟨_, rfl⟩, s2, g2, p2, rr, ⟨by omega, by omega, okp.2⟩, by rw [List.append_assoc, List.length_append, ← Nat.add_assoc]; exact eq⟩
    obtain ⟨p1, fs, hd, rfl, e2, e3, e4⟩ := row_tup rx
    simp only [r_mt_extend, rExtend, L2.start, r_mt_append, rAppend, rIxT, tSeq, tAsg, gName, tRet, tDrop, tOp, tVar, tC, tLst, tCons, tNil, tFor, tIfS, tTest, tCB, tBM, tyV, tCall, LenV, iList, rIxT, rEq, rI0, cLen, scal, List.map, List.replicate, List.length, List.append, List.cons_append, List.nil_append, List.append_nil, List.getElem?_cons_zero, List.getElem?_cons_succ, Option.some.injEq, exists_eq_left', exists_eq_left, V.int.injEq, V.ref.injEq, V.str.injEq, V.bl.injEq, V.ty.injEq, List.cons.injEq, and_true, true_and, and_assoc, exists_and_left, List.set_cons_zero, List.set_cons_succ, Nat.reduceSub, Nat.reduceAdd, decide_eq_true_eq, Bool.not_eq_true', decide_eq_false_iff_not, Int.reduceToNat, Int.reducePow, Int.reduceNeg, Int.reduceMul, Int.reduceAdd, if_true, ite_true, Bool.false_eq_true, ite_false, if_false]
    refine ⟨_, SqT.of (s _ _ e2), _, e3, rfl, ?_⟩
    rcases noIf_em x with ⟨e, a, b, rfl⟩ | hni
    · rw [if_pos (congrArg V.str (e4.mpr (fun z => z)))]
      have d1 : (Rw.iff e a b).deep = max a.deep b.deep + 1 := by rw [Rw.deep]
      have d2 : (Rw.iff e a b).cnt = max a.cnt b.cnt + 1 := by rw [Rw.cnt]
      rw [d1] at okd
      rw [d2] at okc
      have pl := okp.1
      unfold RwPl at pl
      refine ⟨.inl ⟨_, SqL.of hy⟩, ys.length, .inl ⟨_, SqL.of hy, rfl⟩, e, a, b, k + C.length, by omega, rx.mono s, ⟨by omega, by omega, pl.2.1⟩, ⟨by omega, by omega, pl.2.2⟩, by omega, fun l us H2 s2 hl pu => ?_⟩
      have lu := Paired.length pu
      refine ⟨ys, s2 _ _ hy, us, hl, Nat.le_trans (by omega : ys.length + us.length ≤ 1000) (by decide), ?_⟩
      exact nx (same_upd (s.trans s2) hL) upd_same (css_ts (ts_upd (s2 _ _ hy)) (Paired.app2 (cs_same s2 pr) pu))
    · rw [if_neg (fun z => e4.mp (V.str.inj z) hni)]
      have ec := codeR_row hni (k + C.length)
      rw [ec] at nx
      refine ⟨.inl ⟨_, SqL.of hy⟩, ys, hy, Nat.lt_of_le_of_lt (by omega : ys.length ≤ 900) (by decide), ?_⟩
      exact nx (same_upd s hL) upd_same (Paired.snocP (css_ts (ts_upd hy) pr) (CsAt.ts (ts_upd hy) ⟨rx.mono s, hni⟩))
  · rintro σ H' ⟨rest, ys, C, ⟨o, rfl⟩, s, hy, pr, hr, ok, eq⟩
    have e := hr.none
    subst e
    rw [show codeRs .nil (k + C.length) = [] by rw [codeRs], List.append_nil] at eq
    rw [eq] at pr
    exact ⟨_, rfl, q L ys H' s hL hy pr⟩
theorem rdp_block_steps {v : V} {e : List V} {a b : Rws} {k n : Nat} (h1 : RwAt anyA H v (.iff e a b)) (h2 : RsOk n a) (h3 : RsOk n b) (h4 : k + (codeR (.iff e a b) k).length ≤ 500) (q : ∀ l xs H', Same H H' → H' l = some (.lst xs) → Paired (CsAt H') xs (codeR (.iff e a b) k) → Q (.ref l) H') :
    rd_block_steps K t n { nx := fun _ H' => Q .non H', rt := Q } (L2.start ["row", "at", "steps", "to", "others"] [v, .int k]) H := by
  unfold RwAt at h1
  obtain ⟨p, te, la, lb, xs, ys, rfl, f1, f2, f3, f4, e2, e3, e4, e6, e5, e7⟩ := h1
  have ec : codeR (.iff e a b) k = blk e k (codeRs a (k + 1)) (Rws.isNil b) (codeRs b (k + 2 + (codeRs a (k + 1)).length)) := by rw [codeR]
  rw [ec] at h4 q
  simp only [rd_block_steps, sp_steps_of, rCat, L2.start, rEqNil, rIxT, tSeq, tAsg, gName, tRet, tNext, tOp, tVar, tC, tLst, tTup, tCons, tNil, tIfS, tTest, tCB, tCall, LenV, rCat, rIxT, rI0, cLen, List.map, List.replicate, List.length, List.append, List.cons_append, List.nil_append, List.append_nil, List.getElem?_cons_zero, List.getElem?_cons_succ, Option.some.injEq, exists_eq_left', exists_eq_left, V.int.injEq, V.ref.injEq, V.str.injEq, V.bl.injEq, V.ty.injEq, List.cons.injEq, and_true, true_and, and_assoc, exists_and_left, List.set_cons_zero, List.set_cons_succ, Nat.reduceSub, Nat.reduceAdd, decide_eq_true_eq, Bool.not_eq_true', decide_eq_false_iff_not, Int.reduceToNat, Int.reducePow, Int.reduceNeg, Int.reduceMul, Int.reduceAdd, if_true, ite_true, Bool.false_eq_true, ite_false, if_false]
  refine ⟨_, SqT.of e2, _, rfl, a, k + 1, by omega, ⟨la, xs, rfl, f3, e4, e6⟩, h2, ?_, fun l us H1 s1 fl hl pu => ?_⟩
  · unfold blk at h4; split at h4 <;> simp only [List.length_cons, List.length_append] at h4 <;> omega
  have lu := Paired.length pu
  refine ⟨us.length, .inl ⟨_, SqL.of hl, rfl⟩, _, SqT.of (s1 _ _ e2), _, rfl, by decide, fun z gz => ?_⟩
  have s2 := isV (o := HO.lst []) z gz
  refine ⟨lb, rfl, ys, SqL.of (s2 _ _ (s1 _ _ e5)), SqL.of upd_same, ?_⟩
  generalize upd H1 z (HO.lst []) = H2 at *
  have S2 := s1.trans s2
  have nb : Rws.isNil b = decide (ys = []) := by
    cases b with
    | nil => unfold RwsAt at e7; simp [Rws.isNil, e7]
    | cons x r => unfold RwsAt at e7; obtain ⟨v, vs, rfl, _⟩ := e7; simp [Rws.isNil]
  have hl2 := s2 _ _ hl
  have pu2 := cs_same s2 pu
  by_cases hb : ys = []
  · rw [if_pos hb]
    have eb : ∀ B, blk e k (codeRs a (k + 1)) (Rws.isNil b) B = .skip e (k + 1 + (codeRs a (k + 1)).length) :: codeRs a (k + 1) := fun B => by unfold blk; rw [if_pos (by rw [nb]; exact decide_eq_true hb)]
    rw [eb] at q h4
    have ei : (k : Int) + 1 + us.length = ((k + 1 + (codeRs a (k + 1)).length : Nat) : Int) := by omega
    rw [ei]
    refine ⟨_, SqT.of (S2 _ _ e2), _, rfl, by decide, fun p1 g1 => ⟨by decide, fun p2 g2 => ?_⟩⟩
    have t1 := isV (o := HO.tup [V.str (Str.ofString "skip"), V.ref te, V.int (k + 1 + (codeRs a (k + 1)).length : Nat)]) p1 g1
    have t2 := isV (o := HO.lst [V.ref p1]) p2 g2
    have T := t1.trans t2
    rw [List.length_cons] at h4
    refine ⟨_, upd_same, us, T _ _ hl2, Nat.le_trans (by rw [List.length_singleton]; omega : _ ≤ 1000) (by decide), fun p3 g3 => ?_⟩
    have t3 := isV (o := HO.lst ([V.ref p1] ++ us)) p3 g3
    exact q p3 ([V.ref p1] ++ us) _ (S2.trans (T.trans t3)) upd_same (.cons ⟨p1, te, rfl, (t2.trans t3) _ _ upd_same, (S2.trans (T.trans t3)) _ _ e3⟩ (cs_same (T.trans t3) pu2))
  · rw [if_neg hb]
    have eb : ∀ B, blk e k (codeRs a (k + 1)) (Rws.isNil b) B = .skip e (k + 2 + (codeRs a (k + 1)).length) :: (codeRs a (k + 1) ++ (.go (k + 2 + (codeRs a (k + 1)).length + B.length) :: B)) := fun B => by unfold blk; rw [if_neg (by rw [nb]; simpa using hb)]
    rw [eb] at q h4
    rw [List.length_cons, List.length_append, List.length_cons] at h4
    have ei : (k : Int) + 1 + us.length + 1 = ((k + 2 + (codeRs a (k + 1)).length : Nat) : Int) := by omega
    rw [ei]
    refine ⟨_, SqT.of (S2 _ _ e2), _, rfl, b, _, rfl, ⟨lb, ys, rfl, f4, S2 _ _ e5, e7.mono S2⟩, h3, by omega, fun l2 ws H3 s3 fl2 hl3 pw => ?_⟩
    have lw := Paired.length pw
    have S3 := S2.trans s3
    have hlu := s3 _ _ hl2
    have pu3 := cs_same s3 pu2
    refine ⟨_, SqT.of (S3 _ _ e2), _, rfl, by decide, fun p1 g1 => ⟨by decide, fun p2 g2 => ?_⟩⟩
    have t1 := isV (o := HO.tup [V.str (Str.ofString "skip"), V.ref te, V.int (k + 2 + (codeRs a (k + 1)).length : Nat)]) p1 g1
    have t2 := isV (o := HO.lst [V.ref p1]) p2 g2
    have T := t1.trans t2
    refine ⟨_, upd_same, us, T _ _ hlu, Nat.le_trans (by rw [List.length_singleton]; omega : _ ≤ 1000) (by decide), fun p3 g3 => ?_⟩
    have t3 := isV (o := HO.lst ([V.ref p1] ++ us)) p3 g3
    have T3 := T.trans t3
    have hp1 := (t2.trans t3) p1 _ upd_same
    refine ⟨ws.length, .inl ⟨_, SqL.of (T3 _ _ hl3), rfl⟩, by decide, ?_⟩
    have eg : ((k + 2 + (codeRs a (k + 1)).length : Nat) : Int) + ws.length = ((k + 2 + (codeRs a (k + 1)).length + (codeRs b (k + 2 + (codeRs a (k + 1)).length)).length : Nat) : Int) := by omega
    rw [eg]
    have hp3 : upd (upd (upd H3 p1 (HO.tup [V.str (Str.ofString "skip"), V.ref te, V.int (k + 2 + (codeRs a (k + 1)).length : Nat)])) p2 (HO.lst [V.ref p1])) p3 (HO.lst ([V.ref p1] ++ us)) p3 = some (HO.lst ([V.ref p1] ++ us)) := upd_same
    generalize upd (upd (upd H3 p1 (HO.tup [V.str (Str.ofString "skip"), V.ref te, V.int (k + 2 + (codeRs a (k + 1)).length : Nat)])) p2 (HO.lst [V.ref p1])) p3 (HO.lst ([V.ref p1] ++ us)) = H4 at *
    refine fun p4 g4 => ⟨by decide, fun p5 g5 => ?_⟩
    have t4 := isV (o := HO.tup [V.str (Str.ofString "go"), V.int (k + 2 + (codeRs a (k + 1)).length + (codeRs b (k + 2 + (codeRs a (k + 1)).length)).length : Nat)]) p4 g4
    have t5 := isV (o := HO.lst [V.ref p4]) p5 g5
    refine ⟨_, (t4.trans t5) _ _ hp3, _, upd_same, Nat.le_trans (by rw [List.length_append, List.length_singleton, List.length_singleton]; omega : _ ≤ 1000) (by decide), fun p6 g6 => ?_⟩
    have t6 := isV (o := HO.lst ([V.ref p1] ++ us ++ [V.ref p4])) p6 g6
    refine ⟨_, upd_same, ws, (T3.trans (t4.trans (t5.trans t6))) _ _ hl3, Nat.le_trans (by rw [List.length_append, List.length_append, List.length_singleton, List.length_singleton]; omega : _ ≤ 1000) (by decide), fun p7 g7 => ?_⟩
    have t7 := isV (o := HO.lst ([V.ref p1] ++ us ++ [V.ref p4] ++ ws)) p7 g7
    have T4 := t4.trans (t5.trans (t6.trans t7))
    have T7 := T3.trans T4
    have el : [V.ref p1] ++ us ++ [V.ref p4] ++ ws = V.ref p1 :: (us ++ (V.ref p4 :: ws)) := by simp
    have P : ∀ {Hx : Hp}, Same H4 Hx → Hx p4 = some (HO.tup [V.str (Str.ofString "go"), V.int (k + 2 + (codeRs a (k + 1)).length + (codeRs b (k + 2 + (codeRs a (k + 1)).length)).length : Nat)]) → Paired (CsAt Hx) ([V.ref p1] ++ us ++ [V.ref p4] ++ ws) (.skip e (k + 2 + (codeRs a (k + 1)).length) :: (codeRs a (k + 1) ++ (.go (k + 2 + (codeRs a (k + 1)).length + (codeRs b (k + 2 + (codeRs a (k + 1)).length)).length) :: codeRs b (k + 2 + (codeRs a (k + 1)).length)))) := by
      intro Hx sx hx
      rw [el]
      exact .cons ⟨p1, te, rfl, sx _ _ hp1, (S3.trans (T3.trans sx)) _ _ e3⟩ (Paired.app2 (cs_same (T3.trans sx) pu3) (.cons ⟨p4, rfl, hx⟩ (cs_same (T3.trans sx) pw)))
    exact q p7 _ _ (S3.trans T7) upd_same (P T4 ((t5.trans (t6.trans t7)) _ _ upd_same))
theorem nil_steps_of {vs : List V} {H : Hp} {Q : VK} {E : XK} (h : sp_steps_of 0 vs H Q E) : False := by
  obtain ⟨v, r, k, e, h1, h2, h3⟩ := h
  have := h2.dp
  omega
end

section
variable {P : Program} {w : World} {K : PySem.W.Frag} {mg : Str → Option Value} {base : Heap} {t : Adr}
theorem ok__law_closed (T : Txt K mg t) : FnOk P w K mg base CX0 1 t.a__law_closed t.d__law_closed ["frames"] (sp__law_closed) := by
  refine T.f__law_closed.ok sc__law_closed (fun vs H Q E h => ?_) (fun cdv A outer s H vs Q E hr h => ?_)
  · obtain ⟨FR, H0, g, h, gs, fs, sp, rfl, _⟩ := h; rfl
  obtain ⟨FR, H0, g, h, gs, fs, sp, rfl, h1, h2, q⟩ := h
  exact ⟨rd__law_closed K t, (pss_cons (ps_set (i := 1) sc__law_closed.nd rfl (Or.inl rfl) (pe_bm0 PySem.F.plainAttrs_list PySem.F.slot_list_pop PySem.F.type_list_pop mt_pop (pv 0)))
    (pss_one (ps_if (pt_cmpR op_isN (pe_ix ix_list (pv 1) (pe_int (i := 1)) (fun _ _ => rfl)) pe_non (nomark _)) (pss_one (ps_expr (pe_bm PySem.F.plainAttrs_list PySem.F.slot_list_append PySem.F.type_list_append mt_append (pe_ix ix_list (pe_ix ix_list (pv 0) (pe_un un_neg (pe_int (i := 1))) (fun _ _ => rfl)) (pe_int (i := 2)) (fun _ _ => rfl)) (pa_cons (pe_tup (pa_cons (pe_str (x := "if")) (pa_cons (pe_ix ix_list (pv 1) (pe_int (i := 0)) (fun _ _ => rfl)) (pa_cons (pe_ix ix_list (pv 1) (pe_int (i := 2)) (fun _ _ => rfl)) (pa_cons (pe_lst pa_nil) pa_nil))))) pa_nil))))
      (pss_one (ps_expr (pe_bm PySem.F.plainAttrs_list PySem.F.slot_list_append PySem.F.type_list_append mt_append (pe_ix ix_list (pe_ix ix_list (pv 0) (pe_un un_neg (pe_int (i := 1))) (fun _ _ => rfl)) (pe_int (i := 2)) (fun _ _ => rfl)) (pa_cons (pe_tup (pa_cons (pe_str (x := "if")) (pa_cons (pe_ix ix_list (pv 1) (pe_int (i := 0)) (fun _ _ => rfl)) (pa_cons (pe_ix ix_list (pv 1) (pe_int (i := 1)) (fun _ _ => rfl)) (pa_cons (pe_ix ix_list (pv 1) (pe_int (i := 2)) (fun _ _ => rfl)) pa_nil))))) pa_nil))))))), rdp__law_closed h1 h2 q⟩
theorem ok__law_draw (T : Txt K mg t) : FnOk P w K mg base CX0 1 t.a__law_draw t.d__law_draw ["cell", "j"] (sp__law_draw) := by
  refine T.f__law_draw.ok sc__law_draw (fun vs H Q E h => ?_) (fun cdv A outer s H vs Q E hr h => ?_)
  · obtain ⟨c, j, rfl, _⟩ := h; rfl
  obtain ⟨c, j, rfl, h1, h2, q⟩ := h
  exact ⟨rd__law_draw K t, (pss_cons (ps_set (i := 2) sc__law_draw.nd rfl (Or.inl rfl) (pe_op op_mod (pe_op op_add (pe_op op_mulB (pe_op op_mod (pv 0) (pe_int (i := 1000000007))) (pe_int (i := 6700417))) (pe_op op_mulB (pe_op op_mulB (pe_op op_add (pv 1) (pe_int (i := 1))) (pe_int (i := 104729))) (pe_int (i := 65537)))) (pe_int (i := 1000000009))))
    (pss_one (ps_ret (pe_op op_fdivB (pe_op op_mod (pe_op op_mulB (pe_op op_mod (pe_op op_mulB (pv 2) (pv 2)) (pe_int (i := 1000000009))) (pv 2)) (pe_int (i := 1000000009))) (pe_int (i := 32)))))), rdp__law_draw h1 h2 q⟩
theorem ok__law_name (T : Txt K mg t) : FnOk P w K mg base CX0 2 t.a__law_name t.d__law_name ["cell", "j"] (sp__law_name) := by
  refine T.f__law_name.ok sc__law_name (fun vs H Q E h => ?_) (fun cdv A outer s H vs Q E hr h => ?_)
  · obtain ⟨c, j, rfl, _⟩ := h; rfl
  obtain ⟨c, j, rfl, h1, h2, q⟩ := h
  exact ⟨rd__law_name K t, (pss_cons (ps_set (i := 2) sc__law_name.nd rfl (Or.inl rfl) (pe_op op_add (pe_int (i := 1)) (pe_op op_mod (pe_call (FnOk.mono (ok__law_draw T) (by decide)) hr rfl T.m__law_draw T.f__law_draw.kp T.b__law_draw .nil pass0 (pa_cons (pv 0) (pa_cons (pv 1) pa_nil))) (pe_int (i := 6)))))
    (pss_cons (ps_set (i := 3) sc__law_name.nd rfl (Or.inl rfl) (pe_str (x := "zyxwvtsrqpnmlkjhgfdcb")))
    (pss_cons (ps_if (pt_cmpR op_eq (pv 2) (pe_int (i := 6)) (nomark _)) (pss_one (ps_set (i := 3) sc__law_name.nd rfl (Or.inl rfl) (pe_str (x := "zyxwvutsrqponmlkjihgfedcba"))))
      pss_nil)
    (pss_cons (ps_set (i := 4) sc__law_name.nd rfl (Or.inl rfl) (pe_str (x := "")))
    (pss_cons (ps_for PassesOwn.never rfl (pi_range1 rfl T.b_range (pa_cons (pv 2) pa_nil)) (pg_name (i := 5) sc__law_name.nd rfl (Or.inl rfl)) (pss_one (ps_set (i := 4) sc__law_name.nd rfl (Or.inl rfl) (pe_op op_add_str (pv 4) (pe_ix ix_str (pv 3) (pe_op op_mod (pe_call (FnOk.mono (ok__law_draw T) (by decide)) hr rfl T.m__law_draw T.f__law_draw.kp T.b__law_draw .nil pass0 (pa_cons (pv 0) (pa_cons (pe_op op_add (pe_op op_add (pv 1) (pe_int (i := 1))) (pv 5)) pa_nil))) (pe_callB call_len rfl T.b_len bt_len (pa_cons (pv 3) pa_nil))) (fun _ _ => rfl))))))
    (pss_one (ps_ret (pv 4)))))))), rdp__law_name h1 h2 q⟩
theorem ok__law_part (T : Txt K mg t) : FnOk P w K mg base CX0 3 t.a__law_part t.d__law_part ["cell", "j"] (sp__law_part) := by
  refine T.f__law_part.ok sc__law_part (fun vs H Q E h => ?_) (fun cdv A outer s H vs Q E hr h => ?_)
  · obtain ⟨c, j, rfl, _⟩ := h; rfl
  obtain ⟨c, j, rfl, h1, h2, q⟩ := h
  exact ⟨rd__law_part K t, (pss_cons (ps_set (i := 2) sc__law_part.nd rfl (Or.inl rfl) (pe_op op_mod (pe_call (FnOk.mono (ok__law_draw T) (by decide)) hr rfl T.m__law_draw T.f__law_draw.kp T.b__law_draw .nil pass0 (pa_cons (pv 0) (pa_cons (pv 1) pa_nil))) (pe_int (i := 3))))
    (pss_cons (ps_if (pt_cmpR op_eq (pv 2) (pe_int (i := 0)) (nomark _)) (pss_one (ps_ret (pe_call (FnOk.mono (ok__law_name T) (by decide)) hr rfl T.m__law_name T.f__law_name.kp T.b__law_name .nil pass0 (pa_cons (pv 0) (pa_cons (pe_op op_add (pv 1) (pe_int (i := 1))) pa_nil)))))
      pss_nil)
    (pss_cons (ps_if (pt_cmpR op_eq (pv 2) (pe_int (i := 1)) (nomark _)) (pss_one (ps_ret (pe_op op_sub (pe_op op_mod (pe_call (FnOk.mono (ok__law_draw T) (by decide)) hr rfl T.m__law_draw T.f__law_draw.kp T.b__law_draw .nil pass0 (pa_cons (pv 0) (pa_cons (pe_op op_add (pv 1) (pe_int (i := 1))) pa_nil))) (pe_int (i := 5))) (pe_int (i := 1)))))
      pss_nil)
    (pss_one (ps_ret (pe_op op_sub (pe_op op_mod (pe_op op_add (pe_op op_mulB (pe_op op_mulB (pe_op op_mod (pv 0) (pe_op op_pow (pe_int (i := 10)) (pe_int (i := 40)))) (pe_op op_add (pv 1) (pe_int (i := 2)))) (pe_int (i := 1000003))) (pv 1)) (pe_op op_add (pe_op op_mulB (pe_int (i := 2)) (pe_op op_pow (pe_int (i := 10)) (pe_int (i := 30)))) (pe_int (i := 1)))) (pe_op op_pow (pe_int (i := 10)) (pe_int (i := 30))))))))), rdp__law_part h1 h2 q⟩
theorem ok__law_term (T : Txt K mg t) : FnOk P w K mg base CX0 4 t.a__law_term t.d__law_term ["cell", "j"] (sp__law_term) := by
  refine T.f__law_term.ok sc__law_term (fun vs H Q E h => ?_) (fun cdv A outer s H vs Q E hr h => ?_)
  · obtain ⟨c, j, rfl, _⟩ := h; rfl
  obtain ⟨c, j, rfl, h1, h2, q⟩ := h
  exact ⟨rd__law_term K t, (pss_cons (ps_set (i := 2) sc__law_term.nd rfl (Or.inl rfl) (pe_call (FnOk.mono (ok__law_part T) (by decide)) hr rfl T.m__law_part T.f__law_part.kp T.b__law_part .nil pass0 (pa_cons (pv 0) (pa_cons (pe_op op_add (pv 1) (pe_int (i := 1))) pa_nil))))
    (pss_cons (ps_if (pt_cmpR op_eq (pe_op op_mod (pe_call (FnOk.mono (ok__law_draw T) (by decide)) hr rfl T.m__law_draw T.f__law_draw.kp T.b__law_draw .nil pass0 (pa_cons (pv 0) (pa_cons (pv 1) pa_nil))) (pe_int (i := 2))) (pe_int (i := 0)) (nomark _)) (pss_one (ps_ret (pe_tup (pa_cons (pv 2) pa_nil))))
      pss_nil)
    (pss_cons (ps_set (i := 3) sc__law_term.nd rfl (Or.inl rfl) (pe_lst (pa_cons (pe_str (x := "plus")) (pa_cons (pe_str (x := "minus")) (pa_cons (pe_str (x := "times")) (pa_cons (pe_str (x := "over")) (pa_cons (pe_str (x := "rest")) (pa_cons (pe_str (x := "under")) (pa_cons (pe_str (x := "same")) pa_nil)))))))))
    (pss_one (ps_ret (pe_tup (pa_cons (pv 2) (pa_cons (pe_call (FnOk.mono (ok__law_part T) (by decide)) hr rfl T.m__law_part T.f__law_part.kp T.b__law_part .nil pass0 (pa_cons (pv 0) (pa_cons (pe_op op_add (pv 1) (pe_int (i := 10))) pa_nil))) (pa_cons (pe_ix ix_list (pv 3) (pe_op op_mod (pe_call (FnOk.mono (ok__law_draw T) (by decide)) hr rfl T.m__law_draw T.f__law_draw.kp T.b__law_draw .nil pass0 (pa_cons (pv 0) (pa_cons (pe_op op_add (pv 1) (pe_int (i := 20))) pa_nil))) (pe_int (i := 7))) (fun _ _ => rfl)) pa_nil))))))))), rdp__law_term h1 h2 q⟩
theorem ok__law_row (T : Txt K mg t) : FnOk P w K mg base CX0 5 t.a__law_row t.d__law_row ["cell"] (sp__law_row) := by
  refine T.f__law_row.ok sc__law_row (fun vs H Q E h => ?_) (fun cdv A outer s H vs Q E hr h => ?_)
  · obtain ⟨c, rfl, _⟩ := h; rfl
  obtain ⟨c, rfl, q⟩ := h
  exact ⟨rd__law_row K t, (pss_cons (ps_set (i := 1) sc__law_row.nd rfl (Or.inl rfl) (pe_op op_mod (pe_call (FnOk.mono (ok__law_draw T) (by decide)) hr rfl T.m__law_draw T.f__law_draw.kp T.b__law_draw .nil pass0 (pa_cons (pv 0) (pa_cons (pe_int (i := 1)) pa_nil))) (pe_int (i := 5))))
    (pss_cons (ps_if (pt_cmpR op_eq (pv 1) (pe_int (i := 0)) (nomark _)) (pss_one (ps_ret (pe_tup (pa_cons (pe_str (x := "take")) (pa_cons (pe_call (FnOk.mono (ok__law_name T) (by decide)) hr rfl T.m__law_name T.f__law_name.kp T.b__law_name .nil pass0 (pa_cons (pv 0) (pa_cons (pe_int (i := 30)) pa_nil))) (pa_cons (pe_call (FnOk.mono (ok__law_term T) (by decide)) hr rfl T.m__law_term T.f__law_term.kp T.b__law_term .nil pass0 (pa_cons (pv 0) (pa_cons (pe_int (i := 40)) pa_nil))) (pa_cons (pe_call (FnOk.mono (ok__law_name T) (by decide)) hr rfl T.m__law_name T.f__law_name.kp T.b__law_name .nil pass0 (pa_cons (pv 0) (pa_cons (pe_int (i := 70)) pa_nil))) pa_nil)))))))
      pss_nil)
    (pss_cons (ps_if (pt_cmpR op_eq (pv 1) (pe_int (i := 1)) (nomark _)) (pss_one (ps_ret (pe_tup (pa_cons (pe_str (x := "give")) (pa_cons (pe_call (FnOk.mono (ok__law_name T) (by decide)) hr rfl T.m__law_name T.f__law_name.kp T.b__law_name .nil pass0 (pa_cons (pv 0) (pa_cons (pe_int (i := 30)) pa_nil))) (pa_cons (pe_call (FnOk.mono (ok__law_term T) (by decide)) hr rfl T.m__law_term T.f__law_term.kp T.b__law_term .nil pass0 (pa_cons (pv 0) (pa_cons (pe_int (i := 40)) pa_nil))) (pa_cons (pe_call (FnOk.mono (ok__law_term T) (by decide)) hr rfl T.m__law_term T.f__law_term.kp T.b__law_term .nil pass0 (pa_cons (pv 0) (pa_cons (pe_int (i := 80)) pa_nil))) pa_nil)))))))
      pss_nil)
    (pss_cons (ps_if (pt_cmpR op_eq (pv 1) (pe_int (i := 2)) (nomark _)) (pss_one (ps_ret (pe_tup (pa_cons (pe_str (x := "let")) (pa_cons (pe_call (FnOk.mono (ok__law_name T) (by decide)) hr rfl T.m__law_name T.f__law_name.kp T.b__law_name .nil pass0 (pa_cons (pv 0) (pa_cons (pe_int (i := 30)) pa_nil))) (pa_cons (pe_call (FnOk.mono (ok__law_term T) (by decide)) hr rfl T.m__law_term T.f__law_term.kp T.b__law_term .nil pass0 (pa_cons (pv 0) (pa_cons (pe_int (i := 40)) pa_nil))) pa_nil))))))
      pss_nil)
    (pss_one (ps_ret (pe_tup (pa_cons (pe_ix ix_list (pe_lst (pa_cons (pe_str (x := "say")) (pa_cons (pe_str (x := "off")) pa_nil))) (pe_op op_sub (pv 1) (pe_int (i := 3))) (fun _ _ => rfl)) (pa_cons (pe_call (FnOk.mono (ok__law_term T) (by decide)) hr rfl T.m__law_term T.f__law_term.kp T.b__law_term .nil pass0 (pa_cons (pv 0) (pa_cons (pe_int (i := 40)) pa_nil))) pa_nil))))))))), rdp__law_row q⟩
theorem ok__law_rows (T : Txt K mg t) : FnOk P w K mg base CX0 6 t.a__law_rows t.d__law_rows ["cells", "turn"] (sp__law_rows) := by
  refine T.f__law_rows.ok sc__law_rows (fun vs H Q E h => ?_) (fun cdv A outer s H vs Q E hr h => ?_)
  · obtain ⟨p, ns, tn, rfl, _⟩ := h; rfl
  obtain ⟨p, ns, tn, rfl, h1, h2, q⟩ := h
  exact ⟨rd__law_rows K t, (pss_cons (ps_set (i := 2) sc__law_rows.nd rfl (Or.inl rfl) (pe_lst (pa_cons (pe_lst (pa_cons pe_non (pa_cons pe_non (pa_cons (pe_lst pa_nil) pa_nil)))) pa_nil)))
    (pss_cons (ps_for PassesOwn.never rfl (pi_list (pv 0)) (pg_name (i := 3) sc__law_rows.nd rfl (Or.inl rfl)) (pss_cons (ps_set (i := 4) sc__law_rows.nd rfl (Or.inl rfl) (pe_op op_mod (pe_call (FnOk.mono (ok__law_draw T) (by decide)) hr rfl T.m__law_draw T.f__law_draw.kp T.b__law_draw .nil pass0 (pa_cons (pv 3) (pa_cons (pe_int (i := 0)) pa_nil))) (pe_int (i := 12))))
    (pss_cons (ps_if (pt_cmpR op_eq (pv 1) (pe_int (i := 1)) (nomark _)) (pss_one (ps_set (i := 4) sc__law_rows.nd rfl (Or.inl rfl) (pe_op op_add (pe_int (i := 5)) (pe_op op_mod (pe_call (FnOk.mono (ok__law_draw T) (by decide)) hr rfl T.m__law_draw T.f__law_draw.kp T.b__law_draw .nil pass0 (pa_cons (pv 3) (pa_cons (pe_int (i := 0)) pa_nil))) (pe_int (i := 7))))))
      pss_nil)
    (pss_one (ps_if (PW.pt (pw_and (pt_cmpR op_in_seq (pv 4) (pe_tup (pa_cons (pe_int (i := 5)) (pa_cons (pe_int (i := 6)) (pa_cons (pe_int (i := 7)) (pa_cons (pe_int (i := 8)) pa_nil))))) (by with_unfolding_all rfl)) (pw_and1 (pt_cmpR op_lt (pe_callB call_len rfl T.b_len bt_len (pa_cons (pv 2) pa_nil)) (pe_int (i := 6)) (nomark _))))) (pss_one (ps_expr (pe_bm PySem.F.plainAttrs_list PySem.F.slot_list_append PySem.F.type_list_append mt_append (pv 2) (pa_cons (pe_lst (pa_cons (pe_call (FnOk.mono (ok__law_term T) (by decide)) hr rfl T.m__law_term T.f__law_term.kp T.b__law_term .nil pass0 (pa_cons (pv 3) (pa_cons (pe_int (i := 40)) pa_nil))) (pa_cons pe_non (pa_cons (pe_lst pa_nil) pa_nil)))) pa_nil))))
      (pss_one (ps_if (PW.pt (pw_and (pt_cmpR op_in_seq (pv 4) (pe_tup (pa_cons (pe_int (i := 9)) (pa_cons (pe_int (i := 10)) pa_nil))) (by with_unfolding_all rfl)) (pw_and (pt_cmpR op_gt (pe_callB call_len rfl T.b_len bt_len (pa_cons (pv 2) pa_nil)) (pe_int (i := 1)) (nomark _)) (pw_and1 (pt_cmpR op_isN (pe_ix ix_list (pe_ix ix_list (pv 2) (pe_un un_neg (pe_int (i := 1))) (fun _ _ => rfl)) (pe_int (i := 1)) (fun _ _ => rfl)) pe_non (nomark _)))))) (pss_cons (ps_lput (pe_ix ix_list (pv 2) (pe_un un_neg (pe_int (i := 1))) (fun _ _ => rfl)) (pe_int (i := 1)) (pe_ix ix_list (pe_ix ix_list (pv 2) (pe_un un_neg (pe_int (i := 1))) (fun _ _ => rfl)) (pe_int (i := 2)) (fun _ _ => rfl)) rfl)
    (pss_one (ps_lput (pe_ix ix_list (pv 2) (pe_un un_neg (pe_int (i := 1))) (fun _ _ => rfl)) (pe_int (i := 2)) (pe_lst pa_nil) rfl)))
      (pss_one (ps_if (PW.pt (pw_and (pt_cmpR op_eq (pv 4) (pe_int (i := 11)) (nomark _)) (pw_and1 (pt_cmpR op_gt (pe_callB call_len rfl T.b_len bt_len (pa_cons (pv 2) pa_nil)) (pe_int (i := 1)) (nomark _))))) (pss_one (ps_expr (pe_call (FnOk.mono (ok__law_closed T) (by decide)) hr rfl T.m__law_closed T.f__law_closed.kp T.b__law_closed .nil pass0 (pa_cons (pv 2) pa_nil))))
      (pss_one (ps_expr (pe_bm PySem.F.plainAttrs_list PySem.F.slot_list_append PySem.F.type_list_append mt_append (pe_ix ix_list (pe_ix ix_list (pv 2) (pe_un un_neg (pe_int (i := 1))) (fun _ _ => rfl)) (pe_int (i := 2)) (fun _ _ => rfl)) (pa_cons (pe_call (FnOk.mono (ok__law_row T) (by decide)) hr rfl T.m__law_row T.f__law_row.kp T.b__law_row .nil pass0 (pa_cons (pv 3) pa_nil)) pa_nil)))))))))))))
    (pss_cons (ps_while PassesOwn.never (pt_cmpR op_gt (pe_callB call_len rfl T.b_len bt_len (pa_cons (pv 2) pa_nil)) (pe_int (i := 1)) (nomark _)) (pss_one (ps_expr (pe_call (FnOk.mono (ok__law_closed T) (by decide)) hr rfl T.m__law_closed T.f__law_closed.kp T.b__law_closed .nil pass0 (pa_cons (pv 2) pa_nil)))))
    (pss_one (ps_ret (pe_ix ix_list (pe_ix ix_list (pv 2) (pe_int (i := 0)) (fun _ _ => rfl)) (pe_int (i := 2)) (fun _ _ => rfl))))))), rdp__law_rows h1 h2 q⟩
theorem ok__law_copied (T : Txt K mg t) : ∀ n, FnOk P w K mg base CX0 (1 + n) t.a__law_copied t.d__law_copied ["rows"] (sp__law_copied n) := by
  intro n
  induction n with
  | zero => exact ⟨fun vs H Q E h => (nil__law_copied h).elim, fun A outer s H args us vs Q E hr he hb hv h => (nil__law_copied h).elim⟩
  | succ n IH =>
  refine T.f__law_copied.ok sc__law_copied (k := 1 + n) (fun vs H Q E h => ?_) (fun cdv A outer s H vs Q E hr h => ?_)
  · obtain ⟨F, v, rws, rfl, _⟩ := h; rfl
  obtain ⟨F, v, rws, rfl, h1, h2, h3, h4, q⟩ := h
  exact ⟨rd__law_copied K t n, (pss_cons (ps_set (i := 1) sc__law_copied.nd rfl (Or.inl rfl) (pe_lst pa_nil))
    (pss_cons (ps_for PassesOwn.never rfl (pi_list (pv 0)) (pg_name (i := 2) sc__law_copied.nd rfl (Or.inl rfl)) (pss_one (ps_if (pt_cmpR op_eq (pe_ix ix_tup (pv 2) (pe_int (i := 0)) (fun _ _ => rfl)) (pe_str (x := "if")) (nomark _)) (pss_one (ps_expr (pe_bm PySem.F.plainAttrs_list PySem.F.slot_list_append PySem.F.type_list_append mt_append (pv 1) (pa_cons (pe_tup (pa_cons (pe_str (x := "if")) (pa_cons (pe_ix ix_tup (pv 2) (pe_int (i := 1)) (fun _ _ => rfl)) (pa_cons (pe_call (FnOk.mono IH (by omega)) hr rfl T.m__law_copied T.f__law_copied.kp T.b__law_copied .nil pass0 (pa_cons (pe_ix ix_tup (pv 2) (pe_int (i := 2)) (fun _ _ => rfl)) pa_nil)) (pa_cons (pe_call (FnOk.mono IH (by omega)) hr rfl T.m__law_copied T.f__law_copied.kp T.b__law_copied .nil pass0 (pa_cons (pe_ix ix_tup (pv 2) (pe_int (i := 3)) (fun _ _ => rfl)) pa_nil)) pa_nil))))) pa_nil))))
      (pss_one (ps_expr (pe_bm PySem.F.plainAttrs_list PySem.F.slot_list_append PySem.F.type_list_append mt_append (pv 1) (pa_cons (pv 2) pa_nil)))))))
    (pss_one (ps_ret (pv 1))))), rdp__law_copied h1 h2 h3 h4 q⟩
theorem ok_block_steps (T : Txt K mg t) (n : Nat) (IH : FnOk P w K mg base CX0 (2 + 2 * n) t.a_steps_of t.d_steps_of ["rows", "first"] (sp_steps_of n)) : FnOk P w K mg base CX0 (2 + 2 * n + 1) t.a_block_steps t.d_block_steps ["row", "at"] (sp_block_steps n) := by
  refine T.f_block_steps.ok sc_block_steps (k := 2 + 2 * n) (fun vs H Q E h => ?_) (fun cdv A outer s H vs Q E hr h => ?_)
  · obtain ⟨v, e, a, b, k, rfl, _⟩ := h; rfl
  obtain ⟨v, e, a, b, k, rfl, h1, h2, h3, h4, q⟩ := h
  exact ⟨rd_block_steps K t n, (pss_cons (ps_set (i := 2) sc_block_steps.nd rfl (Or.inl rfl) (pe_call (FnOk.mono IH (by omega)) hr rfl T.m_steps_of T.f_steps_of.kp T.b_steps_of .nil pass0 (pa_cons (pe_ix ix_tup (pv 0) (pe_int (i := 2)) (fun _ _ => rfl)) (pa_cons (pe_op op_add (pv 1) (pe_int (i := 1))) pa_nil))))
    (pss_cons (ps_set (i := 3) sc_block_steps.nd rfl (Or.inl rfl) (pe_op op_add (pe_op op_add (pv 1) (pe_int (i := 1))) (pe_callB call_len rfl T.b_len bt_len (pa_cons (pv 2) pa_nil))))
    (pss_cons (ps_if (pt_cmpR (op_eqNil (hu64 hr)) (pe_ix ix_tup (pv 0) (pe_int (i := 3)) (fun _ _ => rfl)) (pe_lst pa_nil) (nomark _)) (pss_one (ps_ret (pe_op op_cat (pe_lst (pa_cons (pe_tup (pa_cons (pe_str (x := "skip")) (pa_cons (pe_ix ix_tup (pv 0) (pe_int (i := 1)) (fun _ _ => rfl)) (pa_cons (pv 3) pa_nil)))) pa_nil)) (pv 2))))
      pss_nil)
    (pss_cons (ps_set (i := 4) sc_block_steps.nd rfl (Or.inl rfl) (pe_call (FnOk.mono IH (by omega)) hr rfl T.m_steps_of T.f_steps_of.kp T.b_steps_of .nil pass0 (pa_cons (pe_ix ix_tup (pv 0) (pe_int (i := 3)) (fun _ _ => rfl)) (pa_cons (pe_op op_add (pv 3) (pe_int (i := 1))) pa_nil))))
    (pss_one (ps_ret (pe_op op_cat (pe_op op_cat (pe_op op_cat (pe_lst (pa_cons (pe_tup (pa_cons (pe_str (x := "skip")) (pa_cons (pe_ix ix_tup (pv 0) (pe_int (i := 1)) (fun _ _ => rfl)) (pa_cons (pe_op op_add (pv 3) (pe_int (i := 1))) pa_nil)))) pa_nil)) (pv 2)) (pe_lst (pa_cons (pe_tup (pa_cons (pe_str (x := "go")) (pa_cons (pe_op op_add (pe_op op_add (pv 3) (pe_int (i := 1))) (pe_callB call_len rfl T.b_len bt_len (pa_cons (pv 4) pa_nil))) pa_nil))) pa_nil))) (pv 4)))))))), rdp_block_steps h1 h2 h3 h4 q⟩
theorem ok_steps_of (T : Txt K mg t) : ∀ n, FnOk P w K mg base CX0 (2 + 2 * n) t.a_steps_of t.d_steps_of ["rows", "first"] (sp_steps_of n) := by
  intro n
  induction n with
  | zero => exact ⟨fun vs H Q E h => (nil_steps_of h).elim, fun A outer s H args us vs Q E hr he hb hv h => (nil_steps_of h).elim⟩
  | succ n IH =>
  refine T.f_steps_of.ok sc_steps_of (k := 2 + 2 * n + 1) (fun vs H Q E h => ?_) (fun cdv A outer s H vs Q E hr h => ?_)
  · obtain ⟨v, r, k, rfl, _⟩ := h; rfl
  obtain ⟨v, r, k, rfl, h1, h2, h3, q⟩ := h
  exact ⟨rd_steps_of K t n, (pss_cons (ps_set (i := 2) sc_steps_of.nd rfl (Or.inl rfl) (pe_lst pa_nil))
    (pss_cons (ps_for PassesOwn.never rfl (pi_list (pv 0)) (pg_name (i := 3) sc_steps_of.nd rfl (Or.inl rfl)) (pss_one (ps_if (pt_cmpR op_eq (pe_ix ix_tup (pv 3) (pe_int (i := 0)) (fun _ _ => rfl)) (pe_str (x := "if")) (nomark _)) (pss_one (ps_expr (pe_bm PySem.F.plainAttrs_list PySem.F.slot_list_extend PySem.F.type_list_extend mt_extend (pv 2) (pa_cons (pe_call (FnOk.mono (ok_block_steps T n IH) (by omega)) hr rfl T.m_block_steps T.f_block_steps.kp T.b_block_steps .nil pass0 (pa_cons (pv 3) (pa_cons (pe_op op_add (pv 1) (pe_callB call_len rfl T.b_len bt_len (pa_cons (pv 2) pa_nil))) pa_nil))) pa_nil))))
      (pss_one (ps_expr (pe_bm PySem.F.plainAttrs_list PySem.F.slot_list_append PySem.F.type_list_append mt_append (pv 2) (pa_cons (pv 3) pa_nil)))))))
    (pss_one (ps_ret (pv 2))))), rdp_steps_of h1 h2 h3 q⟩
theorem ok_code_of (T : Txt K mg t) : FnOk P w K mg base CX0 15 t.a_code_of t.d_code_of ["rows"] (sp_code_of) := by
  refine T.f_code_of.ok sc_code_of (fun vs H Q E h => ?_) (fun cdv A outer s H vs Q E hr h => ?_)
  · obtain ⟨v, r, rfl, _⟩ := h; rfl
  obtain ⟨v, r, rfl, h1, h2, h3, q⟩ := h
  exact ⟨rd_code_of K t, (pss_one (ps_ret (pe_call (FnOk.mono (ok_steps_of T 6) (by decide)) hr rfl T.m_steps_of T.f_steps_of.kp T.b_steps_of .nil pass0 (pa_cons (pv 0) (pa_cons (pe_int (i := 0)) pa_nil))))), rdp_code_of h1 h2 h3 q⟩
theorem ok__law_cell_at (T : Txt K mg t) : FnOk P w K mg base CX0 1 t.a__law_cell_at t.d__law_cell_at ["script", "k"] (sp__law_cell_at K) := by
  refine T.f__law_cell_at.ok sc__law_cell_at (fun vs H Q E h => ?_) (fun cdv A outer s H vs Q E hr h => ?_)
  · obtain ⟨a, ns, k, rfl, _⟩ := h; rfl
  obtain ⟨a, ns, k, rfl, hS, hl, q⟩ := h
  exact ⟨rd__law_cell_at K t, (pss_cons (ps_if (pt_cmpR op_lt (pv 1) (pe_callB call_len rfl T.b_len bt_len (pa_cons (pv 0) pa_nil)) (nomark _)) (pss_one (ps_ret (pe_ix ix_list (pv 0) (pv 1) (fun _ _ => rfl))))
      pss_nil)
    (pss_one (ps_ret (pe_int (i := 0))))), rdp__law_cell_at hS hl q⟩
theorem ok__law_number (T : Txt K mg t) : FnOk P w K mg base CX0 1 t.a__law_number t.d__law_number ["found"] (sp__law_number) := by
  refine T.f__law_number.ok sc__law_number (fun vs H Q E h => ?_) (fun cdv A outer s H vs Q E hr h => ?_)
  · obtain ⟨i, rfl, _⟩ := h; rfl
  obtain ⟨i, rfl, q⟩ := h
  exact ⟨rd__law_number K t, (pss_one (ps_ret (pe_and (pe_callB call_isi rfl T.b_isinstance bt_isinstance (pa_cons (pv 0) (pa_cons (pe_bltn rfl T.b_int bt_int rfl) pa_nil))) (pe_one (pe_not (pe_callB call_isi rfl T.b_isinstance bt_isinstance (pa_cons (pv 0) (pa_cons (pe_bltn rfl T.b_bool bt_bool rfl) pa_nil)))))))), rdp__law_number (kf K) q⟩
theorem ok__law_block (T : Txt K mg t) (n : Nat) (IH : FnOk P w K mg base CX0 (3 + 2 * n) t.a__law_follow t.d__law_follow ["rows", "code", "at"] (sp__law_follow n)) : FnOk P w K mg base CX0 (3 + 2 * n + 1) t.a__law_block t.d__law_block ["row", "code", "at"] (sp__law_block n) := by
  refine T.f__law_block.ok sc__law_block (k := 3 + 2 * n) (fun vs H Q E h => ?_) (fun cdv A outer s H vs Q E hr h => ?_)
  · obtain ⟨v, l, k, e, a, b, rfl, _⟩ := h; rfl
  obtain ⟨v, l, k, e, a, b, rfl, h1, h2, h3, h4, h5, q⟩ := h
  exact ⟨rd__law_block K t n, (pss_cons (ps_set (i := 3) sc__law_block.nd rfl (Or.inl rfl) (pe_ix ix_list (pv 1) (pv 2) (fun _ _ => rfl)))
    (pss_cons (ps_if (PW.pt (pw_or (pt_not (pt_val (pe_callB call_isi rfl T.b_isinstance bt_isinstance (pa_cons (pv 3) (pa_cons (pe_bltn rfl T.b_tuple bt_tuple rfl) pa_nil))))) (pw_or (pt_cmpR op_ne (pe_callB call_len rfl T.b_len bt_len (pa_cons (pv 3) pa_nil)) (pe_int (i := 3)) (nomark _)) (pw_or1 (pt_not (pt_val (pe_call (FnOk.mono (ok__law_number T) (by omega)) hr rfl T.m__law_number T.f__law_number.kp T.b__law_number .nil pass0 (pa_cons (pe_ix ix_tup (pv 3) (pe_int (i := 2)) (fun _ _ => rfl)) pa_nil)))))))) (pss_one (ps_ret (pe_un un_neg (pe_int (i := 1)))))
      pss_nil)
    (pss_cons (ps_set (i := 4) sc__law_block.nd rfl (Or.inl rfl) (pe_call (FnOk.mono IH (by omega)) hr rfl T.m__law_follow T.f__law_follow.kp T.b__law_follow .nil pass0 (pa_cons (pe_ix ix_tup (pv 0) (pe_int (i := 2)) (fun _ _ => rfl)) (pa_cons (pv 1) (pa_cons (pe_op op_add (pv 2) (pe_int (i := 1))) pa_nil)))))
    (pss_cons (ps_if (PW.pt (pw_or (pt_cmpR op_ne (pe_ix ix_tup (pv 3) (pe_int (i := 0)) (fun _ _ => rfl)) (pe_str (x := "skip")) (nomark _)) (pw_or (pt_cmpR (op_neAll (hu64 hr)) (pe_ix ix_tup (pv 3) (pe_int (i := 1)) (fun _ _ => rfl)) (pe_ix ix_tup (pv 0) (pe_int (i := 1)) (fun _ _ => rfl)) (nomark _)) (pw_or1 (pt_cmpR op_lt (pv 4) (pe_int (i := 0)) (nomark _)))))) (pss_one (ps_ret (pe_un un_neg (pe_int (i := 1)))))
      pss_nil)
    (pss_cons (ps_if (PW.pt (pw_and (pt_cmpR (op_eqNil (hu64 hr)) (pe_ix ix_tup (pv 0) (pe_int (i := 3)) (fun _ _ => rfl)) (pe_lst pa_nil) (nomark _)) (pw_and1 (pt_cmpR op_eq (pe_ix ix_tup (pv 3) (pe_int (i := 2)) (fun _ _ => rfl)) (pv 4) (nomark _))))) (pss_one (ps_ret (pv 4)))
      pss_nil)
    (pss_cons (ps_if (PW.pt (pw_or (pt_cmpR (op_eqNil (hu64 hr)) (pe_ix ix_tup (pv 0) (pe_int (i := 3)) (fun _ _ => rfl)) (pe_lst pa_nil) (nomark _)) (pw_or (pt_cmpR op_ge (pv 4) (pe_callB call_len rfl T.b_len bt_len (pa_cons (pv 1) pa_nil)) (nomark _)) (pw_or1 (pt_cmpR op_ne (pe_ix ix_tup (pv 3) (pe_int (i := 2)) (fun _ _ => rfl)) (pe_op op_add (pv 4) (pe_int (i := 1))) (nomark _)))))) (pss_one (ps_ret (pe_un un_neg (pe_int (i := 1)))))
      pss_nil)
    (pss_cons (ps_set (i := 5) sc__law_block.nd rfl (Or.inl rfl) (pe_ix ix_list (pv 1) (pv 4) (fun _ _ => rfl)))
    (pss_cons (ps_if (PW.pt (pw_or (pt_not (pt_val (pe_callB call_isi rfl T.b_isinstance bt_isinstance (pa_cons (pv 5) (pa_cons (pe_bltn rfl T.b_tuple bt_tuple rfl) pa_nil))))) (pw_or (pt_cmpR op_ne (pe_callB call_len rfl T.b_len bt_len (pa_cons (pv 5) pa_nil)) (pe_int (i := 2)) (nomark _)) (pw_or (pt_cmpR op_ne (pe_ix ix_tup (pv 5) (pe_int (i := 0)) (fun _ _ => rfl)) (pe_str (x := "go")) (nomark _)) (pw_or1 (pt_not (pt_val (pe_call (FnOk.mono (ok__law_number T) (by omega)) hr rfl T.m__law_number T.f__law_number.kp T.b__law_number .nil pass0 (pa_cons (pe_ix ix_tup (pv 5) (pe_int (i := 1)) (fun _ _ => rfl)) pa_nil))))))))) (pss_one (ps_ret (pe_un un_neg (pe_int (i := 1)))))
      pss_nil)
    (pss_cons (ps_if (pt_cmpR op_ne (pe_call (FnOk.mono IH (by omega)) hr rfl T.m__law_follow T.f__law_follow.kp T.b__law_follow .nil pass0 (pa_cons (pe_ix ix_tup (pv 0) (pe_int (i := 3)) (fun _ _ => rfl)) (pa_cons (pv 1) (pa_cons (pe_op op_add (pv 4) (pe_int (i := 1))) pa_nil)))) (pe_ix ix_tup (pv 5) (pe_int (i := 1)) (fun _ _ => rfl)) (nomark _)) (pss_one (ps_ret (pe_un un_neg (pe_int (i := 1)))))
      pss_nil)
    (pss_one (ps_ret (pe_ix ix_tup (pv 5) (pe_int (i := 1)) (fun _ _ => rfl))))))))))))), rdp__law_block h1 h2 h3 h4 h5 q⟩
theorem ok__law_follow (T : Txt K mg t) : ∀ n, FnOk P w K mg base CX0 (3 + 2 * n) t.a__law_follow t.d__law_follow ["rows", "code", "at"] (sp__law_follow n) := by
  intro n
  induction n with
  | zero => exact ⟨fun vs H Q E h => (nil__law_follow h).elim, fun A outer s H args us vs Q E hr he hb hv h => (nil__law_follow h).elim⟩
  | succ n IH =>
  refine T.f__law_follow.ok sc__law_follow (k := 3 + 2 * n + 1) (fun vs H Q E h => ?_) (fun cdv A outer s H vs Q E hr h => ?_)
  · obtain ⟨v, l, k, r, rfl, _⟩ := h; rfl
  obtain ⟨v, l, k, r, rfl, h1, h2, h3, q⟩ := h
  exact ⟨rd__law_follow K t n, (pss_cons (ps_for PassesOwn.never rfl (pi_list (pv 0)) (pg_name (i := 3) sc__law_follow.nd rfl (Or.inl rfl)) (pss_cons (ps_if (pt_cmpR op_ge (pv 2) (pe_callB call_len rfl T.b_len bt_len (pa_cons (pv 1) pa_nil)) (nomark _)) (pss_one (ps_ret (pe_un un_neg (pe_int (i := 1)))))
      pss_nil)
    (pss_one (ps_if (pt_cmpR op_eq (pe_ix ix_tup (pv 3) (pe_int (i := 0)) (fun _ _ => rfl)) (pe_str (x := "if")) (nomark _)) (pss_cons (ps_set (i := 2) sc__law_follow.nd rfl (Or.inl rfl) (pe_call (FnOk.mono (ok__law_block T n IH) (by omega)) hr rfl T.m__law_block T.f__law_block.kp T.b__law_block .nil pass0 (pa_cons (pv 3) (pa_cons (pv 1) (pa_cons (pv 2) pa_nil)))))
    (pss_one (ps_if (pt_cmpR op_lt (pv 2) (pe_int (i := 0)) (nomark _)) (pss_one (ps_ret (pe_un un_neg (pe_int (i := 1)))))
      pss_nil)))
      (pss_one (ps_if (PW.pt (pw_or (pt_not (pt_val (pe_callB call_isi rfl T.b_isinstance bt_isinstance (pa_cons (pe_ix ix_list (pv 1) (pv 2) (fun _ _ => rfl)) (pa_cons (pe_bltn rfl T.b_tuple bt_tuple rfl) pa_nil))))) (pw_or1 (pt_cmpR (op_neAll (hu64 hr)) (pe_ix ix_list (pv 1) (pv 2) (fun _ _ => rfl)) (pv 3) (nomark _))))) (pss_one (ps_ret (pe_un un_neg (pe_int (i := 1)))))
      (pss_one (ps_set (i := 2) sc__law_follow.nd rfl (Or.inl rfl) (pe_op op_add (pv 2) (pe_int (i := 1)))))))))))
    (pss_one (ps_ret (pv 2)))), rdp__law_follow h1 h2 h3 q⟩
theorem ok_law (T : Txt K mg t) : FnOk P w K mg base CX0 16 t.a_law t.d_law ["script"] (sp_law K) := by
  refine T.f_law.ok sc_law (fun vs H Q E h => ?_) (fun cdv A outer s H vs Q E hr h => ?_)
  · obtain ⟨a, ns, rfl, _⟩ := h; rfl
  obtain ⟨a, ns, rfl, hS, hn, q⟩ := h
  exact ⟨rd_law K t, (pss_cons (ps_set (i := 1) sc_law.nd rfl (Or.inl rfl) (pe_op op_add (pe_int (i := 1)) (pe_op op_mod (pe_call (FnOk.mono (ok__law_draw T) (by decide)) hr rfl T.m__law_draw T.f__law_draw.kp T.b__law_draw .nil pass0 (pa_cons (pe_call (FnOk.mono (ok__law_cell_at T) (by decide)) hr rfl T.m__law_cell_at T.f__law_cell_at.kp T.b__law_cell_at .nil pass0 (pa_cons (pv 0) (pa_cons (pe_int (i := 0)) pa_nil))) (pa_cons (pe_int (i := 200)) pa_nil))) (pe_int (i := 20)))))
    (pss_cons (ps_set (i := 2) sc_law.nd rfl (Or.inl rfl) (pe_slice sl_list (pv 0) po_none (po_some (pe_int (i := 240)))))
    (pss_cons (ps_for PassesOwn.never rfl (pi_range3 rfl T.b_range (pa_cons (pe_int (i := 0)) (pa_cons (pe_callB call_len rfl T.b_len bt_len (pa_cons (pv 2) pa_nil)) (pa_cons (pv 1) pa_nil)))) (pg_name (i := 3) sc_law.nd rfl (Or.inl rfl)) (pss_cons (ps_set (i := 4) sc_law.nd rfl (Or.inl rfl) (pe_call (FnOk.mono (ok__law_rows T) (by decide)) hr rfl T.m__law_rows T.f__law_rows.kp T.b__law_rows .nil pass0 (pa_cons (pe_slice sl_list (pv 2) (po_some (pv 3)) (po_some (pe_op op_add (pv 3) (pv 1)))) (pa_cons (pe_op op_mod (pe_call (FnOk.mono (ok__law_draw T) (by decide)) hr rfl T.m__law_draw T.f__law_draw.kp T.b__law_draw .nil pass0 (pa_cons (pe_call (FnOk.mono (ok__law_cell_at T) (by decide)) hr rfl T.m__law_cell_at T.f__law_cell_at.kp T.b__law_cell_at .nil pass0 (pa_cons (pv 0) (pa_cons (pv 3) pa_nil))) (pa_cons (pe_int (i := 201)) pa_nil))) (pe_int (i := 4))) pa_nil))))
    (pss_cons (ps_set (i := 5) sc_law.nd rfl (Or.inl rfl) (pe_call (FnOk.mono (ok__law_copied T 6) (by decide)) hr rfl T.m__law_copied T.f__law_copied.kp T.b__law_copied .nil pass0 (pa_cons (pv 4) pa_nil)))
    (pss_cons (ps_set (i := 6) sc_law.nd rfl (Or.inl rfl) (pe_call (FnOk.mono (ok_code_of T) (by decide)) hr rfl T.m_code_of T.f_code_of.kp T.b_code_of .nil pass0 (pa_cons (pv 5) pa_nil)))
    (pss_cons (ps_if (PW.pt (pw_or (pt_not (pt_val (pe_callB call_isi rfl T.b_isinstance bt_isinstance (pa_cons (pv 6) (pa_cons (pe_bltn rfl T.b_list bt_list rfl) pa_nil))))) (pw_or1 (pt_cmpR op_ne (pe_call (FnOk.mono (ok__law_follow T 6) (by decide)) hr rfl T.m__law_follow T.f__law_follow.kp T.b__law_follow .nil pass0 (pa_cons (pv 4) (pa_cons (pv 6) (pa_cons (pe_int (i := 0)) pa_nil)))) (pe_callB call_len rfl T.b_len bt_len (pa_cons (pv 6) pa_nil)) (nomark _))))) (pss_one (ps_ret (pe_bl (b := false))))
      pss_nil)
    (pss_cons (ps_set (i := 7) sc_law.nd rfl (Or.inl rfl) (pe_callTy call_list_of rfl T.b_list bt_list (pa_cons (pv 6) pa_nil)))
    (pss_cons (ps_expr (pe_bm PySem.F.plainAttrs_list PySem.F.slot_list_append PySem.F.type_list_append mt_append (pv 6) (pa_cons (pe_tup (pa_cons (pe_str (x := "say")) (pa_cons (pe_tup (pa_cons (pe_int (i := 1)) pa_nil)) pa_nil))) pa_nil)))
    (pss_one (ps_if (PW.pt (pw_or (pt_cmpR (op_neAll (hu64 hr)) (pv 5) (pv 4) (nomark _)) (pw_or1 (pt_cmpR (op_neAll (hu64 hr)) (pe_call (FnOk.mono (ok_code_of T) (by decide)) hr rfl T.m_code_of T.f_code_of.kp T.b_code_of .nil pass0 (pa_cons (pv 5) pa_nil)) (pv 7) (nomark _))))) (pss_one (ps_ret (pe_bl (b := false))))
      pss_nil)))))))))
    (pss_one (ps_ret (pe_cmpR (op_eqNil (hu64 hr)) (pe_call (FnOk.mono (ok_code_of T) (by decide)) hr rfl T.m_code_of T.f_code_of.kp T.b_code_of .nil pass0 (pa_cons (pe_lst pa_nil) pa_nil)) (pe_lst pa_nil) (nomark _))))))), rdp_law hS hn q⟩
end
end K25
open PySem PySem.W PyProof.Rows
def PySem.W.Fast.tw6272870834445125934:Unit:=()
def PySem.W.Fast.tw509261002461942799:Unit:=()
def PySem.W.Fast.tw4579968603192898003:Unit:=()
def PySem.W.Fast.tw5580133019500941986:Unit:=()
def PySem.W.Fast.tw13497229953204057455:Unit:=()
def PySem.W.Fast.tw15955883335734768957:Unit:=()
def PySem.W.Fast.tw7434832624120675046:Unit:=()
def PySem.W.Fast.tw15710188531006532787:Unit:=()
def PySem.W.Fast.tw7454004847823685463:Unit:=()
def PySem.W.Fast.tw8145923660986472869:Unit:=()
def PySem.W.Fast.tw2847303008235659491:Unit:=()
def PySem.W.Fast.tw15748723229300929323:Unit:=()
def PySem.W.Fast.tw5067181089675190322:Unit:=()
def PySem.W.Fast.tw4435200416258544742:Unit:=()
def PySem.W.Fast.tw11187378066962858558:Unit:=()
def PySem.W.Fast.tw10252976197702738138:Unit:=()
def PySem.W.Fast.tw17246914296925488734:Unit:=()
def PySem.W.Fast.tw10873388377654579210:Unit:=()
def PySem.W.Fast.tw6945872688444001360:Unit:=()
def PySem.W.Fast.tw12549150282705501493:Unit:=()
def PySem.W.Fast.tw2232855943356667024:Unit:=()
def PySem.W.Fast.tw14512938961150697916:Unit:=()
def PySem.W.Fast.tw644655989516655362:Unit:=()
def PySem.W.Fast.tw13304876024110442007:Unit:=()
def PySem.W.Fast.tw11558138325101619916:Unit:=()
def PySem.W.Fast.tw1932622950851375664:Unit:=()
def PySem.W.Fast.tw13098842029433564763:Unit:=()
def PySem.W.Fast.tw16097662476887880958:Unit:=()
def PySem.W.Fast.tw3411911256953998742:Unit:=()
def PySem.W.Fast.tw9162020465298873051:Unit:=()
def PySem.W.Fast.tw8481199284114823659:Unit:=()
def PySem.W.Fast.tw5879524964415949762:Unit:=()
def PySem.W.Fast.tw14099759617322165982:Unit:=()
def PySem.W.Fast.tw12192911678355808150:Unit:=()
def PySem.W.Fast.tw767064802009461023:Unit:=()
def PySem.W.Fast.tw1987343045617347561:Unit:=()
def PySem.W.Fast.tw10724971467395184814:Unit:=()
def PySem.W.Fast.tw14926264729402761984:Unit:=()
def PySem.W.Fast.tw12785480135379059017:Unit:=()
def PySem.W.Fast.tw2185589560953212447:Unit:=()
def PySem.W.Fast.tw12003563470236251075:Unit:=()
def PySem.W.Fast.tw13539331027179486902:Unit:=()
def PySem.W.Fast.tw15982107259614107446:Unit:=()
def PySem.W.Fast.tw2679969899951328968:Unit:=()
def PySem.W.Fast.tw16899806469476703363:Unit:=()
def PySem.W.Fast.tw18081813638902170725:Unit:=()
def PySem.W.Fast.tw7034310601090236165:Unit:=()
def PySem.W.Fast.tw1395564885041616331:Unit:=()
def PySem.W.Fast.tw11589454085108028148:Unit:=()
def PySem.W.Fast.tw17106480616240485590:Unit:=()
def PySem.W.Fast.tw9915328630296575832:Unit:=()
def PySem.W.Fast.tw9356256491345796789:Unit:=()
def PySem.W.Fast.tw9260629405977382400:Unit:=()
def PySem.W.Fast.tw4747861757592949186:Unit:=()
def PySem.W.Fast.tw5647384465578801269:Unit:=()
def PySem.W.Fast.tw2227047236895555762:Unit:=()
def PySem.W.Fast.tw14033703961290851094:Unit:=()
def PySem.W.Fast.tw1379394679159889197:Unit:=()
def PySem.W.Fast.tw1623085045250339270:Unit:=()
def PySem.W.Fast.tw8335848703626200570:Unit:=()
def PySem.W.Fast.tw11359238475126609361:Unit:=()
def PySem.W.Fast.tw14569880994607725435:Unit:=()
def PySem.W.Fast.tw174313150051593632:Unit:=()
def PySem.W.Fast.tw10881533094894561745:Unit:=()
def PySem.W.Fast.tw3844522467622148954:Unit:=()
def PySem.W.Fast.tw7415098652739629666:Unit:=()
def PySem.W.Fast.tw2355030676347073195:Unit:=()
def PySem.W.Fast.tw8513546696704803939:Unit:=()
def PySem.W.Fast.tw10806876051220754421:Unit:=()
def PySem.W.Fast.tw2608126367854631303:Unit:=()
def PySem.W.Fast.tw5568226869942687046:Unit:=()
def PySem.W.Fast.tw6487158262552863633:Unit:=()
def PySem.W.Fast.tw9132264108189720049:Unit:=()
def PySem.W.Fast.tw6979463293990726459:Unit:=()
def PySem.W.Fast.tw12554250748672437519:Unit:=()
def PySem.W.Fast.tw7941693770999605038:Unit:=()
def PySem.W.Fast.tw11304442798480076708:Unit:=()
def PySem.W.Fast.tw11642739945216699084:Unit:=()
def PySem.W.Fast.tw8766023607197418874:Unit:=()
def PySem.W.Fast.tw3578020815975434424:Unit:=()
def PySem.W.Fast.tw8153427558298258380:Unit:=()
def PySem.W.Fast.tw4572050857950908789:Unit:=()
def PySem.W.Fast.tw3830159922493397813:Unit:=()
def PySem.W.Fast.tw15865573948813421280:Unit:=()
def PySem.W.Fast.tw2904447716127553644:Unit:=()
def PySem.W.Fast.tw680478495179859215:Unit:=()
def PySem.W.Fast.tw13819076759556205166:Unit:=()
def PySem.W.Fast.tw481825026176020762:Unit:=()
def PySem.W.Fast.tw7245033049436141016:Unit:=()
def PySem.W.Fast.tw15749604003956460725:Unit:=()
def PySem.W.Fast.tw9132831355475996590:Unit:=()
def PySem.W.Fast.tw4992526814876306357:Unit:=()
def PySem.W.Fast.tw4973080204279421286:Unit:=()
def PySem.W.Fast.tw17499975611202774250:Unit:=()
def PySem.W.Fast.tw16153163453257525795:Unit:=()
def PySem.W.Fast.tw15039161904415841590:Unit:=()
def PySem.W.Fast.tw4483848057903894497:Unit:=()
def PySem.W.Fast.tw9292553303822982565:Unit:=()
def PySem.W.Fast.tw4407042676174499440:Unit:=()
def PySem.W.Fast.tw10211280620196659863:Unit:=()
def PySem.W.Fast.tw8013022757462438919:Unit:=()
def PySem.W.Fast.tw4275332318692427970:Unit:=()
def PySem.W.Fast.tw13362909004690937299:Unit:=()
def PySem.W.Fast.tw15865497750571998458:Unit:=()
def PySem.W.Fast.tw15161440669597162769:Unit:=()
def PySem.W.Fast.tw10567254662343954173:Unit:=()
def PySem.W.Fast.tw16115024945702889117:Unit:=()
def PySem.W.Fast.tw11640075712475231992:Unit:=()
def PySem.W.Fast.tw5992385020848647947:Unit:=()
def PySem.W.Fast.tw1197464689296821234:Unit:=()
def PySem.W.Fast.tw8446719609047133025:Unit:=()
def PySem.W.Fast.tw7317467813953229586:Unit:=()
def PySem.W.Fast.tw11836566017999866139:Unit:=()
set_option maxRecDepth 100000 in
set_option maxHeartbeats 0 in
theorem PySem.Challenge.cw_forerun_k25_steps_of_rows_holds : PySem.Challenge.rw_forerun_k25_steps_of_rows.Holds := by
  w_on; o_law; k_head; (case hw => w_witness2)
  k_fill
  refine L2.walk_ofK (l := PySem.Challenge.rw_forerun_k25_steps_of_rows) (n := 63) (k := 16) (x := "script") (CX := L2.CX0) (sp := K25.sp_law) rfl (by decide) rfl ⟨rfl, by decide, by decide⟩ (fun w h Y => PySem.W.kIn_of Y) ?F ?S ?C
  case F =>
    intro w mg fa h KX G hmg
    have T : ∃ t, K25.Txt (L2.KOf KX) mg t := by
      dsimp only [L2.KOf]
      refine' K25.txt_mk KX G ?qa0 ?ql0 ?qc0 ?qk0 ?qa1 ?ql1 ?qc1 ?qk1 ?qa2 ?ql2 ?qc2 ?qk2 ?qa3 ?ql3 ?qc3 ?qk3 ?qa4 ?ql4 ?qc4 ?qk4 ?qa5 ?ql5 ?qc5 ?qk5 ?qa6 ?ql6 ?qc6 ?qk6 ?qa7 ?ql7 ?qc7 ?qk7 ?qa8 ?ql8 ?qc8 ?qk8 ?qa9 ?ql9 ?qc9 ?qk9 ?qa10 ?ql10 ?qc10 ?qk10 ?qa11 ?ql11 ?qc11 ?qk11 ?qa12 ?ql12 ?qc12 ?qk12 ?qa13 ?ql13 ?qc13 ?qk13 ?qa14 ?ql14 ?qc14 ?qk14 ?qa15 ?ql15 ?qc15 ?qk15 ?qz0 ?qz1 ?qz2 ?qz3 ?qz4 ?qz5 ?qz6
      (case qa0 => k_is)
      (case ql0 => k_is)
      (case qc0 => k_is)
      (case qk0 => k_is)
      (case qa1 => k_is)
      (case ql1 => k_is)
      (case qc1 => k_is)
      (case qk1 => k_is)
      (case qa2 => k_is)
      (case ql2 => k_is)
      (case qc2 => k_is)
      (case qk2 => k_is)
      (case qa3 => k_is)
      (case ql3 => k_is)
      (case qc3 => k_is)
      (case qk3 => k_is)
      (case qa4 => k_is)
      (case ql4 => k_is)
      (case qc4 => k_is)
      (case qk4 => k_is)
      (case qa5 => k_is)
      (case ql5 => k_is)
      (case qc5 => k_is)
      (case qk5 => k_is)
      (case qa6 => k_is)
      (case ql6 => k_is)
      (case qc6 => k_is)
      (case qk6 => k_is)
      (case qa7 => k_is)
      (case ql7 => k_is)
      (case qc7 => k_is)
      (case qk7 => k_is)
      (case qa8 => k_is)
      (case ql8 => k_is)
      (case qc8 => k_is)
      (case qk8 => k_is)
      (case qa9 => k_is)
      (case ql9 => k_is)
      (case qc9 => k_is)
      (case qk9 => k_is)
      (case qa10 => k_is)
      (case ql10 => k_is)
      (case qc10 => k_is)
      (case qk10 => k_is)
      (case qa11 => k_is)
      (case ql11 => k_is)
      (case qc11 => k_is)
      (case qk11 => k_is)
      (case qa12 => k_is)
      (case ql12 => k_is)
      (case qc12 => k_is)
      (case qk12 => k_is)
      (case qa13 => k_is)
      (case ql13 => k_is)
      (case qc13 => k_is)
      (case qk13 => k_is)
      (case qa14 => k_is)
      (case ql14 => k_is)
      (case qc14 => k_is)
      (case qk14 => k_is)
      (case qa15 => k_is)
      (case ql15 => k_is)
      (case qc15 => k_is)
      (case qk15 => k_is)
      (case qz0 => k_is)
      (case qz1 => k_is)
      (case qz2 => k_is)
      (case qz3 => k_is)
      (case qz4 => k_is)
      (case qz5 => k_is)
      (case qz6 => k_is)
    obtain ⟨t, T⟩ := T
    have e0 := hmg.symm.trans T.m_law
    cases e0
    exact ⟨_, T.w_law, fun base _ _ => K25.ok_law T⟩
  case S => exact fun K H a ns hl _ hS => ⟨a, ns, rfl, hS, hl, fun _ => rfl⟩
  case C => exact fun _ _ _ _ z => z
