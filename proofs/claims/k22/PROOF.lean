import PyProof.Rows.All
import Wide.All
import OpenK.AllK
import Wide.FinOn
import Lean
import PyProof.EqAt
import PyProof.EqKinds
import PyProof.TupleCall
import PySem.Challenge.RW_forerun_k22_broken_off
import KE.KDictList
import KE.KDictOf
import KE.KEqDict
import KE.KIntText
import KE.KItemsList
import KE.KRevIter
import KE.KSortAsk
import KE.KSortTup
import KE.KTryMore
import PyProof.AttrMissHeap
import PyProof.Conv_int_bool
import PyProof.DictItems
import PyProof.DictKinds
import PyProof.DictWalks
import PyProof.EqKinds
import PyProof.MeetsStr
import PyProof.NsDelKeeps
import PyProof.Rows.EqDataRows
import PyProof.Rows.Range3
import PyProof.StrLaws
import PyProof.StrOps
import PyProof.StrOps2
import PyProof.TupleIter
import PyProof.TupleKey
import PyProof.ZipIter
set_option Elab.async false
set_option linter.all false
set_option maxRecDepth 100000
/-! THE HAND LAYER, for ints, bools, texts, own classes, LISTS and tuples (index, slices, in, append, pop ..), calls, loops. Paste it whole ahead of your own text; what your proof does not reach may be deleted. -/
namespace L2
open PySem PySem.Spec PyProof.Rows

/-- a key: an int or a str -/
abbrev Key := Sum Int Str
def keyIs : Key → Value → Bool
  | .inl k, v => Value.isInt k v
  | .inr x, v => Value.isStrOf x v
def keyH (w : World) : Key → Int
  | .inl k => hashInt k
  | .inr x => hashStr w x
theorem keyIs_shape : ∀ {k : Key} {v : Value}, keyIs k v = true → (∃ i t, k = Sum.inl i ∧ v = Value.int i t) ∨ (∃ x t, k = Sum.inr x ∧ v = Value.str x t)
  | .inl i, v, h => by
    obtain ⟨t, e⟩ := Value.isInt_shape (k := i) (v := v) h
    exact .inl ⟨i, t, rfl, e⟩
  | .inr x, v, h => by
    obtain ⟨t, e⟩ := Value.isStrOf_shape (x := x) (v := v) h
    exact .inr ⟨x, t, rfl, e⟩
theorem keyIs_int (i : Int) (t : Tok) : keyIs (.inl i) (.int i t) = true := by simp [keyIs, Value.isInt]
theorem keyIs_str (x : Str) (t : Tok) : keyIs (.inr x) (.str x t) = true := by simp [keyIs, Value.isStrOf]
theorem key_ll (a b : Int) : decide ((Sum.inl a : Key) = Sum.inl b) = (a == b) := by
  by_cases e : a = b
  · subst e; simp
  · have h : ¬ (Sum.inl a : Key) = Sum.inl b := fun q => e (Sum.inl.inj q)
    rw [decide_eq_false h]
    exact (beq_eq_false_iff_ne.mpr e).symm
theorem key_rr (a b : Str) : decide ((Sum.inr a : Key) = Sum.inr b) = decide (a = b) := by
  by_cases e : a = b
  · subst e; simp
  · have h : ¬ (Sum.inr a : Key) = Sum.inr b := fun q => e (Sum.inr.inj q)
    rw [decide_eq_false h, decide_eq_false e]
theorem key_lr (a : Int) (b : Str) : decide ((Sum.inl a : Key) = Sum.inr b) = false := decide_eq_false (fun q => nomatch q)
theorem key_rl (a : Str) (b : Int) : decide ((Sum.inr a : Key) = Sum.inl b) = false := decide_eq_false (fun q => nomatch q)

def mixKind (prog : Program) (w : World) : PySem.KeyKind prog w Key where
  is := keyIs
  hash := keyH w
  inj := fun v a b ha hb => by
    rcases keyIs_shape ha with ⟨i, t, rfl, rfl⟩ | ⟨x, t, rfl, rfl⟩
    · rcases keyIs_shape hb with ⟨j, u, rfl, e⟩ | ⟨y, u, rfl, e⟩
      · injection e with e1 _; rw [e1]
      · exact nomatch e
    · rcases keyIs_shape hb with ⟨j, u, rfl, e⟩ | ⟨y, u, rfl, e⟩
      · exact nomatch e
      · injection e with e1 _; rw [e1]
  byValue := fun k v h => by
    rcases keyIs_shape h with ⟨i, t, rfl, rfl⟩ | ⟨x, t, rfl, rfl⟩ <;> rfl
  pyHash := fun hv h => by
    rcases keyIs_shape hv with ⟨i, t, rfl, rfl⟩ | ⟨x, t, rfl, rfl⟩
    · exact wpAny_pyHash_int h
    · exact wpAny_pyHash_str h
  eqBool := fun hu hv h => by
    rcases keyIs_shape hu with ⟨i, t, rfl, rfl⟩ | ⟨x, t, rfl, rfl⟩
    · rcases keyIs_shape hv with ⟨j, u, rfl, rfl⟩ | ⟨y, u, rfl, rfl⟩
      · rw [key_ll] at h; exact wpAny_eqBool_int h
      · rw [key_lr] at h; exact SeqAt.EqAt.int_str i t y u _ _ _ _ h
    · rcases keyIs_shape hv with ⟨j, u, rfl, rfl⟩ | ⟨y, u, rfl, rfl⟩
      · rw [key_rl] at h; exact SeqAt.EqAt.str_int x t j u _ _ _ _ h
      · rw [key_rr] at h; exact wpAny_eqBool_str h
  «strs» := fun k x t v h => by
    rcases keyIs_shape h with ⟨i, u, rfl, e⟩ | ⟨y, u, rfl, e⟩
    · exact nomatch e
    · injection e with e1 _
      subst e1
      cases v <;> rfl

theorem mixKind_is (prog : Program) (w : World) (k : Key) (v : Value) : (mixKind prog w).is k v = keyIs k v := rfl
theorem mixKind_int (prog : Program) (w : World) (i : Int) (t : Tok) : (mixKind prog w).is (.inl i) (.int i t) = true := keyIs_int i t
theorem mixKind_str (prog : Program) (w : World) (x : Str) (t : Tok) : (mixKind prog w).is (.inr x) (.str x t) = true := keyIs_str x t
end L2

namespace L2
open PySem PySem.Spec PyProof.Rows

/-- a value, without the heap -/
inductive V where
  | non | bl (b : Bool) | int (i : Int) | str (x : Str) | byt (b : Array UInt8) | flt (b : UInt64) | ref (a : Addr) | ty (n : String)
  deriving DecidableEq

def RelV : V → Value → Prop
  | .non, u => u = Value.none
  | .bl b, u => u = Value.bool b
  | .int i, u => ∃ t, u = Value.int i t
  | .str x, u => ∃ t, u = Value.str x t
  | .byt b, u => ∃ t, u = Value.bytes b t
  | .flt b, u => ∃ t, u = Value.float b t
  | .ref a, u => u = Value.ref a
  | .ty n, u => u = Value.type n

abbrev Vals : List V → List Value → Prop := Paired RelV
theorem Vals.length {xs : List V} {us : List Value} (r : Vals xs us) : xs.length = us.length := Paired.length r
theorem Vals.get : ∀ {xs : List V} {us : List Value} {i : Nat} {x : V}, Vals xs us → xs[i]? = some x → ∃ u, us[i]? = some u ∧ RelV x u
  | _, _, _, _, .nil, e => by simp at e
  | _, _, 0, _, .cons r _, e => by simp at e; subst e; exact ⟨_, rfl, r⟩
  | _, _, i + 1, x, .cons _ t, e => by
    obtain ⟨u, h1, h2⟩ := Vals.get (i := i) (x := x) t (by simpa using e)
    exact ⟨u, by simpa using h1, h2⟩
theorem Vals.append : ∀ {xs ys : List V} {us ws : List Value}, Vals xs us → Vals ys ws → Vals (xs ++ ys) (us ++ ws)
  | _, _, _, _, .nil, s => s
  | _, _, _, _, .cons r t, s => .cons r (Vals.append t s)
theorem Vals.take : ∀ {xs : List V} {us : List Value} (n : Nat), Vals xs us → Vals (xs.take n) (us.take n)
  | _, _, 0, _ => .nil
  | _, _, _ + 1, .nil => .nil
  | _, _, n + 1, .cons r t => .cons r (Vals.take n t)
theorem Vals.drop : ∀ {xs : List V} {us : List Value} (n : Nat), Vals xs us → Vals (xs.drop n) (us.drop n)
  | _, _, 0, r => r
  | _, _, _ + 1, .nil => .nil
  | _, _, n + 1, .cons _ t => Vals.drop n t
def RelO : Option V → Option Value → Prop
  | some v, some u => RelV v u
  | none, none => True
  | _, _ => False
def KV {κ : Type} : List (κ × V) → List (κ × Value) → Prop := Paired fun (p : κ × V) (q : κ × Value) => p.1 = q.1 ∧ RelV p.2 q.2

/-- a key of a dict (00_mix): an int or a text -/
def kV : Key → V
  | .inl i => .int i
  | .inr x => .str x

/-- what stands at a tracked address -/
inductive HO where
  /-- a list -/
  | lst (xs : List V)
  /-- a tuple (never changes) -/
  | tup (xs : List V)
  /-- a dict whose keys are ints and texts; one whose keys are tuples of ints and texts (the empty one is both) -/
  | dK (kvs : List (Key × V)) | dT (kvs : List (List Key × V))
  /-- a set of ints: its members, its size -/
  | set (S : Int → Bool) (n : Nat)
  /-- an instance of the class at C, its dict at dx, its attributes -/
  | ins (C dx : Addr) (fs : List (Str × V))
  /-- the dict of the instance at x -/
  | own (x : Addr)
  /-- the dict of an exception -/
  | xd (fs : List (Str × V))
  /-- a bound method, f of x -/
  | met (f x : Addr)
  /-- a range object lo, lo + 1, .. below hi -/
  | rng (lo hi : Int)
  /-- a thing that is known to the object (the script; a dict while a loop walks it): read, never written while it is so -/
  | frz (o : Obj) (u : HO)
  /-- a code object's table -/
  | tbl (ps : Array Value)
  /-- any other thing, by what is true of its one object (a def of one's own: SetO a S n := HO.ext fun h => ..) -/
  | ext (φ : Heap → Prop)

abbrev Hp := Addr → Option HO
def upd (H : Hp) (a : Addr) (o : HO) : Hp := fun b => if b = a then some o else H b
theorem upd_same {H : Hp} {a : Addr} {o : HO} : upd H a o a = some o := by unfold upd; rw [if_pos rfl]
theorem upd_ne {H : Hp} {a b : Addr} {o : HO} (h : b ≠ a) : upd H a o b = H b := by unfold upd; rw [if_neg h]
theorem upd_upd {H : Hp} {a : Addr} {o u : HO} : upd (upd H a o) a u = upd H a u := by
  funext b; unfold upd; split <;> rfl
/-- two objects of different content stand apart -/
theorem ne_of {H : Hp} {a b : Addr} {o u : HO} (h : H a = some o) (h' : H b = some u) (d : o ≠ u) : a ≠ b := by
  intro e; subst e; rw [h] at h'; exact d (Option.some.inj h')
theorem ne_of_none {H : Hp} {a b : Addr} {o : HO} (h : H a = some o) (h' : H b = none) : a ≠ b := by
  intro e; subst e; rw [h] at h'; cases h'

section
variable (P : Program) (w : World)
def ObjOk (H : Hp) (h : Heap) (a : Addr) : HO → Prop
  | .lst xs => xs.length ≤ sizeLine ∧ ∃ (its : List Value) (n : Nat), Vals xs its ∧ h.get? a = some { cls := .type "list", data := .seq its.toArray n }
  | .tup xs => xs.length ≤ sizeLine ∧ ∃ its : List Value, Vals xs its ∧ IsTup h a its.toArray
  | .dK kvs => kvs.length ≤ sizeLine ∧ (a == sysModules) = false ∧ ∃ vs, KV kvs vs ∧ h.DictOf (mixKind P w) a vs
  | .dT kvs => kvs.length ≤ sizeLine ∧ (a == sysModules) = false ∧ ∃ xs : List (List Key × Addr × Value),
      Paired (fun (p : List Key × V) (q : List Key × Addr × Value) => p.1 = q.1 ∧ H q.2.1 = some (.tup (p.1.map kV)) ∧ RelV p.2 q.2.2) kvs xs ∧
      ∃ o es ep, h.get? a = some o ∧ o.ExactDict ∧ o.data = .dict es ep ∧ es.toList = xs.map (entryOfKey (tupleKind (mixKind P w))) ∧ (xs.map (·.1)).Nodup
  | .set S n => h.SetOf (intKind P w) a S n
  | .ins C dx fs => H dx = some (.own a) ∧ fs.length ≤ 1000 ∧ dx ≠ a ∧ h.get? a = some (PySem.W.instObj C dx) ∧
      ∃ mA, h.Ns1 dx mA ∧ (∀ f, RelO (fs.lookup f) (mA f)) ∧ PySem.Within mA (fs.map (·.1))
  | .own _ => ∃ o, h.get? a = some o
  | .xd fs => ∃ mA, h.Ns1 a mA ∧ ∀ f, RelO (fs.lookup f) (mA f)
  | .rng lo hi => ∃ t u v, h.get? a = some { cls := .type "range", data := .fields #[.int lo t, .int hi u, .int 1 v] }
  | .frz o u => h.get? a = some o ∧ ObjOk H h a u
  | .tbl ps => h.get? a = some { cls := .none, data := .fields ps }
  | .met f x => h.get? a = some (PySem.W.methodObj (.ref f) (.ref x))
  | .ext φ => φ h ∧ (∃ o, h.get? a = some o) ∧ ∀ h1 h2 : Heap, φ h1 → (∀ o, h1.get? a = some o → h2.get? a = some o) → φ h2
/-- the abstract heap is held -/
def HOk (H : Hp) (h : Heap) : Prop := ∀ a o, H a = some o → ObjOk P w H h a o
end

section
variable {P : Program} {w : World} {H H' : Hp} {h h' : Heap} {a : Addr} {o : HO}
theorem ObjOk.lt (x : ObjOk P w H h a o) : a < h.objs.size := by
  cases o with
  | lst xs => obtain ⟨_, _, _, _, e⟩ := x; exact Heap.lt_size e
  | tup xs => obtain ⟨_, _, _, p⟩ := x; exact p.lt
  | dK kvs => obtain ⟨_, _, _, _, o, _, _, e, _⟩ := x; exact Heap.lt_size e
  | dT kvs => obtain ⟨_, _, _, _, o, _, _, e, _⟩ := x; exact Heap.lt_size e
  | set S n => obtain ⟨o, _, _, _, e, _⟩ := x; exact Heap.lt_size e
  | ins C dx fs => obtain ⟨_, _, _, e, _⟩ := x; exact Heap.lt_size e
  | own y => obtain ⟨_, e⟩ := x; exact Heap.lt_size e
  | xd fs => obtain ⟨_, ⟨_, _, _, e, _⟩, _⟩ := x; exact Heap.lt_size e
  | rng lo hi => obtain ⟨_, _, _, e⟩ := x; exact Heap.lt_size e
  | frz ob u => obtain ⟨e, _⟩ := x; exact Heap.lt_size e
  | tbl ps => exact Heap.lt_size (show h.get? a = some _ from x)
  | met f y => exact Heap.lt_size (show h.get? a = some _ from x)
  | ext φ => obtain ⟨_, ⟨_, e⟩, _⟩ := x; exact Heap.lt_size e
theorem Paired.mapP {α β : Type} {F G : α → β → Prop} : ∀ {l₁ : List α} {l₂ : List β}, Paired F l₁ l₂ → (∀ a b, F a b → G a b) → Paired G l₁ l₂
  | _, _, .nil, _ => .nil
  | _, _, .cons r t, f => .cons (f _ _ r) (Paired.mapP t f)
/-- what an object's description leans on: its own object, its own dict, the tuples -/
theorem ObjOk.stay (x : ObjOk P w H h a o) (k : ∀ b u, (b = a ∨ H b = some (.own a)) → h.get? b = some u → h'.get? b = some u)
    (ho : ∀ b, H b = some (.own a) → H' b = some (.own a)) (ht : ∀ b xs, H b = some (.tup xs) → H' b = some (.tup xs)) : ObjOk P w H' h' a o := by
  induction o with
  | lst xs => obtain ⟨z, its, n, r, e⟩ := x; exact ⟨z, its, n, r, k _ _ (.inl rfl) e⟩
  | tup xs => obtain ⟨z, its, r, ob, e, c⟩ := x; exact ⟨z, its, r, ob, k _ _ (.inl rfl) e, c⟩
  | dK kvs => obtain ⟨z, y, vs, r, ob, es, ep, e, c⟩ := x; exact ⟨z, y, vs, r, ob, es, ep, k _ _ (.inl rfl) e, c⟩
  | dT kvs =>
    obtain ⟨z, y, xs, r, ob, es, ep, e, c⟩ := x
    exact ⟨z, y, xs, Paired.mapP r fun p q z => ⟨z.1, ht _ _ z.2.1, z.2.2⟩, ob, es, ep, k _ _ (.inl rfl) e, c⟩
  | set S n => obtain ⟨ob, es, ep, t, e, c⟩ := x; exact ⟨ob, es, ep, t, k _ _ (.inl rfl) e, c⟩
  | ins C dx fs =>
    obtain ⟨d, z, ne, e, mA, ⟨od, es, ep, e2, c⟩, r⟩ := x
    exact ⟨ho _ d, z, ne, k _ _ (.inl rfl) e, mA, ⟨od, es, ep, k _ _ (.inr d) e2, c⟩, r⟩
  | own y => obtain ⟨ob, e⟩ := x; exact ⟨ob, k _ _ (.inl rfl) e⟩
  | xd fs => obtain ⟨mA, ⟨od, es, ep, e, c⟩, r⟩ := x; exact ⟨mA, ⟨od, es, ep, k _ _ (.inl rfl) e, c⟩, r⟩
  | rng lo hi => obtain ⟨t, u, v, e⟩ := x; exact ⟨t, u, v, k _ _ (.inl rfl) e⟩
  | frz ob u ih => obtain ⟨e, q⟩ := x; exact ⟨k _ _ (.inl rfl) e, ih q⟩
  | tbl ps =>
    have e : h.get? a = some { cls := .none, data := .fields ps } := x
    show h'.get? a = some { cls := .none, data := .fields ps }
    exact k a _ (.inl rfl) e
  | met f y =>
    have e : h.get? a = some (PySem.W.methodObj (.ref f) (.ref y)) := x
    show h'.get? a = some (PySem.W.methodObj (.ref f) (.ref y))
    exact k a _ (.inl rfl) e
  | ext φ => obtain ⟨p, ⟨o, e⟩, st⟩ := x; exact ⟨st _ _ p fun o q => k _ _ (.inl rfl) q, ⟨o, k _ _ (.inl rfl) e⟩, st⟩
theorem HOk.lt (x : HOk P w H h) (e : H a = some o) : a < h.objs.size := (x a o e).lt
theorem HOk.fresh (x : HOk P w H h) (e : h.objs.size ≤ a) : H a = none := by
  cases q : H a with
  | none => rfl
  | some u => exact absurd (Nat.lt_of_lt_of_le (x.lt q) e) (Nat.lt_irrefl _)
/-- every object of the heap is kept -/
theorem HOk.kept (x : HOk P w H h) (k : ∀ b u, h.get? b = some u → h'.get? b = some u) : HOk P w H h' := fun a o e =>
  (x a o e).stay (fun b u _ q => k b u q) (fun _ q => q) fun _ _ q => q
/-- a new object is laid and tracked -/
theorem HOk.laid (x : HOk P w H h) (k : ∀ b u, h.get? b = some u → h'.get? b = some u) (hp : h.objs.size ≤ a) (new : ObjOk P w (upd H a o) h' a o) : HOk P w (upd H a o) h' := fun b u e => by
  have hn := x.fresh hp
  by_cases hb : b = a
  · subst hb; rw [upd_same] at e; cases e; exact new
  · rw [upd_ne hb] at e
    exact (x b u e).stay (fun c v _ q => k c v q) (fun c q => by rw [upd_ne (ne_of_none q hn)]; exact q) fun c xs q => by rw [upd_ne (ne_of_none q hn)]; exact q
end

/-- what may be read as u: it is u, or a known u -/
def Rd (H : Hp) (a : Addr) (u : HO) : Prop := H a = some u ∨ ∃ o, H a = some (.frz o u)
theorem Rd.ok {P : Program} {w : World} {H : Hp} {h : Heap} {a : Addr} {u : HO} (r : Rd H a u) (x : HOk P w H h) : ObjOk P w H h a u := by
  rcases r with r | ⟨o, r⟩
  · exact x a u r
  · obtain ⟨_, q⟩ := x a _ r
    exact q
/-- what may be written -/
def Mut : Option HO → Prop
  | some (.lst _) => True
  | some (.dK _) => True
  | some (.dT _) => True
  | some (.set _ _) => True
  | some (.ins _ _ _) => True
  | some (.ext _) => True
  | _ => False
section
variable {P : Program} {w : World} {H : Hp} {h h' : Heap} {x e : Addr} {o' : HO}
/-- the object at e is changed: x itself, or the dict of the instance x -/
theorem HOk.write (ok : HOk P w H h) (mu : Mut (H x)) (he : e = x ∨ H e = some (.own x)) (k : ∀ b u, b ≠ e → h.get? b = some u → h'.get? b = some u) (heo : ∃ u, h'.get? e = some u)
    (new : ObjOk P w (upd H x o') h' x o') : HOk P w (upd H x o') h' := fun b u q => by
  have nown : ∀ c y, H c = some (.own y) → c ≠ x := fun c y r z => by subst z; rw [r] at mu; exact mu
  have ntup : ∀ c xs, H c = some (.tup xs) → c ≠ x := fun c xs r z => by subst z; rw [r] at mu; exact mu
  by_cases hb : b = x
  · subst hb; rw [upd_same] at q; cases q; exact new
  · rw [upd_ne hb] at q
    by_cases hbe : b = e
    · have q' : H b = some (.own x) := by
        rcases he with z | z
        · exact absurd (hbe.trans z) hb
        · rw [hbe]; exact z
      rw [q] at q'; cases q'
      obtain ⟨v, hv⟩ := heo
      exact ⟨v, by rw [hbe]; exact hv⟩
    · refine (ok b u q).stay (fun c v hc r => k c v ?_ r) (fun c r => by rw [upd_ne (nown c b r)]; exact r) fun c xs r => by rw [upd_ne (ntup c xs r)]; exact r
      rcases hc with rfl | hc
      · exact hbe
      · rintro rfl
        rcases he with z | z
        · exact nown c b hc z
        · rw [hc] at z; cases z; exact hb rfl
end

/-! ### kept unless tracked; of the frames at fs (the callers') the slots may change (an exception that passes writes there); of the records at ex (iterators) nothing is said -/
structure Un (fs ex : List Addr) (H H' : Hp) (h h' : Heap) : Prop where
  keep : ∀ b o, h.get? b = some o → H b = none → b ∉ fs → b ∉ ex → h'.get? b = some o
  slot : ∀ b o, h.get? b = some o → H b = none → b ∈ fs → b ∉ ex → ∃ sl, h'.get? b = some { o with slots := sl }
  free : ∀ b o, h.get? b = some o → H b = none → b ∉ ex → H' b = none
  there : ∀ b o, h.get? b = some o → b ∉ ex → ∃ o', h'.get? b = some o'
  tups : ∀ b xs, H b = some (.tup xs) → H' b = some (.tup xs)
  frzs : ∀ b o u, H b = some (.frz o u) → H' b = some (.frz o u)
  tbls : ∀ b ps, H b = some (.tbl ps) → ∃ more, H' b = some (.tbl (ps ++ more))
section
variable {fs fs' ex ex' : List Addr} {H H1 H2 : Hp} {h h1 h2 h' : Heap} {a x e : Addr} {o : HO}
theorem Un.any (u : Un fs ex H H1 h h1) {b : Addr} {ob : Obj} (q : h.get? b = some ob) (n : H b = none) (hx : b ∉ ex) : ∃ sl, h1.get? b = some { ob with slots := sl } := by
  by_cases hb : b ∈ fs
  · exact u.slot b ob q n hb hx
  · exact ⟨ob.slots, u.keep b ob q n hb hx⟩
theorem Un.kept (k : ∀ b u, h.get? b = some u → h'.get? b = some u) : Un fs ex H H h h' :=
  ⟨fun b ob q _ _ _ => k b ob q, fun b ob q _ _ _ => ⟨ob.slots, k b ob q⟩, fun _ _ _ n _ => n, fun b ob q _ => ⟨ob, k b ob q⟩, fun _ _ q => q, fun _ _ _ q => q, fun _ ps q => ⟨#[], by rw [q]; simp⟩⟩
theorem Un.refl : Un fs ex H H h h := Un.kept fun _ _ q => q
theorem Un.laid (k : ∀ b u, h.get? b = some u → h'.get? b = some u) (hp : h.objs.size ≤ a) (hn : H a = none) : Un fs ex H (upd H a o) h h' where
  keep := fun b u q _ _ _ => k b u q
  slot := fun b u q _ _ _ => ⟨u.slots, k b u q⟩
  free := fun b u q n _ => by rw [upd_ne (Nat.ne_of_lt (Nat.lt_of_lt_of_le (Heap.lt_size q) hp))]; exact n
  there := fun b u q _ => ⟨u, k b u q⟩
  tups := fun b xs q => by rw [upd_ne (ne_of_none q hn)]; exact q
  frzs := fun b u xs q => by rw [upd_ne (ne_of_none q hn)]; exact q
  tbls := fun b ps q => ⟨#[], by rw [upd_ne (ne_of_none q hn), q]; simp⟩
theorem Un.write (mu : Mut (H x)) (he : e = x ∨ H e = some (.own x)) (k : ∀ b u, b ≠ e → h.get? b = some u → h'.get? b = some u) (heo : ∃ u, h'.get? e = some u) : Un fs ex H (upd H x o) h h' := by
  have hx : ∀ b, H b = none → b ≠ x := fun b n z => by subst z; rw [n] at mu; exact mu
  have hb : ∀ b, H b = none → b ≠ e := fun b n z => by
    subst z
    rcases he with r | r
    · exact hx b n r
    · rw [n] at r; cases r
  have hm : ∀ b u, H b = some u → ¬ Mut (some u) → b ≠ x := fun b u q nm z => by subst z; rw [q] at mu; exact nm mu
  refine ⟨fun b u q n _ _ => k b u (hb b n) q, fun b u q n _ _ => ⟨u.slots, k b u (hb b n) q⟩, fun b u q n _ => by rw [upd_ne (hx b n)]; exact n, fun b u q _ => ?_,
    fun b xs q => by rw [upd_ne (hm b _ q fun z => z)]; exact q, fun b u xs q => by rw [upd_ne (hm b _ q fun z => z)]; exact q, fun b ps q => ⟨#[], by rw [upd_ne (hm b _ q fun z => z), q]; simp⟩⟩
  by_cases hbe : b = e
  · subst hbe; exact heo
  · exact ⟨u, k b u hbe q⟩
end

/-! ### the heap without what is tracked -/
def trk (h : Heap) (H : Hp) : List Addr := (List.range h.objs.size).filter fun a => (H a).isSome
def hidT (h : Heap) (H : Hp) : Heap := PySem.W.hideAll h (trk h H)
theorem hidT_size (h : Heap) (H : Hp) : (hidT h H).objs.size = h.objs.size := PySem.W.hideAll_size _ _
theorem hidT_get {h : Heap} {H : Hp} {b : Addr} {o : Obj} (e : h.get? b = some o) (n : H b = none) : (hidT h H).get? b = some o :=
  PySem.W.hideAll_get _ e fun hm => by
    have q : (H b).isSome = true := (List.mem_filter.mp hm).2
    rw [n] at q; simp at q
theorem of_hidT {h : Heap} {H : Hp} {b : Addr} {o : Obj} (e : (hidT h H).get? b = some o) : h.get? b = some o ∧ H b = none := by
  have e' : h.get? b = some o := PySem.W.of_hideAll (trk h H) e
  refine ⟨e', ?_⟩
  cases q : H b with
  | none => rfl
  | some x =>
    have hm : b ∈ trk h H := List.mem_filter.mpr ⟨List.mem_range.mpr (Heap.lt_size e'), by simp [q]⟩
    have z : (hidT h H).get? b = none := PySem.W.hideAll_none (trk h H) hm
    rw [z] at e; cases e

/-! ### OpenK's ledger, filled with every new object but one -/
def allNews (g h : Heap) (L : Addr) : List (Addr × Obj) := (List.range h.objs.size).filterMap fun a => if a = L ∨ (g.get? a).isSome = true then none else (h.get? a).map fun o => (a, o)
def rest (g h : Heap) (L d : Addr) : List (Addr × Obj) := (allNews g h L).filter fun p => decide (p.1 ≠ d)
end L2

namespace L2
open PySem PySem.Spec PyProof.Rows

/-- the module's facts, over the base: the heap at the law's entry without what is tracked there -/
structure Mod (K : PySem.W.Frag) (mg : Str → Option Value) (base : Heap) : Prop where
  kin : K.In base
  glob : base.Ns mainGlobals mg
  blt : ∃ mb, base.Ns builtinsNs mb ∧ ∀ x : Str, x ≠ "__name__" → mb x = bootBuiltins x
  nolimit : base.NoLimit

set_option genSizeOf false in
set_option genInjectivity false in
structure Cx where
  prog : Program
  w : World
  K : PySem.W.Frag
  mg : Str → Option Value
  base : Heap
  A : Around
  N : List Str
  s₀ : Shared
  H₀ : Hp
  env : Env
  outer : List Env
  stack : List Env
  ex : List Addr
  fn : Str → Bool
  calm : Bool
  pn : List (Addr × Obj)
  xe : Value → Shared → Prop
/-- the callers' frames -/
def frs (l : List Env) : List Addr := l.filterMap (·.frame)
abbrev Cx.fs (X : Cx) : List Addr := frs X.outer

def Vis (sc : Scope) (x : Str) : Prop := sc.names.lookup x = some .local ∨ sc.names.lookup x = some .cell ∨ sc.names.lookup x = some .free
def Loc (sc : Scope) (x : Str) : Prop := sc.names.lookup x = some .local ∨ sc.names.lookup x = some .cell
def Look (env : Env) (h : Heap) (m : Str → Option Value) (x : Str) (u : Value) : Prop :=
  (env.kindOf x = some .local ∧ m x = some u) ∨ ((env.kindOf x = some .cell ∨ env.kindOf x = some .free) ∧ ∃ c, env.cells.lookup x = some c ∧ h.IsCell c (some u))

structure Cx.Ok (X : Cx) : Prop where
  mod : Mod X.K X.mg X.base
  kind : X.env.scope.kind = .function
  glob : X.env.globals = mainGlobals
  blt : X.env.builtins = builtinsNs
  above : X.s₀.heap.objs.size ≤ X.env.locals
  inj : ∀ x y c, X.env.cells.lookup x = some c → X.env.cells.lookup y = some c → x = y
  has : ∀ x, (X.env.kindOf x = some .cell ∨ X.env.kindOf x = some .free) → ∃ c, X.env.cells.lookup x = some c
  cab : ∀ x c, X.fn x = true → X.env.cells.lookup x = some c → X.s₀.heap.objs.size ≤ c
  hd : X.calm = true → X.A.handled = none
  frames : X.A.frames = some X.stack
  stk : X.stack = X.outer ∨ (X.stack = X.env :: X.outer ∧ X.env.frame = some X.env.locals)
  exf : ∀ b ∈ X.ex, b ≠ X.env.locals ∧ ∀ x c, X.env.cells.lookup x = some c → c ≠ b
  bs : ∀ b o, X.base.get? b = some o → X.s₀.heap.get? b = some o ∧ X.H₀ b = none
  bsz : X.base.objs.size ≤ X.s₀.heap.objs.size
  noex : ∀ b o, X.base.get? b = some o → b ∉ X.ex
  exfs : ∀ b ∈ X.ex, b ∉ X.fs
  funs : X.s₀.heap.FunFrames X.base X.outer
  frf : ∀ b ∈ X.fs, X.H₀ b = none

structure Inv (X : Cx) (pins : List (Addr × Obj)) (σ : List (Option V)) (H : Hp) (s : Shared) : Prop where
  ok : X.Ok
  os : s.os = X.s₀.os
  bare : AllBare s.gens
  base : Un X.fs X.ex X.H₀ H X.s₀.heap s.heap
  loc : ∃ m, s.heap.Ns X.env.locals m ∧ ∀ (i : Nat) (x : Str) (v : V), X.N[i]? = some x → σ[i]? = some (some v) → Vis X.env.scope x → ∃ u, RelV v u ∧ Look X.env s.heap m x u
  cell : ∀ x c, X.env.cells.lookup x = some c → ∃ v, s.heap.IsCell c v
  free : H X.env.locals = none
  freeC : ∀ x c, X.env.cells.lookup x = some c → H c = none
  pin : ∀ p ∈ X.pn ++ pins, s.heap.get? p.1 = some p.2 ∧ H p.1 = none ∧ p.1 ≠ X.env.locals ∧ p.1 ∉ X.fs ∧ ∀ v, p.2.data ≠ .cell v
  hok : HOk X.prog X.w H s.heap
  len : σ.length = X.N.length

section
variable {X : Cx} {pins : List (Addr × Obj)} {σ : List (Option V)} {H H' : Hp} {s : Shared} {h' : Heap}

theorem Cx.Ok.nofr (ok : X.Ok) {b : Addr} {o : Obj} (e : X.base.get? b = some o) : b ∉ X.fs := fun hb => by
  have := (ok.funs.mem hb).1
  rw [e] at this; cases this
theorem Inv.bs (I : Inv X pins σ H s) : ∀ b o, X.base.get? b = some o → s.heap.get? b = some o ∧ H b = none := fun b o e =>
  ⟨I.base.keep b o (I.ok.bs b o e).1 (I.ok.bs b o e).2 (I.ok.nofr e) (I.ok.noex b o e), I.base.free b o (I.ok.bs b o e).1 (I.ok.bs b o e).2 (I.ok.noex b o e)⟩
theorem Inv.bk (I : Inv X pins σ H s) : ∀ b o, X.base.get? b = some o → s.heap.get? b = some o := fun b o e => (I.bs b o e).1
theorem Inv.mod (I : Inv X pins σ H s) : Mod X.K X.mg X.base := I.ok.mod
theorem Inv.kIn (I : Inv X pins σ H s) : X.K.In s.heap := I.ok.mod.kin.keeps I.bk
theorem Inv.lt (I : Inv X pins σ H s) : X.env.locals < s.heap.objs.size := let ⟨_, hn, _⟩ := I.loc; hn.lt
theorem Inv.sz (I : Inv X pins σ H s) : X.s₀.heap.objs.size ≤ s.heap.objs.size := Nat.le_trans I.ok.above (Nat.le_of_lt I.lt)
theorem Inv.nofs (I : Inv X pins σ H s) {a : Addr} (h : s.heap.objs.size ≤ a) : a ∉ X.fs := fun hb => by
  obtain ⟨_, o, ho, _⟩ := I.ok.funs.mem hb
  exact absurd (Nat.lt_of_lt_of_le (Heap.lt_size ho) (Nat.le_trans I.sz h)) (Nat.lt_irrefl _)
theorem Inv.cne (I : Inv X pins σ H s) : ∀ x c, X.env.cells.lookup x = some c → c ≠ X.env.locals := fun x c e z => by
  obtain ⟨v, o, ho, hd⟩ := I.cell x c e
  obtain ⟨m, ⟨o', es, ep, ho', hd', _⟩, _⟩ := I.loc
  rw [z, ho'] at ho; cases ho; rw [hd'] at hd; cases hd
theorem Inv.funs (I : Inv X pins σ H s) : s.heap.FunFrames X.base X.outer := by
  have all : ∀ (l : List Env), (∀ b ∈ frs l, b ∈ X.fs) → X.s₀.heap.FunFrames X.base l → s.heap.FunFrames X.base l := by
    intro l
    induction l with
    | nil => intro _ _; trivial
    | cons env r ih =>
      intro hs hl
      obtain ⟨hk, ⟨L, o, hf, hn, ho, hd⟩, hr⟩ := hl
      have hL : L ∈ X.fs := hs L (by unfold frs; rw [List.filterMap_cons, hf]; exact List.mem_cons_self)
      obtain ⟨sl, e⟩ := I.base.slot L o ho (I.ok.frf L hL) hL fun z => I.ok.exfs L z hL
      exact ⟨hk, ⟨L, _, hf, hn, e, hd⟩, ih (fun b hb => hs b (by unfold frs; rw [List.filterMap_cons, hf]; exact List.mem_cons_of_mem _ hb)) hr⟩
  exact all X.outer (fun _ hb => hb) I.ok.funs

/-- the frames that run, for a call -/
theorem Inv.stack (I : Inv X pins σ H s) : s.heap.FunFrames X.base X.stack := by
  rcases I.ok.stk with e | ⟨e, hf⟩
  · rw [e]; exact I.funs
  · rw [e]
    obtain ⟨m, hn, _⟩ := I.loc
    refine .cons (by rw [I.ok.kind]; decide) hf hn ?_ I.funs
    exact Heap.get?_none_of_le (Nat.le_trans I.ok.bsz I.ok.above)
theorem Inv.stkSub (I : Inv X pins σ H s) : ∀ b ∈ frs X.stack, b ∈ X.env.locals :: X.fs := fun b hb => by
  rcases I.ok.stk with e | ⟨e, hf⟩
  · rw [e] at hb; exact List.mem_cons_of_mem _ hb
  · rw [e] at hb
    unfold frs at hb
    rw [List.filterMap_cons, hf] at hb
    exact hb
theorem Inv.stkFree (I : Inv X pins σ H s) : ∀ b ∈ frs X.stack, H b = none := fun b hb => by
  rcases List.mem_cons.mp (I.stkSub b hb) with e | hb
  · rw [e]; exact I.free
  · obtain ⟨_, o, ho, _⟩ := I.ok.funs.mem hb
    exact I.base.free b o ho (I.ok.frf b hb) fun z => I.ok.exfs b z hb

/-- THE STEP: the untracked objects but the frame and the records at ch are kept (the callers' frames up to slots), the frame's map is kept, the new abstract heap is held -/
theorem Inv.step {g' : Array GenState} {t' : Nat} {d' : Drawn} {ch : List Addr} (I : Inv X pins σ H s)
    (hch : ∀ b ∈ ch, (b ∈ X.ex ∨ X.s₀.heap.objs.size ≤ b) ∧ b ≠ X.env.locals ∧ (∀ x c, X.env.cells.lookup x = some c → c ≠ b) ∧ ∀ p ∈ X.pn ++ pins, p.1 ≠ b)
    (keep : ∀ b o, b ≠ X.env.locals → b ∉ X.fs → b ∉ ch → s.heap.get? b = some o → H b = none → h'.get? b = some o)
    (slot : ∀ b o, b ≠ X.env.locals → b ∈ X.fs → b ∉ ch → s.heap.get? b = some o → H b = none → ∃ sl, h'.get? b = some { o with slots := sl }) (free : ∀ b o, b ∉ ch → s.heap.get? b = some o → H b = none → H' b = none)
    (there : ∀ b o, b ∉ ch → s.heap.get? b = some o → ∃ o', h'.get? b = some o')
    (tups : ∀ b xs, H b = some (.tup xs) → H' b = some (.tup xs)) (frzs : ∀ b o u, H b = some (.frz o u) → H' b = some (.frz o u)) (tbls : ∀ b ps, H b = some (.tbl ps) → ∃ more, H' b = some (.tbl (ps ++ more)))
    (ns : ∀ m, s.heap.Ns X.env.locals m → h'.Ns X.env.locals m) (hok : HOk X.prog X.w H' h') (hg : AllBare g') :
    Inv X pins σ H' { s with heap := h', gens := g', drawn := d', toks := t' } := by
  have neL : ∀ b o, X.s₀.heap.get? b = some o → b ≠ X.env.locals := fun b o e => Nat.ne_of_lt (Nat.lt_of_lt_of_le (Heap.lt_size e) I.ok.above)
  have neC : ∀ b o, X.s₀.heap.get? b = some o → b ∉ X.ex → b ∉ ch := fun b o e hx hb => by
    rcases (hch b hb).1 with z | z
    · exact hx z
    · exact absurd (Nat.lt_of_lt_of_le (Heap.lt_size e) z) (Nat.lt_irrefl _)
  have cellK : ∀ x c, X.env.cells.lookup x = some c → ∀ v, s.heap.IsCell c v → h'.IsCell c v := fun x c e v ⟨o, ho, hd⟩ => by
    have nch : c ∉ ch := fun z => (hch c z).2.2.1 x c e rfl
    by_cases hc : c ∈ X.fs
    · obtain ⟨sl, q⟩ := slot c o (I.cne x c e) hc nch ho (I.freeC x c e)
      exact ⟨_, q, hd⟩
    · exact ⟨o, keep c o (I.cne x c e) hc nch ho (I.freeC x c e), hd⟩
  refine ⟨I.ok, I.os, hg, ⟨fun b o e n hb hx => ?_, fun b o e n hb hx => ?_, fun b o e n hx => ?_, fun b o e hx => ?_, fun b xs e => tups b xs (I.base.tups b xs e), fun b o xs e => frzs b o xs (I.base.frzs b o xs e), fun b ps e => ?_⟩, ?_, fun x c e => ?_, ?_, fun x c e => ?_, fun p hp => ?_, hok, I.len⟩
  · exact keep b o (neL b o e) hb (neC b o e hx) (I.base.keep b o e n hb hx) (I.base.free b o e n hx)
  · obtain ⟨sl, e1⟩ := I.base.slot b o e n hb hx
    obtain ⟨sl', e2⟩ := slot b _ (neL b o e) hb (neC b o e hx) e1 (I.base.free b o e n hx)
    exact ⟨sl', e2⟩
  · obtain ⟨o', e1⟩ := I.base.there b o e hx
    exact free b o' (neC b o e hx) e1 (I.base.free b o e n hx)
  · obtain ⟨o', e1⟩ := I.base.there b o e hx
    exact there b o' (neC b o e hx) e1
  · obtain ⟨m1, e1⟩ := I.base.tbls b ps e
    obtain ⟨m2, e2⟩ := tbls b _ e1
    exact ⟨m1 ++ m2, by rw [e2, Array.append_assoc]⟩
  · obtain ⟨m, hn, hl⟩ := I.loc
    refine ⟨m, ns m hn, fun i x v e1 e2 e3 => ?_⟩
    obtain ⟨u, r, l⟩ := hl i x v e1 e2 e3
    refine ⟨u, r, ?_⟩
    rcases l with l | ⟨k, c, e, z⟩
    · exact .inl l
    · exact .inr ⟨k, c, e, cellK x c e _ z⟩
  · obtain ⟨v, z⟩ := I.cell x c e
    exact ⟨v, cellK x c e v z⟩
  · obtain ⟨m, ⟨o, _, _, ho, _⟩, _⟩ := I.loc
    exact free _ o (fun z => (hch _ z).2.1 rfl) ho I.free
  · obtain ⟨v, o, ho, hd⟩ := I.cell x c e
    exact free c o (fun z => (hch c z).2.2.1 x c e rfl) ho (I.freeC x c e)
  · obtain ⟨e, n, ne, nf, d⟩ := I.pin p hp
    have nch : p.1 ∉ ch := fun z => (hch p.1 z).2.2.2 p hp rfl
    exact ⟨keep p.1 p.2 ne nf nch e n, free p.1 p.2 nch e n, ne, nf, d⟩
/-- .. where the frame's own object is kept too -/
theorem Inv.un {t' : Nat} (I : Inv X pins σ H s) (u : Un X.fs [] H H' s.heap h') (hok : HOk X.prog X.w H' h') : Inv X pins σ H' { s with heap := h', toks := t' } := by
  obtain ⟨m, ⟨o, es, ep, ho, r⟩, _⟩ := id I.loc
  obtain ⟨sl, hL⟩ := u.any ho I.free (by simp)
  exact I.step (g' := s.gens) (d' := s.drawn) (ch := []) (fun _ z => nomatch z) (fun b o _ hb _ e n => u.keep b o e n hb (by simp)) (fun b o _ hb _ e n => u.slot b o e n hb (by simp)) (fun b o _ e n => u.free b o e n (by simp)) (fun b o _ e => u.there b o e (by simp)) u.tups u.frzs u.tbls (fun m' hm => by
    obtain ⟨o', es', ep', ho', r'⟩ := hm
    rw [ho] at ho'; cases ho'
    exact ⟨_, es', ep', hL, r'⟩) hok I.bare
/-- behind a call (or a comprehension's block): the slots of this frame may have changed too, the records at ch may have turned -/
theorem Inv.call {g' : Array GenState} {t' : Nat} {d' : Drawn} {ch : List Addr} (I : Inv X pins σ H s) (u : Un (frs X.stack) ch H H' s.heap h') (hok : HOk X.prog X.w H' h') (hg : AllBare g')
    (hch : ∀ b ∈ ch, (b ∈ X.ex ∨ X.s₀.heap.objs.size ≤ b) ∧ b ≠ X.env.locals ∧ (∀ x c, X.env.cells.lookup x = some c → c ≠ b) ∧ ∀ p ∈ X.pn ++ pins, p.1 ≠ b) :
    Inv X pins σ H' { s with heap := h', gens := g', drawn := d', toks := t' } := by
  obtain ⟨m, ⟨o, es, ep, ho, r⟩, _⟩ := id I.loc
  obtain ⟨sl, hL⟩ := u.any ho I.free fun z => (hch _ z).2.1 rfl
  exact I.step (ch := ch) hch (fun b o hL hb hc e n => u.keep b o e n (fun z => (List.mem_cons.mp (I.stkSub b z)).elim hL hb) hc) (fun b o _ _ hc e n => u.any e n hc) (fun b o hc e n => u.free b o e n hc) (fun b o hc e => u.there b o e hc) u.tups u.frzs u.tbls (fun m' hm => by
    obtain ⟨o', es', ep', ho', r'⟩ := hm
    rw [ho] at ho'; cases ho'
    exact ⟨_, es', ep', hL, r'⟩) hok hg
/-- an untracked record of ours (an iterator) has turned -/
theorem Inv.turned {t' : Nat} {it : Addr} (I : Inv X pins σ H s) (k : ∀ b o, b ≠ it → s.heap.get? b = some o → h'.get? b = some o) (hn : H it = none) (hL : it ≠ X.env.locals)
    (h1 : it ∈ X.ex ∨ X.s₀.heap.objs.size ≤ it) (h2 : ∀ x c, X.env.cells.lookup x = some c → c ≠ it) (h3 : ∀ p ∈ X.pn ++ pins, p.1 ≠ it) : Inv X pins σ H { s with heap := h', toks := t' } := by
  have nit : ∀ b u, H b = some u → b ≠ it := fun b u e z => by rw [z, hn] at e; cases e
  refine I.step (g' := s.gens) (d' := s.drawn) (ch := [it]) (fun b hb => ?_) (fun b o _ _ hc e _ => k b o (fun z => hc (by simp [z])) e) (fun b o _ _ hc e _ => ⟨o.slots, k b o (fun z => hc (by simp [z])) e⟩) (fun _ _ _ _ n => n)
    (fun b o hc e => ⟨o, k b o (fun z => hc (by simp [z])) e⟩) (fun _ _ e => e) (fun _ _ _ e => e) (fun b ps e => ⟨#[], by rw [e]; simp⟩) (fun m hm => ?_) (fun b u e => ?_) I.bare
  · have e : b = it := by simpa using hb
    subst e
    exact ⟨h1, hL, h2, h3⟩
  · obtain ⟨o, es, ep, ho, r⟩ := hm
    exact ⟨o, es, ep, k _ o (Ne.symm hL) ho, r⟩
  · refine (I.hok b u e).stay (fun c v hc q => k c v ?_ q) (fun _ q => q) fun _ _ q => q
    rcases hc with z | z
    · rw [z]; exact nit b u e
    · exact nit c _ z
theorem Inv.tok (I : Inv X pins σ H s) (t : Nat) : Inv X pins σ H { s with toks := t } := I.un (h' := s.heap) (t' := t) Un.refl I.hok
/-- all objects kept -/
theorem Inv.kept {t' : Nat} (I : Inv X pins σ H s) (k : ∀ b u, s.heap.get? b = some u → h'.get? b = some u) : Inv X pins σ H { s with heap := h', toks := t' } := I.un (Un.kept k) (I.hok.kept k)
/-- a new object laid and tracked -/
theorem Inv.laid {a : Addr} {o : HO} {t' : Nat} (I : Inv X pins σ H s) (k : ∀ b u, s.heap.get? b = some u → h'.get? b = some u) (hp : s.heap.objs.size ≤ a) (new : ObjOk X.prog X.w (upd H a o) h' a o) :
    Inv X pins σ (upd H a o) { s with heap := h', toks := t' } := I.un (Un.laid k hp (I.hok.fresh hp)) (I.hok.laid k hp new)
/-- an object written -/
theorem Inv.write {x e : Addr} {o : HO} {t' : Nat} (I : Inv X pins σ H s) (mu : Mut (H x)) (he : e = x ∨ H e = some (.own x)) (k : ∀ b u, b ≠ e → s.heap.get? b = some u → h'.get? b = some u) (heo : ∃ u, h'.get? e = some u)
    (new : ObjOk X.prog X.w (upd H x o) h' x o) : Inv X pins σ (upd H x o) { s with heap := h', toks := t' } := I.un (Un.write mu he k heo) (I.hok.write mu he k heo new)
theorem Inv.pins_of {pins' : List (Addr × Obj)} (I : Inv X pins σ H s) (h : ∀ p ∈ pins', s.heap.get? p.1 = some p.2 ∧ H p.1 = none ∧ p.1 ≠ X.env.locals ∧ p.1 ∉ X.fs ∧ ∀ v, p.2.data ≠ .cell v) : Inv X pins' σ H s :=
  ⟨I.ok, I.os, I.bare, I.base, I.loc, I.cell, I.free, I.freeC, fun p hp => (List.mem_append.mp hp).elim (fun z => I.pin p (List.mem_append_left _ z)) (h p), I.hok, I.len⟩

theorem nodup_ix {N : List Str} (hN : N.Nodup) {i j : Nat} {x : Str} (a : N[i]? = some x) (b : N[j]? = some x) : i = j := by
  obtain ⟨h1, e1⟩ := List.getElem?_eq_some_iff.mp a
  obtain ⟨h2, e2⟩ := List.getElem?_eq_some_iff.mp b
  exact (List.getElem_inj hN).mp (e1.trans e2.symm)

/-- a name is stored; what changed -/
theorem store_ok2 {M : Model} {A : Around} {E : Value → Shared → Prop} {i : Nat} {x : Str} {v : V} {u : Value} {Q : Unit → Shared → Prop} (I : Inv X pins σ H s) (hN : X.N.Nodup) (hi : X.N[i]? = some x) (hx : Loc X.env.scope x) (r : RelV v u)
    (h : ∀ s', Inv X pins (σ.set i (some v)) H s' → (∃ a, Heap.SameBut a s.heap s'.heap ∧ (a = X.env.locals ∨ X.env.cells.lookup x = some a)) → Q () s') (hf : X.fn x = true ∨ X.env.scope.names.lookup x = some .local := by first | exact .inl rfl | exact .inr rfl | assumption) : wpAny M A (storeName X.env x u) Q E s := by
  obtain ⟨m, hn, hl⟩ := id I.loc
  have hcls : (X.env.scope.kind == .class || (X.env.scope.kind == .module && X.env.locals != X.env.globals)) = false := by rw [I.ok.kind]; rfl
  have hiσ : i < σ.length := by rw [I.len]; exact (List.getElem?_eq_some_iff.mp hi).1
  have cne := I.cne
  have tracked : ∀ {a : Addr} {h' : Heap}, (∃ o, s.heap.get? a = some o ∧ H a = none) → Heap.SameBut a s.heap h' → HOk X.prog X.w H h' := fun {a h'} ha hs b ob e => by
    obtain ⟨_, _, hfree⟩ := ha
    refine (I.hok b ob e).stay (fun c w' hc q => (hs.2 c ?_).trans q) (fun _ q => q) fun _ _ q => q
    rintro rfl
    rcases hc with rfl | hc
    · rw [hfree] at e; cases e
    · rw [hfree] at hc; cases hc
  rcases hx with hk | hk
  · refine wpAny_storeName_local hk hn (fun h' hn' hs => ?_) hcls
    obtain ⟨oL, _, _, hoL, _⟩ := id hn
    refine h _ ⟨I.ok, I.os, I.bare, ⟨fun b o e n hb hx => ?_, fun b o e n hb hx => ?_, I.base.free, fun b o e hx => ?_, I.base.tups, I.base.frzs, I.base.tbls⟩, ⟨_, hn', fun j y v' e1 e2 e3 => ?_⟩, fun y c e => ?_, I.free, I.freeC, fun p hp => ?_, tracked ⟨oL, hoL, I.free⟩ hs, by simpa using I.len⟩ ⟨_, hs, .inl rfl⟩
    · exact (hs.2 b (Nat.ne_of_lt (Nat.lt_of_lt_of_le (Heap.lt_size e) I.ok.above))).trans (I.base.keep b o e n hb hx)
    · obtain ⟨sl, e1⟩ := I.base.slot b o e n hb hx
      exact ⟨sl, (hs.2 b (Nat.ne_of_lt (Nat.lt_of_lt_of_le (Heap.lt_size e) I.ok.above))).trans e1⟩
    · obtain ⟨o', e1⟩ := I.base.there b o e hx
      exact ⟨o', (hs.2 b (Nat.ne_of_lt (Nat.lt_of_lt_of_le (Heap.lt_size e) I.ok.above))).trans e1⟩
    · by_cases hj : j = i
      · subst hj
        rw [hi] at e1; cases e1
        rw [List.getElem?_set_self hiσ] at e2
        cases e2
        exact ⟨u, r, .inl ⟨hk, by simp⟩⟩
      · rw [List.getElem?_set_ne (Ne.symm hj)] at e2
        obtain ⟨u', r', q⟩ := hl j y v' e1 e2 e3
        refine ⟨u', r', ?_⟩
        rcases q with ⟨k, e⟩ | ⟨k, c, e, z⟩
        · refine .inl ⟨k, ?_⟩
          have : y ≠ x := fun e => hj (nodup_ix hN e1 (e ▸ hi))
          simp [this, e]
        · exact .inr ⟨k, c, e, z.sameBut hs (cne y c e)⟩
    · obtain ⟨w', z⟩ := I.cell y c e
      exact ⟨w', z.sameBut hs (cne y c e)⟩
    · obtain ⟨e, n, ne, nf, d⟩ := I.pin p hp
      exact ⟨(hs.2 p.1 ne).trans e, n, ne, nf, d⟩
  · have hfn : X.fn x = true := by
      rcases hf with z | z
      · exact z
      · rw [z] at hk; cases hk
    obtain ⟨c, hc⟩ := I.ok.has x (.inl hk)
    obtain ⟨w', z⟩ := I.cell x c hc
    refine wpAny_storeName_cell I.ok.kind hk hc z (fun h' hc' hs => ?_)
    obtain ⟨oc, hoc, hocd⟩ := id z
    refine h { s with heap := h' } ⟨I.ok, I.os, I.bare, ⟨fun b o e n hb hx => ?_, fun b o e n hb hx => ?_, I.base.free, fun b o e hx => ?_, I.base.tups, I.base.frzs, I.base.tbls⟩, ⟨m, hn.sameBut hs (Ne.symm (cne x c hc)), fun j y v' e1 e2 e3 => ?_⟩, fun y c' e => ?_, I.free, I.freeC, fun p hp => ?_, tracked ⟨oc, hoc, I.freeC x c hc⟩ hs, by simpa using I.len⟩ ⟨c, hs, .inr hc⟩
    · exact (hs.2 b (Nat.ne_of_lt (Nat.lt_of_lt_of_le (Heap.lt_size e) (I.ok.cab x c hfn hc)))).trans (I.base.keep b o e n hb hx)
    · obtain ⟨sl, e1⟩ := I.base.slot b o e n hb hx
      exact ⟨sl, (hs.2 b (Nat.ne_of_lt (Nat.lt_of_lt_of_le (Heap.lt_size e) (I.ok.cab x c hfn hc)))).trans e1⟩
    · obtain ⟨o', e1⟩ := I.base.there b o e hx
      exact ⟨o', (hs.2 b (Nat.ne_of_lt (Nat.lt_of_lt_of_le (Heap.lt_size e) (I.ok.cab x c hfn hc)))).trans e1⟩
    · by_cases hj : j = i
      · subst hj
        rw [hi] at e1; cases e1
        rw [List.getElem?_set_self hiσ] at e2
        cases e2
        exact ⟨u, r, .inr ⟨.inl hk, c, hc, hc'⟩⟩
      · rw [List.getElem?_set_ne (Ne.symm hj)] at e2
        obtain ⟨u', r', q⟩ := hl j y v' e1 e2 e3
        refine ⟨u', r', ?_⟩
        rcases q with q | ⟨k, c', e, z'⟩
        · exact .inl q
        · refine .inr ⟨k, c', e, z'.sameBut hs ?_⟩
          rintro rfl
          exact hj (nodup_ix hN e1 (I.ok.inj _ _ _ e hc ▸ hi))
    · by_cases hcc : c' = c
      · subst hcc; exact ⟨_, hc'⟩
      · obtain ⟨w2, z2⟩ := I.cell y c' e
        exact ⟨w2, z2.sameBut hs hcc⟩
    · obtain ⟨e, n, ne, nf, d⟩ := I.pin p hp
      refine ⟨(hs.2 p.1 ?_).trans e, n, ne, nf, d⟩
      intro q
      rw [q, hoc] at e
      have q' : oc = p.2 := Option.some.inj e
      exact d w' (by rw [← q']; exact hocd)
theorem store_ok {M : Model} {A : Around} {E : Value → Shared → Prop} {i : Nat} {x : Str} {v : V} {u : Value} {Q : Unit → Shared → Prop} (I : Inv X pins σ H s) (hN : X.N.Nodup) (hi : X.N[i]? = some x) (hx : Loc X.env.scope x) (r : RelV v u)
    (h : ∀ s', Inv X pins (σ.set i (some v)) H s' → Q () s') (hf : X.fn x = true ∨ X.env.scope.names.lookup x = some .local := by first | exact .inl rfl | exact .inr rfl | assumption) : wpAny M A (storeName X.env x u) Q E s :=
  store_ok2 I hN hi hx r (fun s' I' _ => h s' I') hf
/-- behind a call or a block, the state as it is -/
theorem Inv.call' {s' : Shared} {ch : List Addr} (I : Inv X pins σ H s) (ho : s'.os = s.os) (u : Un (frs X.stack) ch H H' s.heap s'.heap) (hok : HOk X.prog X.w H' s'.heap) (hg : AllBare s'.gens)
    (hch : ∀ b ∈ ch, (b ∈ X.ex ∨ X.s₀.heap.objs.size ≤ b) ∧ b ≠ X.env.locals ∧ (∀ x c, X.env.cells.lookup x = some c → c ≠ b) ∧ ∀ p ∈ X.pn ++ pins, p.1 ≠ b) : Inv X pins σ H' s' := by
  obtain ⟨h', g', d', t', o'⟩ := s'
  have e : o' = s.os := ho
  subst e
  exact I.call (g' := g') (t' := t') (d' := d') u hok hg hch
end

/-! ### the judgements -/
/-- an exception: its class, its own dict's address (where it has one), the abstract heap behind it -/
abbrev XK := Value → Option Addr → Hp → Prop
abbrev St := List (Option V)
abbrev VK := V → Hp → Prop
/-- an expression's reading; a test's; an argument list's -/
abbrev TE := St → Hp → VK → Prop
abbrev TT := St → Hp → (Bool → Hp → Prop) → Prop
abbrev TA := St → Hp → (List V → Hp → Prop) → Prop
set_option genSizeOf false in
set_option genInjectivity false in
structure Ends where
  nx : St → Hp → Prop
  rt : VK
  bk : St → Hp → Prop := fun _ _ => False
  ct : St → Hp → Prop := fun _ _ => False
abbrev TS := Ends → St → Hp → Prop

def EP (X : Cx) (pins : List (Addr × Obj)) (σ : St) (Q : VK) (u : Value) (s' : Shared) : Prop := ∃ v H', Inv X pins σ H' s' ∧ RelV v u ∧ Q v H'
def TP (X : Cx) (pins : List (Addr × Obj)) (σ : St) (Q : Bool → Hp → Prop) (b : Bool) (s' : Shared) : Prop := ∃ H', Inv X pins σ H' s' ∧ Q b H'
def AP (X : Cx) (pins : List (Addr × Obj)) (σ : St) (Q : List V → Hp → Prop) (us : List Value) (s' : Shared) : Prop := ∃ vs H', Inv X pins σ H' s' ∧ Vals vs us ∧ Q vs H'
def SP (X : Cx) (pins : List (Addr × Obj)) (D : Ends) (f : Flow) (s' : Shared) : Prop :=
  match f with
  | .next => ∃ σ' H', Inv X pins σ' H' s' ∧ D.nx σ' H'
  | .brk => ∃ σ' H', Inv X pins σ' H' s' ∧ D.bk σ' H'
  | .cont => ∃ σ' H', Inv X pins σ' H' s' ∧ D.ct σ' H'
  | .ret u => ∃ v σ' H', Inv X pins σ' H' s' ∧ RelV v u ∧ D.rt v H'

def PE (X : Cx) (e : Expr) (t : TE) : Prop :=
  ∀ (pins : List (Addr × Obj)) (s : Shared) (σ : St) (H : Hp) (Q : VK), Inv X pins σ H s → t σ H Q → wpAny (model X.prog X.w) X.A (eval e X.env) (EP X pins σ Q) X.xe s
def PT (X : Cx) (e : Expr) (t : TT) : Prop :=
  ∀ (pins : List (Addr × Obj)) (s : Shared) (σ : St) (H : Hp) (Q : Bool → Hp → Prop), Inv X pins σ H s → t σ H Q → wpAny (model X.prog X.w) X.A (isTrue e X.env (eval e X.env)) (TP X pins σ Q) X.xe s
/-- a test whatever its 'whole' is (and, or) -/
def PW (X : Cx) (e : Expr) (t : TT) : Prop :=
  ∀ (whole : Sem Value) (pins : List (Addr × Obj)) (s : Shared) (σ : St) (H : Hp) (Q : Bool → Hp → Prop), Inv X pins σ H s → t σ H Q → wpAny (model X.prog X.w) X.A (isTrue e X.env whole) (TP X pins σ Q) X.xe s
theorem PW.pt {X : Cx} {e : Expr} {t : TT} (h : PW X e t) : PT X e t := h _
/-- an argument list (no star), from the left -/
def PA (X : Cx) (es : List Expr) (t : TA) : Prop :=
  ∀ (pos : Pos) (pins : List (Addr × Obj)) (s : Shared) (σ : St) (H : Hp) (Q : List V → Hp → Prop), Inv X pins σ H s → t σ H Q → wpAny (model X.prog X.w) X.A (spliced (backTo pos (starEach es X.env))) (AP X pins σ Q) X.xe s
def PS (X : Cx) (st : Stmt) (t : TS) : Prop :=
  ∀ (pins : List (Addr × Obj)) (s : Shared) (σ : St) (H : Hp) (D : Ends), Inv X pins σ H s → t D σ H → wpAny (model X.prog X.w) X.A (exec st X.env) (SP X pins D) X.xe s
def PSs (X : Cx) (st : List Stmt) (t : TS) : Prop :=
  ∀ (pins : List (Addr × Obj)) (s : Shared) (σ : St) (H : Hp) (D : Ends), Inv X pins σ H s → t D σ H → wpAny (model X.prog X.w) X.A (execs st X.env) (SP X pins D) X.xe s
/-- weaken the end -/
theorem thn {α : Type} {t : Sem α} {Q Q' : α → Shared → Prop} {M : Model} {A : Around} {E : Value → Shared → Prop} {s : Shared} (h : wpAny M A t Q E s) (hQ : ∀ a s, Q a s → Q' a s) : wpAny M A t Q' E s := wpAny_mono h hQ fun _ _ x => x
end L2

namespace L2
open PySem PySem.Spec PyProof.Rows
section
variable {X : Cx}

/-! ### names and constants -/
def tVar (i : Nat) : TE := fun σ H Q => ∃ v, σ[i]? = some (some v) ∧ Q v H
def tC (v : V) : TE := fun _ H Q => Q v H
theorem pe_var {i : Nat} {x : Str} {pos : Pos} (hN : X.N[i]? = some x) (hv : Vis X.env.scope x) (hd : (x == ("__debug__" : Str)) = false := by decide) (hcd : (x == ("__classdict__" : Str)) = false := by decide) : PE X (.Name x pos) (tVar i) := by
  intro pins s σ H Q I h
  obtain ⟨v, e, h⟩ := h
  obtain ⟨m, hn, hl⟩ := I.loc
  obtain ⟨u, r, l⟩ := hl i x v hN e hv
  have fin : EP X pins σ Q u s := ⟨v, H, I, r, h⟩
  rcases l with ⟨hk, hm⟩ | ⟨hk, c, hc, hcell⟩
  · exact wpAny_Name (wpAny_loadName_local I.ok.kind hk hn hm fin) hd
  · rcases hk with hk | hk
    · exact wpAny_Name (wpAny_loadName_cell I.ok.kind hk hc hcell fin) hd
    · exact wpAny_Name (wpAny_loadName_free I.ok.kind hk hc hcell fin hcd) hd
theorem pe_int {i j pos} : PE X (.Constant (.int i) j pos) (tC (.int i)) := fun _ _ _ H _ I h => wpAny_Constant_int ⟨.int i, H, I.tok _, ⟨_, rfl⟩, h⟩
theorem pe_bl {b j pos} : PE X (.Constant (.bool b) j pos) (tC (.bl b)) := fun _ _ _ H _ I h => Constant_bool ⟨.bl b, H, I, rfl, h⟩
theorem pe_str {x j pos} : PE X (.Constant (.str x) j pos) (tC (.str x)) := fun _ _ _ H _ I h => Calls.Constant_str ⟨.str x, H, I.tok _, ⟨_, rfl⟩, h⟩

/-- a global name of the def -/
def Gl (X : Cx) (x : Str) : Prop := X.env.kindOf x = some .globalImplicit
theorem ld_glob {E : Value → Shared → Prop} {pins : List (Addr × Obj)} {s : Shared} {σ : St} {H : Hp} {x : Str} {u : Value} {pos : Pos} {Q : Value → Shared → Prop} (I : Inv X pins σ H s) (hg : Gl X x) (hm : X.mg x = some u) (h : Q u s)
    (hd : (x == ("__debug__" : Str)) = false := by decide) : wpAny (model X.prog X.w) X.A (eval (.Name x pos) X.env) Q E s :=
  Calls.Name_function_global I.ok.kind hg (Calls.loadGlobal_global (by rw [I.ok.glob]; exact I.mod.glob.keeps I.bk) hm h) hd
theorem ld_blt {E : Value → Shared → Prop} {pins : List (Addr × Obj)} {s : Shared} {σ : St} {H : Hp} {x : Str} {u : Value} {pos : Pos} {Q : Value → Shared → Prop} (I : Inv X pins σ H s) (hg : Gl X x) (hm : X.mg x = none) (hv : bootBuiltins x = some u) (h : Q u s)
    (hn : x ≠ "__name__" := by decide) (hd : (x == ("__debug__" : Str)) = false := by decide) : wpAny (model X.prog X.w) X.A (eval (.Name x pos) X.env) Q E s := by
  obtain ⟨mb, h1, h2⟩ := I.mod.blt
  exact Calls.Name_function_global I.ok.kind hg (Calls.loadGlobal_builtin (by rw [I.ok.glob]; exact I.mod.glob.keeps I.bk) hm (by rw [I.ok.blt]; exact h1.keeps I.bk) ((h2 x hn).trans hv) h) hd
/-- a module's constant, a class, a function, as a value -/
theorem pe_glob {x : Str} {v : V} {u : Value} {pos : Pos} (hg : Gl X x) (hm : X.mg x = some u) (r : RelV v u) (hd : (x == ("__debug__" : Str)) = false := by decide) : PE X (.Name x pos) (tC v) :=
  fun _ _ _ H _ I h => ld_glob I hg hm ⟨v, H, I, r, h⟩ hd
theorem pe_bltn {x : Str} {v : V} {u : Value} {pos : Pos} (hg : Gl X x) (hm : X.mg x = none) (hv : bootBuiltins x = some u) (r : RelV v u) (hn : x ≠ "__name__" := by decide) (hd : (x == ("__debug__" : Str)) = false := by decide) : PE X (.Name x pos) (tC v) :=
  fun _ _ _ H _ I h => ld_blt I hg hm hv ⟨v, H, I, r, h⟩ hn hd

/-! ### arithmetic -/
/-- two ints -/
def t2I (ta tb : TE) (k : Int → Int → Hp → Prop) : St → Hp → Prop := fun σ H => ta σ H fun x H1 => tb σ H1 fun y H2 => ∃ i j, x = .int i ∧ y = .int j ∧ k i j H2
def tAdd (ta tb : TE) : TE := fun σ H Q => t2I ta tb (fun i j H2 => Q (.int (i + j)) H2) σ H
def tSub (ta tb : TE) : TE := fun σ H Q => t2I ta tb (fun i j H2 => Q (.int (i - j)) H2) σ H
/-- the left factor below 2^64 -/
def tMul (ta tb : TE) : TE := fun σ H Q => t2I ta tb (fun i j H2 => (-(2 ^ 64) < i ∧ i < 2 ^ 64) ∧ Q (.int (i * j)) H2) σ H
variable {a b : Expr} {ta tb : TE} {pos : Pos}
/-! ### comparisons -/
def PC (X : Cx) (op : CmpOp) (a b : Expr) (t : TE) : Prop :=
  ∀ (pins : List (Addr × Obj)) (s : Shared) (σ : St) (H : Hp) (Q : VK), Inv X pins σ H s → t σ H Q →
    wpAny (model X.prog X.w) X.A (eval a X.env) (fun v s₁ => wpAny (model X.prog X.w) X.A (eval b X.env) (fun u s₂ => wpAny (model X.prog X.w) X.A (compareOp op v u) (EP X pins σ Q) X.xe s₂) X.xe s₁) X.xe s
def tCmp (p : Int → Int → Bool) (ta tb : TE) : TE := fun σ H Q => t2I ta tb (fun i j H2 => Q (.bl (p i j)) H2) σ H
abbrev tLt : TE → TE → TE := tCmp fun i j => decide (i < j)
abbrev tLe : TE → TE → TE := tCmp fun i j => decide (i ≤ j)
abbrev tGt : TE → TE → TE := tCmp fun i j => decide (j < i)
abbrev tGe : TE → TE → TE := tCmp fun i j => decide (j ≤ i)
abbrev tEqI : TE → TE → TE := tCmp fun i j => decide (i = j)
abbrev tNeI : TE → TE → TE := tCmp fun i j => !decide (i = j)
/-- is None -/
def tIsN (ta : TE) : TE := fun σ H Q => ta σ H fun x H1 => Q (.bl (decide (x = .non))) H1
def tNotN (ta : TE) : TE := fun σ H Q => ta σ H fun x H1 => Q (.bl (!decide (x = .non))) H1
/-- a comparison as a value, as a test -/
def tB (t : TE) : TT := fun σ H Q => t σ H fun x H1 => ∃ c, x = .bl c ∧ Q c H1
/-- an expression whose value is a bool, as a test -/
theorem pt_val {e : Expr} {t : TE} (h : PE X e t) (he : ∀ whole, isTrue e X.env whole = (do let v ← whole; standAt e.pos; holding [v] (truthy v)) := by intro _; rfl) : PT X e (tB t) := by
  intro pins s σ H Q I hw
  refine isTrue_plain (thn (h pins s σ H _ I hw) fun v s1 ⟨x, H1, I1, r1, q1⟩ => ?_) (he _)
  obtain ⟨d, rfl, q⟩ := q1
  cases r1
  exact wpAny_truthy_bool ⟨H1, I1, q⟩

/-! ### and, or, not -/
variable {tA tB' : TT} {rest : List Expr}
def tAnd (t u : TT) : TT := fun σ H Q => t σ H fun c H1 => if c = true then u σ H1 Q else Q false H1
def tOr (t u : TT) : TT := fun σ H Q => t σ H fun c H1 => if c = true then Q true H1 else u σ H1 Q
def tNot (t : TT) : TT := fun σ H Q => t σ H fun c H1 => Q (!c) H1
theorem pw_or1 (ha : PT X a tA) : PW X (.BoolOp .Or [a] pos) tA := by
  intro wh pins s σ H Q I h
  refine isTrue_or (thn (ha pins s σ H Q I h) fun c s1 e => ?_)
  cases c with
  | false => exact isTrue_or_nil e
  | true => exact e
theorem pw_or (ha : PT X a tA) (hb : PW X (.BoolOp .Or (b :: rest) pos) tB') : PW X (.BoolOp .Or (a :: b :: rest) pos) (tOr tA tB') := by
  intro wh pins s σ H Q I h
  refine isTrue_or (thn (ha pins s σ H _ I h) fun c s1 ⟨H1, I1, q1⟩ => ?_)
  cases c with
  | true => exact ⟨H1, I1, q1⟩
  | false => exact hb wh pins s1 σ H1 Q I1 q1
theorem pt_not (ha : PT X a tA) : PT X (.UnaryOp .Not a pos) (tNot tA) := by
  intro pins s σ H Q I h
  exact isTrue_not (ha pins s σ H (fun c H1 => Q (!c) H1) I h)
/-- .. as values (bools) -/
def tAndV (ta tb : TE) : TE := fun σ H Q => ta σ H fun x H1 => ∃ c, x = .bl c ∧ if c = true then tb σ H1 Q else Q (.bl false) H1
def tOrV (ta tb : TE) : TE := fun σ H Q => ta σ H fun x H1 => ∃ c, x = .bl c ∧ if c = true then Q (.bl true) H1 else tb σ H1 Q
def tNotV (ta : TE) : TE := fun σ H Q => ta σ H fun x H1 => ∃ c, x = .bl c ∧ Q (.bl (!c)) H1
theorem pe_one {op} {t : TE} (h : PE X a t) : PE X (.BoolOp op [a] pos) t := fun pins s σ H Q I hw => BoolOp_one (h pins s σ H Q I hw)
theorem pe_and (ha : PE X a ta) (hb : PE X (.BoolOp .And (b :: rest) pos) tb) : PE X (.BoolOp .And (a :: b :: rest) pos) (tAndV ta tb) := by
  intro pins s σ H Q I h
  refine BoolOp_and (thn (ha pins s σ H _ I h) fun v s1 ⟨x, H1, I1, r1, q1⟩ => ?_)
  obtain ⟨c, rfl, q1⟩ := q1
  cases r1
  refine wpAny_truthy_bool ?_
  cases c with
  | true => exact hb pins s1 σ H1 Q I1 q1
  | false => exact ⟨.bl false, H1, I1, rfl, q1⟩
/-- a if t else b -/
def tIf (t : TT) (ta tb : TE) : TE := fun σ H Q => t σ H fun c H1 => if c = true then ta σ H1 Q else tb σ H1 Q
theorem pe_ifExp {c : Expr} (hc : PT X c tA) (ha : PE X a ta) (hb : PE X b tb) : PE X (.IfExp c a b pos) (tIf tA ta tb) := by
  intro pins s σ H Q I h
  refine wpAny_IfExp (thn (hc pins s σ H _ I h) fun d s1 ⟨H1, I1, q1⟩ => ?_)
  cases d with
  | true => exact ha pins s1 σ H1 Q I1 q1
  | false => exact hb pins s1 σ H1 Q I1 q1
end
end L2

namespace L2
open PySem PySem.Spec PyProof.Rows

/-! ### a list, a tuple that is read: tracked, frozen, or an object of the module -/
def SqL (K : PySem.W.Frag) (H : Hp) (a : Addr) (xs : List V) : Prop :=
  Rd H a (.lst xs) ∨
    ∃ (o : Obj) (its : Array Value) (n : Nat), K.lookup a = some o ∧ o.cls = .type "list" ∧ o.dict = none ∧ o.data = .seq its n ∧ its.size ≤ sizeLine ∧ Vals xs its.toList
def SqT (K : PySem.W.Frag) (H : Hp) (a : Addr) (xs : List V) : Prop :=
  Rd H a (.tup xs) ∨
    ∃ (o : Obj) (its : Array Value) (n : Nat), K.lookup a = some o ∧ o.cls = .type "tuple" ∧ o.data = .seq its n ∧ its.size ≤ sizeLine ∧ Vals xs its.toList
def absV : Value → Option V
  | .none => some .non
  | .bool b => some (.bl b)
  | .int i _ => some (.int i)
  | .str x _ => some (.str x)
  | .bytes b _ => some (.byt b)
  | .float b _ => some (.flt b)
  | .ref a => some (.ref a)
  | .type n => some (.ty n)
  | _ => none
theorem RelV.abs {x : V} {u : Value} (r : RelV x u) : absV u = some x := by
  cases x with
  | non => cases r; rfl
  | bl _ => cases r; rfl
  | int _ => obtain ⟨t, rfl⟩ := r; rfl
  | str _ => obtain ⟨t, rfl⟩ := r; rfl
  | byt _ => obtain ⟨t, rfl⟩ := r; rfl
  | flt _ => obtain ⟨t, rfl⟩ := r; rfl
  | ref _ => cases r; rfl
  | ty _ => cases r; rfl
theorem RelV.inj {x y : V} {u : Value} (r : RelV x u) (q : RelV y u) : x = y := Option.some.inj (r.abs.symm.trans q.abs)
theorem Vals.inj : ∀ {xs ys : List V} {us : List Value}, Vals xs us → Vals ys us → xs = ys
  | _, _, _, .nil, .nil => rfl
  | _, _, _, .cons r t, .cons r' t' => by rw [r.inj r', Vals.inj t t']
section
variable {X : Cx} {pins : List (Addr × Obj)} {σ : St} {H : Hp} {s : Shared} {a : Addr} {xs ys : List V}
theorem SqL.of {K : PySem.W.Frag} (h : H a = some (.lst xs)) : SqL K H a xs := .inl (.inl h)
theorem SqT.of {K : PySem.W.Frag} (h : H a = some (.tup xs)) : SqT K H a xs := .inl (.inl h)
theorem Inv.list (I : Inv X pins σ H s) (h : SqL X.K H a xs) : ∃ its : List Value, Vals xs its ∧ PlainL s.heap a its.toArray ∧ xs.length ≤ sizeLine := by
  rcases h with h | ⟨o, its, n, hk, hc, hd, hs, hz, r⟩
  · obtain ⟨z, its, n, r, e⟩ := h.ok I.hok
    exact ⟨its, r, ⟨_, n, e, rfl, rfl, rfl⟩, z⟩
  · refine ⟨its.toList, r, ⟨o, n, I.kIn a o hk, hc, hd, by simpa using hs⟩, ?_⟩
    have e := r.length
    simp only [Array.length_toList] at e
    omega
theorem Inv.tuple (I : Inv X pins σ H s) (h : SqT X.K H a xs) : ∃ its : List Value, Vals xs its ∧ IsTup s.heap a its.toArray ∧ xs.length ≤ sizeLine := by
  rcases h with h | ⟨o, its, n, hk, hc, hs, hz, r⟩
  · obtain ⟨z, its, r, p⟩ := h.ok I.hok
    exact ⟨its, r, p, z⟩
  · refine ⟨its.toList, r, ⟨o, I.kIn a o hk, hc, n, by simpa using hs⟩, ?_⟩
    have e := r.length
    simp only [Array.length_toList] at e
    omega
theorem Inv.list_inj (I : Inv X pins σ H s) (h : SqL X.K H a xs) (h' : SqL X.K H a ys) : xs = ys := by
  obtain ⟨its, r, ⟨o, n, e, _, _, d⟩, _⟩ := I.list h
  obtain ⟨its', r', ⟨o', n', e', _, _, d'⟩, _⟩ := I.list h'
  rw [e] at e'; cases e'
  rw [d] at d'
  injection d' with d1 _
  have : its = its' := by simpa using congrArg Array.toList d1
  subst this
  exact r.inj r'
theorem Inv.tuple_inj (I : Inv X pins σ H s) (h : SqT X.K H a xs) (h' : SqT X.K H a ys) : xs = ys := by
  obtain ⟨its, r, ⟨o, e, _, n, d⟩, _⟩ := I.tuple h
  obtain ⟨its', r', ⟨o', e', _, n', d'⟩, _⟩ := I.tuple h'
  rw [e] at e'; cases e'
  rw [d] at d'
  injection d' with d1 _
  have : its = its' := by simpa using congrArg Array.toList d1
  subst this
  exact r.inj r'
end

/-! ### another wish about exceptions -/
abbrev Cx.wish (X : Cx) (E : Value → Shared → Prop) : Cx := { X with xe := E }
/-- no exception leaves -/
abbrev Cx.nox (X : Cx) : Cx := X.wish fun _ _ => False
theorem Cx.Ok.wish {X : Cx} (ok : X.Ok) (E : Value → Shared → Prop) : (X.wish E).Ok :=
  ⟨ok.mod, ok.kind, ok.glob, ok.blt, ok.above, ok.inj, ok.has, ok.cab, ok.hd, ok.frames, ok.stk, ok.exf, ok.bs, ok.bsz, ok.noex, ok.exfs, ok.funs, ok.frf⟩
theorem Cx.Ok.unwish {X : Cx} {E : Value → Shared → Prop} (ok : (X.wish E).Ok) : X.Ok :=
  ⟨ok.mod, ok.kind, ok.glob, ok.blt, ok.above, ok.inj, ok.has, ok.cab, ok.hd, ok.frames, ok.stk, ok.exf, ok.bs, ok.bsz, ok.noex, ok.exfs, ok.funs, ok.frf⟩
section
variable {X : Cx} {pins : List (Addr × Obj)} {σ : St} {H : Hp} {s : Shared} {E : Value → Shared → Prop}
theorem Inv.wish (I : Inv X pins σ H s) (E : Value → Shared → Prop) : Inv (X.wish E) pins σ H s := ⟨I.ok.wish E, I.os, I.bare, I.base, I.loc, I.cell, I.free, I.freeC, I.pin, I.hok, I.len⟩
theorem Inv.unwish (I : Inv (X.wish E) pins σ H s) : Inv X pins σ H s := ⟨I.ok.unwish, I.os, I.bare, I.base, I.loc, I.cell, I.free, I.freeC, I.pin, I.hok, I.len⟩
theorem SP.unwish {D : Ends} {f : Flow} {s' : Shared} (h : SP (X.wish E) pins D f s') : SP X pins D f s' := by
  cases f with
  | next => obtain ⟨σ', H', I, q⟩ := h; exact ⟨σ', H', I.unwish, q⟩
  | brk => obtain ⟨σ', H', I, q⟩ := h; exact ⟨σ', H', I.unwish, q⟩
  | cont => obtain ⟨σ', H', I, q⟩ := h; exact ⟨σ', H', I.unwish, q⟩
  | ret u => obtain ⟨v, σ', H', I, r, q⟩ := h; exact ⟨v, σ', H', I.unwish, r, q⟩
theorem PSs.nox {st : List Stmt} {t : TS} (h : PSs X.nox st t) : PSs X st t := fun pins s σ H D I hw =>
  wpAny_mono (h pins s σ H D (I.wish _) hw) (fun _ _ q => q.unwish) fun _ _ z => False.elim z
end

/-! ### blocks and small statements -/
section
variable {X : Cx} {st : Stmt} {rest : List Stmt} {t u : TS} {e : Expr} {te : TE} {pos : Pos}
def tNext : TS := fun D σ H => D.nx σ H
def tSeq (t u : TS) : TS := fun D σ H => t { D with nx := u D } σ H
theorem pss_nil : PSs X [] tNext := fun _ _ σ H _ I h => wpAny_execs_nil ⟨σ, H, I, h⟩
theorem pss_cons (h1 : PS X st t) (h2 : PSs X rest u) : PSs X (st :: rest) (tSeq t u) := by
  intro pins s σ H D I h
  refine wpAny_execs_cons (thn (h1 pins s σ H { D with nx := u D } I h) fun f s1 q => ?_)
  cases f with
  | next =>
    obtain ⟨σ', H', I', q⟩ := q
    exact h2 pins s1 σ' H' D I' q
  | ret v => exact q
  | brk => exact q
  | cont => exact q
theorem pss_one (h1 : PS X st t) : PSs X [st] t := by
  intro pins s σ H D I h
  refine wpAny_execs_cons (thn (h1 pins s σ H D I h) fun f s1 q => ?_)
  cases f with
  | next => exact wpAny_execs_nil q
  | ret v => exact q
  | brk => exact q
  | cont => exact q
def tBreak : TS := fun D σ H => D.bk σ H
def tCont : TS := fun D σ H => D.ct σ H
/-- in a def's body nothing is shown -/
theorem Inv.quiet {pins : List (Addr × Obj)} {σ : St} {H : Hp} {s : Shared} (I : Inv X pins σ H s) : interactive X.env = false := by simp [interactive, I.ok.kind]
/-- an expression whose value is dropped -/
def tDrop (te : TE) : TS := fun D σ H => te σ H fun _ H1 => D.nx σ H1
theorem ps_expr (he : PE X e te) (hs : swapsWith e none pos.line X.env = pure false := by rfl) : PS X (.Expr e pos) (tDrop te) := by
  intro pins s σ H D I h
  exact wpAny_Expr_any (thn (he pins s σ H _ I h) fun v s1 ⟨x, H1, I1, r1, q1⟩ => ⟨σ, H1, I1, q1⟩) I.quiet hs
def tRet (te : TE) : TS := fun D σ H => te σ H D.rt
theorem ps_ret (he : PE X e te) : PS X (.Return (some e) pos) (tRet te) := by
  intro pins s σ H D I h
  exact wpAny_Return_some (thn (he pins s σ H _ I h) fun v s1 ⟨x, H1, I1, r1, q1⟩ => ⟨x, σ, H1, I1, r1, q1⟩)
def tRetN : TS := fun D _ H => D.rt .non H
def tIfS (c : TT) (t u : TS) : TS := fun D σ H => c σ H fun b H1 => if b = true then t D σ H1 else u D σ H1
theorem ps_if {c : Expr} {a b : List Stmt} {tc : TT} (hc : PT X c tc) (ha : PSs X a t) (hb : PSs X b u) : PS X (.If c a b pos) (tIfS tc t u) := by
  intro pins s σ H D I h
  refine wpAny_If (thn (hc pins s σ H _ I h) fun d s1 ⟨H1, I1, q1⟩ => ?_)
  cases d with
  | true => exact ha pins s1 σ H1 D I1 q1
  | false => exact hb pins s1 σ H1 D I1 q1
/-- code that the proof never comes to -/
def tNever : TS := fun _ _ _ => False
end

/-! ### targets -/
abbrev TG := V → St → Hp → (St → Hp → Prop) → Prop
abbrev TGs := List V → St → Hp → (St → Hp → Prop) → Prop
def PG (X : Cx) (target : Expr) (t : TG) : Prop :=
  ∀ (pins : List (Addr × Obj)) (s : Shared) (σ : St) (H : Hp) (v : V) (u : Value) (Q : St → Hp → Prop), Inv X pins σ H s → RelV v u → t v σ H Q →
    wpAny (model X.prog X.w) X.A (assign target X.env u) (fun _ s' => ∃ σ' H', Inv X pins σ' H' s' ∧ Q σ' H') X.xe s
/-- several targets, one after another -/
def PGs (X : Cx) (ts : List Expr) (t : TGs) : Prop :=
  ∀ (pins : List (Addr × Obj)) (s : Shared) (σ : St) (H : Hp) (vs : List V) (us : List Value) (Q : St → Hp → Prop), Inv X pins σ H s → Vals vs us → t vs σ H Q →
    wpAny (model X.prog X.w) X.A (assignInOrder ((assignEach ts X.env).map (·.2)) us) (fun _ s' => ∃ σ' H', Inv X pins σ' H' s' ∧ Q σ' H') X.xe s
/-- o[i] = v, by values -/
abbrev TSet := V → V → V → Hp → (Hp → Prop) → Prop
def PSet (X : Cx) (t : TSet) : Prop :=
  ∀ (pins : List (Addr × Obj)) (s : Shared) (σ : St) (H : Hp) (o i v : V) (ov iv u : Value) (Q : Hp → Prop), Inv X pins σ H s → RelV o ov → RelV i iv → RelV v u → t o i v H Q →
    wpAny (model X.prog X.w) X.A (setItem ov iv u) (fun _ s' => ∃ H', Inv X pins σ H' s' ∧ Q H') X.xe s
/-- a op= b, by values -/
abbrev TIp := V → V → Hp → VK → Prop
def PIp (X : Cx) (op : Operator) (t : TIp) : Prop :=
  ∀ (pins : List (Addr × Obj)) (s : Shared) (σ : St) (H : Hp) (x y : V) (v u : Value) (Q : VK), Inv X pins σ H s → RelV x v → RelV y u → t x y H Q →
    wpAny (model X.prog X.w) X.A (inplaceOp op v u) (EP X pins σ Q) X.xe s
section
variable {X : Cx} {pos : Pos}
def gName (i : Nat) : TG := fun v σ H Q => Q (σ.set i (some v)) H
theorem pg_name {i : Nat} {x : Str} (hN : X.N.Nodup) (hi : X.N[i]? = some x) (hx : Loc X.env.scope x) (hf : X.fn x = true ∨ X.env.scope.names.lookup x = some .local := by first | exact .inl rfl | exact .inr rfl | assumption) : PG X (.Name x pos) (gName i) := by
  intro pins s σ H v u Q I r h
  exact wpAny_assign_Name (store_ok I hN hi hx r (fun s' I' => ⟨_, H, I', h⟩) hf)
def gNil : TGs := fun vs σ H Q => vs = [] ∧ Q σ H
def gCons (t : TG) (u : TGs) : TGs := fun vs σ H Q => ∃ v r, vs = v :: r ∧ t v σ H fun σ' H' => u r σ' H' Q
theorem pgs_nil : PGs X [] gNil := by
  intro pins s σ H vs us Q I r h
  obtain ⟨e, h⟩ := h
  subst e
  cases r
  exact assignInOrder_nil ⟨σ, H, I, h⟩
theorem pgs_cons {e : Expr} {es : List Expr} {t : TG} {u : TGs} (h1 : PG X e t) (h2 : PGs X es u)
    (hs : (assignEach (e :: es) X.env).map (·.2) = assign e X.env :: (assignEach es X.env).map (·.2) := by rfl) : PGs X (e :: es) (gCons t u) := by
  intro pins s σ H vs us Q I r h
  obtain ⟨v, vr, e1, h⟩ := h
  subst e1
  cases r with
  | cons r rr =>
    rw [hs]
    refine assignInOrder_cons (thn (h1 pins s σ H _ _ _ I r h) fun _ s1 ⟨σ1, H1, I1, q1⟩ => ?_)
    exact h2 pins s1 σ1 H1 _ _ Q I1 rr q1
/-- (a, b, ..) = a tuple of that length -/
def gTup (K : PySem.W.Frag) (n : Nat) (t : TGs) : TG := fun v σ H Q => ∃ a xs, v = .ref a ∧ SqT K H a xs ∧ xs.length = n ∧ t xs σ H Q
theorem pg_tup {es : List Expr} {k : Nat} {t : TGs} {n : Nat} (hc : X.calm = true) (h : PGs X es t)
    (hn : (assignEach es X.env).length = n := by rfl) (hst : (assignEach es X.env).findIdx? (·.1) = none := by rfl) : PG X (.Tuple es k pos) (gTup X.K n t) := by
  intro pins s σ H v u Q I r hw
  obtain ⟨a, xs, e1, hq, hl, hw⟩ := hw
  subst e1
  cases r
  obtain ⟨its, rv, ht, hz⟩ := I.tuple hq
  refine assign_Tuple_tuple (I.ok.hd hc) ht (by simp [hn, ← hl, rv.length]) hst fun h' hx => ?_
  have I1 : Inv X pins σ H { s with heap := h' } := I.kept (t' := s.toks) fun b o e => hx b o (Nat.ne_of_lt (Heap.lt_size e)) e
  exact h pins _ σ H xs _ Q I1 (by simpa using rv) hw
/-- o[i] = .. -/
def gSub (to ti : TE) (t : TSet) : TG := fun v σ H Q => to σ H fun o H1 => ti σ H1 fun i H2 => t o i v H2 fun H3 => Q σ H3
/-- target = value -/
def tAsg (te : TE) (g : TG) : TS := fun D σ H => te σ H fun x H1 => g x σ H1 D.nx
theorem ps_asg {tg e : Expr} {te : TE} {g : TG} (he : PE X e te) (hg : PG X tg g) (hs : swapsWithSole [tg] e pos.line X.env = pure false := by rfl) (hw : swappedStores [tg] e X.env = pure none := by rfl)
    (h1 : (assignEach [tg] X.env).map (·.2) = [assign tg X.env] := by rfl) : PS X (.Assign [tg] e pos) (tAsg te g) := by
  intro pins s σ H D I h
  refine wpAny_Assign_stores (thn (he pins s σ H _ I h) fun v s1 ⟨x, H1, I1, r1, q1⟩ => ?_) hs hw
  rw [h1]
  exact thn (hg pins s1 σ H1 x v _ I1 r1 q1) fun _ s2 q => q
/-- name = value -/
theorem ps_set {i : Nat} {x : Str} {e : Expr} {te : TE} {pos' : Pos} (hN : X.N.Nodup) (hi : X.N[i]? = some x) (hx : Loc X.env.scope x) (he : PE X e te) (hs : swapsWith e (some (.Name x pos')) pos.line X.env = pure false := by rfl) (hf : X.fn x = true ∨ X.env.scope.names.lookup x = some .local := by first | exact .inl rfl | exact .inr rfl | assumption) :
    PS X (.Assign [.Name x pos'] e pos) (tAsg te (gName i)) := by
  intro pins s σ H D I h
  refine wpAny_Assign_Name (thn (he pins s σ H _ I h) fun v s1 ⟨y, H1, I1, r1, q1⟩ => ?_) hs
  exact store_ok I1 hN hi hx r1 (fun s2 I2 => ⟨_, H1, I2, q1⟩) hf
/-- a, b = x, y with plain local names: stored from the right; the pair itself is not tracked (the opening rows as in PyProof/Rows/TupAssign.lean:23) -/
def tPar (i j : Nat) (ta : TA) : TS := fun D σ H => ta σ H fun vs H1 => ∃ v w, vs = [v, w] ∧ D.nx ((σ.set i (some v)).set j (some w)) H1
/-- name op= e -/
def tAug (i : Nat) (te : TE) (ti : TIp) : TS := fun D σ H => ∃ x, σ[i]? = some (some x) ∧ te σ H fun y H1 => ti x y H1 fun z H2 => D.nx (σ.set i (some z)) H2
/-- o[i] op= e -/
def tAugS (to ti te : TE) (tget : V → V → Hp → VK → Prop) (tip : TIp) (tset : TSet) : TS := fun D σ H => to σ H fun o H1 => ti σ H1 fun i H2 => tget o i H2 fun x H3 => te σ H3 fun y H4 => tip x y H4 fun z H5 => tset o i z H5 fun H6 => D.nx σ H6
/-- o[i], by values -/
def PGet (X : Cx) (t : V → V → Hp → VK → Prop) : Prop :=
  ∀ (pins : List (Addr × Obj)) (s : Shared) (σ : St) (H : Hp) (o i : V) (ov iv : Value) (Q : VK), Inv X pins σ H s → RelV o ov → RelV i iv → t o i H Q →
    wpAny (model X.prog X.w) X.A (getItem ov iv) (EP X pins σ Q) X.xe s
/-- ints -/
def ipI (f : Int → Int → Int) : TIp := fun x y H Q => ∃ i j, x = .int i ∧ y = .int j ∧ Q (.int (f i j)) H
end

/-! ### while -/
section
variable {X : Cx} {pos : Pos}
/-- the invariant W with its measure -/
def tWhile (c : TT) (tb : TS) : TS := fun D σ H => ∃ W : Nat → St → Hp → Prop, (∃ m, W m σ H) ∧ ∀ m σ H, W m σ H →
  c σ H fun b H1 => if b = true then ∃ N : St → Hp → Prop, (∀ σ' H', N σ' H' → ∃ m', m' < m ∧ W m' σ' H') ∧ tb { D with nx := N, ct := N, bk := D.nx } σ H1 else D.nx σ H1
end

/-! ### what a loop or a comprehension walks -/
set_option genSizeOf false in
set_option genInjectivity false in
structure It where
  go : Nat → Hp → Prop
  yld : Nat → Hp → V → Hp → Prop
  stop : Nat → Hp → Prop
/-- the iterator's own objects may turn: they are not the frame's, not pinned, younger than the entry (or a comprehension's own) -/
def FpOk (X : Cx) (pins : List (Addr × Obj)) (H : Hp) (b : Addr) : Prop :=
  H b = none ∧ b ≠ X.env.locals ∧ b ∉ X.fs ∧ (b ∈ X.ex ∨ X.s₀.heap.objs.size ≤ b) ∧ (∀ x c, X.env.cells.lookup x = some c → c ≠ b) ∧ ∀ p ∈ X.pn ++ pins, p.1 ≠ b
theorem Inv.fpOk {X : Cx} {pins : List (Addr × Obj)} {σ : St} {H H' : Hp} {s : Shared} {b : Addr} (I : Inv X pins σ H s) (hb : s.heap.objs.size ≤ b) (hn : H' b = none) : FpOk X pins H' b := by
  refine ⟨hn, Nat.ne_of_gt (Nat.lt_of_lt_of_le I.lt hb), I.nofs hb, .inr (Nat.le_trans I.sz hb), fun x c e z => ?_, fun p hp z => ?_⟩
  · obtain ⟨v, q⟩ := I.cell x c e
    exact absurd (Nat.lt_of_lt_of_le q.lt (by rw [z]; exact hb)) (Nat.lt_irrefl _)
  · exact absurd (Nat.lt_of_lt_of_le (Heap.lt_size (I.pin p hp).1) (by rw [z]; exact hb)) (Nat.lt_irrefl _)
structure Turn (P : Program) (w : World) (K : PySem.W.Frag) (tg : Expr) (J : It) (fp : List Addr) (it : Addr) (tn : Nat → Heap → Prop) : Prop where
  mem : it ∈ fp
  obj : ∀ i h, tn i h → ∀ b ∈ fp, ∃ o, h.get? b = some o ∧ ∀ v, o.data ≠ .cell v
  keep : ∀ i h h', tn i h → (∀ b ∈ fp, ∀ o, h.get? b = some o → h'.get? b = some o) → tn i h'
  item : ∀ (X : Cx), X.prog = P → X.w = w → X.K = K → X.calm = true → ∀ (i : Nat) (pins : List (Addr × Obj)) (s : Shared) (σ : St) (H : Hp) (E : Value → Shared → Prop), Inv X pins σ H s → (∀ b ∈ fp, FpOk X pins H b) → tn i s.heap → J.go i H →
    wpAny (model P w) X.A (pyNext (.ref it)) (fun r s1 => ∃ u, r = some u ∧
      wpAny (model P w) X.A (letOwnedTupleGo tg (.ref it) u) (fun _ s2 => ∃ x H', Inv X pins σ H' s2 ∧ RelV x u ∧ J.yld i H x H' ∧ tn (i + 1) s2.heap ∧ ∀ b ∈ fp, H' b = none) E s1) E s
  done : ∀ (X : Cx), X.prog = P → X.w = w → X.K = K → X.calm = true → ∀ (i : Nat) (pins : List (Addr × Obj)) (s : Shared) (σ : St) (H : Hp) (E : Value → Shared → Prop), Inv X pins σ H s → (∀ b ∈ fp, FpOk X pins H b) → tn i s.heap → J.stop i H →
    wpAny (model P w) X.A (pyNext (.ref it)) (fun r s1 => r = none ∧ Inv X pins σ H s1) E s
  self : ∀ (A : Around) (i : Nat) (s : Shared) (Q : Value → Shared → Prop) (E : Value → Shared → Prop), tn i s.heap → Q (.ref it) s → wpAny (model P w) A (pyIter (.ref it)) Q E s
abbrev TI := St → Hp → (It → Hp → Prop) → Prop
/-- an iterator has come -/
def PIE (X : Cx) (pins : List (Addr × Obj)) (σ : St) (tg : Expr) (R : It → Hp → Prop) (itv : Value) (s2 : Shared) : Prop :=
  ∃ (it : Addr) (fp : List Addr) (tn : Nat → Heap → Prop) (J : It) (H' : Hp), itv = .ref it ∧ Inv X pins σ H' s2 ∧ Turn X.prog X.w X.K tg J fp it tn ∧ tn 0 s2.heap ∧ (∀ b ∈ fp, FpOk X pins H' b) ∧ R J H'
def PI (X : Cx) (tg iter : Expr) (wi : TI) : Prop :=
  ∀ (pins : List (Addr × Obj)) (s : Shared) (σ : St) (H : Hp) (R : It → Hp → Prop), Inv X pins σ H s → wi σ H R →
    wpAny (model X.prog X.w) X.A (eval iter X.env) (fun v s1 => wpAny (model X.prog X.w) X.A (pyIter v) (PIE X pins σ tg R) X.xe s1) X.xe s

/-- the step ahead of the store is nothing for an iterator that keeps no tuple -/
theorem go_of {M : Model} {A : Around} {E : Value → Shared → Prop} {s : Shared} {tg : Expr} {it : Addr} {u : Value} {o : Obj} {n : String} {vs : Array Value} {Q : Unit → Shared → Prop} (ho : s.heap.get? it = some o) (hc : o.cls = .type n) (hd : o.data = .fields vs)
    (hn : ["enumerate", "zip", "dict_itemiterator", "dict_reverseitemiterator", "odict_iterator", "itertools.zip_longest", "itertools.pairwise"].contains n = false) (hQ : Q () s) : wpAny M A (letOwnedTupleGo tg (.ref it) u) Q E s := by
  unfold letOwnedTupleGo
  cases tg <;> first
    | exact wpAny_pure hQ
    | (cases u <;> first
        | exact wpAny_pure hQ
        | (refine wpAny_bind (wpAny_load ho ?_)
           rw [hc, hd]
           show wpAny M A (if (["enumerate", "zip", "dict_itemiterator", "dict_reverseitemiterator", "odict_iterator", "itertools.zip_longest", "itertools.pairwise"].contains n && vs[0]? == some (rawInt _)) = true then _ else _) Q E s
           rw [if_neg (by intro h; rw [hn, Bool.false_and] at h; cases h)]
           exact wpAny_pure hQ))

/-- the list at a, as it stands at each turn (a loop may append to it) -/
def Itl (K : PySem.W.Frag) (a : Addr) : It :=
  ⟨fun i H => ∃ xs x, SqL K H a xs ∧ xs[i]? = some x, fun i H x H' => H' = H ∧ ∀ xs, SqL K H a xs → xs[i]? = some x, fun i H => ∃ xs, SqL K H a xs ∧ xs.length ≤ i⟩
def Itt (K : PySem.W.Frag) (a : Addr) : It :=
  ⟨fun i H => ∃ xs x, SqT K H a xs ∧ xs[i]? = some x, fun i H x H' => H' = H ∧ ∀ xs, SqT K H a xs → xs[i]? = some x, fun i H => ∃ xs, SqT K H a xs ∧ xs.length ≤ i⟩
/-- lo, lo + 1, .. (n of them) -/
def Itr (lo : Int) (n : Nat) : It := ⟨fun i _ => i < n, fun i H x H' => H' = H ∧ x = .int (lo + i), fun i _ => n ≤ i⟩
theorem turn_list {P : Program} {w : World} {K : PySem.W.Frag} {tg : Expr} (a it : Addr) : Turn P w K tg (Itl K a) [it] it (fun i h => h.IsListIter it a i) where
  mem := by simp
  obj := fun i h st b hb => by
    have e : b = it := by simpa using hb
    subst e
    obtain ⟨o, e, c, d⟩ := st
    exact ⟨o, e, fun v z => by rw [d] at z; cases z⟩
  keep := fun i h h' st k => st.at fun o e => k it (by simp) o e
  item := by
    intro X hP hw hK hc i pins s σ H E I hf st hg
    subst hP hw hK
    obtain ⟨xs, x, hq, hx⟩ := hg
    obtain ⟨its, rv, p, hz⟩ := I.list hq
    obtain ⟨u, hu, ru⟩ := rv.get hx
    obtain ⟨f0, f1, f2, f3, f4, f5⟩ := hf it (by simp)
    refine wpAny_pyNext_list_item st p.isList (x := u) (by simpa using hu) fun h' st' sb => ?_
    have I1 : Inv X pins σ H { s with heap := h' } := I.turned (t' := s.toks) (fun b o hb e => (sb.2 b hb).trans e) f0 f1 f3 f4 f5
    obtain ⟨o, e, c, d⟩ := id st'
    exact ⟨u, rfl, go_of (s := { s with heap := h' }) e c d (by decide) ⟨x, H, I1, ru, ⟨rfl, fun ys hy => by rw [I.list_inj hy hq]; exact hx⟩, st', fun b hb => (hf b hb).1⟩⟩
  done := by
    intro X hP hw hK hc i pins s σ H E I hf st hg
    subst hP hw hK
    obtain ⟨xs, hq, hx⟩ := hg
    obtain ⟨its, rv, p, hz⟩ := I.list hq
    obtain ⟨f0, f1, f2, f3, f4, f5⟩ := hf it (by simp)
    have hl := rv.length
    exact wpAny_pyNext_list_end (I.ok.hd hc) st p.isList (by simp; omega) fun h' eb => ⟨rfl, I.turned (t' := s.toks) (fun b o hb e => eb b o hb e) f0 f1 f3 f4 f5⟩
  self := fun _ _ _ _ _ st h => wpAny_pyIter_listiter st h
theorem turn_tuple {P : Program} {w : World} {K : PySem.W.Frag} {tg : Expr} (a it : Addr) : Turn P w K tg (Itt K a) [it] it (fun i h => h.IsTupleIter it a i) where
  mem := by simp
  obj := fun i h st b hb => by
    have e : b = it := by simpa using hb
    subst e
    obtain ⟨o, e, c, d⟩ := st
    exact ⟨o, e, fun v z => by rw [d] at z; cases z⟩
  keep := fun i h h' st k => st.at fun o e => k it (by simp) o e
  item := by
    intro X hP hw hK hc i pins s σ H E I hf st hg
    subst hP hw hK
    obtain ⟨xs, x, hq, hx⟩ := hg
    obtain ⟨its, rv, p, hz⟩ := I.tuple hq
    obtain ⟨u, hu, ru⟩ := rv.get hx
    obtain ⟨f0, f1, f2, f3, f4, f5⟩ := hf it (by simp)
    refine wpAny_pyNext_tuple_item st (show s.heap.IsTuple a its.toArray from p) (x := u) (by simpa using hu) fun h' st' sb => ?_
    have I1 : Inv X pins σ H { s with heap := h' } := I.turned (t' := s.toks) (fun b o hb e => (sb.2 b hb).trans e) f0 f1 f3 f4 f5
    obtain ⟨o, e, c, d⟩ := id st'
    exact ⟨u, rfl, go_of (s := { s with heap := h' }) e c d (by decide) ⟨x, H, I1, ru, ⟨rfl, fun ys hy => by rw [I.tuple_inj hy hq]; exact hx⟩, st', fun b hb => (hf b hb).1⟩⟩
  done := by
    intro X hP hw hK hc i pins s σ H E I hf st hg
    subst hP hw hK
    obtain ⟨xs, hq, hx⟩ := hg
    obtain ⟨its, rv, p, hz⟩ := I.tuple hq
    obtain ⟨f0, f1, f2, f3, f4, f5⟩ := hf it (by simp)
    have hl := rv.length
    exact wpAny_pyNext_tuple_end (I.ok.hd hc) st (show s.heap.IsTuple a its.toArray from p) (by simp; omega) fun h' eb => ⟨rfl, I.turned (t' := s.toks) (fun b o hb e => eb b o hb e) f0 f1 f3 f4 f5⟩
  self := fun _ _ _ _ _ st h => wpAny_pyIter_tupleiter st h
theorem turn_range {P : Program} {w : World} {K : PySem.W.Frag} {tg : Expr} (it : Addr) (lo : Int) (n : Nat) : Turn P w K tg (Itr lo n) [it] it (fun i h => IsRangeIter h it (lo + (i : Nat) * 1) ((n : Int) - (i : Nat)) 1) where
  mem := by simp
  obj := fun i h st b hb => by
    have e : b = it := by simpa using hb
    subst e
    exact ⟨_, st, fun v z => by
      have z' : Data.fields _ = Data.cell v := z
      cases z'⟩
  keep := fun i h h' st k => k it (by simp) _ st
  item := by
    intro X hP hw hK hc i pins s σ H E I hf st hg
    subst hP hw hK
    obtain ⟨f0, f1, f2, f3, f4, f5⟩ := hf it (by simp)
    have W := Walks.range (prog := X.prog) (w := X.w) (I.ok.hd hc) it lo 1 n
    refine W.item i s _ _ hg st fun v h' tk hv st' kk => ?_
    obtain ⟨t, rfl⟩ := hv
    have I1 : Inv X pins σ H { s with heap := h', toks := tk } := I.turned (fun b o hb e => kk b o (by simpa using hb) e) f0 f1 f3 f4 f5
    refine ⟨_, rfl, go_of (s := { s with heap := h', toks := tk }) (n := "range_iterator") st' rfl rfl (by decide) ⟨.int (lo + i), H, I1, ⟨t, ?_⟩, ⟨rfl, rfl⟩, st', fun b hb => (hf b hb).1⟩⟩
    rw [Int.mul_one]
  done := by
    intro X hP hw hK hc i pins s σ H E I hf st hg
    subst hP hw hK
    obtain ⟨f0, f1, f2, f3, f4, f5⟩ := hf it (by simp)
    exact wpAny_pyNext_range_end (I.ok.hd hc) st (by have : n ≤ i := hg; omega) fun h' eb => ⟨rfl, I.turned (t' := s.toks) (fun b o hb e => eb b o hb e) f0 f1 f3 f4 f5⟩
  self := fun _ _ _ _ _ st h => wpAny_pyIter_rangeiter st h
end L2

namespace L2
open PySem PySem.Spec PyProof.Rows
section
variable {X : Cx} {tg : Expr}
def iList (K : PySem.W.Frag) (tl : TE) : TI := fun σ H R => tl σ H fun x H1 => ∃ a, x = .ref a ∧ (∃ xs, SqL K H1 a xs) ∧ R (Itl K a) H1
def iTup (K : PySem.W.Frag) (tl : TE) : TI := fun σ H R => tl σ H fun x H1 => ∃ a, x = .ref a ∧ (∃ xs, SqT K H1 a xs) ∧ R (Itt K a) H1
theorem pi_list {l : Expr} {tl : TE} (hl : PE X l tl) : PI X tg l (iList X.K tl) := by
  intro pins s σ H R I h
  refine thn (hl pins s σ H _ I h) fun v s1 ⟨x, H1, I1, r1, q1⟩ => ?_
  obtain ⟨a, e, ⟨xs, hq⟩, q⟩ := q1
  subst e
  cases r1
  obtain ⟨its, rv, p, hz⟩ := I1.list hq
  refine wpAny_pyIter_list p.isList ?_
  refine ⟨s1.heap.objs.size, [s1.heap.objs.size], _, _, H1, rfl, I1.kept (t' := s1.toks) fun b o e => Heap.get?_push_of_some _ e, turn_list a _, ⟨_, Heap.get?_push_size _ rfl, rfl, rfl⟩, fun b hb => ?_, q⟩
  have e : b = s1.heap.objs.size := by simpa using hb
  subst e
  exact I1.fpOk (Nat.le_refl _) (I1.hok.fresh (Nat.le_refl _))
theorem pi_tup {l : Expr} {tl : TE} (hl : PE X l tl) : PI X tg l (iTup X.K tl) := by
  intro pins s σ H R I h
  refine thn (hl pins s σ H _ I h) fun v s1 ⟨x, H1, I1, r1, q1⟩ => ?_
  obtain ⟨a, e, ⟨xs, hq⟩, q⟩ := q1
  subst e
  cases r1
  obtain ⟨its, rv, p, hz⟩ := I1.tuple hq
  refine wpAny_pyIter_tuple (show s1.heap.IsTuple a its.toArray from p) ?_
  refine ⟨s1.heap.objs.size, [s1.heap.objs.size], _, _, H1, rfl, I1.kept (t' := s1.toks) fun b o e => Heap.get?_push_of_some _ e, turn_tuple a _, ⟨_, Heap.get?_push_size _ rfl, rfl, rfl⟩, fun b hb => ?_, q⟩
  have e : b = s1.heap.objs.size := by simpa using hb
  subst e
  exact I1.fpOk (Nat.le_refl _) (I1.hok.fresh (Nat.le_refl _))
/-- a range object just made, walked -/
theorem range_it {pins : List (Addr × Obj)} {σ : St} {H : Hp} {s : Shared} {R : It → Hp → Prop} {E : Value → Shared → Prop} {lo hi : Int} {t u v : Tok} {tk : Nat} (I : Inv X pins σ H s) (h1 : -(2 ^ 62) ≤ lo) (h2 : lo < 2 ^ 62) (h3 : -(2 ^ 62) ≤ hi) (h4 : hi < 2 ^ 62)
    (q : R (Itr lo (hi - lo).toNat) H) : wpAny (model X.prog X.w) X.A (pyIter (.ref s.heap.objs.size)) (PIE X pins σ tg R) E { s with heap := s.heap.push { cls := .type "range", data := .fields #[.int lo t, .int hi u, .int 1 v] }, toks := tk } := by
  refine wpAny_pyIter_range (IsRange.new ..) (small_one h1 h2 h3 h4) ?_
  have I1 : Inv X pins σ H { s with heap := s.heap.push { cls := .type "range", data := .fields #[.int lo t, .int hi u, .int 1 v] }, toks := tk } := I.kept fun b o e => Heap.get?_push_of_some _ e
  refine ⟨(s.heap.push { cls := .type "range", data := .fields #[.int lo t, .int hi u, .int 1 v] }).objs.size, [(s.heap.push { cls := .type "range", data := .fields #[.int lo t, .int hi u, .int 1 v] }).objs.size], _, _, H, rfl,
    I1.kept (t' := tk) fun b o e => Heap.get?_push_of_some _ e, turn_range _ lo (hi - lo).toNat, ?_, fun b hb => ?_, q⟩
  · have e1 : lo + ((0 : Nat) : Int) * 1 = lo := by simp
    have e2 : (((hi - lo).toNat : Nat) : Int) - ((0 : Nat) : Int) = Builtin.Range.rangeSize lo hi 1 := by rw [rangeSize_one]; split <;> omega
    show IsRangeIter _ _ (lo + ((0 : Nat) : Int) * 1) ((((hi - lo).toNat : Nat) : Int) - ((0 : Nat) : Int)) 1
    rw [e1, e2]
    exact Heap.get?_push_size _ rfl
  · have e : b = (s.heap.push { cls := .type "range", data := .fields #[.int lo t, .int hi u, .int 1 v] }).objs.size := by simpa using hb
    subst e
    exact I1.fpOk (Nat.le_refl _) (I1.hok.fresh (Nat.le_refl _))
def iRng1 (ta : TA) : TI := fun σ H R => ta σ H fun vs H1 => ∃ j : Int, vs = [.int j] ∧ -(2 ^ 62) ≤ j ∧ j < 2 ^ 62 ∧ R (Itr 0 j.toNat) H1
def iRng2 (ta : TA) : TI := fun σ H R => ta σ H fun vs H1 => ∃ i j : Int, vs = [.int i, .int j] ∧ (-(2 ^ 62) ≤ i ∧ i < 2 ^ 62 ∧ -(2 ^ 62) ≤ j ∧ j < 2 ^ 62) ∧ R (Itr i (j - i).toNat) H1
theorem pi_range1 {a : Expr} {ta : TA} {p pos : Pos} (hg : Gl X "range") (hm : X.mg "range" = none) (ha : PA X [a] ta) (hs : starEach [a] X.env = [(false, eval a X.env)] := by rfl) : PI X tg (.Call (.Name "range" p) [a] [] pos) (iRng1 ta) := by
  intro pins s σ H R I h
  refine Call_ (ld_blt I hg hm boot_range (PyProof.Rows.callWith_type1 (thn (ha pos pins s σ H _ I h) fun us s1 ⟨vs, H1, I1, r1, q1⟩ => ?_) hs rfl))
  obtain ⟨j, e, q1, q2, q⟩ := q1
  subst e
  cases r1 with
  | cons r rr =>
    cases rr
    obtain ⟨t, rfl⟩ := r
    exact call_range_1 (range_it I1 (by omega) (by omega) q1 q2 (by simpa using q))
/-! ### for -/
/-- W: the invariant by the turn and a measure; N: what the body is to reach -/
def tFor (wi : TI) (g : TG) (tb : TS) : TS := fun D σ H => wi σ H fun J H1 => ∃ W : Nat → Nat → St → Hp → Prop, (∃ m, W 0 m σ H1) ∧ ∀ i m σ H, W i m σ H →
  (J.stop i H ∧ D.nx σ H) ∨ (J.go i H ∧ ∃ N : St → Hp → Prop, (∀ σ' H', N σ' H' → ∃ m', m' < m ∧ W (i + 1) m' σ' H') ∧ ∀ x H', J.yld i H x H' → g x σ H' fun σ2 H2 => tb { D with nx := N, ct := N, bk := D.nx } σ2 H2)
/-- the records at fp as they stand -/
def pinsAt (fp : List Addr) (h : Heap) : List (Addr × Obj) := fp.filterMap fun b => (h.get? b).map fun o => (b, o)
theorem mem_pinsAt {fp : List Addr} {h : Heap} {b : Addr} {o : Obj} (hb : b ∈ fp) (e : h.get? b = some o) : (b, o) ∈ pinsAt fp h := List.mem_filterMap.mpr ⟨b, hb, by rw [e]; rfl⟩
theorem of_pinsAt {fp : List Addr} {h : Heap} {p : Addr × Obj} (hp : p ∈ pinsAt fp h) : p.1 ∈ fp ∧ h.get? p.1 = some p.2 := by
  obtain ⟨b, hb, e⟩ := List.mem_filterMap.mp hp
  cases q : h.get? b with
  | none => rw [q] at e; cases e
  | some o =>
    rw [q] at e
    have e' : (b, o) = p := Option.some.inj e
    subst e'
    exact ⟨hb, q⟩
theorem Inv.pinned {pins : List (Addr × Obj)} {σ : St} {H : Hp} {s : Shared} {fp : List Addr} (I : Inv X pins σ H s) (hf : ∀ b ∈ fp, FpOk X pins H b) (ho : ∀ b ∈ fp, ∃ o, s.heap.get? b = some o ∧ ∀ v, o.data ≠ .cell v) : Inv X (pins ++ pinsAt fp s.heap) σ H s :=
  I.pins_of fun p hp => (List.mem_append.mp hp).elim (fun z => I.pin p (List.mem_append_right _ z)) fun z => by
    obtain ⟨hb, e⟩ := of_pinsAt z
    obtain ⟨f0, f1, f2, _⟩ := hf p.1 hb
    obtain ⟨o, e', d⟩ := ho p.1 hb
    rw [e] at e'; cases e'
    exact ⟨e, f0, f1, f2, d⟩
theorem Inv.unpinned {pins pl : List (Addr × Obj)} {σ : St} {H : Hp} {s : Shared} (I : Inv X (pins ++ pl) σ H s) : Inv X pins σ H s := I.pins_of fun p hp => I.pin p (List.mem_append_right _ (List.mem_append_left _ hp))
theorem ps_for {iter : Expr} {body : List Stmt} {wi : TI} {g : TG} {tb : TS} {pos : Pos} (hp : PassesOwn (model X.prog X.w) X.A X.env X.xe) (hc : X.calm = true) (hi : PI X tg iter wi) (hg : PG X tg g) (hb : PSs X body tb)
    (hs : ∀ x, foldedSetIterable iter X.env x = pure x := by intro _; rfl) : PS X (.For tg iter body [] pos) (tFor wi g tb) := by
  intro pins s σ H D I h
  refine wpAny_For (thn (hi pins s σ H _ I h) fun v s1 h1 => thn h1 fun itv s2 h2 => ?_) hs
  obtain ⟨it, fp, tn, J, H2, e, I2, T, st2, f2, W, ⟨m0, w0⟩, turn⟩ := h2
  subst e
  -- what stays true of the iterator's objects through the loop
  have stat : ∀ {H' : Hp}, (∀ b ∈ fp, H' b = none) → ∀ b ∈ fp, FpOk X pins H' b := fun hn b hb => ⟨hn b hb, (f2 b hb).2⟩
  refine codeAny_forLoop_any (fun n s' => ∃ i σ' H', Inv X pins σ' H' s' ∧ tn i s'.heap ∧ (∀ b ∈ fp, H' b = none) ∧ W i n σ' H') ?_ m0 ⟨0, σ, H2, I2, st2, fun b hb => (f2 b hb).1, w0⟩
  rintro n s3 ⟨i, σ3, H3, I3, st3, fr3, w3⟩
  rcases turn i n σ3 H3 w3 with ⟨stop, qn⟩ | ⟨go, N, hN, step⟩
  · refine wpAny_passesOwn hp (thn (T.done X rfl rfl rfl hc i pins s3 σ3 H3 X.xe I3 (stat fr3) st3 stop) fun r s4 ⟨hr, I4⟩ => ?_)
    subst hr
    exact wpAny_execs_nil ⟨σ3, H3, I4, qn⟩
  · refine wpAny_passesOwn hp (thn (T.item X rfl rfl rfl hc i pins s3 σ3 H3 X.xe I3 (stat fr3) st3 go) fun r s4 ⟨u, hr, h4⟩ => ?_)
    subst hr
    refine wpAny_passesOwn hp (thn h4 fun _ s5 ⟨x, H5, I5, r5, y5, st5, fr5⟩ => ?_)
    have I5' := I5.pinned (stat fr5) (T.obj _ _ st5)
    refine wpAny_passesOwn hp (thn (hg _ s5 σ3 H5 x u _ I5' r5 (step x H5 y5)) fun _ s6 ⟨σ6, H6, I6, q6⟩ => ?_)
    refine wpAny_passesOwn hp (thn (hb _ s6 σ6 H6 _ I6 q6) fun f s7 q7 => ?_)
    have again : ∀ {σ7 : St} {H7 : Hp}, Inv X (pins ++ pinsAt fp s5.heap) σ7 H7 s7 → N σ7 H7 → ∃ m, m < n ∧ ∃ i σ' H', Inv X pins σ' H' s7 ∧ tn i s7.heap ∧ (∀ b ∈ fp, H' b = none) ∧ W i m σ' H' := fun {σ7 H7} I7 n7 => by
      obtain ⟨m', hm, w7⟩ := hN σ7 H7 n7
      refine ⟨m', hm, i + 1, σ7, H7, I7.unpinned, T.keep _ _ _ st5 fun b hb o e => (I7.pin (b, o) (List.mem_append_right _ (List.mem_append_right _ (mem_pinsAt hb e)))).1, fun b hb => ?_, w7⟩
      obtain ⟨o, e, d⟩ := T.obj _ _ st5 b hb
      exact (I7.pin (b, o) (List.mem_append_right _ (List.mem_append_right _ (mem_pinsAt hb e)))).2.1
    cases f with
    | next => obtain ⟨σ7, H7, I7, n7⟩ := q7; exact again I7 n7
    | cont => obtain ⟨σ7, H7, I7, n7⟩ := q7; exact again I7 n7
    | brk => obtain ⟨σ7, H7, I7, q7⟩ := q7; exact ⟨σ7, H7, I7.unpinned, q7⟩
    | ret v => obtain ⟨x7, σ7, H7, I7, r7, q7⟩ := q7; exact ⟨x7, σ7, H7, I7.unpinned, r7, q7⟩
end

/-! ### the forms one uses -/
end L2

namespace L2
open PySem PySem.Spec PyProof.Rows

abbrev R2 := V → V → Hp → VK → Prop
/-- a two-place operation on values: f is binaryOp op, inplaceOp op or compareOp op -/
def OpR (X : Cx) (f : Value → Value → Sem Value) (r : R2) : Prop :=
  ∀ (pins : List (Addr × Obj)) (s : Shared) (σ : St) (H : Hp) (x y : V) (v u : Value) (Q : VK), Inv X pins σ H s → RelV x v → RelV y u → r x y H Q →
    wpAny (model X.prog X.w) X.A (f v u) (EP X pins σ Q) X.xe s
/-- a one-place operation -/
def UnR (X : Cx) (f : Value → Sem Value) (r : V → Hp → VK → Prop) : Prop :=
  ∀ (pins : List (Addr × Obj)) (s : Shared) (σ : St) (H : Hp) (x : V) (v : Value) (Q : VK), Inv X pins σ H s → RelV x v → r x H Q →
    wpAny (model X.prog X.w) X.A (f v) (EP X pins σ Q) X.xe s
/-- a call of a value that is known (a builtin, a type) with values -/
def CallR (X : Cx) (f : Value) (r : List V → Hp → VK → Prop) : Prop :=
  ∀ (pins : List (Addr × Obj)) (s : Shared) (σ : St) (H : Hp) (xs : List V) (us : List Value) (Q : VK), Inv X pins σ H s → Vals xs us → r xs H Q →
    wpAny (model X.prog X.w) X.A (call f us) (EP X pins σ Q) X.xe s
/-- a value's truth -/
def TruR (X : Cx) (r : V → Hp → (Bool → Hp → Prop) → Prop) : Prop :=
  ∀ (pins : List (Addr × Obj)) (s : Shared) (σ : St) (H : Hp) (x : V) (v : Value) (Q : Bool → Hp → Prop), Inv X pins σ H s → RelV x v → r x H Q →
    wpAny (model X.prog X.w) X.A (truthy v) (TP X pins σ Q) X.xe s

def tOp (r : R2) (ta tb : TE) : TE := fun σ H Q => ta σ H fun x H1 => tb σ H1 fun y H2 => r x y H2 Q
def tUn (r : V → Hp → VK → Prop) (ta : TE) : TE := fun σ H Q => ta σ H fun x H1 => r x H1 Q
/-- ints in, under C, and a value out -/
def rI (C : Int → Int → Prop) (g : Int → Int → V) : R2 := fun x y H Q => ∃ i j, x = .int i ∧ y = .int j ∧ C i j ∧ Q (g i j) H
def rI0 (g : Int → Int → V) : R2 := fun x y H Q => ∃ i j, x = .int i ∧ y = .int j ∧ Q (g i j) H
def rU (g : Int → V) : V → Hp → VK → Prop := fun x H Q => ∃ i, x = .int i ∧ Q (g i) H

section
variable {X : Cx} {a b c : Expr} {ta tb tc : TE} {pos : Pos}

theorem binT (ha : PE X a ta) (hb : PE X b tb) {pins : List (Addr × Obj)} {s : Shared} {σ : St} {H : Hp} {R : V → V → Hp → Prop} (I : Inv X pins σ H s)
    (h : ta σ H fun x H1 => tb σ H1 fun y H2 => R x y H2) {Q : Value → Shared → Prop} {f : Value → Value → Sem Value}
    (hf : ∀ v u s2 x y H2, Inv X pins σ H2 s2 → RelV x v → RelV y u → R x y H2 → wpAny (model X.prog X.w) X.A (f v u) Q X.xe s2) :
    wpAny (model X.prog X.w) X.A (eval a X.env) (fun v s₁ => wpAny (model X.prog X.w) X.A (eval b X.env) (fun u s₂ => wpAny (model X.prog X.w) X.A (f v u) Q X.xe s₂) X.xe s₁) X.xe s := by
  refine thn (ha pins s σ H _ I h) fun v s1 ⟨x, H1, I1, r1, q1⟩ => ?_
  refine thn (hb pins s1 σ H1 _ I1 q1) fun u s2 ⟨y, H2, I2, r2, q2⟩ => ?_
  exact hf v u s2 x y H2 I2 r1 r2 q2

theorem pe_op {op : Operator} {r : R2} (ho : OpR X (binaryOp op) r) (ha : PE X a ta) (hb : PE X b tb) : PE X (.BinOp a op b pos) (tOp r ta tb) := by
  intro pins s σ H Q I h
  exact wpAny_BinOp (binT ha hb I h fun v u s2 x y H2 I2 rx ry q => ho pins s2 σ H2 x y v u Q I2 rx ry q)
theorem pe_un {op : UnaryOp} {r : V → Hp → VK → Prop} (ho : UnR X (unaryOp op) r) (ha : PE X a ta) : PE X (.UnaryOp op a pos) (tUn r ta) := by
  intro pins s σ H Q I h
  exact UnaryOp_ (thn (ha pins s σ H _ I h) fun v s1 ⟨x, H1, I1, r1, q1⟩ => ho pins s1 σ H1 x v Q I1 r1 q1)
/-! ### ints -/
theorem opI {f : Value → Value → Sem Value} {C : Int → Int → Prop} {g : Int → Int → Int}
    (rule : ∀ (i j : Int) (t u : Tok) (s : Shared) (Q : Value → Shared → Prop) (E : Value → Shared → Prop), C i j → Q (.int (g i j) s.toks) { s with toks := s.toks + 1 } → wpAny (model X.prog X.w) X.A (f (.int i t) (.int j u)) Q E s) :
    OpR X f (rI C fun i j => .int (g i j)) := by
  intro pins s σ H x y v u Q I rx ry h
  obtain ⟨i, j, rfl, rfl, hc, q⟩ := h
  obtain ⟨t, rfl⟩ := rx
  obtain ⟨t', rfl⟩ := ry
  exact rule i j t t' s _ _ hc ⟨.int (g i j), H, I.tok _, ⟨_, rfl⟩, q⟩
theorem opI0 {f : Value → Value → Sem Value} {g : Int → Int → Int}
    (rule : ∀ (i j : Int) (t u : Tok) (s : Shared) (Q : Value → Shared → Prop) (E : Value → Shared → Prop), Q (.int (g i j) s.toks) { s with toks := s.toks + 1 } → wpAny (model X.prog X.w) X.A (f (.int i t) (.int j u)) Q E s) :
    OpR X f (rI0 fun i j => .int (g i j)) := by
  intro pins s σ H x y v u Q I rx ry h
  obtain ⟨i, j, rfl, rfl, q⟩ := h
  obtain ⟨t, rfl⟩ := rx
  obtain ⟨t', rfl⟩ := ry
  exact rule i j t t' s _ _ ⟨.int (g i j), H, I.tok _, ⟨_, rfl⟩, q⟩
theorem opB0 {f : Value → Value → Sem Value} {g : Int → Int → Bool}
    (rule : ∀ (i j : Int) (t u : Tok) (s : Shared) (Q : Value → Shared → Prop) (E : Value → Shared → Prop), Q (.bool (g i j)) s → wpAny (model X.prog X.w) X.A (f (.int i t) (.int j u)) Q E s) :
    OpR X f (rI0 fun i j => .bl (g i j)) := by
  intro pins s σ H x y v u Q I rx ry h
  obtain ⟨i, j, rfl, rfl, q⟩ := h
  obtain ⟨t, rfl⟩ := rx
  obtain ⟨t', rfl⟩ := ry
  exact rule i j t t' s _ _ ⟨.bl (g i j), H, I, rfl, q⟩

def CDiv (i j : Int) : Prop := 0 < j ∧ j < 1073741824
def CDivN (i j : Int) : Prop := j ≠ 0 ∧ j.natAbs < 1073741824
def CPow (i j : Int) : Prop := 0 ≤ j ∧ j ≤ 1000000 ∧ i.natAbs < 2 ^ 64
def CMul (i j : Int) : Prop := (-(2 ^ 64) < i ∧ i < 2 ^ 64) ∨ (-(2 ^ 64) < j ∧ j < 2 ^ 64)
theorem op_add : OpR X (binaryOp .Add) (rI0 fun i j => .int (i + j)) := opI0 fun _ _ _ _ _ _ _ q => add_int q
theorem op_sub : OpR X (binaryOp .Sub) (rI0 fun i j => .int (i - j)) := opI0 fun _ _ _ _ _ _ _ q => sub_int q
/-- % by a positive divisor of any size -/
theorem op_mod : OpR X (binaryOp .Mod) (rI (fun _ j => 0 < j) fun i j => .int (i % j)) := opI fun i j _ _ _ _ _ hc q => by
  have h1 : (0 : Int) < j := hc
  exact mod_int' (by omega) (by rw [Int.fmod_eq_emod_of_nonneg i (by omega)]; exact q)
theorem op_modN : OpR X (binaryOp .Mod) (rI (fun _ j => j ≠ 0) fun i j => .int (i.fmod j)) := opI fun _ _ _ _ _ _ _ hc q => mod_int' hc q
theorem op_pow : OpR X (binaryOp .Pow) (rI CPow fun i j => .int (i ^ j.toNat)) := opI fun _ _ _ _ _ _ _ hc q => pow_int_small hc.1 hc.2.1 hc.2.2 q
theorem unI {f : Value → Sem Value} {g : Int → Int}
    (rule : ∀ (i : Int) (t : Tok) (s : Shared) (Q : Value → Shared → Prop) (E : Value → Shared → Prop), Q (.int (g i) s.toks) { s with toks := s.toks + 1 } → wpAny (model X.prog X.w) X.A (f (.int i t)) Q E s) :
    UnR X f (rU fun i => .int (g i)) := by
  intro pins s σ H x v Q I rx h
  obtain ⟨i, rfl, q⟩ := h
  obtain ⟨t, rfl⟩ := rx
  exact rule i t s _ _ ⟨.int (g i), H, I.tok _, ⟨_, rfl⟩, q⟩
theorem un_neg : UnR X (unaryOp .USub) (rU fun i => .int (-i)) := unI fun _ _ _ _ _ q => neg_int q
/-! ### bools among ints: n += (a < b) -/
end

/-! ### comparisons -/
/-- the scalars that == tells apart as data does -/
def scal : V → V → Bool
  | .non, .non => true | .non, .int _ => true | .int _, .non => true | .non, .bl _ => true | .bl _, .non => true | .non, .str _ => true | .str _, .non => true
  | .int _, .int _ => true | .bl _, .bl _ => true | .str _, .str _ => true | .byt _, .byt _ => true
  | .int _, .str _ => true | .str _, .int _ => true | .bl _, .str _ => true | .str _, .bl _ => true
  | _, _ => false
def rEq : R2 := fun x y H Q => scal x y = true ∧ Q (.bl (decide (x = y))) H
def rNe : R2 := fun x y H Q => scal x y = true ∧ Q (.bl (!decide (x = y))) H

theorem dec_int {i j : Int} : decide (V.int i = V.int j) = (i == j) := by
  rw [Bool.eq_iff_iff]
  simp
theorem dec_bl {i j : Bool} : decide (V.bl i = V.bl j) = (i == j) := by
  rw [Bool.eq_iff_iff]
  simp
theorem dec_str {i j : Str} : decide (V.str i = V.str j) = (i == j) := by
  rw [Bool.eq_iff_iff]
  simp
theorem dec_byt {i j : Array UInt8} : decide (V.byt i = V.byt j) = (i.toList == j.toList) := by
  rw [Bool.eq_iff_iff]
  cases i
  cases j
  simp

section
variable {X : Cx} {a b c : Expr} {ta tb tc : TE} {pos : Pos}
theorem fin_bl {pins : List (Addr × Obj)} {σ : St} {H : Hp} {s : Shared} {Q : VK} {k k' : Bool} (I : Inv X pins σ H s) (q : Q (.bl k) H) (e : k = k') : EP X pins σ Q (.bool k') s := by
  subst e
  exact ⟨.bl k, H, I, rfl, q⟩
theorem op_eq : OpR X (compareOp .Eq) rEq := by
  intro pins s σ H x y v u Q I rx ry h
  obtain ⟨hs, q⟩ := h
  cases x with
  | non =>
    cases rx
    cases y with
    | non => cases ry; exact PySem.EqNone.eq_none_none (fin_bl I q (by simp))
    | bl j => cases ry; exact PySem.EqNone.eq_none_bool (fin_bl I q (by simp))
    | int j => obtain ⟨t', rfl⟩ := ry; exact PySem.EqNone.eq_none_int (fin_bl I q (by simp))
    | str j => obtain ⟨t', rfl⟩ := ry; exact PySem.EqNone.eq_none_str (fin_bl I q (by simp))
    | _ => exact absurd (show false = true from hs) Bool.false_ne_true
  | bl i =>
    cases rx
    cases y with
    | non => cases ry; exact PySem.EqNone.eq_bool_none (fin_bl I q (by simp))
    | bl j => cases ry; exact eq_bool (fin_bl I q dec_bl)
    | str j => obtain ⟨t', rfl⟩ := ry; exact PySem.EqMixed.eq_bool_str (fin_bl I q (by simp))
    | _ => exact absurd (show false = true from hs) Bool.false_ne_true
  | int i =>
    obtain ⟨t, rfl⟩ := rx
    cases y with
    | non => cases ry; exact PySem.EqNone.eq_int_none (fin_bl I q (by simp))
    | int j => obtain ⟨t', rfl⟩ := ry; exact eq_int (fin_bl I q dec_int)
    | str j => obtain ⟨t', rfl⟩ := ry; exact PySem.EqMixed.eq_int_str (fin_bl I q (by simp))
    | _ => exact absurd (show false = true from hs) Bool.false_ne_true
  | str i =>
    obtain ⟨t, rfl⟩ := rx
    cases y with
    | non => cases ry; exact PySem.EqNone.eq_str_none (fin_bl I q (by simp))
    | bl j => cases ry; exact PySem.EqMixed.eq_str_bool (fin_bl I q (by simp))
    | int j => obtain ⟨t', rfl⟩ := ry; exact PySem.EqMixed.eq_str_int (fin_bl I q (by simp))
    | str j => obtain ⟨t', rfl⟩ := ry; exact eq_str (fin_bl I q dec_str)
    | _ => exact absurd (show false = true from hs) Bool.false_ne_true
  | byt i =>
    obtain ⟨t, rfl⟩ := rx
    cases y with
    | byt j => obtain ⟨t', rfl⟩ := ry; exact PySem.W.eq_bytes (fin_bl I q dec_byt)
    | _ => exact absurd (show false = true from hs) Bool.false_ne_true
  | _ => cases y <;> exact absurd (show false = true from hs) Bool.false_ne_true
theorem op_ne : OpR X (compareOp .NotEq) rNe := by
  intro pins s σ H x y v u Q I rx ry h
  obtain ⟨hs, q⟩ := h
  cases x with
  | non =>
    cases rx
    cases y with
    | non => cases ry; exact PySem.EqNone.ne_none_none (fin_bl I q (by simp))
    | bl j => cases ry; exact PySem.EqNone.ne_none_bool (fin_bl I q (by simp))
    | int j => obtain ⟨t', rfl⟩ := ry; exact PySem.EqNone.ne_none_int (fin_bl I q (by simp))
    | str j => obtain ⟨t', rfl⟩ := ry; exact PySem.EqNone.ne_none_str (fin_bl I q (by simp))
    | _ => exact absurd (show false = true from hs) Bool.false_ne_true
  | bl i =>
    cases rx
    cases y with
    | non => cases ry; exact PySem.EqNone.ne_bool_none (fin_bl I q (by simp))
    | bl j => cases ry; exact ne_bool (fin_bl I q (congrArg not dec_bl))
    | str j => obtain ⟨t', rfl⟩ := ry; exact PySem.EqMixed.ne_bool_str (fin_bl I q (by simp))
    | _ => exact absurd (show false = true from hs) Bool.false_ne_true
  | int i =>
    obtain ⟨t, rfl⟩ := rx
    cases y with
    | non => cases ry; exact PySem.EqNone.ne_int_none (fin_bl I q (by simp))
    | int j => obtain ⟨t', rfl⟩ := ry; exact ne_int (fin_bl I q (congrArg not dec_int))
    | str j => obtain ⟨t', rfl⟩ := ry; exact PySem.EqMixed.ne_int_str (fin_bl I q (by simp))
    | _ => exact absurd (show false = true from hs) Bool.false_ne_true
  | str i =>
    obtain ⟨t, rfl⟩ := rx
    cases y with
    | non => cases ry; exact PySem.EqNone.ne_str_none (fin_bl I q (by simp))
    | bl j => cases ry; exact PySem.EqMixed.ne_str_bool (fin_bl I q (by simp))
    | int j => obtain ⟨t', rfl⟩ := ry; exact PySem.EqMixed.ne_str_int (fin_bl I q (by simp))
    | str j => obtain ⟨t', rfl⟩ := ry; exact ne_str (fin_bl I q (congrArg not dec_str))
    | _ => exact absurd (show false = true from hs) Bool.false_ne_true
  | byt i =>
    obtain ⟨t, rfl⟩ := rx
    cases y with
    | byt j => obtain ⟨t', rfl⟩ := ry; exact PySem.W.ne_bytes (fin_bl I q (congrArg not dec_byt))
    | _ => exact absurd (show false = true from hs) Bool.false_ne_true
  | _ => cases y <;> exact absurd (show false = true from hs) Bool.false_ne_true

theorem op_lt : OpR X (compareOp .Lt) (rI0 fun i j => .bl (decide (i < j))) := opB0 fun _ _ _ _ _ _ _ q => lt_int q
theorem op_le : OpR X (compareOp .LtE) (rI0 fun i j => .bl (decide (i ≤ j))) := opB0 fun _ _ _ _ _ _ _ q => le_int q
/-- is, is not of two objects that are tracked lists or instances -/
def isObj : HO → Bool
  | .lst _ => true
  | .ins _ _ _ => true
  | _ => false
theorem nomark (b : Expr) {op : CmpOp} (h : op ≠ .In := by decide) (h2 : op ≠ .NotIn := by decide) : behindInMarks op b = false := by
  have e1 : (op == CmpOp.In) = false := by cases op <;> first | rfl | exact absurd rfl h
  have e2 : (op == CmpOp.NotIn) = false := by cases op <;> first | rfl | exact absurd rfl h2
  cases b <;> simp [behindInMarks, e1, e2]
/-- a comparison as a value; hm: nomark b, or (for in, not in) by with_unfolding_all rfl -/
theorem pe_cmpR {op : CmpOp} {r : R2} (ho : OpR X (compareOp op) r) (ha : PE X a ta) (hb : PE X b tb) (hm : behindInMarks op b = false) : PE X (.Compare a [op] [b] pos) (tOp r ta tb) := by
  intro pins s σ H Q I h
  exact wpAny_Compare1 (binT ha hb I h fun v u s2 x y H2 I2 rx ry q => ho pins s2 σ H2 x y v u Q I2 rx ry q) hm
/-- a reading of a value as a test -/
def tTest (t : TE) : TT := fun σ H Q => t σ H fun x H' => ∃ k, x = .bl k ∧ Q k H'
theorem pt_cmpR {op : CmpOp} {r : R2} (ho : OpR X (compareOp op) r) (ha : PE X a ta) (hb : PE X b tb) (hm : behindInMarks op b = false) : PT X (.Compare a [op] [b] pos) (tTest (tOp r ta tb)) := by
  intro pins s σ H Q I h
  refine wpAny_isTrue_Compare1 (thn (ha pins s σ H _ I h) fun v s1 ⟨x, H1, I1, r1, q1⟩ => thn (hb pins s1 σ H1 _ I1 q1) fun u s2 ⟨y, H2, I2, r2, q2⟩ =>
    thn (ho pins s2 σ H2 x y v u _ I2 r1 r2 q2) fun c s3 ⟨z, H3, I3, r3, k, e, q3⟩ => ?_) hm
  subst e
  cases r3
  exact wpAny_truthy_bool ⟨H3, I3, q3⟩
/-- a op1 b op2 c -/
def tChain (r r' : R2) (ta tb tc : TE) : TE := fun σ H Q => ta σ H fun x H1 => tb σ H1 fun y H2 => r x y H2 fun z H3 => ∃ k, z = .bl k ∧
  (if k = true then tc σ H3 fun w' H4 => r' y w' H4 Q else Q (.bl false) H3)
theorem pe_chain {op op' : CmpOp} {r r' : R2} (ho : OpR X (compareOp op) r) (ho' : OpR X (compareOp op') r') (ha : PE X a ta) (hb : PE X b tb) (hc : PE X c tc)
    (hm : lastMarks [op, op'] [b, c] = false := by with_unfolding_all rfl) : PE X (.Compare a [op, op'] [b, c] pos) (tChain r r' ta tb tc) := by
  intro pins s σ H Q I h
  refine Compare_chain (thn (ha pins s σ H _ I h) fun v s1 ⟨x, H1, I1, r1, q1⟩ => chain_link (thn (hb pins s1 σ H1 _ I1 q1) fun u s2 ⟨y, H2, I2, r2, q2⟩ =>
    thn (ho pins s2 σ H2 x y v u _ I2 r1 r2 q2) fun d s3 ⟨z, H3, I3, r3, k, e, q3⟩ => ?_)) hm
  subst e
  cases r3
  refine wpAny_truthy_bool ?_
  cases k with
  | false => exact ite_ff ⟨.bl false, H3, I3, rfl, q3⟩
  | true => exact ite_tt (chain_last (thn (hc pins s3 σ H3 _ I3 q3) fun w' s4 ⟨z', H4, I4, r4, q4⟩ => ho' pins s4 σ H4 y z' u w' Q I4 r2 r4 q4))
/-! ### truth -/
/-- a value's truth by the abstract heap -/
def TruV (K : PySem.W.Frag) (x : V) (H : Hp) (k : Bool) : Prop :=
  match x with
  | .non => k = false
  | .bl b => k = b
  | .int i => k = (i != 0)
  | .str y => y.length ≤ sizeLine ∧ k = ((y.length : Int) != 0)
  | .byt y => y.size ≤ sizeLine ∧ k = ((y.size : Int) != 0)
  | .ref p => (∃ xs, SqL K H p xs ∧ k = !xs.isEmpty) ∨ (∃ xs, SqT K H p xs ∧ k = !xs.isEmpty) ∨ ∃ kvs, H p = some (.dK kvs) ∧ k = !kvs.isEmpty
  | _ => False
theorem line63 : (sizeLine : Nat) < 2 ^ 63 := by rw [sizeLine_eq]; decide
/-! ### strs and bytes -/
theorem op_add_str : OpR X (binaryOp .Add) (fun x y H Q => ∃ i j, x = .str i ∧ y = .str j ∧ i.length + j.length ≤ sizeLine ∧ Q (.str (i ++ j)) H) := by
  intro pins s σ H x y v u Q I rx ry h
  obtain ⟨i, j, rfl, rfl, hz, q⟩ := h
  obtain ⟨t, rfl⟩ := rx
  obtain ⟨t', rfl⟩ := ry
  exact add_str (fun t' tk => ⟨.str (i ++ j), H, I.tok _, ⟨_, rfl⟩, q⟩) hz
def PlainIxT (b : Expr) : Prop := ∀ o i, subscripted b false o i = operate [o, i] (getItem o i)
/-! ### scalar builtins, by CallR -/
theorem vals1 {x : V} {us : List Value} (r : Vals [x] us) : ∃ u, us = [u] ∧ RelV x u := by
  cases r with
  | cons r1 r2 => cases r2; exact ⟨_, rfl, r1⟩
theorem vals2 {x y : V} {us : List Value} (r : Vals [x, y] us) : ∃ u w', us = [u, w'] ∧ RelV x u ∧ RelV y w' := by
  cases r with
  | cons r1 r2 =>
    cases r2 with
    | cons r3 r4 => cases r4; exact ⟨_, _, rfl, r1, r3⟩
theorem call_min2 (hc : X.calm = true) : CallR X (.builtin "min") (fun xs H Q => ∃ i j, xs = [.int i, .int j] ∧ Q (.int (if j < i then j else i)) H) := by
  intro pins s σ H xs us Q I r h
  obtain ⟨i, j, rfl, q⟩ := h
  obtain ⟨u, w', rfl, ⟨t, rfl⟩, ⟨t', rfl⟩⟩ := vals2 r
  refine min_two_ints (I.ok.hd hc) fun h' tk k => ⟨_, H, I.kept k, ?_, q⟩
  by_cases hj : j < i
  · rw [if_pos hj, if_pos hj]; exact ⟨_, rfl⟩
  · rw [if_neg hj, if_neg hj]; exact ⟨_, rfl⟩
/-- len of a str, a bytes, a list, a tuple -/
def LenV (K : PySem.W.Frag) (x : V) (H : Hp) (n : Nat) : Prop :=
  match x with
  | .str y => y.length ≤ sizeLine ∧ n = y.length
  | .byt y => y.size ≤ sizeLine ∧ n = y.size
  | .ref p => (∃ xs, SqL K H p xs ∧ n = xs.length) ∨ ∃ xs, SqT K H p xs ∧ n = xs.length
  | _ => False
theorem call_len : CallR X (.builtin "len") (fun xs H Q => ∃ x n, xs = [x] ∧ LenV X.K x H n ∧ Q (.int n) H) := by
  intro pins s σ H xs us Q I r h
  obtain ⟨x, n, rfl, e, q⟩ := h
  obtain ⟨u, rfl, rx⟩ := vals1 r
  have hl := line63
  have hs : sizeLine = 16777216 := sizeLine_eq
  cases x with
  | str y =>
    obtain ⟨t, rfl⟩ := rx
    obtain ⟨hy, e'⟩ : y.length ≤ sizeLine ∧ n = y.length := e
    subst e'
    exact len_str (by omega) ⟨.int _, H, I.tok _, ⟨_, rfl⟩, q⟩
  | byt y =>
    obtain ⟨t, rfl⟩ := rx
    obtain ⟨hy, e'⟩ : y.size ≤ sizeLine ∧ n = y.size := e
    subst e'
    exact PySem.W.len_bytes (by omega) ⟨.int _, H, I.tok _, ⟨_, rfl⟩, q⟩
  | ref p =>
    cases rx
    have e' : (∃ xs, SqL X.K H p xs ∧ n = xs.length) ∨ ∃ xs, SqT X.K H p xs ∧ n = xs.length := e
    rcases e' with ⟨xs, hx, e'⟩ | ⟨xs, hx, e'⟩
    · subst e'
      obtain ⟨its, r', pl, hz⟩ := I.list hx
      have hlen := r'.length
      exact Calls.call_len_list pl.isList (by simp only [List.size_toArray]; omega) ⟨.int xs.length, H, I.tok _, ⟨_, by simp only [List.size_toArray]; rw [hlen]⟩, q⟩
    · subst e'
      obtain ⟨its, r', pl, hz⟩ := I.tuple hx
      have hlen := r'.length
      exact len_tuple pl (by simp only [List.size_toArray]; omega) ⟨.int xs.length, H, I.tok _, ⟨_, by simp only [List.size_toArray]; rw [hlen]⟩, q⟩
  | _ => exact (show False from e).elim
end
end L2

namespace L2
open PySem PySem.Spec PyProof.Rows

/-! ### an instance, its attributes a map -/
structure ObjM (h : Heap) (x dx C : Addr) (mA : Str → Option Value) : Prop where
  obj : h.get? x = some (PySem.W.instObj C dx)
  ns : h.Ns1 dx mA
  ne : dx ≠ x

theorem lookIn_ns {h : Heap} {dx : Addr} {mA : Str → Option Value} (n : h.Ns1 dx mA) : ∃ od, h.get? dx = some od ∧ ∀ name, PySem.W.lookIn name od = some (mA name) := by
  obtain ⟨o, es, ep, ho, hd, hk, _, hm⟩ := n
  refine ⟨o, ho, fun name => ?_⟩
  have e := hm name
  unfold nsFind findBy at e
  rw [← Array.find?_toList] at e
  unfold PySem.W.lookIn
  rw [hd]
  dsimp only
  split
  · rename_i y q
    rw [q] at e
    exact congrArg some e
  · rename_i q
    rw [q] at e
    have a : es.toList.any (·.refKey) = false := by
      rw [List.any_eq_false]
      intro y hy
      obtain ⟨z, t, hkey⟩ := hk y (Array.mem_toList_iff.mp hy)
      simp [DictEntry.refKey, hkey]
    have a' : ¬ es.toList.any (·.refKey) = true := by rw [a]; exact Bool.false_ne_true
    rw [if_neg a']
    exact congrArg some e

theorem ObjM.look {h : Heap} {x dx C : Addr} {mA : Str → Option Value} (I : ObjM h x dx C mA) : ∃ od, PySem.W.InstAt h x (PySem.W.instObj C dx) C (some od) ∧ ∀ name, PySem.W.lookIn name od = some (mA name) :=
  let ⟨od, ho, hl⟩ := lookIn_ns I.ns
  ⟨od, ⟨I.obj, rfl, rfl, ho⟩, hl⟩

section
variable {prog : Program} {w : World} {A : Around} {E : Value → Shared → Prop} {s : Shared} {K : PySem.W.Frag} {x dx C f : Addr} {mA : Str → Option Value} {name : Str} {v : Value}

theorem get_map {expr : Bool} {Q : Value → Shared → Prop} (X : K.In s.heap) (I : ObjM s.heap x dx C mA) (hg : PySem.W.plainGet K C name = true) (hh : PySem.W.hasDictIn K C = true)
    (ha : PySem.W.findIn K (.ref C) name = some none) (hv : mA name = some v) (hv' : PySem.W.handedIn v = true) (h : Q v { s with toks := s.toks + 1 }) :
    wpAny (model prog w) A (getAttr (.ref x) name expr) Q E s := by
  obtain ⟨od, J, hl⟩ := I.look
  exact PySem.W.get_value X J (PySem.W.plainGet_of hg).1 (PySem.W.findObj_own hh ha rfl (by rw [hl, hv])) hv' h

theorem get_meth {pl : Sem Bool} {Q : Value × List Value → Shared → Prop} (X : K.In s.heap) (I : ObjM s.heap x dx C mA) (hg : PySem.W.plainGet K C name = true)
    (hf : PySem.W.findIn K (.ref C) name = some (some (.ref f))) (ht : PySem.W.isFn K (.ref f) = true) (hv : mA name = none) (h : Q (.ref f, [.ref x]) s) :
    wpAny (model prog w) A (getMethod (.ref x) name pl) Q E s := by
  obtain ⟨od, J, hl⟩ := I.look
  exact PySem.W.method_fn X J (PySem.W.plainGet_of hg).1 (PySem.W.plainGet_of hg).2 hf (beq_iff_eq.mp ht) (by show (PySem.W.lookIn name od).map (·.isSome) = some false; rw [hl, hv]; rfl) h

theorem set_map {ns : List Str} {Q : Unit → Shared → Prop} (X : K.In s.heap) (I : ObjM s.heap x dx C mA)
    (hs : PySem.W.findIn K (.ref C) "__setattr__" = some (some (.builtin "object.__setattr__"))) (hp : PySem.W.plainOver K C = true) (ht : PySem.W.takerIn K C name = some none) (hh : PySem.W.hasDictIn K C = true)
    (hw : PySem.Within mA ns) (hsz : ns.length ≤ sizeLine)
    (h : ∀ h', ObjM h' x dx C (fun y => if y = name then some v else mA y) → Heap.SameBut dx s.heap h' → Q () { s with heap := h', toks := s.toks + 2 }) :
    wpAny (model prog w) A (setAttr (.ref x) name v) Q E s := by
  obtain ⟨od, J, hl⟩ := I.look
  refine PySem.W.set_plain X J hs (PySem.W.osa_open (s := { s with toks := s.toks + 1 }) (r := none) X J hp ht fun b => ?_)
  obtain ⟨cd, hc, hd'⟩ := PySem.W.any_some hh
  have hx : s.heap.get? x = some ⟨.ref C, some dx, .plain, #[]⟩ := I.obj
  refine wpAny_bind (wpAny_pure (wpAny_bind (wpAny_bind (wpAny_loadPart hx (wpAny_bind (PySem.W.Looks.here (s := { s with toks := s.toks + 1 }) (PySem.W.looks_clsIn X hc) ?_))))))
  rw [hd']
  refine wpAny_pure (a := some dx) (wpAny_bind (wpAny_pure (wpAny_bind ?_)))
  refine wpAny_nsSet1 (s := { s with toks := s.toks + 1 }) I.ns fun h' hn2 hs2 => ?_
  obtain ⟨oD, esD, epD, hoD, hdD, hcD⟩ := hn2.count (PySem.Within.cons name v hw)
  refine wpAny_bind (wpAny_lookBehind hoD (by rw [hdD]; exact pastItsLine_dict (Nat.le_trans hcD (by rw [List.length_cons]; omega))) ?_)
  exact wpAny_pure (h _ ⟨(hs2.2 _ (Ne.symm I.ne)).trans I.obj, hn2, I.ne⟩ hs2)

/-- C(..): the dict at the heap's end, the instance behind it; then its __init__ -/
theorem make_map {R : Result → Shared → Prop} {vs : List Value} {kw : List (Str × Value)} (X : K.In s.heap) (hm : PySem.W.makesIn K C = true)
    (hi : PySem.W.findIn K (.ref C) "__init__" = some (some (.ref f))) (hf : PySem.W.typeIn K (.ref f) = some (.type "function"))
    (h : codeAny (model prog w) (A.under (.builtin "type.__call__" ⟨.ref C :: vs, kw⟩)) (.call (.ref f) ⟨.ref (s.heap.objs.size + 1) :: vs, kw⟩) (PySem.W.InitBack (s.heap.objs.size + 1) R)
      { s with heap := (s.heap.push PySem.W.emptyDict).push (PySem.W.instObj C s.heap.objs.size) }) :
    codeAny (model prog w) A (.call (.ref C) ⟨vs, kw⟩) R s := by
  obtain ⟨hh, g, d, t, os⟩ := s
  exact PySem.W.make_core (PySem.W.makes_of X hm) (PySem.W.looks_findIn X hi) (fun self => PySem.W.bind_fn X self hf) (.inl rfl) h
end

/-! ### the attributes as a list of pairs -/
def putF (f : Str) (v : V) : List (Str × V) → List (Str × V)
  | [] => [(f, v)]
  | (g, x) :: r => if g = f then (g, v) :: r else (g, x) :: putF f v r
theorem lookup_putF (f g : Str) (v : V) : ∀ fs : List (Str × V), (putF f v fs).lookup g = if g = f then some v else fs.lookup g
  | [] => by
    show List.lookup g [(f, v)] = _
    by_cases h : g = f
    · have hb : (g == f) = true := beq_iff_eq.mpr h
      simp only [List.lookup, hb, if_pos h]
    · have hb : (g == f) = false := beq_eq_false_iff_ne.mpr h
      simp only [List.lookup, hb, if_neg h]
  | (k, x) :: r => by
    have ih := lookup_putF f g v r
    rw [show putF f v ((k, x) :: r) = (if k = f then (k, v) :: r else (k, x) :: putF f v r) from rfl]
    by_cases hk : k = f
    · rw [if_pos hk]
      by_cases h : g = k
      · have hb : (g == k) = true := beq_iff_eq.mpr h
        simp only [List.lookup, hb, if_pos (h.trans hk)]
      · have hb : (g == k) = false := beq_eq_false_iff_ne.mpr h
        simp only [List.lookup, hb, if_neg (fun e : g = f => h (e.trans hk.symm))]
    · rw [if_neg hk]
      by_cases h : g = k
      · have hb : (g == k) = true := beq_iff_eq.mpr h
        simp only [List.lookup, hb, if_neg (fun e : g = f => hk (h.symm.trans e))]
      · have hb : (g == k) = false := beq_eq_false_iff_ne.mpr h
        simp only [List.lookup, hb]
        exact ih
theorem keys_putF (f : Str) (v : V) : ∀ fs : List (Str × V), f ∈ (putF f v fs).map (·.1) ∧ ∀ g, g ∈ fs.map (·.1) → g ∈ (putF f v fs).map (·.1)
  | [] => ⟨by simp [putF], fun g h => by simp at h⟩
  | (k, x) :: r => by
    obtain ⟨i1, i2⟩ := keys_putF f v r
    rw [show putF f v ((k, x) :: r) = (if k = f then (k, v) :: r else (k, x) :: putF f v r) from rfl]
    by_cases hk : k = f
    · rw [if_pos hk]
      subst hk
      exact ⟨by simp, fun g h => by simpa using h⟩
    · rw [if_neg hk]
      refine ⟨?_, fun g h => ?_⟩
      · rw [List.map_cons]
        exact List.mem_cons_of_mem _ i1
      · rw [List.map_cons] at h ⊢
        rcases List.mem_cons.mp h with e | e
        · exact List.mem_cons.mpr (.inl e)
        · exact List.mem_cons_of_mem _ (i2 g e)
theorem length_putF (f : Str) (v : V) : ∀ fs : List (Str × V), (putF f v fs).length ≤ fs.length + 1
  | [] => by simp [putF]
  | (k, x) :: r => by
    have ih := length_putF f v r
    rw [show putF f v ((k, x) :: r) = (if k = f then (k, v) :: r else (k, x) :: putF f v r) from rfl]
    by_cases hk : k = f
    · rw [if_pos hk, List.length_cons, List.length_cons]; omega
    · rw [if_neg hk, List.length_cons, List.length_cons]; omega

theorem RelO.some_of {v : V} {o : Option Value} (r : RelO (some v) o) : ∃ u, o = some u ∧ RelV v u := by
  cases o with
  | none => exact (show False from r).elim
  | some u => exact ⟨u, rfl, r⟩
theorem RelO.none_of {o : Option Value} (r : RelO none o) : o = none := by
  cases o with
  | none => rfl
  | some u => exact (show False from r).elim
theorem handed_of {v : V} {u : Value} (r : RelV v u) : PySem.W.handedIn u = true := by
  cases v with
  | non => cases (show u = Value.none from r); rfl
  | bl b => cases (show u = Value.bool b from r); rfl
  | int i => obtain ⟨t, e⟩ := (show ∃ t, u = Value.int i t from r); cases e; rfl
  | str x => obtain ⟨t, e⟩ := (show ∃ t, u = Value.str x t from r); cases e; rfl
  | byt b => obtain ⟨t, e⟩ := (show ∃ t, u = Value.bytes b t from r); cases e; rfl
  | flt b => obtain ⟨t, e⟩ := (show ∃ t, u = Value.float b t from r); cases e; rfl
  | ref a => cases (show u = Value.ref a from r); rfl
  | ty n => cases (show u = Value.type n from r); rfl

section
variable {P : Program} {w : World} {H H' : Hp} {h h' : Heap} {a C dx : Addr} {fs fs' : List (Str × V)}
theorem ins_get (hok : HOk P w H h) (e : H a = some (.ins C dx fs)) : ∃ mA, ObjM h a dx C mA ∧ (∀ f, RelO (fs.lookup f) (mA f)) ∧ PySem.Within mA (fs.map (·.1)) ∧ fs.length ≤ 1000 ∧ H dx = some (.own a) := by
  obtain ⟨d, z, ne, ob, mA, n, r, q⟩ := (show ObjOk P w H h a (.ins C dx fs) from hok a _ e)
  exact ⟨mA, ⟨ob, n, ne⟩, r, q, z, d⟩
end

/-! ### what of the text a class must have -/
structure Cls (K : PySem.W.Frag) (C : Addr) : Prop where
  pg : PySem.W.plainGet K C Str.empty = true
  hd : PySem.W.hasDictIn K C = true
  po : PySem.W.plainOver K C = true
  sa : PySem.W.findIn K (.ref C) "__setattr__" = some (some (.builtin "object.__setattr__"))
theorem Cls.get {K : PySem.W.Frag} {C : Addr} (c : Cls K C) (f : Str) : PySem.W.plainGet K C f = true := c.pg
/-- no class of it has the name -/
def NoAttr (K : PySem.W.Frag) (C : Addr) (f : Str) : Prop := PySem.W.findIn K (.ref C) f = some none
theorem NoAttr.taker {K : PySem.W.Frag} {C : Addr} {f : Str} (n : NoAttr K C f) : PySem.W.takerIn K C f = some none := by
  unfold PySem.W.takerIn
  rw [show PySem.W.findIn K (.ref C) f = some none from n]
  rfl
/-- a constant of the class -/
structure Con (K : PySem.W.Frag) (C : Addr) (f : Str) (v : V) (u : Value) : Prop where
  at_ : PySem.W.findIn K (.ref C) f = some (some u)
  rel : RelV v u
  get : PySem.W.specialIn K u "__get__" = some none
  cp : PySem.W.copiedNames.contains f = false
/-- a method: a plain def of the class or of one above it -/
structure Meth (K : PySem.W.Frag) (C : Addr) (m : Str) (f : Addr) : Prop where
  at_ : PySem.W.findIn K (.ref C) m = some (some (.ref f))
  fn : PySem.W.isFn K (.ref f) = true
  kp : PySem.W.keepIn K (.ref f) = true

section
variable {X : Cx} {pins : List (Addr × Obj)} {σ : St} {H : Hp} {s : Shared} {a C dx : Addr} {fs : List (Str × V)} {f : Str} {v : V} {A : Around} {E : Value → Shared → Prop}

theorem getattr_ok {b : Bool} {Q : Value → Shared → Prop} (I : Inv X pins σ H s) (e : H a = some (.ins C dx fs)) (c : Cls X.K C) (n : NoAttr X.K C f) (l : fs.lookup f = some v)
    (h : ∀ u s', Inv X pins σ H s' → RelV v u → Q u s') : wpAny (model X.prog X.w) A (getAttr (.ref a) f b) Q E s := by
  obtain ⟨mA, O, r, _, _, _⟩ := ins_get I.hok e
  obtain ⟨u, hu, ru⟩ := RelO.some_of (v := v) (o := mA f) (by rw [← l]; exact r f)
  exact get_map I.kIn O (c.get f) c.hd n hu (handed_of ru) (h u _ (I.tok _) ru)

theorem getmeth_ok {m : Str} {g : Addr} {pl : Sem Bool} {Q : Value × List Value → Shared → Prop} (I : Inv X pins σ H s) (e : H a = some (.ins C dx fs)) (c : Cls X.K C) (k : Meth X.K C m g) (l : fs.lookup m = none)
    (h : Q (.ref g, [.ref a]) s) : wpAny (model X.prog X.w) A (getMethod (.ref a) m pl) Q E s := by
  obtain ⟨mA, O, r, _, _, _⟩ := ins_get I.hok e
  have hn : mA m = none := RelO.none_of (by rw [← l]; exact r m)
  exact get_meth I.kIn O (c.get m) k.at_ k.fn hn h

theorem setattr_ok {y : V} {u : Value} {Q : Unit → Shared → Prop} (I : Inv X pins σ H s) (e : H a = some (.ins C dx fs)) (c : Cls X.K C) (n : NoAttr X.K C f) (hl : fs.length < 1000) (ry : RelV y u)
    (h : ∀ s', Inv X pins σ (upd H a (.ins C dx (putF f y fs))) s' → Q () s') : wpAny (model X.prog X.w) A (setAttr (.ref a) f u) Q E s := by
  obtain ⟨mA, O, r, wi, _, ho⟩ := ins_get I.hok e
  have hz : (fs.map (·.1)).length ≤ sizeLine := by rw [List.length_map, sizeLine_eq]; omega
  refine set_map I.kIn O c.sa c.po n.taker c.hd wi hz fun h' O' sb => h _ ?_
  have hd : ∃ o, h'.get? dx = some o := let ⟨o, _, _, e', _⟩ := O'.ns; ⟨o, e'⟩
  refine I.write (x := a) (e := dx) (by rw [e]; exact True.intro) (.inr ho) (fun b q hb z => (sb.2 b hb).trans z) hd ?_
  refine ⟨by rw [upd_ne O.ne]; exact ho, ?_, O.ne, O'.obj, _, O'.ns, fun g => ?_, fun g hg => ?_⟩
  · have := length_putF f y fs; omega
  · show RelO ((putF f y fs).lookup g) (if g = f then some u else mA g)
    rw [lookup_putF]
    by_cases q : g = f
    · rw [if_pos q, if_pos q]; exact ry
    · rw [if_neg q, if_neg q]; exact r g
  · by_cases q : g = f
    · rw [q]; exact (keys_putF f y fs).1
    · refine (keys_putF f y fs).2 g (wi g fun z => hg ?_)
      show (if g = f then some u else mA g) = none
      rw [if_neg q]; exact z

/-- a new instance, tracked, without attributes -/
theorem Inv.made (I : Inv X pins σ H s) : Inv X pins σ (upd (upd H s.heap.objs.size (.own (s.heap.objs.size + 1))) (s.heap.objs.size + 1) (.ins C s.heap.objs.size []))
    { s with heap := (s.heap.push PySem.W.emptyDict).push (PySem.W.instObj C s.heap.objs.size) } := by
  have e1 : (s.heap.push PySem.W.emptyDict).get? s.heap.objs.size = some PySem.W.emptyDict := Heap.get?_push_size s.heap rfl
  have e2 : ((s.heap.push PySem.W.emptyDict).push (PySem.W.instObj C s.heap.objs.size)).get? (s.heap.objs.size + 1) = some (PySem.W.instObj C s.heap.objs.size) := by
    have := Heap.get?_push_size (s.heap.push PySem.W.emptyDict) (o := PySem.W.instObj C s.heap.objs.size) rfl
    rwa [Heap.size_push] at this
  have e3 : (s.heap.push PySem.W.emptyDict).Ns s.heap.objs.size (fun _ => none) := ⟨PySem.W.emptyDict, #[], _, e1, rfl, (fun e he => absurd he (by simp)), fun _ => rfl⟩
  have I1 := I.laid (a := s.heap.objs.size) (o := .own (s.heap.objs.size + 1)) (h' := s.heap.push PySem.W.emptyDict) (t' := s.toks) (fun b u q => Heap.get?_push_of_some _ q) (Nat.le_refl _) ⟨_, e1⟩
  refine I1.laid (a := s.heap.objs.size + 1) (o := .ins C s.heap.objs.size []) (t' := s.toks) (fun b u q => Heap.get?_push_of_some _ q) (Nat.le_of_eq (Heap.size_push _ _)) ?_
  have ne : s.heap.objs.size ≠ s.heap.objs.size + 1 := Nat.ne_of_lt (Nat.lt_succ_self _)
  refine ⟨by rw [upd_ne ne, upd_same], Nat.zero_le _, ne, e2, fun _ => none, (Heap.Ns1.of_empty e3).at fun o q => Heap.get?_push_of_some _ q, fun _ => True.intro, fun y hy => absurd rfl hy⟩

/-- e.f where nothing but the object is asked: through attributeBase (super) and the last hold -/
theorem attr_of {prog : Program} {w : World} {env : Env} {e : Expr} {f : Str} {pos : Pos} {s : Shared} {Q : Value → Shared → Prop} (hb : attributeBase e f env (eval e env) = eval e env)
    (h : wpAny (model prog w) A (eval e env) (fun o s₁ => wpAny (model prog w) A (getAttr o f true) Q E s₁) E s) : wpAny (model prog w) A (eval (.Attribute e f pos) env) Q E s :=
  Attribute_any_ h (by rw [arm_eval_Attribute, hb])
end

/-! ### readings and rules -/
/-- e.f, an attribute of the instance -/
def tFld (K : PySem.W.Frag) (ta : TE) (f : Str) : TE := fun σ H Q => ta σ H fun x H1 => ∃ a C dx fs v, x = .ref a ∧ H1 a = some (.ins C dx fs) ∧ Cls K C ∧ NoAttr K C f ∧ fs.lookup f = some v ∧ Q v H1
/-- e.f, a constant of the class -/
def tCon (K : PySem.W.Frag) (ta : TE) (f : Str) : TE := fun σ H Q => ta σ H fun x H1 => ∃ a C dx fs v u, x = .ref a ∧ H1 a = some (.ins C dx fs) ∧ Cls K C ∧ Con K C f v u ∧ fs.lookup f = none ∧ Q v H1
/-- e.f = value -/
def sFld (K : PySem.W.Frag) (ta tv : TE) (f : Str) : TS := fun D σ H => tv σ H fun y H1 => ta σ H1 fun x H2 => ∃ a C dx fs, x = .ref a ∧ H2 a = some (.ins C dx fs) ∧ Cls K C ∧ NoAttr K C f ∧ fs.length < 1000 ∧
  D.nx σ (upd H2 a (.ins C dx (putF f y fs)))
/-- an augmented operator on two values -/
def InOp (X : Cx) (op : Operator) (rd : V → V → Hp → VK → Prop) : Prop :=
  ∀ (pins : List (Addr × Obj)) (s : Shared) (σ : St) (H : Hp) (x y : V) (u v : Value) (Q : VK), Inv X pins σ H s → RelV x u → RelV y v → rd x y H Q → wpAny (model X.prog X.w) X.A (inplaceOp op u v) (EP X pins σ Q) X.xe s
/-- e.f op= value -/
def sFldAug (K : PySem.W.Frag) (ta tv : TE) (rd : V → V → Hp → VK → Prop) (f : Str) : TS := fun D σ H => ta σ H fun x H1 => ∃ a C dx fs v, x = .ref a ∧ H1 a = some (.ins C dx fs) ∧ Cls K C ∧ NoAttr K C f ∧ fs.lookup f = some v ∧
  tv σ H1 fun y H2 => rd v y H2 fun z H3 => ∃ dx' fs', H3 a = some (.ins C dx' fs') ∧ fs'.length < 1000 ∧ D.nx σ (upd H3 a (.ins C dx' (putF f z fs')))

section
variable {X : Cx} {o e value : Expr} {f : Str} {pos pos' tpos : Pos} {ta tv : TE}
theorem pe_fld (he : PE X e ta) (hb : attributeBase e f X.env (eval e X.env) = eval e X.env) : PE X (.Attribute e f pos) (tFld X.K ta f) := by
  intro pins s σ H Q I h
  refine attr_of hb (thn (he pins s σ H _ I h) fun u s1 ⟨x, H1, I1, rx, a, C, dx, fs, v, ex, ea, c, n, l, q⟩ => ?_)
  subst ex
  obtain rfl : u = Value.ref a := rx
  exact getattr_ok I1 ea c n l fun u' s2 I2 ru => ⟨v, H1, I2, ru, q⟩
theorem ps_fld (ha : PE X o ta) (hv : PE X value tv) (hs : swapsWith value (some (.Attribute o f pos')) pos.line X.env = pure false) : PS X (.Assign [.Attribute o f pos'] value pos) (sFld X.K ta tv f) := by
  intro pins s σ H D I h
  refine plainObj_wpAny_Assign_Attribute (thn (hv pins s σ H _ I h) fun u s1 ⟨y, H1, I1, ry, q⟩ => thn (ha pins s1 σ H1 _ I1 q) fun ov s2 ⟨x, H2, I2, rx, a, C, dx, fs, ex, ea, c, n, l, q2⟩ => ?_) hs
  subst ex
  obtain rfl : ov = Value.ref a := rx
  exact setattr_ok I2 ea c n l ry fun s3 I3 => ⟨σ, _, I3, q2⟩
def rAdd : V → V → Hp → VK → Prop := fun x y H Q => ∃ i j, x = .int i ∧ y = .int j ∧ Q (.int (i + j)) H
def rSub : V → V → Hp → VK → Prop := fun x y H Q => ∃ i j, x = .int i ∧ y = .int j ∧ Q (.int (i - j)) H
end

/-! ### isinstance -/
section
variable {X : Cx} {pins : List (Addr × Obj)} {σ : St} {H : Hp} {s : Shared} {A : Around} {E : Value → Shared → Prop} {Q : Value → Shared → Prop} {c : Value} {b : Bool}
/-- the type of a value, as the fragment's deciders take it; for an instance its class -/
inductive TyOf (K : PySem.W.Frag) (H : Hp) : V → Value → Prop where
  | non : TyOf K H .non (.type "NoneType")
  | bl (x : Bool) : TyOf K H (.bl x) (.type "bool")
  | int (i : Int) : TyOf K H (.int i) (.type "int")
  | str (x : Str) : TyOf K H (.str x) (.type "str")
  | flt (x : UInt64) : TyOf K H (.flt x) (.type "float")
  | lst {a : Addr} {xs : List V} (e : H a = some (.lst xs)) : TyOf K H (.ref a) (.type "list")
  | frz {a : Addr} {o : Obj} {xs : List V} (e : H a = some (.frz o (.lst xs))) : TyOf K H (.ref a) (.type "list")
  | tup {a : Addr} {xs : List V} (e : H a = some (.tup xs)) : TyOf K H (.ref a) (.type "tuple")
  | dK {a : Addr} {kvs : List (Key × V)} (e : H a = some (.dK kvs)) : TyOf K H (.ref a) (.type "dict")
  | dT {a : Addr} {kvs : List (List Key × V)} (e : H a = some (.dT kvs)) : TyOf K H (.ref a) (.type "dict")
  | ins {a C dx : Addr} {fs : List (Str × V)} (e : H a = some (.ins C dx fs)) (cl : Cls K C) (ha : PySem.W.findIn K (.ref C) "__class__" = some (some (.builtin "object.__class__")))
      (hn : PySem.W.specialIn K (.builtin "object.__class__") "__get__" = some (some (.builtin "getset_descriptor.__get__"))) (htk : PySem.W.takesIn K (.builtin "object.__class__") = some true)
      (hm : PySem.W.mroIn K C (.type "object") = some true) : TyOf K H (.ref a) (.ref C)
/-- isinstance(x, c) for one class c, a built-in or an own one: kitOne's answer -/
theorem isinst_ok {x : V} {u t : Value} (I : Inv X pins σ H s) (rx : RelV x u) (ty : TyOf X.K H x t) (e : PySem.W.kitOne X.K t c = some b) (h : ∀ tk, Q (.bool b) { s with toks := tk }) :
    wpAny (model X.prog X.w) A (call (.builtin "isinstance") [u, c]) Q E s := by
  cases ty with
  | non => cases (show u = Value.none from rx); exact PySem.W.kia_one PySem.W.kitx_none I.kIn True.intro e (fun z => nomatch z) h
  | bl y => cases (show u = Value.bool y from rx); exact PySem.W.kia_one PySem.W.kitx_bool I.kIn True.intro e (fun z => nomatch z) h
  | int i => obtain ⟨t, q⟩ := (show ∃ t, u = Value.int i t from rx); cases q; exact PySem.W.kia_one PySem.W.kitx_int I.kIn True.intro e (fun z => nomatch z) h
  | str y => obtain ⟨t, q⟩ := (show ∃ t, u = Value.str y t from rx); cases q; exact PySem.W.kia_one PySem.W.kitx_str I.kIn True.intro e (fun z => nomatch z) h
  | flt y => obtain ⟨t, q⟩ := (show ∃ t, u = Value.float y t from rx); cases q; exact PySem.W.kia_one PySem.W.kitx_float I.kIn True.intro e (fun z => nomatch z) h
  | @lst a xs ea =>
    cases (show u = Value.ref a from rx)
    obtain ⟨_, _, n, _, h1⟩ := (show ObjOk X.prog X.w H s.heap a (.lst xs) from I.hok a _ ea)
    exact PySem.W.kia_one PySem.W.kitx_list I.kIn ⟨_, h1, rfl⟩ e (fun z => nomatch z) h
  | @frz a ob xs ea =>
    cases (show u = Value.ref a from rx)
    obtain ⟨_, _, _, n, _, h1⟩ := (show ObjOk X.prog X.w H s.heap a (.frz ob (.lst xs)) from I.hok a _ ea)
    exact PySem.W.kia_one PySem.W.kitx_list I.kIn ⟨_, h1, rfl⟩ e (fun z => nomatch z) h
  | @tup a xs ea =>
    cases (show u = Value.ref a from rx)
    obtain ⟨_, _, _, p⟩ := (show ObjOk X.prog X.w H s.heap a (.tup xs) from I.hok a _ ea)
    obtain ⟨o, h1, h2, _⟩ := p
    exact PySem.W.kia_one PySem.W.kitx_tuple I.kIn ⟨o, h1, h2⟩ e (fun z => nomatch z) h
  | @dK a kvs ea =>
    cases (show u = Value.ref a from rx)
    obtain ⟨_, _, vs, _, p⟩ := (show ObjOk X.prog X.w H s.heap a (.dK kvs) from I.hok a _ ea)
    obtain ⟨o, es, ep, h1, h2, _⟩ := p
    exact PySem.W.kia_one PySem.W.kitx_dict I.kIn ⟨o, h1, h2.1⟩ e (fun z => nomatch z) h
  | @dT a kvs ea =>
    cases (show u = Value.ref a from rx)
    obtain ⟨_, _, xs, _, o, es, ep, h1, h2, _⟩ := (show ObjOk X.prog X.w H s.heap a (.dT kvs) from I.hok a _ ea)
    exact PySem.W.kia_one PySem.W.kitx_dict I.kIn ⟨o, h1, h2.1⟩ e (fun z => nomatch z) h
  | @ins a C dx fs ea cl ha hn htk hm =>
    cases (show u = Value.ref a from rx)
    obtain ⟨mA, O, _⟩ := ins_get I.hok ea
    obtain ⟨od, J, _⟩ := O.look
    exact PySem.W.kia_one (PySem.W.kitx_own (cl.get _) cl.hd ha hn htk hm) I.kIn J e (fun z => nomatch z) h
end
end L2

namespace L2
open PySem PySem.Spec PyProof.Rows

/-! ### room -/
structure Room (k : Nat) (A : Around) : Prop where
  hd : A.handled = none
  dp : A.depth + 3 * k + 5 < recursionLimit
  un : A.units + 16 * k + 200 < cLine
theorem Room.mono {j k : Nat} {A : Around} (r : Room k A) (h : j ≤ k) : Room j A := ⟨r.hd, by have := r.dp; omega, by have := r.un; omega⟩
theorem Room.deeper {k : Nat} {A : Around} (r : Room (k + 1) A) (env : Env) : Room k (A.deeper env) :=
  ⟨r.hd, by have := r.dp; show A.depth + 1 + 3 * k + 5 < _; omega, by have := r.un; show A.units + 3 + 16 * k + 200 < _; omega⟩
theorem make_depth {A : Around} {C : Addr} {us : List Value} {kw : List (Str × Value)} : (A.under (.builtin "type.__call__" ⟨.ref C :: us, kw⟩)).depth = A.depth + 1 := by
  first | rfl | simp [Around.under, Code.weight, Code.isCreation, Code.isGuard, Code.isCaller, Code.frames, Code.isFrame, guardIds]
theorem make_units {A : Around} {C : Addr} {us : List Value} {kw : List (Str × Value)} : (A.under (.builtin "type.__call__" ⟨.ref C :: us, kw⟩)).units = A.units + 1 := by
  first | rfl | simp [Around.under, Code.cUnits, Code.frames, Code.isFrame]
theorem Room.make {k : Nat} {A : Around} (r : Room (k + 1) A) (C : Addr) (us : List Value) (kw : List (Str × Value)) : Room k (A.under (.builtin "type.__call__" ⟨.ref C :: us, kw⟩)) :=
  ⟨r.hd, by have := r.dp; rw [make_depth]; omega, by have := r.un; rw [make_units]; omega⟩
theorem Room.depth {k : Nat} {A : Around} (r : Room k A) : A.depth < recursionLimit := by have := r.dp; omega
theorem Room.units {k : Nat} {A : Around} (r : Room k A) : A.units + 64 < cLine := by have := r.un; omega
/-! ### argument lists and displays -/
def tNil : TA := fun _ H Q => Q [] H
def tCons (ta : TE) (tr : TA) : TA := fun σ H Q => ta σ H fun x H1 => tr σ H1 fun xs H2 => Q (x :: xs) H2
section
variable {X : Cx} {e : Expr} {es : List Expr} {te : TE} {t : TA} {pos : Pos}
theorem pa_nil : PA X [] tNil := fun _ _ _ _ H Q I h => Calls.spliced_nil ⟨[], H, I, .nil, h⟩
theorem pa_cons (ha : PE X e te) (hr : PA X es t) (hs : starEach (e :: es) X.env = (false, eval e X.env) :: starEach es X.env := by rfl) : PA X (e :: es) (tCons te t) := by
  intro pos pins s σ H Q I h
  rw [hs]
  show wpAny _ _ (spliced ((false, eval e X.env) :: backTo pos (starEach es X.env))) _ _ s
  refine Calls.spliced_cons (thn (ha pins s σ H _ I h) fun u s1 ⟨x, H1, I1, r1, q1⟩ => ?_)
  exact thn (hr pos pins s1 σ H1 _ I1 q1) fun us s2 ⟨xs, H2, I2, r2, q2⟩ => ⟨x :: xs, H2, I2, .cons r1 r2, q2⟩

/-- a tuple, a list of written items -/
def tTup (t : TA) : TE := fun σ H Q => t σ H fun xs H1 => xs.length ≤ sizeLine ∧ ∀ p, H1 p = none → Q (.ref p) (upd H1 p (.tup xs))
def tLst (t : TA) : TE := fun σ H Q => t σ H fun xs H1 => xs.length ≤ sizeLine ∧ ∀ p, H1 p = none → Q (.ref p) (upd H1 p (.lst xs))
theorem pe_tup {x1} (h : PA X es t) : PE X (.Tuple es x1 pos) (tTup t) := by
  intro pins s σ H Q I hq
  refine wpAny_Tuple_spliced (thn (h pos pins s σ H _ I hq) fun us s1 ⟨xs, H1, I1, r, z, q⟩ => ⟨by rw [← r.length]; exact z, ?_⟩)
  have hf : H1 s1.heap.objs.size = none := I1.hok.fresh (Nat.le_refl _)
  refine ⟨.ref s1.heap.objs.size, upd H1 s1.heap.objs.size (.tup xs), I1.laid (t' := s1.toks) (fun b u e => Heap.get?_push_of_some _ e) (Nat.le_refl _) ?_, rfl, q _ hf⟩
  exact ⟨z, us, r, ⟨_, Heap.get?_push_size _ rfl, rfl, _, rfl⟩⟩
theorem pe_lst (h : PA X es t) : PE X (.List es pos) (tLst t) := by
  intro pins s σ H Q I hq
  refine wpAny_List_spliced (thn (h pos pins s σ H _ I hq) fun us s1 ⟨xs, H1, I1, r, z, q⟩ => ⟨by rw [← r.length]; exact z, ?_⟩)
  have hf : H1 s1.heap.objs.size = none := I1.hok.fresh (Nat.le_refl _)
  refine ⟨.ref s1.heap.objs.size, upd H1 s1.heap.objs.size (.lst xs), I1.laid (t' := s1.toks) (fun b u e => Heap.get?_push_of_some _ e) (Nat.le_refl _) ?_, rfl, q _ hf⟩
  exact ⟨z, us, 0, r, Heap.get?_push_size _ rfl⟩
end

/-! ### what a def promises -/
/-- a def's promise: the bound arguments in the parameters' order, the heap, the wanted end, the wanted exception -/
abbrev Sp := List V → Hp → VK → XK → Prop
/-- how an exception lies behind a call (file 08 gives it): the callers' frames, abstract heap and state ahead of the call, the wish, the exception, the state -/
abbrev CXT := List Env → Hp → Shared → XK → Value → Shared → Prop

/-- the state at a call -/
structure Env0 (P : Program) (w : World) (K : PySem.W.Frag) (mg : Str → Option Value) (base : Heap) (A : Around) (outer : List Env) (s : Shared) (H : Hp) : Prop where
  frames : A.frames = some outer
  mod : Mod K mg base
  bs : ∀ b o, base.get? b = some o → s.heap.get? b = some o ∧ H b = none
  bsz : base.objs.size ≤ s.heap.objs.size
  funs : s.heap.FunFrames base outer
  frf : ∀ b ∈ frs outer, H b = none
  hok : HOk P w H s.heap
  bare : AllBare s.gens
/-- a call's end -/
def CE (outer : List Env) (P : Program) (w : World) (H : Hp) (s : Shared) (Q : VK) (u : Value) (s' : Shared) : Prop :=
  ∃ v H', s'.os = s.os ∧ AllBare s'.gens ∧ Un (frs outer) [] H H' s.heap s'.heap ∧ HOk P w H' s'.heap ∧ RelV v u ∧ Q v H'
def CR (CX : CXT) (outer : List Env) (P : Program) (w : World) (H : Hp) (s : Shared) (Q : VK) (E : XK) (r : Result) (s' : Shared) : Prop :=
  match r with
  | .ok (.ret u) => CE outer P w H s Q u s'
  | .ok _ => False
  | .error e => CX outer H s E e s'
structure FnOk (P : Program) (w : World) (K : PySem.W.Frag) (mg : Str → Option Value) (base : Heap) (CX : CXT) (k : Nat) (f : Addr) (fd : FuncData) (ps : List Str) (sp : Sp) : Prop where
  len : ∀ vs H Q E, sp vs H Q E → vs.length = ps.length
  run : ∀ (A : Around) (outer : List Env) (s : Shared) (H : Hp) (args : Args) (us : List Value) (vs : List V) (Q : VK) (E : XK), Room k A → Env0 P w K mg base A outer s H → BindsTo s fd args (ps.zip us) → Vals vs us → sp vs H Q E →
    codeAny (model P w) A (.call (.ref f) args) (CR CX outer P w H s Q E) s
theorem FnOk.mono {P : Program} {w : World} {K : PySem.W.Frag} {mg : Str → Option Value} {base : Heap} {CX : CXT} {j k : Nat} {f : Addr} {fd : FuncData} {ps : List Str} {sp : Sp} (F : FnOk P w K mg base CX j f fd ps sp) (h : j ≤ k) :
    FnOk P w K mg base CX k f fd ps sp := ⟨F.len, fun A outer s H args us vs Q E hr => F.run A outer s H args us vs Q E (hr.mono h)⟩
theorem Env0.make {P : Program} {w : World} {K : PySem.W.Frag} {mg : Str → Option Value} {base : Heap} {A : Around} {outer : List Env} {s : Shared} {H : Hp} (e : Env0 P w K mg base A outer s H) (C : Addr) (us : List Value) (kw : List (Str × Value)) :
    Env0 P w K mg base (A.under (.builtin "type.__call__" ⟨.ref C :: us, kw⟩)) outer s H := ⟨by first | exact e.frames | (simpa [Around.under, Code.envs, Code.isFrame, pushEnvs] using e.frames), e.mod, e.bs, e.bsz, e.funs, e.frf, e.hok, e.bare⟩
section
variable {X : Cx} {pins : List (Addr × Obj)} {σ : St} {H : Hp} {s s' : Shared}
/-- from a body: what a callee wants -/
theorem Inv.env0 (I : Inv X pins σ H s) : Env0 X.prog X.w X.K X.mg X.base X.A X.stack s H :=
  ⟨I.ok.frames, I.ok.mod, I.bs, Nat.le_trans I.ok.bsz I.sz, I.stack, I.stkFree, I.hok, I.bare⟩
/-- behind a call -/
theorem Inv.after {Q : VK} {u : Value} (I : Inv X pins σ H s) (h : CE X.stack X.prog X.w H s Q u s') : EP X pins σ Q u s' := by
  obtain ⟨v, H', os, bare, un, hok, r, q⟩ := h
  obtain ⟨hh, g, d, t, os'⟩ := s'
  obtain rfl : os' = s.os := os
  exact ⟨v, H', I.call (h' := hh) (g' := g) (d' := d) (t' := t) (ch := []) un hok bare (fun b z => absurd z (by simp)), r, q⟩
end

/-! ### calls -/
/-- f(..): the written arguments, then the defaults dvs; E: what is wanted of an exception -/
def tCall (sp : Sp) (dvs : List V) (E : XK) (t : TA) : TE := fun σ H Q => t σ H fun vs H1 => sp (vs ++ dvs) H1 Q E
/-- o.m(..) of an instance of the class at C -/
def tMeth (C : Addr) (m : Str) (sp : Sp) (dvs : List V) (E : XK) (ta : TE) (t : TA) : TE := fun σ H Q => ta σ H fun x H1 => ∃ a dx fs, x = .ref a ∧ H1 a = some (.ins C dx fs) ∧ fs.lookup m = none ∧
  t σ H1 fun vs H2 => sp (x :: (vs ++ dvs)) H2 Q E
/-- C(..): a new instance and its dict, then __init__ -/
def tMake (C : Addr) (sp : Sp) (dvs : List V) (E : XK) (t : TA) : TE := fun σ H Q => t σ H fun vs H1 => ∀ x dx, H1 x = none → H1 dx = none → dx ≠ x →
  sp (.ref x :: (vs ++ dvs)) (upd (upd H1 dx (.own x)) x (.ins C dx [])) (fun v H2 => v = .non ∧ Q (.ref x) H2) E

/-- how the parameters are bound: us the positional arguments, kw the keywords' values by name, ds the defaults that fill up -/
def Binds (K : PySem.W.Frag) (fd : FuncData) (ps : List Str) (ds : List Value) : Prop :=
  ∀ (s : Shared) (us : List Value), K.In s.heap → (us ++ ds).length = ps.length → BindsTo s fd ⟨us, []⟩ (ps.zip (us ++ ds))
/-- every parameter is given -/
theorem Binds.all {K : PySem.W.Frag} {fd : FuncData} {ps : List Str} (h : ∀ us : List Value, us.length = ps.length → bindArgs fd ⟨us, []⟩ = pure (ps.zip us)) : Binds K fd ps [] := fun s us _ hl => by
  rw [List.append_nil] at hl ⊢
  exact .of_eq (h us hl)

/-- an exception of a callee reaches what this body wants of exceptions -/
def Passes (CX : CXT) (X : Cx) (E : XK) : Prop := ∀ (pins : List (Addr × Obj)) (σ : St) (H : Hp) (s : Shared) (e : Value) (s' : Shared), Inv X pins σ H s → CX X.stack H s E e s' → X.xe e s'

section
variable {X : Cx} {CX : CXT} {k : Nat} {f C : Addr} {fd : FuncData} {ps : List Str} {sp : Sp} {dvs : List V} {ds : List Value} {E : XK} {x m : Str} {p pos apos : Pos} {e o : Expr} {es : List Expr} {ta : TE} {t : TA}

/-- the callee runs -/
theorem run_fn {pins : List (Addr × Obj)} {σ : St} {H : Hp} {s : Shared} {Q : VK} {us : List Value} {vs : List V} (F : FnOk X.prog X.w X.K X.mg X.base CX k f fd ps sp) (hr : Room k X.A) (hb : Binds X.K fd ps ds) (hd : Vals dvs ds) (hx : Passes CX X E)
    (I : Inv X pins σ H s) (r : Vals vs us) (h : sp (vs ++ dvs) H Q E) : wpAny (model X.prog X.w) X.A (call (.ref f) us) (EP X pins σ Q) X.xe s := by
  have r2 : Vals (vs ++ dvs) (us ++ ds) := r.append hd
  have hl : (us ++ ds).length = ps.length := by rw [← r2.length]; exact F.len _ _ _ _ h
  refine wpAny_call (codeAny_mono (F.run X.A X.stack s H ⟨us, []⟩ (us ++ ds) (vs ++ dvs) Q E hr I.env0 (hb s us I.kIn hl) r2 h) fun r s' hq => ?_)
  cases r with
  | error e => exact hx pins σ H s e s' I hq
  | ok fl =>
    cases fl with
    | ret u => exact I.after hq
    | next => exact False.elim hq
    | brk => exact False.elim hq
    | cont => exact False.elim hq

theorem pe_call (F : FnOk X.prog X.w X.K X.mg X.base CX k f fd ps sp) (hr : Room k X.A) (hg : Gl X x) (hm : X.mg x = some (.ref f)) (hk : PySem.W.keepIn X.K (.ref f) = true) (hb : Binds X.K fd ps ds) (hd : Vals dvs ds) (hx : Passes CX X E)
    (ha : PA X (e :: es) t) (hdb : (x == ("__debug__" : Str)) = false := by decide) (he : starEach (e :: es) X.env = (false, eval e X.env) :: starEach es X.env := by rfl) (hpl : (backTo pos (starEach es X.env)).any (·.1) = false := by rfl) :
    PE X (.Call (.Name x p) (e :: es) [] pos) (tCall sp dvs E t) := by
  intro pins s σ H Q I h
  refine wpAny_Call_Name_kw (ld_glob I hg hm ?_ hdb)
  refine PySem.W.callWith_K (h₀ := X.base) I.ok.mod.kin hk (thn (ha pos pins s σ H _ I h) fun us s1 ⟨vs, H1, I1, r, q⟩ => ⟨I1.kIn, ?_⟩) he hpl
  exact run_fn F hr hb hd hx I1 r q
/-- o.m(e, ..) -/
theorem pe_meth {pl : Sem Bool} (he : PE X o ta) (c : Cls X.K C) (hm : Meth X.K C m f) (F : FnOk X.prog X.w X.K X.mg X.base CX k f fd ps sp) (hr : Room k X.A) (hb : Binds X.K fd ps ds) (hd : Vals dvs ds) (hx : Passes CX X E) (ha : PA X (e :: es) t)
    (hst : starEach (e :: es) X.env = (false, eval e X.env) :: starEach es X.env := by rfl) (hpl : (backTo pos (starEach es X.env)).any (·.1) = false := by rfl)
    (ht : eval (.Call (.Attribute o m apos) (e :: es) [] pos) X.env = (do
      let ov ← eval o X.env
      standAt apos.atName
      let (f, first) ← holding [ov] (getMethod ov m pl)
      callWith pos f first (backTo pos (starEach (e :: es) X.env)) (backToKw pos (keywordEach [] X.env))) := by rfl) :
    PE X (.Call (.Attribute o m apos) (e :: es) [] pos) (tMeth C m sp dvs E ta t) := by
  intro pins s σ H Q I h
  refine PySem.W.methodCall_KW (pl := pl) (thn (he pins s σ H _ I h) fun u s1 ⟨x, H1, I1, rx, a, dx, fs, ex, ea, l, q⟩ => ?_) ht
  subst ex
  obtain rfl : u = Value.ref a := rx
  refine getmeth_ok I1 ea c hm l ?_
  refine PySem.W.callWith_K (first := [.ref a]) (h₀ := X.base) I.ok.mod.kin hm.kp (thn (ha pos pins s1 σ H1 _ I1 q) fun us s2 ⟨vs, H2, I2, r, q2⟩ => ⟨I2.kIn, ?_⟩) hst hpl
  exact run_fn (us := .ref a :: us) (vs := .ref a :: vs) F hr hb hd hx I2 (.cons rfl r) q2
/-- what a class must have to be made -/
structure Mk (K : PySem.W.Frag) (C f : Addr) : Prop where
  makes : PySem.W.makesIn K C = true
  init : PySem.W.findIn K (.ref C) "__init__" = some (some (.ref f))
  fn : PySem.W.isFn K (.ref f) = true
  kp : PySem.W.keepIn K (.ref C) = true

theorem run_make {pins : List (Addr × Obj)} {σ : St} {H : Hp} {s : Shared} {Q : VK} {us : List Value} {vs : List V} (M : Mk X.K C f) (F : FnOk X.prog X.w X.K X.mg X.base CX k f fd ps sp) (hr : Room (k + 1) X.A) (hb : Binds X.K fd ps ds) (hd : Vals dvs ds)
    (hx : Passes CX X E) (I : Inv X pins σ H s) (r : Vals vs us)
    (h : ∀ x dx, H x = none → H dx = none → dx ≠ x → sp (.ref x :: (vs ++ dvs)) (upd (upd H dx (.own x)) x (.ins C dx [])) (fun v H2 => v = .non ∧ Q (.ref x) H2) E) :
    wpAny (model X.prog X.w) X.A (call (.ref C) us) (EP X pins σ Q) X.xe s := by
  have hq := h (s.heap.objs.size + 1) s.heap.objs.size (I.hok.fresh (Nat.le_succ _)) (I.hok.fresh (Nat.le_refl _)) (Nat.ne_of_lt (Nat.lt_succ_self _))
  have I2 := Inv.made (C := C) I
  have r2 : Vals (V.ref (s.heap.objs.size + 1) :: (vs ++ dvs)) (Value.ref (s.heap.objs.size + 1) :: (us ++ ds)) := .cons rfl (r.append hd)
  have hl : (Value.ref (s.heap.objs.size + 1) :: us ++ ds).length = ps.length := by
    have e := r2.length
    rw [F.len _ _ _ _ hq] at e
    exact e.symm
  refine wpAny_call (make_map (f := f) I.kIn M.makes M.init (beq_iff_eq.mp M.fn) (codeAny_mono (F.run _ X.stack _ _ ⟨Value.ref (s.heap.objs.size + 1) :: us, []⟩ (Value.ref (s.heap.objs.size + 1) :: (us ++ ds)) _ _ E (hr.make C us [])
    (I2.env0.make C us []) (hb _ (Value.ref (s.heap.objs.size + 1) :: us) I2.kIn hl) r2 hq) fun r s' hq' => ?_))
  cases r with
  | error e => exact hx pins σ _ _ e s' I2 hq'
  | ok fl =>
    cases fl with
    | ret u =>
      obtain ⟨v, H', I3, rv, ev, q3⟩ := I2.after hq'
      subst ev
      exact ⟨rv, ⟨V.ref (s.heap.objs.size + 1), H', I3, rfl, q3⟩⟩
    | next => exact False.elim hq'
    | brk => exact False.elim hq'
    | cont => exact False.elim hq'
theorem pe_make (M : Mk X.K C f) (F : FnOk X.prog X.w X.K X.mg X.base CX k f fd ps sp) (hr : Room (k + 1) X.A) (hg : Gl X x) (hm : X.mg x = some (.ref C)) (hb : Binds X.K fd ps ds) (hd : Vals dvs ds) (hx : Passes CX X E)
    (ha : PA X (e :: es) t) (hdb : (x == ("__debug__" : Str)) = false := by decide) (he : starEach (e :: es) X.env = (false, eval e X.env) :: starEach es X.env := by rfl) (hpl : (backTo pos (starEach es X.env)).any (·.1) = false := by rfl) :
    PE X (.Call (.Name x p) (e :: es) [] pos) (tMake C sp dvs E t) := by
  intro pins s σ H Q I h
  refine wpAny_Call_Name_kw (ld_glob I hg hm ?_ hdb)
  refine PySem.W.callWith_K (h₀ := X.base) I.ok.mod.kin M.kp (thn (ha pos pins s σ H _ I h) fun us s1 ⟨vs, H1, I1, r, q⟩ => ⟨I1.kIn, ?_⟩) he hpl
  exact run_make M F hr hb hd hx I1 r q
end

/-! ### keywords -/
/-- the values of the keywords, from the left -/
def PK (X : Cx) (kws : List Keyword) (t : TA) : Prop :=
  ∀ (pos : Pos) (pins : List (Addr × Obj)) (s : Shared) (σ : St) (H : Hp) (Q : List V → Hp → Prop), Inv X pins σ H s → t σ H Q → wpAny (model X.prog X.w) X.A (evalAll ((backToKw pos (keywordEach kws X.env)).map (·.2))) (AP X pins σ Q) X.xe s
section
variable {X : Cx} {CX : CXT} {k : Nat} {f C : Addr} {fd : FuncData} {ps ks : List Str} {sp : Sp} {E : XK} {x m : Str} {p pos apos kpos : Pos} {e o : Expr} {es : List Expr} {kws : List Keyword} {te ta : TE} {t tk : TA} {nm : Option Str}
/-- how a call with keywords binds: g puts the positional values us and the keywords' values ws (names ks) in the parameters' order, defaults among them -/
structure KBinds (K : PySem.W.Frag) (fd : FuncData) (ps ks : List Str) (g : List Value → List Value → List Value) (gV : List V → List V → List V) : Prop where
  to : ∀ (s : Shared) (us ws : List Value), K.In s.heap → (g us ws).length = ps.length → BindsTo s fd ⟨us, ks.zip ws⟩ (ps.zip (g us ws))
  rel : ∀ {vs : List V} {us : List Value} {zs : List V} {ws : List Value}, Vals vs us → Vals zs ws → Vals (gV vs zs) (g us ws)
def tCallK (sp : Sp) (gV : List V → List V → List V) (E : XK) (t tk : TA) : TE := fun σ H Q => t σ H fun vs H1 => tk σ H1 fun zs H2 => sp (gV vs zs) H2 Q E
variable {g : List Value → List Value → List Value} {gV : List V → List V → List V}
end

/-! ### a def's body keeps its promise -/
/-- names: the parameters first -/
structure FnScope (N P : List Str) (sc : Scope) : Prop where
  kind : sc.kind = .function
  co : sc.isCoroutine = false
  gen : sc.isGenerator = false
  nd : N.Nodup
  pre : N.take P.length = P
  par : ∀ x ∈ P, sc.names.lookup x = some .local ∨ sc.names.lookup x = some .cell
  nofree : ∀ y ∈ sc.names, y.2 ≠ .free

theorem bindL_out {kindOf : Str → Option NameKind} {x : Str} : ∀ {binds : List (Str × Value)} {m : Str → Option Value}, (∀ v, (x, v) ∉ binds) → bindL kindOf binds m x = m x
  | [], _, _ => rfl
  | (n, v) :: r, m, h => by
    unfold bindL
    rw [bindL_out fun w hw => h w (List.mem_cons_of_mem _ hw)]
    split
    · have : x ≠ n := by rintro rfl; exact h v List.mem_cons_self
      simp [this]
    · rfl
theorem bindC_out {kindOf : Str → Option NameKind} {x : Str} : ∀ {binds : List (Str × Value)} {m : Str → Option Value}, (∀ v, (x, v) ∉ binds) → bindC kindOf binds m x = m x
  | [], _, _ => rfl
  | (n, v) :: r, m, h => by
    unfold bindC
    rw [bindC_out fun w hw => h w (List.mem_cons_of_mem _ hw)]
    split
    · rfl
    · have : x ≠ n := by rintro rfl; exact h v List.mem_cons_self
      simp [this]
theorem bindL_get {kindOf : Str → Option NameKind} {x : Str} {v : Value} : ∀ {P : List Str} {vs : List Value} {i : Nat} {m : Str → Option Value}, P.Nodup → P[i]? = some x → vs[i]? = some v → kindOf x = some .local →
    bindL kindOf (P.zip vs) m x = some v
  | [], _, _, _, _, h, _, _ => by simp at h
  | _ :: _, [], _, _, _, _, h, _ => by simp at h
  | p :: P, w :: vs, 0, m, nd, h1, h2, hk => by
    simp at h1 h2; subst h1; subst h2
    show bindL kindOf ((p, w) :: P.zip vs) m p = _
    unfold bindL
    rw [bindL_out fun v hv => (List.nodup_cons.mp nd).1 (List.of_mem_zip hv).1, if_pos hk]
    simp
  | p :: P, w :: vs, i + 1, m, nd, h1, h2, hk => by
    show bindL kindOf ((p, w) :: P.zip vs) m x = _
    unfold bindL
    exact bindL_get (i := i) (List.nodup_cons.mp nd).2 (by simpa using h1) (by simpa using h2) hk
theorem bindC_get {kindOf : Str → Option NameKind} {x : Str} {v : Value} : ∀ {P : List Str} {vs : List Value} {i : Nat} {m : Str → Option Value}, P.Nodup → P[i]? = some x → vs[i]? = some v → kindOf x ≠ some .local →
    bindC kindOf (P.zip vs) m x = some v
  | [], _, _, _, _, h, _, _ => by simp at h
  | _ :: _, [], _, _, _, _, h, _ => by simp at h
  | p :: P, w :: vs, 0, m, nd, h1, h2, hk => by
    simp at h1 h2; subst h1; subst h2
    show bindC kindOf ((p, w) :: P.zip vs) m p = _
    unfold bindC
    rw [bindC_out fun v hv => (List.nodup_cons.mp nd).1 (List.of_mem_zip hv).1, if_neg hk]
    simp
  | p :: P, w :: vs, i + 1, m, nd, h1, h2, hk => by
    show bindC kindOf ((p, w) :: P.zip vs) m x = _
    unfold bindC
    exact bindC_get (i := i) (List.nodup_cons.mp nd).2 (by simpa using h1) (by simpa using h2) hk

/-- the names' values at the entry -/
def start (N : List Str) (vs : List V) : St := vs.map some ++ List.replicate (N.length - vs.length) none

/-- the context of a def's body, at its entry; an exception leaves the frame, then lies as CX says -/
def cxOf (CX : CXT) (P : Program) (w : World) (K : PySem.W.Frag) (mg : Str → Option Value) (base : Heap) (N : List Str) (qual : Str) (scope : Scope) (f : Addr) (cd : Value) (A : Around) (outer : List Env) (s : Shared) (H : Hp) (E : XK) : Cx where
  prog := P
  w := w
  K := K
  mg := mg
  base := base
  A := A.deeper (envOfC qual scope s.heap.objs.size f cd)
  N := N
  s₀ := s
  H₀ := H
  env := envOfC qual scope s.heap.objs.size f cd
  outer := outer
  stack := envOfC qual scope s.heap.objs.size f cd :: outer
  ex := []
  calm := true
  fn := fun _ => true
  pn := []
  xe := fun e s' => wpAny (model P w) (A.deeper (envOfC qual scope s.heap.objs.size f cd)) (leaving (envOfC qual scope s.heap.objs.size f cd) e) (fun _ s'' => CX outer H s E e s'') (fun e' s'' => CX outer H s E e' s'') s'

theorem cell_has {sc : Scope} {n : Nat} {x : Str} (h : sc.names.lookup x = some .cell) : ∃ c, (cellsFrom n sc.names []).lookup x = some c := by
  have q := PySem.W.cellsFrom_some sc.names n [] (.inl h)
  exact Option.isSome_iff_exists.mp q

theorem inv_start {CX : CXT} {P : Program} {w : World} {K : PySem.W.Frag} {mg : Str → Option Value} {base : Heap} {N ps : List Str} {qual : Str} {scope : Scope} {f : Addr} {cd : Value} {A : Around} {outer : List Env} {s s1 : Shared} {H : Hp} {E : XK} {us : List Value} {vs : List V}
    (S : FnScope N ps scope) (hd : A.handled = none) (e0 : Env0 P w K mg base A outer s H) (hl : vs.length = ps.length) (r : Vals vs us)
    (x : InCallC s s.heap.objs.size (bindL (envOfC qual scope s.heap.objs.size f cd).kindOf (ps.zip us) fun _ => none) (cellsFrom (s.heap.objs.size + 1) scope.names []) (bindC (envOfC qual scope s.heap.objs.size f cd).kindOf (ps.zip us) fun _ => none) s1) :
    Inv (cxOf CX P w K mg base N qual scope f cd A outer s H E) [] (start N vs) H s1 := by
  have hpl : ps.length ≤ N.length := by have := congrArg List.length S.pre; rw [List.length_take] at this; omega
  obtain ⟨h1, tk, rfl, hk⟩ := x.done
  have noA : ∀ b : Addr, b ∉ (cxOf CX P w K mg base N qual scope f cd A outer s H E).ex := fun b z => absurd (show b ∈ ([] : List Addr) from z) (by simp)
  refine ⟨⟨e0.mod, S.kind, rfl, rfl, Nat.le_refl _, fun y z c h1 h2 => ?_, fun y hy => ?_, fun y c _ h => ?_, fun _ => hd, Around.frames_deeper e0.frames, .inr ⟨rfl, rfl⟩, fun b z => absurd z (noA b), e0.bs, e0.bsz, fun b _ _ => noA b, fun b z => absurd z (noA b), e0.funs, e0.frf⟩,
    rfl, e0.bare, Un.kept hk, ⟨_, x.toInCall.ns, fun i y v h1 h2 h3 => ?_⟩, fun y c h => ⟨_, x.cell y c h⟩, e0.hok.fresh (Nat.le_refl _), fun y c h => ?_, fun p hp => absurd (show p ∈ ([] : List (Addr × Obj)) from hp) (by simp), e0.hok.kept hk, ?_⟩
  · exact name_of_addr x.apart (PySem.mem_of_lookup h1) (PySem.mem_of_lookup h2)
  · have hy : scope.names.lookup y = some .cell ∨ scope.names.lookup y = some .free := hy
    rcases hy with hy | hy
    · exact cell_has hy
    · exact absurd rfl (S.nofree _ (PySem.mem_of_lookup hy))
  · exact Nat.le_of_lt (x.above y c (PySem.mem_of_lookup h))
  · have hi : i < vs.length := by
      unfold start at h2
      by_cases hi : i < vs.length
      · exact hi
      · rw [List.getElem?_append_right (by simpa using hi)] at h2
        rw [List.getElem?_replicate] at h2
        split at h2 <;> cases h2
    have ha : vs[i]? = some v := by
      unfold start at h2
      rw [List.getElem?_append_left (by simpa using hi), List.getElem?_map] at h2
      cases e : vs[i]? with
      | none => rw [e] at h2; cases h2
      | some a => rw [e] at h2; cases h2; rfl
    obtain ⟨u, hu, rv⟩ := r.get ha
    have hp : ps[i]? = some y := by
      rw [← S.pre, List.getElem?_take_of_lt (by omega)]; exact h1
    have ndP : ps.Nodup := by rw [← S.pre]; exact S.nd.sublist (List.take_sublist _ _)
    refine ⟨u, rv, ?_⟩
    rcases S.par y (List.mem_of_getElem? hp) with k | k
    · exact .inl ⟨k, bindL_get ndP hp hu k⟩
    · obtain ⟨c, e⟩ := cell_has (n := s.heap.objs.size + 1) k
      refine .inr ⟨.inl k, c, e, ?_⟩
      have q := x.cell y c e
      rw [bindC_get ndP hp hu (by show scope.names.lookup y ≠ _; rw [k]; decide)] at q
      exact q
  · exact e0.hok.fresh (Nat.le_of_lt (x.above y c (PySem.mem_of_lookup h)))
  · unfold start
    show _ = N.length
    rw [List.length_append, List.length_map, List.length_replicate]
    omega

/-- THE RULE: a def (or a method) of the text, by its body. The body's reading t is chosen for each entry; it is run at the parameters' values -/
theorem fn_of {CX : CXT} {P : Program} {w : World} {K : PySem.W.Frag} {mg : Str → Option Value} {base : Heap} {k : Nat} {f : Addr} {name qual : Str} {params : Arguments} {body : List Stmt} {scope : Scope} {dV kV doc pm cdv ct oc : Value} {an od : Option Addr}
    {osl : Array (Option Value)} {N ps : List Str} {sp : Sp} (lk : K.lookup f = some ⟨oc, od, .func (PySem.W.fnOf name qual params body scope dV kV doc pm an cdv ct), osl⟩) (hcd : PySem.W.codeIn K cdv qual = true) (S : FnScope N ps scope)
    (len : ∀ vs H Q E, sp vs H Q E → vs.length = ps.length)
    (hbody : ∀ (A : Around) (outer : List Env) (s : Shared) (H : Hp) (vs : List V) (Q : VK) (E : XK), Room k (A.deeper (envOfC qual scope s.heap.objs.size f cdv)) → sp vs H Q E →
      ∃ t, PSs (cxOf CX P w K mg base N qual scope f cdv A outer s H E) body t ∧ t { nx := fun _ H' => Q .non H', rt := Q } (start N vs) H) :
    FnOk P w K mg base CX (k + 1) f (PySem.W.fnOf name qual params body scope dV kV doc pm an cdv ct) ps sp := by
  refine ⟨len, fun A outer s H args us vs Q E hr e0 hb r hsp => ?_⟩
  have hl := len _ _ _ _ hsp
  have KX : K.In s.heap := e0.mod.kin.keeps fun b o e => (e0.bs b o e).1
  have lim : s.heap.NoLimit := e0.mod.nolimit.keeps fun b o e => (e0.bs b o e).1
  have hkind : ∀ y ∈ ps.zip us, scope.names.lookup y.1 = some .local ∨ (scope.names.lookup y.1 = some .cell ∧ ((cellsFrom (s.heap.objs.size + 1) scope.names []).lookup y.1).isSome = true) := fun ⟨n, v⟩ hy => by
    rcases S.par n (List.of_mem_zip hy).1 with q | q
    · exact .inl q
    · exact .inr ⟨q, PySem.W.cellsFrom_some _ _ _ (.inl q)⟩
  refine codeAny_call_function hr.depth (KX _ _ lk) rfl S.co S.gen rfl (PySem.W.codeRec_of KX hcd) (hb _ _ _ _ ?_)
  refine wpAny_newFunctionEnv_cells S.kind hkind fun env he s1 x => ?_
  subst he
  refine ⟨lim.keeps x.toInCall.keep, codeAny_func ?_⟩
  obtain ⟨t, ht, hq⟩ := hbody A outer s H vs Q E (hr.deeper _) hsp
  have I : Inv (cxOf CX P w K mg base N qual scope f cdv A outer s H E) [] (start N vs) H s1 := inv_start S hr.hd e0 hl r x
  refine wpAny_mono (ht [] s1 (start N vs) H _ I hq) (fun fl s' hs => ?_) fun e s' hs => hs
  have fin : ∀ {σ' : St} {H' : Hp} {v : V} {u : Value}, Inv (cxOf CX P w K mg base N qual scope f cdv A outer s H E) [] σ' H' s' → RelV v u → Q v H' → CE outer P w H s Q u s' :=
    fun {σ' H' v u} J rv q => ⟨v, H', J.os, J.bare, J.base, J.hok, rv, q⟩
  cases fl with
  | ret u =>
    obtain ⟨v, σ', H', J, rv, q⟩ := hs
    exact fin J rv q
  | next =>
    obtain ⟨σ', H', J, q⟩ := hs
    exact fin (v := V.non) (u := Value.none) J rfl q
  | brk =>
    obtain ⟨_, _, _, q⟩ := hs
    exact False.elim q
  | cont =>
    obtain ⟨_, _, _, q⟩ := hs
    exact False.elim q
end L2

namespace L2
open PySem PySem.Spec PyProof.Rows
section
variable {X : Cx} {x : Str} {p pos : Pos} {e : Expr} {es : List Expr} {t : TA} {id T : String} {r : List V → Hp → VK → Prop}

def tCB (r : List V → Hp → VK → Prop) (t : TA) : TE := fun σ H Q => t σ H fun vs H1 => r vs H1 Q
/-- f(e, ..), f a built-in function -/
theorem pe_callB (hc : CallR X (.builtin id) r) (hg : Gl X x) (hm : X.mg x = none) (hv : bootBuiltins x = some (.builtin id)) (ha : PA X (e :: es) t) (hn : x ≠ "__name__" := by decide) (hdb : (x == ("__debug__" : Str)) = false := by decide)
    (he : starEach (e :: es) X.env = (false, eval e X.env) :: starEach es X.env := by rfl) (hpl : (backTo pos (starEach es X.env)).any (·.1) = false := by rfl) : PE X (.Call (.Name x p) (e :: es) [] pos) (tCB r t) := by
  intro pins s σ H Q I h
  refine wpAny_Call_Name_kw (ld_blt I hg hm hv ?_ hn hdb)
  exact PyProof.Rows.callWith_builtin1 (thn (ha pos pins s σ H _ I h) fun us s1 ⟨vs, H1, I1, r1, q1⟩ => hc pins s1 σ H1 vs us Q I1 r1 q1) he hpl
/-- T(e, ..), T a built-in type -/
theorem pe_callTy (hc : CallR X (.type T) r) (hg : Gl X x) (hm : X.mg x = none) (hv : bootBuiltins x = some (.type T)) (ha : PA X (e :: es) t) (hn : x ≠ "__name__" := by decide) (hdb : (x == ("__debug__" : Str)) = false := by decide)
    (he : starEach (e :: es) X.env = (false, eval e X.env) :: starEach es X.env := by rfl) (hpl : (backTo pos (starEach es X.env)).any (·.1) = false := by rfl) : PE X (.Call (.Name x p) (e :: es) [] pos) (tCB r t) := by
  intro pins s σ H Q I h
  refine wpAny_Call_Name_kw (ld_blt I hg hm hv ?_ hn hdb)
  exact PyProof.Rows.callWith_type1 (thn (ha pos pins s σ H _ I h) fun us s1 ⟨vs, H1, I1, r1, q1⟩ => hc pins s1 σ H1 vs us Q I1 r1 q1) he hpl
end
end L2

namespace HT
open PySem PyProof.Rows

/-- t < u of tuples of ints -/
def lexLt : List Int → List Int → Bool
  | [], [] => false
  | [], _ :: _ => true
  | _ :: _, [] => false
  | x :: xs, y :: ys => if x = y then lexLt xs ys else decide (x < y)
theorem lexLt_cons (x y : Int) (xs ys : List Int) : lexLt (x :: xs) (y :: ys) = if x = y then lexLt xs ys else decide (x < y) := rfl
theorem lexLt_nil_nil : lexLt [] [] = false := rfl
theorem lexLt_nil_cons (y : Int) (ys : List Int) : lexLt [] (y :: ys) = true := rfl
theorem lexLt_cons_nil (x : Int) (xs : List Int) : lexLt (x :: xs) [] = false := rfl

theorem rcLt_int (A : Around) (s : Shared) (a : Int) (t : Tok) (c : Int) (u : Tok) (prog : Program) (w : World) (E : Value → Shared → Prop) (Q : Value → Shared → Prop) (h : Q (.bool (decide (a < c))) s) :
    wpAny (model prog w) A (richCompare .Lt (.int a t) (.int c u)) Q E s :=
  (PyProof.Rows.lt_int h : wpAny (model prog w) A (compareOp .Lt (.int a t) (.int c u)) Q E s)

section
open PySem.SeqAt
open PySem.AutoSeq1 (wpAny_loadPart')
open PySem.MeetsSeq PySem.MeetsSeq2 PySem.MeetsSeq3

end

section
variable {prog : Program} {w : World} {A : Around} {E : Value → Shared → Prop} {s : Shared}

/-- t + u, t not empty -/
theorem cat_tup {t b : Addr} {vs ws : List Value} {Q : Value → Shared → Prop} (ht : IsTup s.heap t vs.toArray) (hb : IsTup s.heap b ws.toArray) (hv : vs ≠ [])
    (h1 : ws = [] → Q (.ref t) s) (h2 : ws ≠ [] → Q (.ref s.heap.objs.size) { s with heap := s.heap.push { cls := .type "tuple", data := .seq (vs ++ ws).toArray } })
    (hsz : vs.length + ws.length ≤ sizeLine) : wpAny (model prog w) A (binaryOp .Add (.ref t) (.ref b)) Q E s := by
  obtain ⟨⟨cls, dd, data, sl⟩, ho, hc, n, hd⟩ := id ht
  obtain ⟨⟨cls2, dd2, data2, sl2⟩, ho2, hc2, n2, hd2⟩ := id hb
  simp only at hc hd hc2 hd2
  subst hc hd hc2 hd2
  have e : vs.toArray ++ ws.toArray = (vs ++ ws).toArray := by simp
  by_cases hw : ws = []
  · exact concat_meets ⟨_, ho, rfl⟩ ⟨_, ho2, rfl⟩ noFill_tuple_add seq_tuple_add PySem.F.slot_tuple_add PySem.F.entry_tuple_add (PySem.F.args_tuple_add_2 _ _)
      (tuple_addW1 t b vs.toArray ws.toArray n n2 dd dd2 sl sl2 (by simpa using hv) (by simp [hw])) ⟨ho, ho2, h1 hw⟩
  · refine concat_meets ⟨_, ho, rfl⟩ ⟨_, ho2, rfl⟩ noFill_tuple_add seq_tuple_add PySem.F.slot_tuple_add PySem.F.entry_tuple_add (PySem.F.args_tuple_add_2 _ _)
      (tuple_addW2 t b vs.toArray ws.toArray n n2 dd dd2 sl sl2 (by simpa using hv) (by simpa using hw) (by rw [List.size_toArray, List.size_toArray]; exact hsz)) ⟨ho, ho2, ?_⟩
    rw [e]
    exact h2 hw

/-! ### t[a:b], not the whole -/
/-- a slice's bound as a place among n (d where it is left out) -/
def sIx (n d : Nat) : Option Int → Nat
  | none => d
  | some v => if v < 0 then (v + (n : Int)).toNat else min v.toNat n
theorem sIx_none (n d : Nat) : sIx n d none = d := rfl
theorem sIx_nat (n d k : Nat) : sIx n d (some (k : Int)) = min k n := by
  show (if (k : Int) < 0 then ((k : Int) + (n : Int)).toNat else min (k : Int).toNat n) = min k n
  rw [if_neg (by omega), Int.toNat_natCast]
theorem sIx_le (n d : Nat) (hd : d ≤ n) (o : Option Int) : sIx n d o ≤ n := by
  cases o with
  | none => exact hd
  | some v =>
    show (if v < 0 then (v + (n : Int)).toNat else min v.toNat n) ≤ n
    by_cases hv : v < 0
    · rw [if_pos hv]; omega
    · rw [if_neg hv]; exact Nat.min_le_right _ _
end
end HT

namespace L2
open PySem PySem.Spec PyProof.Rows

/-! ### the parts of a slice -/
abbrev TO := St → Hp → (Option Int → Hp → Prop) → Prop
/-- a slice's part (left out, or an int) -/
def PO (X : Cx) (e : Option Expr) (t : TO) : Prop :=
  ∀ (pins : List (Addr × Obj)) (s : Shared) (σ : St) (H : Hp) (Q : Option Int → Hp → Prop), Inv X pins σ H s → t σ H Q →
    wpAny (model X.prog X.w) X.A (evalPart e X.env) (fun u s' => ∃ o H', Inv X pins σ H' s' ∧ IsPart u o ∧ Q o H') X.xe s
def tNoPart : TO := fun _ H Q => Q none H
def tPart (t : TE) : TO := fun σ H Q => t σ H fun x H1 => ∃ i, x = .int i ∧ Q (some i) H1

section
variable {X : Cx} {e : Expr} {te : TE} {lo hi : Option Expr} {tl th : TO} {pos p2 : Pos}

theorem po_none : PO X none tNoPart := by
  intro pins s σ H Q I h
  rw [evalPart_none]
  exact wpAny_pure ⟨none, H, I, .none, h⟩
theorem po_some (h : PE X e te) : PO X (some e) (tPart te) := by
  intro pins s σ H Q I hw
  rw [evalPart_some]
  refine thn (h pins s σ H _ I hw) fun u s1 ⟨x, H1, I1, r1, q1⟩ => ?_
  obtain ⟨i, rfl, q⟩ := q1
  obtain ⟨t, rfl⟩ := r1
  exact ⟨some i, H1, I1, .int i t, q⟩

/-- what a slice of a value is, by values: the slice object stands at sl -/
def SlR (X : Cx) (r : V → Option Int → Option Int → Hp → VK → Prop) : Prop :=
  ∀ (pins : List (Addr × Obj)) (s : Shared) (σ : St) (H : Hp) (x : V) (v vl vu : Value) (lo hi : Option Int) (sl : Addr) (Q : VK), Inv X pins σ H s → RelV x v → s.heap.IsSliceOf sl vl vu .none → IsPart vl lo → IsPart vu hi → r x lo hi H Q →
    ∃ T id, typeLookup (.type T) "__getitem__" = pure (some (.builtin id)) ∧ s.TypeIs v T ∧ wpAny (model X.prog X.w) X.A (getItem v (.ref sl)) (EP X pins σ Q) X.xe s
def tSl (r : V → Option Int → Option Int → Hp → VK → Prop) (te : TE) (tl th : TO) : TE := fun σ H Q => te σ H fun x H1 => tl σ H1 fun l H2 => th σ H2 fun u H3 => r x l u H3 Q
/-- a[lo:hi], any a -/
theorem pe_slice {r : V → Option Int → Option Int → Hp → VK → Prop} (hr : SlR X r) (he : PE X e te) (hl : PO X lo tl) (hu : PO X hi th) : PE X (.Subscript e (.Slice lo hi none p2) pos) (tSl r te tl th) := by
  intro pins s σ H Q I h
  refine Subscript_ (thn (he pins s σ H _ I h) fun v s1 ⟨x, H1, I1, r1, q1⟩ => ?_)
  refine wpAny_Slice (thn (hl pins s1 σ H1 _ I1 q1) fun vl s2 ⟨l, H2, I2, pl, q2⟩ => thn (hu pins s2 σ H2 _ I2 q2) fun vu s3 ⟨u, H3, I3, pu, q3⟩ => ?_)
  rw [evalPart_none]
  refine wpAny_pure ?_
  have I4 : Inv X pins σ H3 { s3 with heap := s3.heap.push { cls := .type "slice", data := .fields #[vl, vu, .none] } } := I3.kept (t' := s3.toks) fun b ob q => Heap.get?_push_of_some _ q
  obtain ⟨T, id, hT, ht, hg⟩ := hr pins { s3 with heap := s3.heap.push { cls := .type "slice", data := .fields #[vl, vu, .none] } } σ H3 x v vl vu l u s3.heap.objs.size Q I4 r1 (Heap.IsSliceOf.new ..) pl pu q3
  show wpAny (model X.prog X.w) X.A (subscriptTail e (.Slice lo hi none p2) v (.ref s3.heap.objs.size)) (EP X pins σ Q) X.xe { s3 with heap := s3.heap.push { cls := .type "slice", data := .fields #[vl, vu, .none] } }
  exact tail_any (ops := [.ref s3.heap.objs.size, v]) ht hT hg (by with_unfolding_all rfl)

/-- the items of xs[lo:hi] -/
def cutV (xs : List V) (lo hi : Option Int) : List V := (xs.drop (HT.sIx xs.length 0 lo)).take (HT.sIx xs.length xs.length hi - HT.sIx xs.length 0 lo)
theorem cutV_length (xs : List V) (lo hi : Option Int) : (cutV xs lo hi).length ≤ xs.length := by
  unfold cutV
  rw [List.length_take, List.length_drop]
  omega
/-- t[lo:hi], not the whole of it (the whole would be t itself) -/
def rSlT (K : PySem.W.Frag) : V → Option Int → Option Int → Hp → VK → Prop := fun x lo hi H Q => ∃ a xs, x = .ref a ∧ SqT K H a xs ∧
  ¬ (HT.sIx xs.length 0 lo = 0 ∧ HT.sIx xs.length xs.length hi = xs.length) ∧ ∀ p, H p = none → Q (.ref p) (upd H p (.tup (cutV xs lo hi)))
/-! ### t < u, t + u -/
def rLtT (K : PySem.W.Frag) : R2 := fun x y H Q => ∃ a b ns ms, x = .ref a ∧ y = .ref b ∧ SqT K H a (ns.map V.int) ∧ SqT K H b (ms.map V.int) ∧ Q (.bl (HT.lexLt ns ms)) H
/-- t + u, t not empty: u empty gives t itself -/
def rCatT (K : PySem.W.Frag) : R2 := fun x y H Q => ∃ a b xs ys, x = .ref a ∧ y = .ref b ∧ SqT K H a xs ∧ SqT K H b ys ∧ xs ≠ [] ∧ xs.length + ys.length ≤ sizeLine ∧
  (ys = [] → Q (.ref a) H) ∧ (ys ≠ [] → ∀ p, H p = none → Q (.ref p) (upd H p (.tup (xs ++ ys))))
theorem Vals.nil_iff {xs : List V} {us : List Value} (r : Vals xs us) : us = [] ↔ xs = [] := by
  cases r with
  | nil => simp
  | cons _ _ => simp
theorem op_catT : OpR X (binaryOp .Add) (rCatT X.K) := by
  intro pins s σ H x y v u Q I rx ry h
  obtain ⟨a, b, xs, ys, rfl, rfl, ha, hb, hx, hz, q1, q2⟩ := h
  cases rx
  cases ry
  obtain ⟨its, r1, p1, _⟩ := I.tuple ha
  obtain ⟨its2, r2, p2, _⟩ := I.tuple hb
  refine HT.cat_tup p1 p2 (fun z => hx (r1.nil_iff.mp z)) (fun z => ⟨.ref a, H, I, rfl, q1 (r2.nil_iff.mp z)⟩) (fun z => ?_) (by rw [← r1.length, ← r2.length]; exact hz)
  refine ⟨.ref s.heap.objs.size, _, I.laid (t' := s.toks) (o := .tup (xs ++ ys)) (fun b ob q => Heap.get?_push_of_some _ q) (Nat.le_refl _) ?_, rfl, q2 (fun w => z (r2.nil_iff.mpr w)) _ (I.hok.fresh (Nat.le_refl _))⟩
  exact ⟨by rw [List.length_append]; exact hz, _, r1.append r2, IsTup.new _ _⟩
end
end L2

namespace L2
open PySem PySem.Spec PyProof.Rows

/-! ### places -/
/-- the place that an index of any sign means -/
def ixN (n : Nat) (i : Int) : Option Nat := if 0 ≤ i then (if i < n then some i.toNat else none) else if -(n : Int) ≤ i then some (i + n).toNat else none
def atI {α : Type} (xs : List α) (i : Int) : Option α := (ixN xs.length i).bind fun j => xs[j]?
theorem ixN_seq {n : Nat} {i : Int} {j : Nat} (h : ixN n i = some j) : seqIndex? i n = some j ∧ j < n ∧ -(n : Int) ≤ i ∧ i < n := by
  unfold ixN at h
  by_cases h0 : 0 ≤ i
  · rw [if_pos h0] at h
    by_cases h1 : i < n
    · rw [if_pos h1] at h
      have e : i.toNat = j := Option.some.inj h
      exact ⟨by rw [seqIndex_of h0 h1, e], by omega, by omega, h1⟩
    · rw [if_neg h1] at h; cases h
  · rw [if_neg h0] at h
    by_cases h1 : -(n : Int) ≤ i
    · rw [if_pos h1] at h
      have e : (i + n).toNat = j := Option.some.inj h
      exact ⟨by rw [seqIndex_neg (by omega) h1, e], by omega, h1, by omega⟩
    · rw [if_neg h1] at h; cases h
theorem atI_get {α : Type} {xs : List α} {i : Int} {v : α} (h : atI xs i = some v) : ∃ j, seqIndex? i xs.length = some j ∧ xs[j]? = some v ∧ j < xs.length ∧ -(xs.length : Int) ≤ i ∧ i < xs.length := by
  unfold atI at h
  cases e : ixN xs.length i with
  | none => rw [e] at h; cases h
  | some j =>
    rw [e] at h
    obtain ⟨h1, h2, h3, h4⟩ := ixN_seq e
    exact ⟨j, h1, h, h2, h3, h4⟩
/-! ### what may be subscripted -/
/-- what stands as an index of a plain subscript -/
def PlainIx (b : Expr) : Prop := ∀ o i, subscripted b false o i = operate [o, i] (getItem o i)
/-- a subscript by values -/
def IxR (X : Cx) (r : R2) : Prop :=
  ∀ (value slice : Expr) (pins : List (Addr × Obj)) (s : Shared) (σ : St) (H : Hp) (x y : V) (v u : Value) (Q : VK), Inv X pins σ H s → RelV x v → RelV y u → r x y H Q →
    subscripted slice false v u = operate [v, u] (getItem v u) → wpAny (model X.prog X.w) X.A (subscriptTail value slice v u) (EP X pins σ Q) X.xe s
/-- a call of a builtin's method by values: the receiver, the arguments -/
def MtR (X : Cx) (id : String) (r : V → List V → Hp → VK → Prop) : Prop :=
  ∀ (pins : List (Addr × Obj)) (s : Shared) (σ : St) (H : Hp) (x : V) (xs : List V) (v : Value) (us : List Value) (Q : VK), Inv X pins σ H s → RelV x v → Vals xs us → r x xs H Q →
    wpAny (model X.prog X.w) X.A (call (.builtin id) (v :: us)) (EP X pins σ Q) X.xe s
section
variable {X : Cx} {a b : Expr} {ta tb : TE} {pos : Pos}
/-- a[b] -/
theorem pe_ix {r : R2} (hr : IxR X r) (ha : PE X a ta) (hb : PE X b tb) (hs : PlainIx b) : PE X (.Subscript a b pos) (tOp r ta tb) := by
  intro pins s σ H Q I h
  exact Subscript_ (binT ha hb I h fun v u s2 x y H2 I2 rx ry q => hr a b pins s2 σ H2 x y v u Q I2 rx ry q (hs _ _))

def rIxL (K : PySem.W.Frag) : R2 := fun x y H Q => ∃ p xs i v, x = .ref p ∧ y = .int i ∧ SqL K H p xs ∧ atI xs i = some v ∧ Q v H
def rIxT (K : PySem.W.Frag) : R2 := fun x y H Q => ∃ p xs i v, x = .ref p ∧ y = .int i ∧ SqT K H p xs ∧ atI xs i = some v ∧ Q v H
def rIxS : R2 := fun x y H Q => ∃ z i c, x = .str z ∧ y = .int i ∧ z.length ≤ sizeLine ∧ atI z.cps.toList i = some c ∧ Q (.str ⟨#[c]⟩) H
theorem ix_list : IxR X (rIxL X.K) := by
  intro value slice pins s σ H x y v u Q I rx ry h hs
  obtain ⟨p, xs, i, z, rfl, rfl, hq, he, q⟩ := h
  cases rx
  obtain ⟨t, rfl⟩ := ry
  obtain ⟨its, r, pl, hz⟩ := I.list hq
  obtain ⟨j, h1, h2, h3, h4, h5⟩ := atI_get he
  obtain ⟨w, ew, rw'⟩ := r.get h2
  have hl := r.length
  have hn := line63
  have fin : EP X pins σ Q w s := ⟨z, H, I, rw', q⟩
  by_cases h0 : 0 ≤ i
  · have hj : i.toNat = j := by
      rw [seqIndex_of h0 h5] at h1
      exact Option.some.inj h1
    exact item_listR pl.isList h0 (by omega) (by rw [hj]; simpa using ew) fin hs
  · have hj : (i + (its.toArray.size : Int)).toNat = j := by
      rw [seqIndex_neg (by omega) h4] at h1
      rw [List.size_toArray, ← hl]
      exact Option.some.inj h1
    exact subscriptTail_builtinR (x := w) pl.isList.typeIs slot_list_getitem.lookup
      (wpAny_getItem_list_neg (Q := fun r s' => r = w ∧ EP X pins σ Q r s') pl.isList (by omega) (by rw [List.size_toArray] <;> omega) (by omega) (by rw [hj]; simpa using ew) ⟨rfl, fin⟩) hs
theorem ix_tup : IxR X (rIxT X.K) := by
  intro value slice pins s σ H x y v u Q I rx ry h hs
  obtain ⟨p, xs, i, z, rfl, rfl, hq, he, q⟩ := h
  cases rx
  obtain ⟨t, rfl⟩ := ry
  obtain ⟨its, r, pl, hz⟩ := I.tuple hq
  obtain ⟨j, h1, h2, h3, h4, h5⟩ := atI_get he
  obtain ⟨w, ew, rw'⟩ := r.get h2
  have hl := r.length
  have hn := line63
  have fin : EP X pins σ Q w s := ⟨z, H, I, rw', q⟩
  exact subscriptTail_builtinR (x := w) pl.typeIs slot_tuple_getitem.lookup
    (getItem_tuple (j := j) (Q := fun r s' => r = w ∧ EP X pins σ Q r s') pl (by omega) (by omega) (by rw [List.size_toArray, ← hl]; exact h1) (by simpa using ew) ⟨rfl, fin⟩) hs
theorem ix_str : IxR X rIxS := by
  intro value slice pins s σ H x y v u Q I rx ry h hs
  obtain ⟨z, i, c, rfl, rfl, hz, he, q⟩ := h
  obtain ⟨t, rfl⟩ := rx
  obtain ⟨t', rfl⟩ := ry
  obtain ⟨j, h1, h2, h3, h4, h5⟩ := atI_get he
  have hl : z.cps.toList.length = z.length := by simp [Str.length]
  rw [hl] at h1 h4 h5
  have hn := line63
  exact tail_any (typeIs_str s z t) slot_str_getitem.lookup (getItem_str (c := c) (by
    have e1 : decide (i < -(2 ^ 63 : Int)) = false := decide_eq_false (by omega)
    have e2 : decide (i ≥ 2 ^ 63) = false := decide_eq_false (by omega)
    rw [e1, e2, Bool.or_false]) (by rw [h1]; simpa using h2) ⟨.str ⟨#[c]⟩, H, I.tok _, ⟨_, rfl⟩, q⟩) hs
/-- list, tuple or str -/
def rIx (K : PySem.W.Frag) : R2 := fun x y H Q => rIxL K x y H Q ∨ rIxT K x y H Q ∨ rIxS x y H Q
/-! ### xs[i] = v, any sign -/
def rSetL : V → V → V → Hp → (Hp → Prop) → Prop := fun o i v H Q => ∃ p xs k j, o = .ref p ∧ i = .int k ∧ H p = some (.lst xs) ∧ ixN xs.length k = some j ∧ Q (upd H p (.lst (xs.set j v)))
/-! ### slices -/
theorem slice_bounds (lo hi : Option Int) (n : Nat) : (sliceBounds lo hi none n).1 = ((HT.sIx n 0 lo : Nat) : Int) ∧ (sliceBounds lo hi none n).2.1 = ((HT.sIx n n hi : Nat) : Int) ∧ (sliceBounds lo hi none n).2.2 = 1 := by
  refine ⟨?_, ?_, rfl⟩
  · cases lo with
    | none => simp [sliceBounds, HT.sIx]
    | some i =>
      simp only [sliceBounds, HT.sIx, Option.getD_none, show (1 : Int) > 0 by decide, if_true]
      by_cases h : i < 0
      · simp only [h, if_true] <;> omega
      · simp only [h, if_false] <;> omega
  · cases hi with
    | none => simp [sliceBounds, HT.sIx]
    | some i =>
      simp only [sliceBounds, HT.sIx, Option.getD_none, show (1 : Int) > 0 by decide, if_true]
      by_cases h : i < 0
      · simp only [h, if_true] <;> omega
      · simp only [h, if_false] <;> omega
theorem slicePick_cut (its : List Value) (lo hi : Option Int) : slicePick its.toArray lo hi none = ((its.drop (HT.sIx its.length 0 lo)).take (HT.sIx its.length its.length hi - HT.sIx its.length 0 lo)).toArray := by
  obtain ⟨h1, h2, h3⟩ := slice_bounds lo hi its.toArray.size
  unfold slicePick
  rw [h1, h2, h3]
  simp only [sliceRange_one, pick_run, List.size_toArray] <;> rfl
/-- xs[lo:hi] of a list: a new list -/
def rSlL (K : PySem.W.Frag) : V → Option Int → Option Int → Hp → VK → Prop := fun x lo hi H Q => ∃ a xs, x = .ref a ∧ SqL K H a xs ∧ ∀ p, H p = none → Q (.ref p) (upd H p (.lst (cutV xs lo hi)))
theorem sl_list : SlR X (rSlL X.K) := by
  intro pins s σ H x v vl vu lo hi sl Q I rx hs pl pu h
  obtain ⟨a, xs, rfl, hx, q⟩ := h
  cases rx
  obtain ⟨its, r, ht, hz⟩ := I.list hx
  have hlen := r.length
  refine ⟨"list", _, slot_list_getitem.lookup, ht.isList.typeIs, ?_⟩
  refine wpAny_getItem_list_slice ht.isList hs pl pu .none (by simp) ?_ (by rw [List.size_toArray] <;> omega)
  rw [slicePick_cut, ← hlen]
  refine ⟨.ref s.heap.objs.size, _, I.laid (t' := s.toks) (o := .lst (cutV xs lo hi)) (fun b ob q => Heap.get?_push_of_some _ q) (Nat.le_refl _) ?_, rfl, q _ (I.hok.fresh (Nat.le_refl _))⟩
  exact ⟨Nat.le_trans (cutV_length xs lo hi) hz, _, 0, (r.drop (HT.sIx xs.length 0 lo)).take (HT.sIx xs.length xs.length hi - HT.sIx xs.length 0 lo), Heap.get?_push_size _ rfl⟩

/-! ### in, not in: flat items -/
def flatV : V → Bool
  | .non => true
  | .bl _ => true
  | .int _ => true
  | .str _ => true
  | _ => false
/-- == of flat values -/
def eqV : V → V → Bool
  | .non, .non => true
  | .bl a, .bl b => a == b
  | .bl a, .int b => (if a then 1 else 0) == b
  | .int a, .bl b => a == (if b then 1 else 0)
  | .int a, .int b => a == b
  | .str a, .str b => a == b
  | _, _ => false
theorem eqAt_V {A : Around} {s : Shared} {y x : V} {u v : Value} (ry : RelV y u) (rx : RelV x v) (fy : flatV y = true) (fx : flatV x = true) : SeqAt.EqAt A s u v (eqV y x) := by
  cases y with
  | non =>
    cases ry
    cases x with
    | non => cases rx; exact SeqAt.EqAt.same _
    | bl b => cases rx; exact SeqAt.EqAt.none_bool b
    | int b => obtain ⟨t, rfl⟩ := rx; exact SeqAt.EqAt.none_int b t
    | str b => obtain ⟨t, rfl⟩ := rx; exact SeqAt.EqAt.none_str b t
    | _ => exact absurd (show false = true from fx) Bool.false_ne_true
  | bl a =>
    cases ry
    cases x with
    | non => cases rx; exact SeqAt.EqAt.bool_none a
    | bl b => cases rx; exact SeqAt.EqAt.bool_bool a b
    | int b => obtain ⟨t, rfl⟩ := rx; exact SeqAt.EqAt.bool_int a b t
    | str b => obtain ⟨t, rfl⟩ := rx; exact SeqAt.EqAt.bool_str a b t
    | _ => exact absurd (show false = true from fx) Bool.false_ne_true
  | int a =>
    obtain ⟨t', rfl⟩ := ry
    cases x with
    | non => cases rx; exact SeqAt.EqAt.int_none a t'
    | bl b => cases rx; exact SeqAt.EqAt.int_bool a t' b
    | int b => obtain ⟨t, rfl⟩ := rx; exact SeqAt.EqAt.int_int a t' b t
    | str b => obtain ⟨t, rfl⟩ := rx; exact SeqAt.EqAt.int_str a t' b t
    | _ => exact absurd (show false = true from fx) Bool.false_ne_true
  | str a =>
    obtain ⟨t', rfl⟩ := ry
    cases x with
    | non => cases rx; exact SeqAt.EqAt.str_none a t'
    | bl b => cases rx; exact SeqAt.EqAt.str_bool a t' b
    | int b => obtain ⟨t, rfl⟩ := rx; exact SeqAt.EqAt.str_int a t' b t
    | str b => obtain ⟨t, rfl⟩ := rx; exact SeqAt.EqAt.str_str a t' b t
    | _ => exact absurd (show false = true from fx) Bool.false_ne_true
  | _ => exact absurd (show false = true from fy) Bool.false_ne_true
/-- the items' answers, read off the values (a value's own answer does not lean on its token) -/
def eqU (x : V) (u : Value) : Bool := match u with
  | .none => eqV .non x
  | .bool b => eqV (.bl b) x
  | .int i _ => eqV (.int i) x
  | .str z _ => eqV (.str z) x
  | _ => false
theorem eqU_of {x y : V} {u : Value} (r : RelV y u) (f : flatV y = true) : eqU x u = eqV y x := by
  cases y with
  | non => cases r; rfl
  | bl b => cases r; rfl
  | int i => obtain ⟨t, rfl⟩ := r; rfl
  | str z => obtain ⟨t, rfl⟩ := r; rfl
  | _ => exact absurd (show false = true from f) Bool.false_ne_true
theorem any_eqU {x : V} : ∀ {xs : List V} {us : List Value}, Vals xs us → xs.all flatV = true → us.any (eqU x) = xs.any fun y => eqV y x
  | _, _, .nil, _ => rfl
  | y :: xs, u :: us, .cons r t, f => by
    rw [List.all_cons, Bool.and_eq_true] at f
    rw [List.any_cons, List.any_cons, eqU_of r f.1, any_eqU t f.2]
theorem mem_eqAt {A : Around} {s : Shared} {x : V} {v : Value} (rx : RelV x v) (fx : flatV x = true) : ∀ {xs : List V} {us : List Value}, Vals xs us → xs.all flatV = true → ∀ u ∈ us, SeqAt.EqAt A s u v (eqU x u)
  | _, _, .nil, _ => fun u hu => by cases hu
  | y :: xs, u :: us, .cons r t, f => fun u' hu => by
    rw [List.all_cons, Bool.and_eq_true] at f
    rcases List.mem_cons.mp hu with rfl | hu
    · rw [eqU_of r f.1]; exact eqAt_V r rx f.1 fx
    · exact mem_eqAt rx fx t f.2 u' hu
def inV (x : V) (xs : List V) : Bool := xs.any fun y => eqV y x
/-- x in a list or tuple of flat items -/
def rIn (K : PySem.W.Frag) (neg : Bool) : R2 := fun x y H Q => ∃ p xs, y = .ref p ∧ (SqL K H p xs ∨ SqT K H p xs) ∧ flatV x = true ∧ xs.all flatV = true ∧ Q (.bl (if neg then !inV x xs else inV x xs)) H
theorem op_in_seq : OpR X (compareOp .In) (rIn X.K false) := by
  intro pins s σ H x y v u Q I rx ry h
  obtain ⟨p, xs, rfl, hq, fx, fs, q⟩ := h
  cases ry
  rcases hq with hq | hq
  · obtain ⟨its, r, pl, hz⟩ := I.list hq
    refine SeqAt.in_listAt (eqU x) pl.isList (fun w hw => mem_eqAt rx fx r fs w (by simpa using hw)) ⟨.bl _, H, I, rfl, ?_⟩
    rw [show its.toArray.any (eqU x) = its.any (eqU x) by simp, any_eqU r fs]
    exact q
  · obtain ⟨its, r, pl, hz⟩ := I.tuple hq
    refine SeqAt.in_tupleAt (eqU x) pl (fun w hw => mem_eqAt rx fx r fs w (by simpa using hw)) ⟨.bl _, H, I, rfl, ?_⟩
    rw [show its.toArray.any (eqU x) = its.any (eqU x) by simp, any_eqU r fs]
    exact q
/-! ### len, list(x), tuple(x) of any list or tuple that is read -/
theorem call_list_of : CallR X (.type "list") (fun xs H Q => ∃ p ys, xs = [.ref p] ∧ (SqL X.K H p ys ∨ SqT X.K H p ys) ∧ ∀ l, H l = none → Q (.ref l) (upd H l (.lst ys))) := by
  intro pins s σ H xs us Q I r h
  obtain ⟨p, ys, rfl, hq, q⟩ := h
  obtain ⟨u, rfl, rx⟩ := vals1 r
  cases rx
  have fin : ∀ (its : List Value), Vals ys its → ys.length ≤ sizeLine → ∀ (h' : Heap) (c' : Nat), (∀ b o', s.heap.get? b = some o' → h'.get? b = some o') →
      h'.get? s.heap.objs.size = some { cls := .type "list", dict := none, data := .seq its.toArray c', slots := #[] } → EP X pins σ Q (.ref s.heap.objs.size) { s with heap := h' } := fun its r' hz h' c' kp e =>
    ⟨.ref s.heap.objs.size, _, I.laid (t' := s.toks) kp (Nat.le_refl _) (show ObjOk X.prog X.w _ h' _ (.lst ys) from ⟨hz, its, c', r', e⟩), rfl, q _ (I.hok.fresh (Nat.le_refl _))⟩
  rcases hq with hq | hq
  · obtain ⟨its, r', pl, hz⟩ := I.list hq
    have hlen := r'.length
    obtain ⟨o, ho, hc, n, hd⟩ := pl.isList
    exact call_list_seq p (.inl rfl) ho hc hd (fun h' c' kp e => fin its r' hz h' c' kp e) (by simp only [List.size_toArray] <;> omega)
  · obtain ⟨its, r', pl, hz⟩ := I.tuple hq
    have hlen := r'.length
    obtain ⟨o, ho, hc, n, hd⟩ := pl
    exact call_list_seq p (.inr rfl) ho hc hd (fun h' c' kp e => fin its r' hz h' c' kp e) (by simp only [List.size_toArray] <;> omega)
theorem call_tuple_of : CallR X (.type "tuple") (fun xs H Q => ∃ p ys, xs = [.ref p] ∧ ((SqL X.K H p ys ∧ ∀ l, H l = none → Q (.ref l) (upd H l (.tup ys))) ∨ (SqT X.K H p ys ∧ Q (.ref p) H))) := by
  intro pins s σ H xs us Q I r h
  obtain ⟨p, ys, rfl, h⟩ := h
  obtain ⟨u, rfl, rx⟩ := vals1 r
  cases rx
  rcases h with ⟨hq, q⟩ | ⟨hq, q⟩
  · obtain ⟨its, r', pl, hz⟩ := I.list hq
    have hlen := r'.length
    refine call_tuple_list pl.isList (fun h' kp => ?_) (by simp only [List.size_toArray] <;> omega)
    have I1 : Inv X pins σ H { s with heap := h' } := I.kept (t' := s.toks) kp
    have I2 : Inv X pins σ (upd H h'.objs.size (.tup ys)) { s with heap := h'.push { cls := .type "tuple", data := .seq its.toArray } } :=
      I1.laid (t' := s.toks) (fun b o e => Heap.get?_push_of_some _ e) (Nat.le_refl _) (show ObjOk X.prog X.w _ _ _ (.tup ys) from ⟨hz, its, r', IsTup.new _ _⟩)
    exact ⟨.ref h'.objs.size, _, I2, rfl, q _ (I1.hok.fresh (Nat.le_refl _))⟩
  · obtain ⟨its, r', pl, hz⟩ := I.tuple hq
    exact call_tuple_same pl ⟨.ref p, H, I, rfl, q⟩

/-! ### the call of a builtin's method: o.m(..) -/
/-- the value is of that builtin type -/
def tyV (K : PySem.W.Frag) (T : String) (x : V) (H : Hp) : Prop := match x with
  | .str _ => T = "str"
  | .int _ => T = "int"
  | .ref p => (T = "list" ∧ ∃ xs, SqL K H p xs) ∨ (T = "tuple" ∧ ∃ o, K.lookup p = some o ∧ o.cls = .type "tuple" ∧ o.dict = none) ∨
      (T = "dict" ∧ ((∃ kvs, H p = some (.dK kvs)) ∨ ∃ kvs, H p = some (.dT kvs))) ∨ (T = "set" ∧ ∃ S n, H p = some (.set S n))
  | _ => False
theorem tyV_is {pins : List (Addr × Obj)} {σ : St} {H : Hp} {s : Shared} {T : String} {x : V} {v : Value} (I : Inv X pins σ H s) (r : RelV x v) (ty : tyV X.K T x H) :
    s.TypeIs v T ∧ ∀ a, v = .ref a → ∃ ob, s.heap.get? a = some ob ∧ ob.dict = none := by
  cases x with
  | str z =>
    obtain ⟨t, rfl⟩ := r
    cases (show T = "str" from ty)
    exact ⟨typeIs_str s z t, fun _ e => nomatch e⟩
  | int i =>
    obtain ⟨t, rfl⟩ := r
    cases (show T = "int" from ty)
    exact ⟨typeIs_int s i t, fun _ e => nomatch e⟩
  | ref p =>
    cases r
    rcases ty with ⟨rfl, xs, hq⟩ | ⟨rfl, o, hk, hc, hd⟩ | ⟨rfl, hk⟩ | ⟨rfl, S, n, hk⟩
    · obtain ⟨its, _, pl, _⟩ := I.list hq
      refine ⟨pl.isList.typeIs, fun a e => ?_⟩
      cases e
      obtain ⟨o, n, e, c, hd, _⟩ := pl
      exact ⟨o, e, hd⟩
    · refine ⟨⟨o, I.kIn p o hk, hc⟩, fun a e => ?_⟩
      cases e
      exact ⟨o, I.kIn _ o hk, hd⟩
    · have z : ∃ o, s.heap.get? p = some o ∧ o.ExactDict := by
        rcases hk with ⟨kvs, hk⟩ | ⟨kvs, hk⟩
        · obtain ⟨_, _, _, _, o, _, _, e, ex, _⟩ := I.hok p _ hk
          exact ⟨o, e, ex⟩
        · obtain ⟨_, _, _, _, o, _, _, e, ex, _⟩ := I.hok p _ hk
          exact ⟨o, e, ex⟩
      obtain ⟨o, e, ex⟩ := z
      refine ⟨⟨o, e, ex.1⟩, fun a e2 => ?_⟩
      cases e2
      exact ⟨o, e, ex.2.1⟩
    · obtain ⟨o, _, _, _, e, ex, _⟩ := I.hok p _ hk
      refine ⟨⟨o, e, ex.1⟩, fun a e2 => ?_⟩
      cases e2
      exact ⟨o, e, ex.2.1⟩
  | _ => exact False.elim ty
def tBM0 (K : PySem.W.Frag) (T : String) (r : V → List V → Hp → VK → Prop) (to : TE) : TE := fun σ H Q => to σ H fun x H1 => tyV K T x H1 ∧ r x [] H1 Q
def tBM (K : PySem.W.Frag) (T : String) (r : V → List V → Hp → VK → Prop) (to : TE) (t : TA) : TE := fun σ H Q => to σ H fun x H1 => tyV K T x H1 ∧ t σ H1 fun xs H2 => r x xs H2 Q
variable {o e : Expr} {es : List Expr} {to : TE} {t : TA} {name : Str} {apos cpos : Pos} {T id : String} {r : V → List V → Hp → VK → Prop}
theorem pe_bm0 (pa : PlainAttrs T) (slot : Slot T name id) (hty : typeOf (.builtin id) = pure (.type "method_descriptor")) (hm : MtR X id r) (ho : PE X o to)
    (hbase : attributeBase o name X.env (eval o X.env) = eval o X.env := by rfl) (hline : (apos.endLine == cpos.line) = true := by rfl) : PE X (.Call (.Attribute o name apos) [] [] cpos) (tBM0 X.K T r to) := by
  intro pins s σ H Q I h
  refine wpAny_Call_method0_late hbase hline (thn (ho pins s σ H _ I h) fun v s1 ⟨x, H1, I1, r1, ty, q1⟩ => ?_)
  obtain ⟨h1, h2⟩ := tyV_is I1 r1 ty
  exact ⟨T, id, pa, slot, hty, h1, h2, Calls.callWith_builtin rfl (PySem.evalArgs_none (hm pins s1 σ H1 x [] v [] Q I1 r1 .nil q1))⟩
theorem pe_bm (pa : PlainAttrs T) (slot : Slot T name id) (hty : typeOf (.builtin id) = pure (.type "method_descriptor")) (hm : MtR X id r) (ho : PE X o to) (ha : PA X (e :: es) t)
    (hbase : attributeBase o name X.env (eval o X.env) = eval o X.env := by rfl)
    (hfew : ((backTo cpos (starEach (e :: es) X.env)).all (fun x => !x.1) && (backToKw cpos (keywordEach [] X.env)).all (fun x => x.1.isSome)
      && decide ((e :: es).length + ([] : List Keyword).length + (if ([] : List Keyword).isEmpty then 0 else 1) < 30)) = true := by rfl)
    (hline : (apos.endLine == cpos.line) = true := by rfl) (hs : starEach (e :: es) X.env = (false, eval e X.env) :: starEach es X.env := by rfl) (hplain : (backTo cpos (starEach es X.env)).any (·.1) = false := by rfl) :
    PE X (.Call (.Attribute o name apos) (e :: es) [] cpos) (tBM X.K T r to t) := by
  intro pins s σ H Q I h
  refine wpAny_Call_method_late hbase hfew hline rfl (thn (ho pins s σ H _ I h) fun v s1 ⟨x, H1, I1, r1, ty, q1⟩ => ?_)
  obtain ⟨h1, h2⟩ := tyV_is I1 r1 ty
  refine ⟨T, id, pa, slot, hty, h1, h2, ?_⟩
  have hA := ha cpos pins s1 σ H1 _ I1 q1
  rw [hs] at hA ⊢
  refine Calls.callWith_builtin (by show (false || (backTo cpos (starEach es X.env)).any (·.1)) = false; rw [hplain] <;> rfl) (Calls.evalArgs_plain ?_)
  exact thn hA fun us s2 ⟨vs, H2, I2, r2, q2⟩ => hm pins s2 σ H2 x vs v us Q I2 r1 r2 q2
/- xs.append(e), list.index on a module's tuple .. are MtR facts of 06m -/
end
end L2

namespace L2
open PySem PySem.Spec PyProof.Rows

def MtM (X : Cx) (id : String) (r : V → List V → Hp → VK → Prop) : Prop :=
  ∀ (pins : List (Addr × Obj)) (s : Shared) (σ : St) (H : Hp) (x : V) (xs : List V) (v : Value) (us : List Value) (Q : VK), Inv X pins σ H s → RelV x v → Vals xs us → r x xs H Q →
    wpAny (model X.prog X.w) X.A (call (.builtin id) (v :: us)) (EP X pins σ Q) X.xe s

/-! ### lists of values -/
theorem Vals.one : ∀ {x : V} {us : List Value}, Vals [x] us → ∃ u, us = [u] ∧ RelV x u
  | _, _, .cons r .nil => ⟨_, rfl, r⟩
theorem Vals.zero : ∀ {us : List Value}, Vals [] us → us = []
  | _, .nil => rfl
theorem Vals.dropLast {xs : List V} {us : List Value} (h : Vals xs us) : Vals xs.dropLast us.dropLast := by
  induction h with
  | nil => exact .nil
  | cons r t ih =>
    cases t with
    | nil => exact .nil
    | cons q t' => exact .cons r ih
theorem erase_last {α : Type} (l : List α) : l.eraseIdx (l.length - 1) = l.dropLast := by
  induction l with
  | nil => rfl
  | cons a r ih =>
    cases r with
    | nil => rfl
    | cons b r =>
      have e : (a :: b :: r).length - 1 = ((b :: r).length - 1) + 1 := rfl
      rw [e, List.eraseIdx_cons_succ, ih]
      all_goals rfl
section
variable {X : Cx} {pins : List (Addr × Obj)} {σ : St} {H : Hp} {s : Shared} {l b : Addr} {xs ys zs : List V}

/-! ### the two steps: a tracked list is rewritten, a new list is laid -/
theorem Inv.lset {its its' : List Value} {n : Nat} {f : Array Value → Array Value} {t' : Nat} (I : Inv X pins σ H s) (hH : H l = some (.lst xs))
    (e : s.heap.get? l = some { cls := .type "list", data := .seq its.toArray n }) (hf : f its.toArray = its'.toArray) (hv : Vals ys its') (hz : ys.length ≤ sizeLine) :
    Inv X pins σ (upd H l (.lst ys)) { s with heap := s.heap.update l (Obj.mapSeq f), toks := t' } := by
  have q := PySem.IsL.update e f
  rw [hf] at q
  refine I.write (x := l) (e := l) (by rw [hH]; exact trivial) (.inl rfl) (fun b' u hb hu => (Heap.get?_update_other s.heap (Obj.mapSeq f) (Ne.symm hb)).trans hu) ⟨_, q⟩ ?_
  exact ⟨hz, its', _, hv, q⟩
theorem Inv.lnew {its : List Value} {t' : Nat} (I : Inv X pins σ H s) (hv : Vals ys its) (hz : ys.length ≤ sizeLine) :
    Inv X pins σ (upd H s.heap.objs.size (.lst ys)) { s with heap := s.heap.push { cls := .type "list", data := .seq its.toArray }, toks := t' } :=
  I.laid (fun _ _ q => Heap.get?_push_of_some _ q) (Nat.le_refl _) ⟨hz, its, 0, hv, Heap.get?_push_size _ rfl⟩
theorem Inv.fresh (I : Inv X pins σ H s) : H s.heap.objs.size = none := I.hok.fresh (Nat.le_refl _)
theorem Inv.lstM (I : Inv X pins σ H s) (hH : H l = some (.lst xs)) : xs.length ≤ sizeLine ∧ ∃ (its : List Value) (n : Nat), Vals xs its ∧ xs.length = its.length ∧ s.heap.get? l = some { cls := .type "list", data := .seq its.toArray n } := by
  obtain ⟨z, its, n, r, e⟩ := I.hok l _ hH
  exact ⟨z, its, n, r, r.length, e⟩

end

section
variable {X : Cx}

/-! ### methods -/
def rAppend : V → List V → Hp → VK → Prop := fun x vs H Q => ∃ l xs y, x = .ref l ∧ vs = [y] ∧ H l = some (.lst xs) ∧ xs.length < sizeLine ∧ Q .non (upd H l (.lst (xs ++ [y])))
theorem mt_append : MtM X "list.append" rAppend := by
  intro pins s σ H x vs v us Q I rx rv h
  obtain ⟨l, xs, y, rfl, rfl, hH, hz, q⟩ := h
  cases rx
  obtain ⟨u, rfl, ru⟩ := rv.one
  obtain ⟨z, its, n, r, hl, e⟩ := I.lstM hH
  refine call_meets F.slot_list_append ⟨_, e, rfl⟩ F.entry_list_append (F.args_list_append_2 _ _) (PySem.list_append l its.toArray n u (by rw [List.size_toArray]; omega)) ⟨e, ?_⟩
  refine ⟨.non, _, I.lset (its' := its ++ [u]) hH e (by simp) (r.append (.cons ru .nil)) ?_, rfl, q⟩
  rw [List.length_append, List.length_singleton]
  omega

def rExtend : V → List V → Hp → VK → Prop := fun x vs H Q => ∃ l b xs zs, x = .ref l ∧ vs = [.ref b] ∧ H l = some (.lst xs) ∧ H b = some (.lst zs) ∧ xs.length + zs.length ≤ sizeLine ∧ Q .non (upd H l (.lst (xs ++ zs)))
def rPop : V → List V → Hp → VK → Prop := fun x vs H Q => ∃ l xs y, x = .ref l ∧ vs = [] ∧ H l = some (.lst xs) ∧ xs[xs.length - 1]? = some y ∧ Q y (upd H l (.lst xs.dropLast))
theorem mt_pop : MtM X "list.pop" rPop := by
  intro pins s σ H x vs v us Q I rx rv h
  obtain ⟨l, xs, y, rfl, rfl, hH, hy, q⟩ := h
  cases rx
  have hus := rv.zero
  subst hus
  obtain ⟨z, its, n, r, hl, e⟩ := I.lstM hH
  obtain ⟨u, hu, ru⟩ := r.get hy
  have hy' : its.toArray[its.toArray.size - 1]? = some u := by
    show its.toArray[its.length - 1]? = some u
    rw [← Array.getElem?_toList, ← hl]
    exact hu
  refine call_meets F.slot_list_pop ⟨_, e, rfl⟩ F.entry_list_pop (F.args_list_pop_1 _) (MeetsSeq.list_pop_last l its.toArray n u hy' (by rw [List.size_toArray]; omega)) ⟨e, ?_⟩
  refine ⟨y, _, I.lset (its' := its.dropLast) hH e ?_ r.dropLast ?_, ru, q⟩
  · show its.toArray.eraseIdxIfInBounds (its.toArray.size - 1) = its.dropLast.toArray
    rw [List.size_toArray, List.eraseIdxIfInBounds_toArray, erase_last]
  · rw [List.length_dropLast]
    omega

def rPopAt : V → List V → Hp → VK → Prop := fun x vs H Q => ∃ l xs i k y, x = .ref l ∧ vs = [.int i] ∧ H l = some (.lst xs) ∧ -(2 ^ 63) ≤ i ∧ i < 2 ^ 63 ∧ seqIndex? i xs.length = some k ∧ xs[k]? = some y ∧ Q y (upd H l (.lst (xs.eraseIdx k)))
def rReverse : V → List V → Hp → VK → Prop := fun x vs H Q => ∃ l xs, x = .ref l ∧ vs = [] ∧ H l = some (.lst xs) ∧ Q .non (upd H l (.lst xs.reverse))
def rClear : V → List V → Hp → VK → Prop := fun x vs H Q => ∃ l xs, x = .ref l ∧ vs = [] ∧ H l = some (.lst xs) ∧ Q .non (upd H l (.lst []))
/-! ### list + list, list += list, list * int -/
def rCat : R2 := fun x y H Q => ∃ l b xs zs, x = .ref l ∧ y = .ref b ∧ H l = some (.lst xs) ∧ H b = some (.lst zs) ∧ xs.length + zs.length ≤ sizeLine ∧ ∀ p, H p = none → Q (.ref p) (upd H p (.lst (xs ++ zs)))
theorem op_cat : OpR X (binaryOp .Add) rCat := by
  intro pins s σ H x y v u Q I rx ry h
  obtain ⟨l, b, xs, zs, rfl, rfl, hH, hB, hz, q⟩ := h
  cases rx
  cases ry
  obtain ⟨z, its, n, r, hl, e⟩ := I.lstM hH
  obtain ⟨z2, its2, n2, r2, hl2, e2⟩ := I.lstM hB
  refine PySem.P.add_list e e2 ?_ (by rw [List.size_toArray, List.size_toArray]; omega)
  have ea : its.toArray ++ its2.toArray = (its ++ its2).toArray := by simp
  rw [ea]
  exact ⟨.ref _, _, I.lnew (t' := s.toks) (r.append r2) (by rw [List.length_append]; omega), rfl, q _ I.fresh⟩
/-- a list times an int (a negative one is nothing) -/
def rRep : R2 := fun x y H Q => ∃ l k xs, x = .ref l ∧ y = .int k ∧ H l = some (.lst xs) ∧ -(2 ^ 63) ≤ k ∧ k < 2 ^ 63 ∧ xs.length * k.toNat ≤ sizeLine ∧
  ∀ p, H p = none → Q (.ref p) (upd H p (.lst (List.replicate k.toNat xs).flatten))
/-! ### del xs[i] -/
end

/-! ### xs[a:b] = ys -/
section
variable {prog : Program} {w : World} {A : Around} {E : Value → Shared → Prop} {s : Shared}
set_option maxRecDepth 100000 in
end

section
variable {X : Cx}
end
end L2

namespace L2
open PySem PySem.Spec PyProof.Rows

/-! ### lists of pairs as tables -/
section
variable {κ : Type} [DecidableEq κ]
def valV (kvs : List (κ × V)) (k : κ) : Option V := (kvs.find? fun kv => decide (kv.1 = k)).map (·.2)
/-- in its place, or at the end -/
def putK (kvs : List (κ × V)) (k : κ) (v : V) : List (κ × V) :=
  if (kvs.any fun kv => decide (kv.1 = k)) = true then kvs.map (fun kv => if kv.1 = k then (kv.1, v) else kv) else kvs ++ [(k, v)]
def dropK (kvs : List (κ × V)) (k : κ) : List (κ × V) := kvs.filter fun kv => decide (kv.1 ≠ k)

theorem valV_nil {k : κ} : valV ([] : List (κ × V)) k = none := rfl
theorem valV_pos {p : κ × V} {r : List (κ × V)} {k : κ} (e : p.1 = k) : valV (p :: r) k = some p.2 := by simp [valV, List.find?_cons, e]
theorem valV_neg {p : κ × V} {r : List (κ × V)} {k : κ} (e : ¬ p.1 = k) : valV (p :: r) k = valV r k := by simp [valV, List.find?_cons, e]
theorem valV_any (k : κ) : ∀ kvs : List (κ × V), (kvs.any fun kv => decide (kv.1 = k)) = (valV kvs k).isSome
  | [] => rfl
  | p :: r => by
    rw [List.any_cons]
    by_cases e : p.1 = k
    · simp only [valV_pos e, decide_eq_true e, Bool.true_or, Option.isSome_some]
    · rw [valV_neg e, decide_eq_false e, Bool.false_or]; exact valV_any k r
theorem valV_map (k j : κ) (y : V) : ∀ kvs : List (κ × V), valV (kvs.map fun kv => if kv.1 = k then (kv.1, y) else kv) j = (valV kvs j).map fun x => if j = k then y else x
  | [] => rfl
  | p :: r => by
    have ih := valV_map k j y r
    rw [List.map_cons]
    by_cases h : p.1 = k
    · rw [if_pos h]
      by_cases e : p.1 = j
      · rw [valV_pos (p := (p.1, y)) e, valV_pos e, Option.map_some, if_pos (e.symm.trans h)]
      · rw [valV_neg (p := (p.1, y)) e, valV_neg e, ih]
    · rw [if_neg h]
      by_cases e : p.1 = j
      · rw [valV_pos (p := p) e, valV_pos e, Option.map_some, if_neg (fun z => h (e.trans z))]
      · rw [valV_neg (p := p) e, valV_neg e, ih]
theorem valV_snoc (k j : κ) (y : V) : ∀ kvs : List (κ × V), valV kvs k = none → valV (kvs ++ [(k, y)]) j = if j = k then some y else valV kvs j
  | [], _ => by
    by_cases e : k = j
    · rw [if_pos e.symm]; exact valV_pos (p := (k, y)) e
    · rw [if_neg (fun z => e z.symm)]; exact valV_neg (p := (k, y)) e
  | p :: r, hn => by
    rw [List.cons_append]
    have hk : ¬ p.1 = k := fun z => by rw [valV_pos z] at hn; cases hn
    rw [valV_neg hk] at hn
    have ih := valV_snoc k j y r hn
    by_cases e : p.1 = j
    · rw [valV_pos e, valV_pos e, if_neg (fun z => hk (e.trans z))]
    · rw [valV_neg e, valV_neg e, ih]
theorem valV_put (kvs : List (κ × V)) (k j : κ) (y : V) : valV (putK kvs k y) j = if j = k then some y else valV kvs j := by
  unfold putK
  by_cases a : (kvs.any fun kv => decide (kv.1 = k)) = true
  · rw [if_pos a, valV_map]
    rw [valV_any] at a
    by_cases e : j = k
    · obtain ⟨x, hx⟩ := Option.isSome_iff_exists.mp a
      rw [if_pos e, e, hx, Option.map_some, if_pos rfl]
    · rw [if_neg e]
      cases valV kvs j with
      | none => rfl
      | some x => rw [Option.map_some, if_neg e]
  · rw [if_neg a]
    refine valV_snoc k j y kvs ?_
    rw [valV_any] at a
    cases q : valV kvs k with
    | none => rfl
    | some x => rw [q] at a; exact (a rfl).elim
theorem length_putK (kvs : List (κ × V)) (k : κ) (v : V) : (putK kvs k v).length ≤ kvs.length + 1 := by
  unfold putK
  split
  · rw [List.length_map]; omega
  · rw [List.length_append, List.length_cons, List.length_nil]; omega
theorem putK_new {kvs : List (κ × V)} {k : κ} (v : V) (h : valV kvs k = none) : putK kvs k v = kvs ++ [(k, v)] := by
  unfold putK
  rw [valV_any, h]
  exact if_neg (by decide)

theorem RelO.isSome_eq {o : Option V} {u : Option Value} (r : RelO o u) : o.isSome = u.isSome := by
  cases o with
  | none => cases u with
    | none => rfl
    | some _ => exact (show False from r).elim
  | some _ => cases u with
    | none => exact (show False from r).elim
    | some _ => rfl
theorem RelO.getD {o : Option V} {u : Option Value} {d : V} {d' : Value} (r : RelO o u) (rd : RelV d d') : RelV (o.getD d) (u.getD d') := by
  cases o with
  | none => cases u with
    | none => exact rd
    | some _ => exact (show False from r).elim
  | some _ => cases u with
    | none => exact (show False from r).elim
    | some _ => exact r

/-- raw tables of the same keys -/
theorem KV.val {kvs : List (κ × V)} {vs : List (κ × Value)} (r : KV kvs vs) (k : κ) : RelO (valV kvs k) (valueAt vs k) := by
  unfold KV at r
  induction r with
  | nil => exact True.intro
  | @cons p q ps qs h t ih =>
    obtain ⟨h1, h2⟩ := h
    by_cases e : p.1 = k
    · have e' : q.1 = k := h1.symm.trans e
      have b : valueAt (q :: qs) k = some q.2 := by simp [valueAt, List.find?_cons, e']
      rw [valV_pos e, b]; exact h2
    · have e' : ¬ q.1 = k := fun z => e (h1.trans z)
      have b : valueAt (q :: qs) k = valueAt qs k := by simp [valueAt, List.find?_cons, e']
      rw [valV_neg e, b]; exact ih
theorem KV.any {kvs : List (κ × V)} {vs : List (κ × Value)} (r : KV kvs vs) (k : κ) : (kvs.any fun kv => decide (kv.1 = k)) = vs.any fun kv => decide (kv.1 = k) := by
  unfold KV at r
  induction r with
  | nil => rfl
  | cons h t ih => rw [List.any_cons, List.any_cons, ih, h.1]
theorem KV.repl {kvs : List (κ × V)} {vs : List (κ × Value)} (r : KV kvs vs) (k : κ) {y : V} {u : Value} (ry : RelV y u) :
    KV (kvs.map fun kv => if kv.1 = k then (kv.1, y) else kv) (vs.map fun kv => if kv.1 = k then (kv.1, u) else kv) := by
  unfold KV at r ⊢
  induction r with
  | nil => exact .nil
  | @cons p q ps qs h t ih =>
    rw [List.map_cons, List.map_cons]
    refine .cons ?_ ih
    obtain ⟨h1, h2⟩ := h
    by_cases e : p.1 = k
    · rw [if_pos e, if_pos (h1.symm.trans e)]; exact ⟨h1, ry⟩
    · rw [if_neg e, if_neg (fun z => e (h1.trans z))]; exact ⟨h1, h2⟩
theorem KV.put {kvs : List (κ × V)} {vs : List (κ × Value)} (r : KV kvs vs) (k : κ) {y : V} {u : Value} (ry : RelV y u) : KV (putK kvs k y) (stored vs k u) := by
  unfold putK stored
  rw [r.any k]
  by_cases e : (vs.any fun kv => decide (kv.1 = k)) = true
  · rw [if_pos e, if_pos e]; exact r.repl k ry
  · rw [if_neg e, if_neg e]; exact Paired.snoc r ⟨rfl, ry⟩
theorem KV.length {kvs : List (κ × V)} {vs : List (κ × Value)} (r : KV kvs vs) : kvs.length = vs.length := Paired.length r
end


/-! ### a tracked dict, its keys ints and texts or tuples of these -/
theorem kV_is {P : Program} {w : World} {k : Key} {u : Value} (r : RelV (kV k) u) : (mixKind P w).is k u = true := by
  cases k with
  | inl i => obtain ⟨t, e⟩ := (show ∃ t, u = Value.int i t from r); subst e; exact mixKind_int P w i t
  | inr x => obtain ⟨t, e⟩ := (show ∃ t, u = Value.str x t from r); subst e; exact mixKind_str P w x t
theorem kV_inj {a b : Key} (e : kV a = kV b) : a = b := by
  cases a with
  | inl i => cases b with
    | inl j => have e' : V.int i = V.int j := e; injection e' with e'; rw [e']
    | inr y => exact nomatch (show V.int i = V.str y from e)
  | inr x => cases b with
    | inl j => exact nomatch (show V.str x = V.int j from e)
    | inr y => have e' : V.str x = V.str y := e; injection e' with e'; rw [e']
theorem items_are {P : Program} {w : World} : ∀ {ks : List Key} {us : List Value}, Vals (ks.map kV) us → ItemsAre (mixKind P w) ks us
  | [], _, r => by rw [List.map_nil] at r; cases r; exact .nil
  | k :: ks, _, r => by
    rw [List.map_cons] at r
    cases r with
    | cons h t => exact .cons (kV_is h) (items_are t)

/-- raw entries of a dict with tuple keys -/
abbrev KT (H : Hp) : List (List Key × V) → List (List Key × Addr × Value) → Prop := Paired fun p q => p.1 = q.1 ∧ H q.2.1 = some (.tup (p.1.map kV)) ∧ RelV p.2 q.2.2
theorem KT.val {H : Hp} {kvs : List (List Key × V)} {xs : List (List Key × Addr × Value)} (r : KT H kvs xs) (k : List Key) : RelO (valV kvs k) ((atKey xs k).map (·.2)) := by
  induction r with
  | nil => exact True.intro
  | @cons p q ps qs h t ih =>
    obtain ⟨h1, _, h2⟩ := h
    by_cases e : p.1 = k
    · have e' : q.1 = k := h1.symm.trans e
      have b : atKey (q :: qs) k = some q.2 := by simp [atKey, List.find?_cons, e']
      rw [valV_pos e, b]; exact h2
    · have e' : ¬ q.1 = k := fun z => e (h1.trans z)
      have b : atKey (q :: qs) k = atKey qs k := by simp [atKey, List.find?_cons, e']
      rw [valV_neg e, b]; exact ih
theorem KT.repl {H : Hp} {kvs : List (List Key × V)} {xs : List (List Key × Addr × Value)} (r : KT H kvs xs) (k : List Key) {y : V} {u : Value} (ry : RelV y u) :
    KT H (kvs.map fun kv => if kv.1 = k then (kv.1, y) else kv) (xs.map (putAt k u)) := by
  induction r with
  | nil => exact .nil
  | @cons p q ps qs h t ih =>
    rw [List.map_cons, List.map_cons]
    refine .cons ?_ ih
    obtain ⟨h1, h2, h3⟩ := h
    unfold putAt
    by_cases e : p.1 = k
    · rw [if_pos e, if_pos (h1.symm.trans e)]; exact ⟨h1, h2, ry⟩
    · rw [if_neg e, if_neg (fun z => e (h1.trans z))]; exact ⟨h1, h2, h3⟩
theorem KT.put {H : Hp} {kvs : List (List Key × V)} {xs : List (List Key × Addr × Value)} (r : KT H kvs xs) (k : List Key) {b : Addr} {y : V} {u : Value} (hb : H b = some (.tup (k.map kV))) (ry : RelV y u) :
    KT H (putK kvs k y) (storedH xs k b u) := by
  have e : (kvs.any fun kv => decide (kv.1 = k)) = (atKey xs k).isSome := by
    rw [valV_any, (r.val k).isSome_eq, Option.isSome_map]
  unfold putK storedH
  rw [e]
  by_cases q : (atKey xs k).isSome = true
  · rw [if_pos q, if_pos q]; exact r.repl k ry
  · rw [if_neg q, if_neg q]; exact Paired.snoc r ⟨rfl, hb, ry⟩
theorem KT.keeps {H H' : Hp} {kvs : List (List Key × V)} {xs : List (List Key × Addr × Value)} (r : KT H kvs xs) (ht : ∀ b ys, H b = some (.tup ys) → H' b = some (.tup ys)) : KT H' kvs xs :=
  Paired.mapP r fun _ _ z => ⟨z.1, ht _ _ z.2.1, z.2.2⟩

section
variable {P : Program} {w : World} {H : Hp} {h : Heap} {a : Addr}
theorem rd_of {u : HO} (ok : HOk P w H h) (e : Rd H a u) : ObjOk P w H h a u := e.ok ok
theorem dk_rd {kvs : List (Key × V)} (ok : HOk P w H h) (e : Rd H a (.dK kvs)) : kvs.length ≤ sizeLine ∧ (a == sysModules) = false ∧ ∃ vs, KV kvs vs ∧ h.DictOf (mixKind P w) a vs :=
  show ObjOk P w H h a (.dK kvs) from rd_of ok e
theorem dk_of {kvs : List (Key × V)} (ok : HOk P w H h) (e : H a = some (.dK kvs)) : kvs.length ≤ sizeLine ∧ (a == sysModules) = false ∧ ∃ vs, KV kvs vs ∧ h.DictOf (mixKind P w) a vs := dk_rd ok (.inl e)
/-- a tracked tuple of ints and texts is a key -/
theorem key_of {ks : List Key} (ok : HOk P w H h) (e : H a = some (.tup (ks.map kV))) : (tupleKind (mixKind P w)).is h ks a := by
  obtain ⟨_, its, r, o, h1, h2, n, h3⟩ := (show ObjOk P w H h a (.tup (ks.map kV)) from ok a _ e)
  exact ⟨o, its.toArray, n, h1, h2, h3, by simpa using items_are r⟩
theorem dt_rd {kvs : List (List Key × V)} (ok : HOk P w H h) (e : Rd H a (.dT kvs)) : kvs.length ≤ sizeLine ∧ (a == sysModules) = false ∧
    ∃ xs, KT H kvs xs ∧ h.DictOfH (tupleKind (mixKind P w)) a xs := by
  obtain ⟨z, y, xs, r, o, es, ep, h1, h2, h3, h4, h5⟩ := (show ObjOk P w H h a (.dT kvs) from rd_of ok e)
  refine ⟨z, y, xs, r, o, es, ep, h1, h2, h3, h4, fun x hx => ?_, h5⟩
  have all : ∀ {l : List (List Key × V)} {m : List (List Key × Addr × Value)}, KT H l m → ∀ x ∈ m, (tupleKind (mixKind P w)).is h x.1 x.2.1 := by
    intro l m q
    induction q with
    | nil => intro x hx; exact nomatch hx
    | @cons p q ps qs hq t ih =>
      intro x hx
      rcases List.mem_cons.mp hx with e | hx
      · subst e
        exact key_of ok (by rw [← hq.1]; exact hq.2.1)
      · exact ih x hx
  exact all r x hx
theorem dt_of {kvs : List (List Key × V)} (ok : HOk P w H h) (e : H a = some (.dT kvs)) : kvs.length ≤ sizeLine ∧ (a == sysModules) = false ∧
    ∃ xs, KT H kvs xs ∧ h.DictOfH (tupleKind (mixKind P w)) a xs := dt_rd ok (.inl e)
end

/-- what the dict at a holds at the key y -/
def DGet (H : Hp) (a : Addr) (y : V) (r : Option V) : Prop :=
  (∃ kvs k, Rd H a (.dK kvs) ∧ y = kV k ∧ r = valV kvs k) ∨ ∃ kvs k b, Rd H a (.dT kvs) ∧ y = .ref b ∧ H b = some (.tup (k.map kV)) ∧ r = valV kvs k
/-- the heap behind a[y] = v -/
def DPut (H : Hp) (a : Addr) (y v : V) (H' : Hp) : Prop :=
  (∃ kvs k, H a = some (.dK kvs) ∧ y = kV k ∧ kvs.length < sizeLine ∧ H' = upd H a (.dK (putK kvs k v))) ∨
  ∃ kvs k b, H a = some (.dT kvs) ∧ y = .ref b ∧ H b = some (.tup (k.map kV)) ∧ kvs.length < sizeLine ∧ H' = upd H a (.dT (putK kvs k v))
theorem DGet.k {H : Hp} {a : Addr} {kvs : List (Key × V)} {k : Key} (e : H a = some (.dK kvs)) : DGet H a (kV k) (valV kvs k) := .inl ⟨kvs, k, .inl e, rfl, rfl⟩
theorem DPut.k {H : Hp} {a : Addr} {kvs : List (Key × V)} {k : Key} {v : V} (e : H a = some (.dK kvs)) (hl : kvs.length < sizeLine) : DPut H a (kV k) v (upd H a (.dK (putK kvs k v))) := .inl ⟨kvs, k, e, rfl, hl, rfl⟩
theorem DPut.t {H : Hp} {a b : Addr} {kvs : List (List Key × V)} {k : List Key} {v : V} (e : H a = some (.dT kvs)) (eb : H b = some (.tup (k.map kV))) (hl : kvs.length < sizeLine) :
    DPut H a (.ref b) v (upd H a (.dT (putK kvs k v))) := .inr ⟨kvs, k, b, e, rfl, eb, hl, rfl⟩


section
variable {X : Cx} {pins : List (Addr × Obj)} {σ : St} {H : Hp} {s : Shared} {a : Addr} {y v : V} {u r : Value} {o : Option V} {A : Around} {E : Value → Shared → Prop}

theorem Inv.big (I : Inv X pins σ H s) : sysModules < s.heap.objs.size := by
  have h : mainGlobals < s.heap.objs.size := (I.mod.glob.keeps I.bk).lt
  exact Nat.lt_trans (by decide) h

/-- d[y], there -/
theorem d_getItem {Q : Value → Shared → Prop} (hu : A.units + 1 < cLine) (I : Inv X pins σ H s) (g : DGet H a y (some v)) (ry : RelV y u) (h : ∀ w' s', Inv X pins σ H s' → RelV v w' → Q w' s') :
    wpAny (model X.prog X.w) A (getItem (.ref a) u) Q E s := by
  rcases g with ⟨kvs, k, e, ey, l⟩ | ⟨kvs, k, b, e, ey, eb, l⟩
  · subst ey
    obtain ⟨z, hd, vs, rel, dd⟩ := dk_rd I.hok e
    obtain ⟨w', hw, rw'⟩ := RelO.some_of (v := v) (o := valueAt vs k) (by rw [l]; exact rel.val k)
    exact wpAny_getItem_of (kV_is ry) dd.mapOf hw (h w' _ (I.tok _) rw')
  · subst ey
    cases (show u = Value.ref b from ry)
    obtain ⟨z, hd, xs, rel, dd⟩ := dt_rd I.hok e
    obtain ⟨w', hw, rw'⟩ := RelO.some_of (v := v) (o := (atKey xs k).map (·.2)) (by rw [l]; exact rel.val k)
    obtain ⟨p, hp, hp2⟩ := Option.map_eq_some_iff.mp hw
    refine wpAny_getItem_heap (tupleKind_room_in1 hu) (key_of I.hok eb) dd hp ?_
    rw [hp2]
    exact h w' _ (I.tok _) rw'
/-- a dict's object is replaced -/
theorem d_write {h' : Heap} {t' : Nat} {ob : HO} (I : Inv X pins σ H s) (mu : Mut (H a)) (hs : Heap.SameBut a s.heap h') (he : ∃ q, h'.get? a = some q) (new : ObjOk X.prog X.w (upd H a ob) h' a ob) :
    Inv X pins σ (upd H a ob) { s with heap := h', toks := t' } :=
  I.write (x := a) (e := a) mu (.inl rfl) (fun b q hb z => (hs.2 b hb).trans z) he new
theorem dk_new {P : Program} {w : World} {H' : Hp} {h' : Heap} {kvs : List (Key × V)} {vs : List (Key × Value)} (z : kvs.length ≤ sizeLine) (hd : (a == sysModules) = false) (rel : KV kvs vs) (dd : h'.DictOf (mixKind P w) a vs) :
    ObjOk P w H' h' a (.dK kvs) := ⟨z, hd, vs, rel, dd⟩
/-- d[y] = v -/
theorem d_setItem {H' : Hp} {Q : Unit → Shared → Prop} (hu : A.units + 1 < cLine) (I : Inv X pins σ H s) (g : DPut H a y v H') (ry : RelV y u) (rv : RelV v r) (h : ∀ s', Inv X pins σ H' s' → Q () s') :
    wpAny (model X.prog X.w) A (setItem (.ref a) u r) Q E s := by
  rcases g with ⟨kvs, k, e, ey, l, eH⟩ | ⟨kvs, k, b, e, ey, eb, l, eH⟩
  · subst ey eH
    obtain ⟨z, hd, vs, rel, dd⟩ := dk_of I.hok e
    have hz : vs.length ≤ sizeLine := by rw [← rel.length]; exact z
    have hl : (putK kvs k v).length ≤ sizeLine := by have := length_putK kvs k v; omega
    refine wpAny_setItem_pairs (hsz := hz) (kV_is ry) dd fun h' dd' hs => h _ ?_
    have he : ∃ q, h'.get? a = some q := let ⟨q, _, _, hq, _⟩ := dd'; ⟨q, hq⟩
    exact d_write I (by rw [e]; exact True.intro) hs he (dk_new hl hd (rel.put k rv) dd')
  · subst ey eH
    cases (show u = Value.ref b from ry)
    obtain ⟨z, hd, xs, rel, dd⟩ := dt_of I.hok e
    have hz : xs.length ≤ sizeLine := by rw [← Paired.length rel]; exact z
    have hl : (putK kvs k v).length ≤ sizeLine := by have := length_putK kvs k v; omega
    refine wpAny_setItem_heap (hsz := hz) (tupleKind_room_in1 hu) (key_of I.hok eb) dd fun h' dd' hs => h _ ?_
    obtain ⟨q, es, ep, hq, h2, h3, h4, _, h5⟩ := dd'
    refine d_write I (by rw [e]; exact True.intro) hs ⟨q, hq⟩ ⟨hl, hd, _, (rel.put k eb rv).keeps fun c ys ec => ?_, q, es, ep, hq, h2, h3, h4, h5⟩
    rw [upd_ne (ne_of ec e (fun z => nomatch z))]
    exact ec
end

section
variable {X : Cx} {pins : List (Addr × Obj)} {σ : St} {H : Hp} {s : Shared} {a : Addr} {kvs : List (Key × V)} {k : Key} {u : Value} {A : Around} {E : Value → Shared → Prop}
end


/-! ### readings and rules -/
/-- the element of a subscription, not a slice -/
def NoSl (i : Expr) : Prop := ∀ ov iv, subscripted i false ov iv = operate [ov, iv] (getItem ov iv)
theorem subD_of {prog : Program} {w : World} {A : Around} {E : Value → Shared → Prop} {s : Shared} {env : Env} {value slice : Expr} {pos : Pos} {T id : String} {Q : Value → Shared → Prop}
    (hl : typeLookup (.type T) "__getitem__" = pure (some (.builtin id))) (hs : NoSl slice)
    (h : wpAny (model prog w) A (eval value env) (fun o s₁ => wpAny (model prog w) A (eval slice env) (fun i s₂ => s₂.TypeIs o T ∧ wpAny (model prog w) A (getItem o i) Q E s₂) E s₁) E s) :
    wpAny (model prog w) A (eval (.Subscript value slice pos) env) Q E s := by
  refine Subscript_ (wpAny_mono h (fun o s₁ h₁ => wpAny_mono h₁ (fun i s₂ h₂ => ?_) fun _ _ x => x) fun _ _ x => x)
  obtain ⟨hT, h₂⟩ := h₂
  unfold subscriptTail
  refine wpAny_bind ?_
  rw [getitemInPython_of_ne hT.not_modules]
  refine wpAny_bind (wpAny_specialOf hT hl ?_)
  have fin : wpAny (model prog w) A (subscripted slice false o i) (fun r s₃ => wpAny (model prog w) A (letTemporaryGo value o r >>= fun _ => pure r) Q E s₃) E s₂ := by
    rw [hs o i]
    exact wpAny_operating (wpAny_mono h₂ (fun r s₃ h₃ => wpAny_bind (wpAny_letTemporaryGo (wpAny_pure h₃))) fun _ _ x => x)
  first
    | exact wpAny_pure (wpAny_bind fin)
    | exact wpAny_bind (wpAny_pure (wpAny_bind fin))
    | exact wpAny_bind fin

theorem dict_typeIs {X : Cx} {pins : List (Addr × Obj)} {σ : St} {H : Hp} {s : Shared} {a : Addr} {y : V} {o : Option V} (I : Inv X pins σ H s) (g : DGet H a y o) : s.TypeIs (.ref a) "dict" := by
  rcases g with ⟨kvs, k, e, _, _⟩ | ⟨kvs, k, b, e, _, _, _⟩
  · obtain ⟨_, _, vs, _, dd⟩ := dk_rd I.hok e
    exact dd.typeIs
  · obtain ⟨_, _, xs, _, dd⟩ := dt_rd I.hok e
    exact dd.typeIs
/-- d[y] -/
def tDGet (td ty : TE) : TE := fun σ H Q => td σ H fun x H1 => ty σ H1 fun y H2 => ∃ a v, x = .ref a ∧ DGet H2 a y (some v) ∧ Q v H2
/-- y in d, y not in d -/
def tDIn (ty td : TE) : TE := fun σ H Q => ty σ H fun y H1 => td σ H1 fun x H2 => ∃ a o, x = .ref a ∧ DGet H2 a y o ∧ Q (.bl o.isSome) H2
def tDNotIn (ty td : TE) : TE := fun σ H Q => ty σ H fun y H1 => td σ H1 fun x H2 => ∃ a o, x = .ref a ∧ DGet H2 a y o ∧ Q (.bl (!o.isSome)) H2
/-- d[y] = v -/
def sDPut (td ty tv : TE) : TS := fun D σ H => tv σ H fun v H1 => td σ H1 fun x H2 => ty σ H2 fun y H3 => ∃ a H4, x = .ref a ∧ DPut H3 a y v H4 ∧ D.nx σ H4
/-- d[y] op= v -/
def sDAug (td ty tv : TE) (rd : V → V → Hp → VK → Prop) : TS := fun D σ H => td σ H fun x H1 => ty σ H1 fun y H2 => ∃ a v, x = .ref a ∧ DGet H2 a y (some v) ∧
  tv σ H2 fun y2 H3 => rd v y2 H3 fun z H4 => ∃ H5, DPut H4 a y z H5 ∧ D.nx σ H5
/-- del d[y] -/
def sDDel (td ty : TE) : TS := fun D σ H => td σ H fun x H1 => ty σ H1 fun y H2 => ∃ a kvs k, x = .ref a ∧ H2 a = some (.dK kvs) ∧ y = kV k ∧ (valV kvs k).isSome = true ∧ D.nx σ (upd H2 a (.dK (dropK kvs k)))

section
variable {X : Cx} {o i e value : Expr} {pos pos' tpos : Pos} {td ty tv : TE}
theorem pe_dget (hu : X.A.units + 1 < cLine) (ho : PE X o td) (hi : PE X i ty) (hs : NoSl i) : PE X (.Subscript o i pos) (tDGet td ty) := by
  intro pins s σ H Q I h
  refine subD_of PySem.F.slot_dict_getitem.lookup hs (thn (ho pins s σ H _ I h) fun u s1 ⟨x, H1, I1, rx, q1⟩ => thn (hi pins s1 σ H1 _ I1 q1) fun iv s2 ⟨y, H2, I2, ry, a, v, ex, g, q2⟩ => ?_)
  subst ex
  obtain rfl : u = Value.ref a := rx
  exact ⟨dict_typeIs I2 g, d_getItem hu I2 g ry fun w' s3 I3 rw' => ⟨v, H2, I3, rw', q2⟩⟩
theorem ps_dput (hu : X.A.units + 1 < cLine) (ho : PE X o td) (hi : PE X i ty) (hv : PE X value tv) (hs : swapsWith value (some (.Subscript o i pos')) pos.line X.env = pure false) :
    PS X (.Assign [.Subscript o i pos'] value pos) (sDPut td ty tv) := by
  intro pins s σ H D I h
  refine wpAny_Assign_Subscript (thn (hv pins s σ H _ I h) fun r s1 ⟨v, H1, I1, rv, q1⟩ => thn (ho pins s1 σ H1 _ I1 q1) fun u s2 ⟨x, H2, I2, rx, q2⟩ => thn (hi pins s2 σ H2 _ I2 q2) fun iv s3 ⟨y, H3, I3, ry, a, H4, ex, g, q3⟩ => ?_) hs
  subst ex
  obtain rfl : u = Value.ref a := rx
  exact d_setItem hu I3 g ry rv fun s4 I4 => ⟨σ, H4, I4, q3⟩
end


/-! ### displays -/
theorem dk_empty {P : Program} {w : World} {H : Hp} (h : Heap) (hb : sysModules < h.objs.size) : ObjOk P w H (h.push { cls := .type "dict", data := .dict #[] }) h.objs.size (.dK []) :=
  ⟨Nat.zero_le _, beq_eq_false_iff_ne.mpr (Ne.symm (Nat.ne_of_lt hb)), [], .nil, Heap.DictOf.new h⟩
theorem dt_empty {P : Program} {w : World} {H : Hp} (h : Heap) (hb : sysModules < h.objs.size) : ObjOk P w H (h.push { cls := .type "dict", data := .dict #[] }) h.objs.size (.dT []) :=
  ⟨Nat.zero_le _, beq_eq_false_iff_ne.mpr (Ne.symm (Nat.ne_of_lt hb)), [], .nil, _, #[], 0, Heap.get?_push_size _ rfl, ⟨rfl, rfl, rfl⟩, rfl, rfl, List.nodup_nil⟩
/-- {}, to be a dict of the kind that is wanted -/
def tDNewK : TE := fun _ H Q => ∀ p, H p = none → Q (.ref p) (upd H p (.dK []))
def tDNewT : TE := fun _ H Q => ∀ p, H p = none → Q (.ref p) (upd H p (.dT []))
section
variable {X : Cx} {pos : Pos}
theorem pe_dnewK : PE X (.Dict [] [] pos) tDNewK := fun pins s σ H Q I h =>
  wpAny_Dict_empty ⟨.ref s.heap.objs.size, _, I.laid (a := s.heap.objs.size) (o := .dK []) (t' := s.toks) (fun _ _ q => Heap.get?_push_of_some _ q) (Nat.le_refl _) (dk_empty s.heap I.big), rfl, h _ (I.hok.fresh (Nat.le_refl _))⟩
theorem pe_dnewT : PE X (.Dict [] [] pos) tDNewT := fun pins s σ H Q I h =>
  wpAny_Dict_empty ⟨.ref s.heap.objs.size, _, I.laid (a := s.heap.objs.size) (o := .dT []) (t' := s.toks) (fun _ _ q => Heap.get?_push_of_some _ q) (Nat.le_refl _) (dt_empty s.heap I.big), rfl, h _ (I.hok.fresh (Nat.le_refl _))⟩
end

/-- the pairs of a display, from the left -/
def tPairs : List (TE × TE) → St → Hp → (List (V × V) → Hp → Prop) → Prop
  | [], _, H, Q => Q [] H
  | (tk, tv) :: r, σ, H, Q => tk σ H fun x H1 => tv σ H1 fun y H2 => tPairs r σ H2 fun ps H3 => Q ((x, y) :: ps) H3
abbrev VV : List (V × V) → List (Value × Value) → Prop := Paired fun p q => RelV p.1 q.1 ∧ RelV p.2 q.2
def PPs (X : Cx) (pos : Pos) (keys : List (Option Expr)) (values : List Expr) (trs : List (TE × TE)) : Prop :=
  ∀ (pins : List (Addr × Obj)) (s : Shared) (σ : St) (H : Hp) (Q : List (V × V) → Hp → Prop), Inv X pins σ H s → tPairs trs σ H Q →
    wpAny (model X.prog X.w) X.A (evalPairs (pairTrees keys values X.env pos)) (fun vs s' => ∃ ps H', Inv X pins σ H' s' ∧ VV ps vs ∧ Q ps H') X.xe s
def mergeK (kvs more : List (Key × V)) : List (Key × V) := more.foldl (fun acc kv => putK acc kv.1 kv.2) kvs
/-- {k: v, ..} with keys ints and texts; the new dict stands empty while the pairs are made -/
def tDisp (trs : List (TE × TE)) : TE := fun σ H Q => ∀ p, H p = none → tPairs trs σ (upd H p (.dK [])) fun ps H2 => H2 p = some (.dK []) ∧ ∃ kvs : List (Key × V), ps = kvs.map (fun kv => (kV kv.1, kv.2)) ∧ kvs.length ≤ 15 ∧ Q (.ref p) (upd H2 p (.dK (mergeK [] kvs)))
/-! ### methods -/
/-- a method call o.m(e) of a built-in, with one argument: what must be seen of the text -/
structure M1 (X : Cx) (o : Expr) (m : Str) (apos : Pos) (e : Expr) (cpos : Pos) : Prop where
  base : attributeBase o m X.env (eval o X.env) = eval o X.env
  few : ((backTo cpos (starEach [e] X.env)).all (fun x => !x.1) && (backToKw cpos (keywordEach [] X.env)).all (fun x => x.1.isSome)
    && decide (([e] : List Expr).length + ([] : List Keyword).length + (if ([] : List Keyword).isEmpty then 0 else 1) < 30)) = true
  line : (apos.endLine == cpos.line) = true
  trees : backTo cpos (starEach [e] X.env) = [(false, eval e X.env)]
structure M2 (X : Cx) (o : Expr) (m : Str) (apos : Pos) (e f : Expr) (cpos : Pos) : Prop where
  base : attributeBase o m X.env (eval o X.env) = eval o X.env
  few : ((backTo cpos (starEach [e, f] X.env)).all (fun x => !x.1) && (backToKw cpos (keywordEach [] X.env)).all (fun x => x.1.isSome)
    && decide (([e, f] : List Expr).length + ([] : List Keyword).length + (if ([] : List Keyword).isEmpty then 0 else 1) < 30)) = true
  line : (apos.endLine == cpos.line) = true
  trees : backTo cpos (starEach [e, f] X.env) = [(false, eval e X.env), (false, eval f X.env)]

/-- a is a dict, whatever its keys -/
def IsD (H : Hp) (a : Addr) : Prop := (∃ kvs, Rd H a (.dK kvs)) ∨ ∃ kvs, Rd H a (.dT kvs)
theorem isD_at {X : Cx} {pins : List (Addr × Obj)} {σ : St} {H : Hp} {s : Shared} {a : Addr} (I : Inv X pins σ H s) (d : IsD H a) :
    s.TypeIs (.ref a) "dict" ∧ (∀ b, Value.ref a = .ref b → ∃ ob, s.heap.get? b = some ob ∧ ob.dict = none) ∧ (a == sysModules) = false := by
  rcases d with ⟨kvs, e⟩ | ⟨kvs, e⟩
  · obtain ⟨_, hd, vs, _, dd⟩ := dk_rd I.hok e
    refine ⟨dd.typeIs, fun b q => ?_, hd⟩
    cases q
    obtain ⟨ob, _, _, h1, h2, _⟩ := dd
    exact ⟨ob, h1, h2.2.1⟩
  · obtain ⟨_, hd, xs, _, dd⟩ := dt_rd I.hok e
    refine ⟨dd.typeIs, fun b q => ?_, hd⟩
    cases q
    obtain ⟨ob, _, _, h1, h2, _⟩ := dd
    exact ⟨ob, h1, h2.2.1⟩

section
variable {X : Cx} {pins : List (Addr × Obj)} {σ : St} {H : Hp} {s : Shared} {a : Addr} {y d : V} {u r : Value} {o : Option V} {A : Around} {E : Value → Shared → Prop}
/-- d.get(y, x) -/
theorem d_get2 {Q : Value → Shared → Prop} (hu : A.units + 1 < cLine) (I : Inv X pins σ H s) (g : DGet H a y o) (ry : RelV y u) (rd : RelV d r) (h : ∀ w' s', Inv X pins σ H s' → RelV (o.getD d) w' → Q w' s') :
    wpAny (model X.prog X.w) A (call (.builtin "dict.get") [.ref a, u, r]) Q E s := by
  rcases g with ⟨kvs, k, e, ey, l⟩ | ⟨kvs, k, b, e, ey, eb, l⟩
  · subst ey
    obtain ⟨z, hd, vs, rel, dd⟩ := dk_rd I.hok e
    refine call_meetsIn PySem.F.slot_dict_get dd.typeIs PySem.F.entry_dict_get (PySem.F.args_dict_get_3 _ _ _) (meets_dict_get_default (mixKind X.prog X.w) a (kV_is ry) hd r) ⟨_, dd.mapOf, h _ _ (I.tok _) ?_⟩
    rw [l]
    exact (rel.val k).getD rd
  · subst ey
    cases (show u = Value.ref b from ry)
    obtain ⟨z, hd, xs, rel, dd⟩ := dt_rd I.hok e
    refine call_meetsIn PySem.F.slot_dict_get dd.typeIs PySem.F.entry_dict_get (PySem.F.args_dict_get_3 _ _ _) (meetsH_dict_get_default (tupleKind (mixKind X.prog X.w)) a b hd r) ⟨tupleKind_room_in1 hu, k, xs, key_of I.hok eb, dd, h _ _ (I.tok _) ?_⟩
    rw [l]
    exact (rel.val k).getD rd
end

def tDGet1 (td ty : TE) : TE := fun σ H Q => td σ H fun x H1 => ∃ a, x = .ref a ∧ IsD H1 a ∧ ty σ H1 fun y H2 => ∃ o, DGet H2 a y o ∧ Q (o.getD .non) H2
def tDGet2 (td ty tx : TE) : TE := fun σ H Q => td σ H fun x H1 => ∃ a, x = .ref a ∧ IsD H1 a ∧ ty σ H1 fun y H2 => tx σ H2 fun z H3 => ∃ o, DGet H3 a y o ∧ Q (o.getD z) H3
/-- d.pop(k): there; d.pop(k, x): there or not -/
def tDPop1 (td ty : TE) : TE := fun σ H Q => td σ H fun x H1 => ∃ a, x = .ref a ∧ IsD H1 a ∧ ty σ H1 fun y H2 => ∃ kvs k v, H2 a = some (.dK kvs) ∧ y = kV k ∧ valV kvs k = some v ∧ Q v (upd H2 a (.dK (dropK kvs k)))
def tDPop2 (td ty tx : TE) : TE := fun σ H Q => td σ H fun x H1 => ∃ a, x = .ref a ∧ IsD H1 a ∧ ty σ H1 fun y H2 => tx σ H2 fun z H3 => ∃ kvs k, H3 a = some (.dK kvs) ∧ y = kV k ∧
  (∀ v, valV kvs k = some v → Q v (upd H3 a (.dK (dropK kvs k)))) ∧ (valV kvs k = none → Q z H3)
section
variable {X : Cx} {o e f : Expr} {apos cpos : Pos} {td ty tx : TE}
theorem pe_dget2 (hu : X.A.units + 1 < cLine) (ho : PE X o td) (he : PE X e ty) (hf : PE X f tx) (m : M2 X o "get" apos e f cpos) : PE X (.Call (.Attribute o "get" apos) [e, f] [] cpos) (tDGet2 td ty tx) := by
  intro pins s σ H Q I h
  refine wpAny_Call_method m.base m.few m.line PySem.F.plainAttrs_dict PySem.F.slot_dict_get PySem.F.type_dict_get (thn (ho pins s σ H _ I h) fun u s1 ⟨x, H1, I1, rx, a, ex, d, q1⟩ => ?_)
  subst ex
  obtain rfl : u = Value.ref a := rx
  obtain ⟨t1, t2, _⟩ := isD_at I1 d
  refine ⟨t1, t2, ?_⟩
  rw [m.trees]
  refine Calls.callWith_builtin rfl (Calls.evalArgs_plain (Calls.spliced_cons (thn (he pins s1 σ H1 _ I1 q1) fun iv s2 ⟨y, H2, I2, ry, q2⟩ =>
    Calls.spliced_cons (thn (hf pins s2 σ H2 _ I2 q2) fun fv s3 ⟨z, H3, I3, rz, ov, g, q3⟩ => Calls.spliced_nil ?_))))
  exact d_get2 hu I3 g ry rz fun w' s4 I4 rw' => ⟨_, H3, I4, rw', q3⟩
end

/-! ### dict(d): a copy -/
section
variable {X : Cx} {pins : List (Addr × Obj)} {σ : St} {H : Hp} {s : Shared} {a : Addr} {kvs : List (Key × V)} {A : Around} {E : Value → Shared → Prop}
end


section
variable {X : Cx} {pins : List (Addr × Obj)} {σ : St} {H : Hp} {s : Shared} {a : Addr} {y : V} {u : Value} {A : Around} {E : Value → Shared → Prop}
end
end L2


namespace Att
open PySem PySem.W PySem.Calls PyProof.Rows

/-! ### the script -/
theorem ints_of_wellAll {P : Params} {h : Heap} : ∀ (ns : List Int) (vs : List Value), WellAll P h vs (ns.map WData.int) → IntsAre vs ns := by
  intro ns
  induction ns with
  | nil =>
    intro vs w
    rw [List.map_nil] at w
    cases w
    exact .nil
  | cons n ns ih =>
    intro vs w
    rw [List.map_cons] at w
    cases w with
    | cons a b =>
      cases a
      exact .cons _ _ (ih _ b)

theorem script_of {l : OpenLaw} {n : Nat} (hn : l.most = some n) {P : Params} {h : Heap} {args : List WData} {vals : List Value}
    (hpre : l.row.toRowW.claim.pre args = true) (hwl : WellAll P h vals args) :
    ∃ a vs ns, vals = [Value.ref a] ∧ args = [WData.list (ns.map WData.int)] ∧ h.get? a = some { cls := .type "list", data := .seq vs.toArray } ∧ IntsAre vs ns ∧ ns.length ≤ n := by
  have hsh : WShape.hasAll [] args [.list .int] = true := (pre_splitW hpre).1
  have hc : l.pre.holds [] { args := args } = true := (pre_splitW hpre).2
  obtain ⟨d, r, rfl, h1, h2⟩ := hasAllW_cons hsh
  obtain rfl := hasAllW_nil h2
  obtain ⟨xs, rfl, h3⟩ := hasW_list h1
  obtain ⟨ns, rfl⟩ := items_int h3
  have hlen : ns.length ≤ n := by
    unfold OpenLaw.pre at hc
    have h4 : (WTm.not (.lt (.lit (.int (n : Int))) (.len (.arg 0)))).holds [] { args := [.list (ns.map .int)] } = true := by
      have h4 := (holds_andW hc).1
      rw [hn] at h4
      exact h4
    have h5 := condW_of h4 (w_not (w_lt w_lit (w_len_list (w_arg rfl))))
    rw [List.length_map] at h5
    refine Nat.le_of_not_lt fun q => ?_
    have q' : (n : Int) < ((ns.length : Nat) : Int) := by omega
    first
      | (rw [decide_eq_true q'] at h5; exact absurd h5 (by decide))
      | (simp at h5; omega)
  cases hwl with
  | cons w1 w2 =>
    cases w2
    cases w1 with
    | list ho hall => exact ⟨_, _, ns, rfl, rfl, ho, ints_of_wellAll ns _ hall, hlen⟩

theorem post_true (l : OpenLaw) (args : List WData) : l.row.toRowW.claim.post args (.bool true) args = true :=
  postW_of (r := l.row.toRowW) (X := (true == true))
    (show WShape.has [] (.bool true) .bool = true by first | rfl | decide | simp [WShape.has, WShape.arms, WShape.armsAll])
    (show (WTm.eq .res (.lit (.bool true))).value [] { args := args, res := some (.bool true), after := args } = some (.bool (true == true)) from w_eq_bool (w_res rfl) w_lit) rfl

/-! ### the attachment: holds_open's last premise (the goal 'hc' behind k_head) from a wpAny of the law's body -/
/-- the same from a codeAny of the CALL (for a layer whose function contracts speak of calls) -/
theorem attach_call {l : OpenLaw} {n : Nat} {q : Program} {loose : List Str} {XP : (Str → Option Value) → Heap → Prop} {YP : World → Heap → Prop} {d : DefRec}
    (hn : l.most = some n) (hdf : d.params.defaults = [])
    (call : ∀ (w : World) (s₀ s₁ : Shared) (mg mb : Str → Option Value) (fa : Addr) (o : Obj) (pm cd doc : Value) (a : Addr) (vs : List Value) (ns : List Int),
      Ground q loose [] XP w s₀ mg mb s₁.heap → YP w s₁.heap →
      s₁.heap.get? fa = some o → o.data = .func (docDef d.name d.params d.body d.scope pm cd doc) → s₁.heap.CodeRec cd d.name → mg d.name = some (.ref fa) →
      s₁.heap.get? a = some { cls := .type "list", data := .seq vs.toArray } → IntsAre vs ns → ns.length ≤ n → s₁.gens = #[] →
      codeAny (model l.prog w) callerA (.call (.ref fa) ⟨[.ref a], []⟩) (fun r s' => r = .ok (.ret (.bool true)) ∧ OldK s₁.heap s'.heap ∧ s'.os = s₁.os ∧ AllBare s'.gens) s₁) :
    WalkO q loose XP YP l.row.toRowW d [] (fun f vs => PySem.call f vs) := by
  intro w s₀ s₁ mg mb G Y fa o pm cd doc dV kV ho hd hcd hD hmg hg args vals as hpre hlay hrd hwl hlo
  obtain rfl : dV = .none := Dflts.none hD hdf
  obtain rfl : kV = .none := Dflts.noKw hD
  obtain ⟨a, vs, ns, rfl, rfl, hobj, hints, hlen⟩ := script_of hn hpre hwl
  refine enter_call (codeAny_mono (call w s₀ s₁ mg mb fa o pm cd doc a vs ns G Y ho (fd_plain hd) hcd hmg hobj hints hlen hg) fun r s' hq => ?_)
  obtain ⟨rfl, h2, h3, h4⟩ := hq
  exact ⟨.inl ⟨.bool true, .bool true, [], rfl, fun _ => rfl, .bool true, post_true l _, fun _ => ⟨List.Pairwise.nil, fun _ hm => (nomatch hm)⟩⟩, h2, h3, h4⟩

/-! ### rules over ANY heap (no ledger) from facts about the written part K: the library's own take a ledger (News) for what they write -/
section
variable {prog : Program} {w : World} {A : Around} {E : Value → Shared → Prop} {s : Shared} {K : Frag}

/-! the whole heap as the ledger: makes every rule that writes through a ledger a rule over any heap -/
def noObjs (h : Heap) : Heap := { h with objs := #[] }
def ledger (h : Heap) (L d : Addr) : List (Addr × Obj) := (List.range h.objs.size).filterMap fun a => if a = L ∨ a = d then none else (h.get? a).map fun o => (a, o)
end
end Att

namespace L2
open PySem PySem.Spec PyProof.Rows

theorem vals_ints : ∀ {vs : List Value} {ns : List Int}, IntsAre vs ns → Vals (ns.map V.int) vs
  | _, _, .nil => .nil
  | _, _, .cons n t h => .cons ⟨t, rfl⟩ (vals_ints h)

/-- nothing is tracked but the script, known to the object (or it is an object of the module) -/
def Only (H : Hp) : Prop := ∀ b, H b = none ∨ ∃ o xs, H b = some (.frz o (.lst xs))

/-- THE HEAD: the law's promise, at the heap behind the top. F, the promise of the law's def, may use that base is part of the heap (so K.In base, base.Ns mainGlobals mg stand in Mod) -/
theorem law_call {P : Program} {w : World} {K : PySem.W.Frag} {mg mb : Str → Option Value} {CX : CXT} {k : Nat} {fa a : Addr} {fd : FuncData} {x : Str} {sp : Sp} {s₁ : Shared} {vs : List Value} {ns : List Int}
    (KX : K.In s₁.heap) (hns : s₁.heap.Ns mainGlobals mg) (hb : s₁.heap.Ns builtinsNs mb) (hbb : ∀ x : Str, x ≠ "__name__" → mb x = bootBuiltins x) (hlim : s₁.heap.NoLimit) (hg : s₁.gens = #[])
    (ha : s₁.heap.get? a = some { cls := .type "list", data := .seq vs.toArray }) (hi : IntsAre vs ns) (hl : ns.length ≤ sizeLine) (hr : Room k callerA)
    (F : ∀ base : Heap, K.In base → base.Ns mainGlobals mg → FnOk P w K mg base CX k fa fd [x] sp) (hbind : ∀ (s : Shared) (u : Value), BindsTo s fd ⟨[u], []⟩ [(x, u)])
    (hsp : ∀ H : Hp, Only H → SqL K H a (ns.map V.int) → sp [.ref a] H (fun v _ => v = .bl true) fun _ _ _ => False)
    (hCX : ∀ H e s', CX [] H s₁ (fun _ _ _ => False) e s' → False) :
    codeAny (model P w) callerA (.call (.ref fa) ⟨[.ref a], []⟩) (fun r s' => r = .ok (.ret (.bool true)) ∧ OldK s₁.heap s'.heap ∧ s'.os = s₁.os ∧ AllBare s'.gens) s₁ := by
  have rv := vals_ints hi
  have lenV := hi.length
  -- from an abstract heap in which nothing but the script may be tracked
  have core : ∀ H : Hp, Only H → SqL K H a (ns.map V.int) → HOk P w H s₁.heap → (∀ b, H b ≠ none → b = a) → (H a ≠ none → K.lookup a = none) →
      codeAny (model P w) callerA (.call (.ref fa) ⟨[.ref a], []⟩) (fun r s' => r = .ok (.ret (.bool true)) ∧ OldK s₁.heap s'.heap ∧ s'.os = s₁.os ∧ AllBare s'.gens) s₁ := by
    intro H hO hS hok hA hK
    have base_of : ∀ {b : Addr} {o : Obj}, s₁.heap.get? b = some o → H b = none → (hidT s₁.heap H).get? b = some o := fun e n => hidT_get e n
    have noA : ∀ {b : Addr} {o : Obj} {es : Array DictEntry} {ep : Nat}, s₁.heap.get? b = some o → o.data = .dict es ep → H b = none := fun {b o es ep} e d => by
      cases q : H b with
      | none => rfl
      | some u =>
        have e' : b = a := hA b (by rw [q]; simp)
        subst e'
        rw [ha] at e; cases e
        have d' : Data.seq vs.toArray _ = Data.dict es ep := d
        cases d'
    have nsK : ∀ {b : Addr} {m : Str → Option Value}, s₁.heap.Ns b m → (hidT s₁.heap H).Ns b m := fun {b m} ⟨o, es, ep, e, d, r⟩ => ⟨o, es, ep, base_of e (noA e d), d, r⟩
    have hKb : K.In (hidT s₁.heap H) := fun b o e => base_of (KX b o e) (by
      cases q : H b with
      | none => rfl
      | some u =>
        have e' : b = a := hA b (by rw [q]; simp)
        subst e'
        rw [hK (by rw [q]; simp)] at e; cases e)
    have hM : Mod K mg (hidT s₁.heap H) := ⟨hKb, nsK hns, ⟨mb, nsK hb, hbb⟩, let ⟨mc, h1, h2⟩ := hlim; ⟨mc, nsK h1, h2⟩⟩
    have e0 : Env0 P w K mg (hidT s₁.heap H) callerA [] s₁ H := ⟨rfl, hM, fun b o e => of_hidT e, Nat.le_of_eq (hidT_size _ _), trivial, fun b hb => absurd (show b ∈ ([] : List Addr) from hb) (by simp), hok, .of_eq hg⟩
    refine codeAny_mono ((F _ hKb (nsK hns)).run callerA [] s₁ H ⟨[.ref a], []⟩ [.ref a] [.ref a] _ _ hr e0 (hbind s₁ (.ref a)) (.cons rfl .nil) (hsp H hO hS)) fun r s' h => ?_
    cases r with
    | error e => exact (hCX H e s' h).elim
    | ok fl =>
      cases fl with
      | next => exact False.elim h
      | brk => exact False.elim h
      | cont => exact False.elim h
      | ret u =>
        obtain ⟨v, H', os, bare, un, hok', r', q⟩ := h
        have q' : v = .bl true := q
        subst q'
        obtain rfl : u = Value.bool true := r'
        refine ⟨rfl, OldK.of_keep fun b o e => ?_, os, bare⟩
        cases q : H b with
        | none => exact un.keep b o e q (by intro z; exact absurd (show b ∈ ([] : List Addr) from z) (by simp)) (by simp)
        | some u =>
          rcases hO b with z | ⟨ob, xs, z⟩
          · rw [q] at z; cases z
          · have z2 := un.frzs b ob _ z
            obtain ⟨e1, _⟩ := hok b _ z
            obtain ⟨e2, _⟩ := hok' b _ z2
            rw [e] at e1; cases e1
            exact e2
  cases hk : K.lookup a with
  | some o =>
    -- the script is one of the module's own objects
    have e := KX a o hk
    rw [ha] at e
    cases e
    refine core (fun _ => none) (fun _ => .inl rfl) (.inr ⟨_, vs.toArray, _, hk, rfl, rfl, rfl, by rw [List.size_toArray, lenV]; exact hl, by simpa using rv⟩) (fun b u z => by have z' : (none : Option HO) = some u := z; cases z') (fun b z => absurd rfl z) fun z => absurd rfl z
  | none =>
    refine core (fun b => if b = a then some (.frz { cls := .type "list", data := .seq vs.toArray } (.lst (ns.map V.int))) else none) (fun b => ?_) (.inl (.inr ⟨{ cls := .type "list", data := .seq vs.toArray }, if_pos rfl⟩)) (fun b u z => ?_) (fun b z => ?_) fun _ => hk
    · by_cases hb : b = a
      · exact .inr ⟨_, _, if_pos hb⟩
      · exact .inl (if_neg hb)
    · by_cases hb : b = a
      · have z' := (if_pos hb).symm.trans z
        cases z'
        subst hb
        exact ⟨ha, by rw [List.length_map]; exact hl, vs, _, rv, ha⟩
      · have z' := (if_neg hb).symm.trans z
        cases z'
    · by_cases hb : b = a
      · exact hb
      · exact absurd (if_neg hb) z
end L2

namespace L2
open PySem PySem.Spec PyProof.Rows

abbrev KOf {K : PySem.W.Frag} {h : Heap} (_ : K.In h) : PySem.W.Frag := K

/-- the goal that k_head leaves (case hc), from the law's promise. F gives the function object fd (K's own) once, then the promise over every base -/
theorem walk_of {l : PySem.W.OpenLaw} {n k : Nat} {q : Program} {loose : List Str} {XP : (Str → Option Value) → Heap → Prop} {YP : World → Heap → Prop} {d : DefRec} {K : Params → PySem.W.Frag} {CX : World → CXT} {sp : World → Sp} {x : Str}
    (hn : l.most = some n) (hn2 : n ≤ sizeLine) (hdf : d.params.defaults = []) (hr : Room k callerA)
    (hY : ∀ (w : World) (h : Heap), YP w h → (K w.params).In h)
    (F : ∀ (w : World) (mg : Str → Option Value) (fa : Addr) (h : Heap), (K w.params).In h → h.Ns mainGlobals mg → mg d.name = some (.ref fa) →
      ∃ fd : FuncData, (∀ (s : Shared) (u : Value), BindsTo s fd ⟨[u], []⟩ [(x, u)]) ∧
        ∀ base : Heap, (K w.params).In base → base.Ns mainGlobals mg → FnOk l.prog w (K w.params) mg base (CX w) k fa fd [x] (sp w))
    (hsp : ∀ (w : World) (H : Hp) (a : Addr) (ns : List Int), ns.length ≤ n → Only H → SqL (K w.params) H a (ns.map V.int) → sp w [.ref a] H (fun v _ => v = .bl true) fun _ _ _ => False)
    (hCX : ∀ (w : World) (H : Hp) (s : Shared) (e : Value) (s' : Shared), CX w [] H s (fun _ _ _ => False) e s' → False) :
    PySem.W.WalkO q loose XP YP l.row.toRowW d [] (fun f vs => PySem.call f vs) := by
  refine Att.attach_call hn hdf fun w s₀ s₁ mg mb fa o pm cd doc a vs ns G Y ho hd hcd hmg hobj hints hlen hg => ?_
  have KX := hY w _ Y
  obtain ⟨fd, hb, hF⟩ := F w mg fa _ KX G.T.g hmg
  exact law_call KX G.T.g G.T.b G.T.builtins G.T.nolimit hg hobj hints (Nat.le_trans hlen hn2) hr hF hb (fun H hO hS => hsp w H a ns hlen hO hS) fun H e s' => hCX w H s₁ e s'
/-- the same where the promise hangs on the written part alone: (sp := My.sp_law), no hole under a binder -/
theorem walk_ofK {l : PySem.W.OpenLaw} {n k : Nat} {q : Program} {loose : List Str} {XP : (Str → Option Value) → Heap → Prop} {YP : World → Heap → Prop} {d : DefRec} {K : Params → PySem.W.Frag} {CX : CXT} {sp : PySem.W.Frag → Sp} {x : Str}
    (hn : l.most = some n) (hn2 : n ≤ sizeLine) (hdf : d.params.defaults = []) (hr : Room k callerA)
    (hY : ∀ (w : World) (h : Heap), YP w h → (K w.params).In h)
    (F : ∀ (w : World) (mg : Str → Option Value) (fa : Addr) (h : Heap), (K w.params).In h → h.Ns mainGlobals mg → mg d.name = some (.ref fa) →
      ∃ fd : FuncData, (∀ (s : Shared) (u : Value), BindsTo s fd ⟨[u], []⟩ [(x, u)]) ∧
        ∀ base : Heap, (K w.params).In base → base.Ns mainGlobals mg → FnOk l.prog w (K w.params) mg base CX k fa fd [x] (sp (K w.params)))
    (hsp : ∀ (K : PySem.W.Frag) (H : Hp) (a : Addr) (ns : List Int), ns.length ≤ n → Only H → SqL K H a (ns.map V.int) → sp K [.ref a] H (fun v _ => v = .bl true) fun _ _ _ => False)
    (hCX : ∀ (H : Hp) (s : Shared) (e : Value) (s' : Shared), CX [] H s (fun _ _ _ => False) e s' → False) :
    PySem.W.WalkO q loose XP YP l.row.toRowW d [] (fun f vs => PySem.call f vs) :=
  walk_of (K := K) (CX := fun _ => CX) (sp := fun w => sp (K w.params)) hn hn2 hdf hr hY F (fun w H a ns h1 h2 h3 => hsp (K w.params) H a ns h1 h2 h3) fun _ H s e s' => hCX H s e s'
end L2



/-! SHORT WORDS over the layer: a def of the text, its body, what a loop and a test want. -/
namespace L2
open PySem PySem.Spec PyProof.Rows

/-! ### the text by places -/
/-- the j-th statement of a class's body -/
def inClass (s : Stmt) (j : Nat) : Stmt := match s with
  | .ClassDef _ _ _ body _ _ _ _ _ _ _ => body.getD j (.Pass ⟨0, 0, 0, 0⟩)
  | _ => .Pass ⟨0, 0, 0, 0⟩
def defArgs (s : Stmt) : Arguments := match s with
  | .FunctionDef _ a _ _ _ _ _ _ _ _ => a
  | _ => { posonlyargs := [], args := [], vararg := none, kwonlyargs := [], kw_defaults := [], kwarg := none, defaults := [] }
def defBody (s : Stmt) : List Stmt := match s with
  | .FunctionDef _ _ b _ _ _ _ _ _ _ => b
  | _ => []
def defScope (s : Stmt) : Scope := match s with
  | .FunctionDef _ _ _ _ _ _ sc _ _ _ => sc
  | _ => { kind := .function, names := [], isGenerator := false, isCoroutine := false }

/-! ### no exception leaves a def -/
abbrev CX0 : CXT := fun _ _ _ _ _ _ => False
abbrev E0 : XK := fun _ _ _ => False
/-! ### a def (or method) of the text as it stands behind the top -/
structure Fun (K : PySem.W.Frag) (x qual : Str) (st : Stmt) (f : Addr) (fd : FuncData) : Prop where
  ex : ∃ (oc : Value) (od : Option Addr) (kV doc pm : Value) (an : Option Addr) (cdv ct : Value) (osl : Array (Option Value)),
    fd = PySem.W.fnOf x qual (defArgs st) (defBody st) (defScope st) .none kV doc pm an cdv ct ∧ K.lookup f = some ⟨oc, od, .func fd, osl⟩ ∧ PySem.W.codeIn K cdv qual = true
  kp : PySem.W.keepIn K (.ref f) = true
section
variable {P : Program} {w : World} {K : PySem.W.Frag} {mg : Str → Option Value} {base : Heap}
/-- how its arguments bind (no defaults): h is «fun _ _ _ _ _ _ us hl => match us, hl with | [_, _], _ => rfl», one _ a parameter -/
theorem Fun.binds {x qual : Str} {st : Stmt} {f : Addr} {fd : FuncData} {ps : List Str} (F : Fun K x qual st f fd)
    (h : ∀ (kV doc pm : Value) (an : Option Addr) (cdv ct : Value) (us : List Value), us.length = ps.length → bindArgs (PySem.W.fnOf x qual (defArgs st) (defBody st) (defScope st) .none kV doc pm an cdv ct) ⟨us, []⟩ = pure (ps.zip us)) : Binds K fd ps [] := by
  obtain ⟨oc, od, kV, doc, pm, an, cdv, ct, osl, rfl, lk, hcd⟩ := F.ex
  exact .all (h kV doc pm an cdv ct)
theorem fun_mk {x qual : Str} {st : Stmt} {f : Addr} {oc : Value} {od an : Option Addr} {osl : Array (Option Value)} {kV doc pm cdv ct : Value} (l : K.lookup f = some ⟨oc, od, .func (PySem.W.fnOf x qual (defArgs st) (defBody st) (defScope st) .none kV doc pm an cdv ct), osl⟩)
    (c : PySem.W.codeIn K cdv qual = true) (k : PySem.W.keepIn K (.ref f) = true) : Fun K x qual st f (PySem.W.fnOf x qual (defArgs st) (defBody st) (defScope st) .none kV doc pm an cdv ct) := ⟨⟨oc, od, kV, doc, pm, an, cdv, ct, osl, rfl, l, c⟩, k⟩
end
theorem hu_of {A : Around} {k : Nat} (hr : Room k A) : A.units + 1 < cLine := Nat.lt_of_le_of_lt (Nat.add_le_add_left (by decide : 1 ≤ 64) _) hr.units
/-! ### expressions in short: the name that stands in the i-th slot -/
section
variable {X : Cx}
theorem pv (i : Nat) {x : Str} {pos : Pos} (hN : X.N[i]? = some x := by rfl) (hv : Vis X.env.scope x := by first | exact Or.inl rfl | exact Or.inr (Or.inl rfl) | exact Or.inr (Or.inr rfl)) (hd : (x == ("__debug__" : Str)) = false := by decide)
    (hcd : (x == ("__classdict__" : Str)) = false := by decide) : PE X (.Name x pos) (tVar i) := pe_var hN hv hd hcd
end

/-! ### tests -/
theorem ite2 {c A B : Prop} [Decidable c] (h1 : c → A) (h2 : ¬ c → B) : if c then A else B := by
  by_cases h : c
  · rw [if_pos h]
    exact h1 h
  · rw [if_neg h]
    exact h2 h
/-! ### heaps -/
/-- all that was tracked is as it was -/
def Same (H H' : Hp) : Prop := ∀ b o, H b = some o → H' b = some o
theorem Same.refl (H : Hp) : Same H H := fun _ _ h => h
theorem Same.trans {H H1 H2 : Hp} (a : Same H H1) (b : Same H1 H2) : Same H H2 := fun c o h => b c o (a c o h)
end L2
namespace L2
open PySem PySem.Spec PyProof.Rows
section
variable {X : Cx}
end
/-! ### a dict's pairs: keys that differ -/
section
variable {κ : Type} [DecidableEq κ]
theorem valV_not {kvs : List (κ × V)} {k : κ} (h : valV kvs k = none) : ¬ k ∈ kvs.map (·.1) := by
  intro m
  obtain ⟨p, hp, e⟩ := List.mem_map.mp m
  have q : (kvs.any fun kv => decide (kv.1 = k)) = true := List.any_eq_true.mpr ⟨p, hp, decide_eq_true e⟩
  rw [valV_any, h] at q
  exact absurd q (by simp)
theorem valV_in {kvs : List (κ × V)} {k : κ} {v : V} (h : valV kvs k = some v) : k ∈ kvs.map (·.1) := by
  have q : (kvs.any fun kv => decide (kv.1 = k)) = true := by
    rw [valV_any, h]
    all_goals rfl
  obtain ⟨p, hp, e⟩ := List.any_eq_true.mp q
  exact List.mem_map.mpr ⟨p, hp, of_decide_eq_true e⟩
theorem nd_snoc : ∀ {l : List κ} {k : κ}, l.Nodup → ¬ k ∈ l → (l ++ [k]).Nodup
  | [], k, _, _ => by simp
  | a :: r, k, h, hk => by
    obtain ⟨h1, h2⟩ := List.nodup_cons.mp h
    show (a :: (r ++ [k])).Nodup
    refine List.nodup_cons.mpr ⟨fun m => ?_, nd_snoc h2 fun m => hk (List.mem_cons.mpr (Or.inr m))⟩
    rcases List.mem_append.mp m with q | q
    · exact h1 q
    · exact hk (List.mem_cons.mpr (Or.inl (List.mem_singleton.mp q).symm))
theorem nd_putK {kvs : List (κ × V)} {k : κ} (v : V) (hn : (kvs.map (·.1)).Nodup) (h : valV kvs k = none) : ((putK kvs k v).map (·.1)).Nodup := by
  rw [putK_new v h, List.map_append]
  exact nd_snoc hn (valV_not h)
theorem dropK_pos {p : κ × V} {r : List (κ × V)} {k : κ} (e : p.1 = k) : dropK (p :: r) k = dropK r k := by
  unfold dropK
  rw [List.filter_cons, if_neg (by simp [e])]
theorem dropK_neg {p : κ × V} {r : List (κ × V)} {k : κ} (e : ¬ p.1 = k) : dropK (p :: r) k = p :: dropK r k := by
  unfold dropK
  rw [List.filter_cons, if_pos (by simp [e])]
theorem dropK_no : ∀ {kvs : List (κ × V)} {k : κ}, ¬ k ∈ kvs.map (·.1) → dropK kvs k = kvs
  | [], _, _ => rfl
  | p :: r, k, h => by
    have h' : ¬ k ∈ r.map (·.1) := fun m => by
      obtain ⟨q, hq, e⟩ := List.mem_map.mp m
      exact h (List.mem_map.mpr ⟨q, List.mem_cons.mpr (Or.inr hq), e⟩)
    rw [dropK_neg fun e => h (List.mem_map.mpr ⟨p, List.mem_cons.mpr (Or.inl rfl), e⟩), dropK_no h']
theorem dropK_mem {kvs : List (κ × V)} {k : κ} {p : κ × V} (h : p ∈ dropK kvs k) : p ∈ kvs := (List.mem_filter.mp h).1
end
end L2

set_option Elab.async false
set_option linter.all false
set_option maxRecDepth 100000
set_option maxHeartbeats 4000000
namespace L2
open PySem PySem.Spec PyProof.Rows

/-! ### comprehensions -/
/-- the context within a comprehension: its block's names, the walked iterator's records at fp may turn, no exception leaves -/
def Cx.comp (X : Cx) (scope : Scope) (cl : List (Str × Addr)) (C : Addr) (N : List Str) (fp : List Addr) (s : Shared) (H : Hp) : Cx :=
  { X with env := compEnvC scope cl C X.env, N := N, s₀ := s, H₀ := H, outer := X.stack, ex := fp, fn := fun _ => false, pn := [], xe := fun _ _ => False }
/-- how the block's names stand to those around it; ix: the slots of the names that it takes from there -/
structure CompScope (X : Cx) (scope : Scope) (cl : List (Str × Addr)) (ix : List Nat) : Prop where
  clos : closureFor scope X.env = pure cl
  nocell : ∀ y ∈ scope.names, y.2 ≠ .cell
  kind : scope.kind = .function
  names : ∀ y ∈ scope.names, y.2 = .local → scope.names.lookup y.1 = some .local
  sub : ∀ y c, cl.lookup y = some c → X.env.cells.lookup y = some c
  has : ∀ y, ((relabel scope X.env).names.lookup y = some .cell ∨ (relabel scope X.env).names.lookup y = some .free) → ∃ c, cl.lookup y = some c
  cap : ∀ i ∈ ix, ∃ y, X.N[i]? = some y ∧ (X.env.kindOf y = some .cell ∨ X.env.kindOf y = some .free) ∧ ((relabel scope X.env).names.lookup y = some .cell ∨ (relabel scope X.env).names.lookup y = some .free)
/-- the cells that a block takes from around it -/
def closOf (scope : Scope) (env : Env) : List (Str × Addr) := scope.names.foldl (fun cs y => if y.2 == .free then (y.1, (env.cells.lookup y.1).getD 0) :: cs else cs) []
/-- what must be true of the block's names: osc the scope around it, N the names there, ix the slots of those that it takes -/
def compD (osc : Scope) (N : List Str) (sc : Scope) (ix : List Nat) : Bool :=
  sc.kind == .function && sc.names.all (fun y => y.2 != .cell && (y.2 != .local || sc.names.lookup y.1 == some .local) && (y.2 != .free || osc.names.lookup y.1 == some .cell || osc.names.lookup y.1 == some .free)) &&
    ix.all fun i => match N[i]? with
      | some y => sc.names.lookup y == some .free
      | none => false
theorem mem_of_look {l : List (Str × NameKind)} {y : Str} {k : NameKind} (h : l.lookup y = some k) : (y, k) ∈ l := PySem.mem_of_lookup h
theorem relabel_look {env : Env} : ∀ {names : List (Str × NameKind)} {x : Str} {k : NameKind}, (names.map fun (n, k) => if (k == NameKind.free && env.scope.kind == .function && env.kindOf n == some .cell) then (n, NameKind.cell) else (n, k)).lookup x = some k →
    ∃ k', names.lookup x = some k' ∧ (k' = .free ∨ k' = k)
  | [], _, _, h => by simp at h
  | (n, k') :: r, x, k, h => by
    have ih := @relabel_look env r x k
    rw [List.map_cons] at h
    cases hx : x == n with
    | true =>
      by_cases hc : (k' == NameKind.free && env.scope.kind == .function && env.kindOf n == some .cell) = true
      · have e : k' = .free := by
          have := (Bool.and_eq_true _ _ ▸ (Bool.and_eq_true _ _ ▸ hc).1).1
          simpa using this
        exact ⟨k', by simp [List.lookup_cons, hx], .inl e⟩
      · simp only [if_neg hc, List.lookup_cons, hx] at h
        exact ⟨k', by simp [List.lookup_cons, hx], .inr (Option.some.inj h)⟩
    | false =>
      have h' : (r.map fun (n, k) => if (k == NameKind.free && env.scope.kind == .function && env.kindOf n == some .cell) then (n, NameKind.cell) else (n, k)).lookup x = some k := by
        by_cases hc : (k' == NameKind.free && env.scope.kind == .function && env.kindOf n == some .cell) = true
        · simp only [if_pos hc, List.lookup_cons, hx] at h; exact h
        · simp only [if_neg hc, List.lookup_cons, hx] at h; exact h
      obtain ⟨q, e, r'⟩ := ih h'
      exact ⟨q, by simp only [List.lookup_cons, hx]; exact e, r'⟩
theorem relabel_free {env : Env} : ∀ {names : List (Str × NameKind)} {x : Str}, names.lookup x = some .free →
    ((names.map fun (n, k) => if (k == NameKind.free && env.scope.kind == .function && env.kindOf n == some .cell) then (n, NameKind.cell) else (n, k)).lookup x = some .cell ∨
      (names.map fun (n, k) => if (k == NameKind.free && env.scope.kind == .function && env.kindOf n == some .cell) then (n, NameKind.cell) else (n, k)).lookup x = some .free)
  | [], _, h => by simp at h
  | (n, k') :: r, x, h => by
    have ih := @relabel_free env r x
    rw [List.map_cons]
    cases hx : x == n with
    | true =>
      simp only [List.lookup_cons, hx] at h
      cases h
      by_cases hc : (NameKind.free == NameKind.free && env.scope.kind == .function && env.kindOf n == some .cell) = true
      · left; simp only [if_pos hc, List.lookup_cons, hx]
      · right; simp only [if_neg hc, List.lookup_cons, hx]
    | false =>
      simp only [List.lookup_cons, hx] at h
      by_cases hc : (k' == NameKind.free && env.scope.kind == .function && env.kindOf n == some .cell) = true
      · simp only [if_pos hc, List.lookup_cons, hx]; exact ih h
      · simp only [if_neg hc, List.lookup_cons, hx]; exact ih h
theorem clos_fold {env : Env} : ∀ (l : List (Str × NameKind)) (cs : List (Str × Addr)), (∀ y ∈ l, y.2 = .free → ∃ c, env.cells.lookup y.1 = some c) →
    (∀ y c, cs.lookup y = some c → env.cells.lookup y = some c) → ∀ y c, (l.foldl (fun cs y => if y.2 == .free then (y.1, (env.cells.lookup y.1).getD 0) :: cs else cs) cs).lookup y = some c → env.cells.lookup y = some c
  | [], _, _, h, y, c, e => h y c e
  | z :: r, cs, hl, h, y, c, e => by
    rw [List.foldl_cons] at e
    refine clos_fold r _ (fun y hy => hl y (List.mem_cons_of_mem _ hy)) (fun y' c' e' => ?_) y c e
    by_cases hz : z.2 = .free
    · obtain ⟨c0, h0⟩ := hl z List.mem_cons_self hz
      have hb : (z.2 == NameKind.free) = true := by simpa using hz
      rw [if_pos hb, h0, List.lookup_cons] at e'
      cases hq : y' == z.1 with
      | true =>
        rw [hq] at e'
        have e2 : y' = z.1 := by simpa using hq
        cases e'
        rw [e2]; exact h0
      | false => rw [hq] at e'; exact h _ _ e'
    · have hb : (z.2 == NameKind.free) = false := by simpa using hz
      rw [hb] at e'
      exact h _ _ e'
theorem clos_has {env : Env} : ∀ (l : List (Str × NameKind)) (cs : List (Str × Addr)) (y : Str), ((∃ c, cs.lookup y = some c) ∨ (y, NameKind.free) ∈ l) →
    ∃ c, (l.foldl (fun cs y => if y.2 == .free then (y.1, (env.cells.lookup y.1).getD 0) :: cs else cs) cs).lookup y = some c
  | [], _, _, h => h.elim id fun z => nomatch z
  | z :: r, cs, y, h => by
    rw [List.foldl_cons]
    refine clos_has r _ y ?_
    rcases h with ⟨c, h⟩ | h
    · left
      by_cases hz : (z.2 == NameKind.free) = true
      · rw [if_pos hz, List.lookup_cons]
        cases y == z.1 with
        | true => exact ⟨_, rfl⟩
        | false => exact ⟨c, h⟩
      · rw [if_neg hz]; exact ⟨c, h⟩
    · rcases List.mem_cons.mp h with h | h
      · left
        subst h
        rw [if_pos (by rfl), List.lookup_cons]
        simp
      · exact .inr h
theorem clos_eq {env : Env} : ∀ (l : List (Str × NameKind)) (cs : List (Str × Addr)), (∀ y ∈ l, y.2 = .free → ∃ c, env.cells.lookup y.1 = some c) →
    forIn (m := Sem) l cs (fun x r => match x with | (name, kind) => if (kind == NameKind.free) = true then do let c ← cellOf env name; pure (ForInStep.yield ((name, c) :: r)) else pure (ForInStep.yield r)) =
      pure (l.foldl (fun cs y => if y.2 == .free then (y.1, (env.cells.lookup y.1).getD 0) :: cs else cs) cs)
  | [], _, _ => rfl
  | (n, k) :: r, cs, h => by
    rw [List.forIn_cons, List.foldl_cons]
    by_cases hz : (k == NameKind.free) = true
    · obtain ⟨c, hc⟩ := h (n, k) List.mem_cons_self (by simpa using hz)
      have e : cellOf env n = pure c := by unfold cellOf; rw [hc]
      simp only [hz, if_true, e, pure_bind]
      rw [clos_eq r _ fun y hy => h y (List.mem_cons_of_mem _ hy)]
      simp only [hc, Option.getD_some]
    · simp only [hz, if_false, pure_bind]
      exact clos_eq r _ fun y hy => h y (List.mem_cons_of_mem _ hy)
theorem compScope_of {X : Cx} {osc scope : Scope} {N : List Str} {ix : List Nat} (ok : X.Ok) (h : compD osc N scope ix = true) (hs : X.env.scope = osc) (hN : X.N = N) : CompScope X scope (closOf scope X.env) ix := by
  subst hs hN
  unfold compD at h
  rw [Bool.and_eq_true, Bool.and_eq_true, List.all_eq_true, List.all_eq_true] at h
  obtain ⟨⟨h1, h2⟩, h3⟩ := h
  have p : ∀ y ∈ scope.names, y.2 ≠ .cell ∧ (y.2 = .local → scope.names.lookup y.1 = some .local) ∧ (y.2 = .free → X.env.kindOf y.1 = some .cell ∨ X.env.kindOf y.1 = some .free) := fun y hy => by
    have q := h2 y hy
    rw [Bool.and_eq_true, Bool.and_eq_true] at q
    obtain ⟨⟨q1, q2⟩, q3⟩ := q
    refine ⟨by simpa using q1, fun e => ?_, fun e => ?_⟩
    · rw [e] at q2; simpa using q2
    · rw [e] at q3
      have q3' : X.env.scope.names.lookup y.1 = some .cell ∨ X.env.scope.names.lookup y.1 = some .free := by simpa using q3
      exact q3'
  have f : ∀ y ∈ scope.names, y.2 = .free → ∃ c, X.env.cells.lookup y.1 = some c := fun y hy e => ok.has y.1 ((p y hy).2.2 e)
  refine ⟨?_, fun y hy => (p y hy).1, by simpa using h1, fun y hy => (p y hy).2.1, fun y c e => clos_fold scope.names [] f (fun _ _ z => by simp at z) y c e, fun y hy => ?_, fun i hi => ?_⟩
  · have e := clos_eq scope.names [] f
    unfold closureFor closOf
    refine Eq.trans (congrArg (fun m => m >>= fun s => (pure s : Sem (List (Str × Addr)))) e) ?_
    rw [pure_bind]
  · refine clos_has scope.names [] y (.inr ?_)
    rcases hy with hy | hy
    · obtain ⟨k', e, z | z⟩ := relabel_look hy
      · subst z; exact mem_of_look e
      · subst z; exact absurd rfl (p _ (mem_of_look e)).1
    · obtain ⟨k', e, z | z⟩ := relabel_look hy
      · subst z; exact mem_of_look e
      · subst z; exact mem_of_look e
  · have q := h3 i hi
    cases hy : X.N[i]? with
    | none => rw [hy] at q; cases q
    | some y =>
      rw [hy] at q
      have q' : scope.names.lookup y = some .free := by simpa using q
      exact ⟨y, rfl, (p _ (mem_of_look q')).2.2 rfl, relabel_free q'⟩
/-- the values of the slots at ix -/
def capV (ix : List Nat) (σ : St) : St := ix.map fun i => (σ[i]?).getD none
def capN (ix : List Nat) (N : List Str) : List Str := ix.map fun i => (N[i]?).getD ""

section
variable {X : Cx} {pins : List (Addr × Obj)} {σ : St} {H : Hp} {s : Shared} {scope : Scope} {cl : List (Str × Addr)} {ix : List Nat} {fp : List Addr} {C : Addr} {xs : List Str}
theorem Inv.compOk (I : Inv X pins σ H s) (S : CompScope X scope cl ix) (hC : C = s.heap.objs.size) (hf : ∀ b ∈ fp, FpOk X pins H b) (hl : ∀ b ∈ fp, b < s.heap.objs.size) (N' : List Str) :
    (X.comp scope cl C N' fp s H).Ok where
  mod := I.ok.mod
  kind := S.kind
  glob := I.ok.glob
  blt := I.ok.blt
  above := Nat.le_of_eq hC.symm
  inj := fun x y c h1 h2 => I.ok.inj x y c (S.sub x c h1) (S.sub y c h2)
  has := fun x hx => S.has x hx
  cab := fun x c h1 _ => nomatch h1
  hd := I.ok.hd
  frames := I.ok.frames
  stk := .inl rfl
  exf := fun b hb => ⟨fun z => absurd (hl b hb) (by rw [z]; show ¬ C < _; rw [hC]; exact Nat.lt_irrefl _), fun x c h => (hf b hb).2.2.2.2.1 x c (S.sub x c h)⟩
  bs := I.bs
  bsz := Nat.le_trans I.ok.bsz I.sz
  noex := fun b o e hb => by
    rcases (hf b hb).2.2.2.1 with z | z
    · exact I.ok.noex b o e z
    · exact absurd (Nat.lt_of_lt_of_le (Heap.lt_size e) (Nat.le_trans I.ok.bsz z)) (Nat.lt_irrefl _)
  exfs := fun b hb z => by
    rcases List.mem_cons.mp (I.stkSub b z) with e | e
    · exact (hf b hb).2.1 e
    · exact (hf b hb).2.2.1 e
  funs := I.stack
  frf := I.stkFree

theorem Inv.comp {h₁ : Heap} {m₁ : Str → Option Value} {t' : Nat} (I : Inv X pins σ H s) (S : CompScope X scope cl ix) (hC : C = s.heap.objs.size) (hf : ∀ b ∈ fp, FpOk X pins H b) (hl : ∀ b ∈ fp, b < s.heap.objs.size)
    (hn : h₁.Ns C m₁) (hk : ∀ b o, s.heap.get? b = some o → h₁.get? b = some o) :
    Inv (X.comp scope cl C (xs ++ capN ix X.N) fp s H) [] (List.replicate xs.length none ++ capV ix σ) H { s with heap := h₁, toks := t' } where
  ok := I.compOk S hC hf hl _
  os := rfl
  bare := I.bare
  base := Un.kept hk
  loc := by
    refine ⟨m₁, hn, fun i y v e1 e2 e3 => ?_⟩
    by_cases hi : i < xs.length
    · rw [List.getElem?_append_left (by simpa using hi), List.getElem?_replicate, if_pos hi] at e2
      cases e2
    · have e1' : (xs ++ capN ix X.N)[i]? = some y := e1
      rw [List.getElem?_append_right (by omega)] at e1'
      rw [List.getElem?_append_right (by rw [List.length_replicate]; omega), List.length_replicate] at e2
      generalize i - xs.length = j at e1' e2
      unfold capN at e1'
      unfold capV at e2
      rw [List.getElem?_map] at e1' e2
      cases hj : ix[j]? with
      | none => rw [hj] at e1'; cases e1'
      | some k =>
        rw [hj] at e1' e2
        obtain ⟨y', c1, c2, c3⟩ := S.cap k (List.mem_of_getElem? hj)
        have ey : y' = y := by
          have q : (X.N[k]?).getD "" = y := Option.some.inj e1'
          rw [c1] at q
          exact q
        subst ey
        have ev : σ[k]? = some (some v) := by
          have q : (σ[k]?).getD none = some v := Option.some.inj e2
          cases hs : σ[k]? with
          | none => rw [hs] at q; cases q
          | some o => rw [hs] at q; exact congrArg some q
        obtain ⟨m, hm, hv⟩ := I.loc
        obtain ⟨u, r, l⟩ := hv k y' v c1 ev (c2.elim (fun z => .inr (.inl z)) fun z => .inr (.inr z))
        refine ⟨u, r, .inr ⟨c3, ?_⟩⟩
        rcases l with ⟨l1, _⟩ | ⟨_, c, lc, ⟨o, ho, hd⟩⟩
        · rcases c2 with z | z <;> (rw [l1] at z; cases z)
        · obtain ⟨c', hc'⟩ := S.has y' c3
          have e := S.sub _ _ hc'
          rw [lc] at e
          cases e
          exact ⟨c, hc', o, hk _ _ ho, hd⟩
  cell := fun x c e => by
    obtain ⟨v, o, ho, hd⟩ := I.cell x c (S.sub x c e)
    exact ⟨v, o, hk _ _ ho, hd⟩
  free := I.hok.fresh (Nat.le_of_eq hC.symm)
  freeC := fun x c e => I.freeC x c (S.sub x c e)
  pin := fun p hp => absurd (show p ∈ ([] : List (Addr × Obj)) from hp) (by simp)
  hok := I.hok.kept hk
  len := by
    show (List.replicate xs.length none ++ capV ix σ).length = (xs ++ capN ix X.N).length
    rw [List.length_append, List.length_append, List.length_replicate, capV, capN, List.length_map, List.length_map]
/-- behind the block: the block's own dict may have been emptied -/
theorem Inv.uncomp {s' : Shared} {σ' : St} {H' : Hp} {N' : List Str} {h' : Heap} (I : Inv X pins σ H s) (hC : C = s.heap.objs.size) (hf : ∀ b ∈ fp, FpOk X pins H b)
    (J : Inv (X.comp scope cl C N' fp s H) [] σ' H' s') (hb : Heap.SameBut C s'.heap h') : Inv X pins σ H' { s' with heap := h' } := by
  have lt : ∀ b o, s.heap.get? b = some o → b ≠ C := fun b o e => by
    rw [hC]; exact Nat.ne_of_lt (Heap.lt_size e)
  have B : Un (frs X.stack) fp H H' s.heap s'.heap := J.base
  refine I.call' (s' := { s' with heap := h' }) (ch := fp) J.os ?_ ?_ J.bare ?_
  · exact ⟨fun b o e n h1 h2 => (hb.2 b (lt b o e)).trans (B.keep b o e n h1 h2), fun b o e n h1 h2 => by
      obtain ⟨sl, q⟩ := B.slot b o e n h1 h2
      exact ⟨sl, (hb.2 b (lt b o e)).trans q⟩, B.free, fun b o e h1 => by
      obtain ⟨o', q⟩ := B.there b o e h1
      exact ⟨o', (hb.2 b (lt b o e)).trans q⟩, B.tups, B.frzs, B.tbls⟩
  · intro b o e
    refine (J.hok b o e).stay (fun c u hc q => (hb.2 c ?_).trans q) (fun _ q => q) fun _ _ q => q
    have hC0 : H' C = none := J.free
    rintro rfl
    rcases hc with rfl | hc
    · rw [hC0] at e; cases e
    · rw [hC0] at hc; cases hc
  · intro b hb'
    obtain ⟨f0, f1, f2, f3, f4, f5⟩ := hf b hb'
    exact ⟨f3, f1, f4, f5⟩
end

/-- the tests behind a comprehension's for -/
def PTs (X : Cx) (ifs : List Expr) (t : TT) : Prop :=
  ∀ (pins : List (Addr × Obj)) (s : Shared) (σ : St) (H : Hp) (Q : Bool → Hp → Prop), Inv X pins σ H s → t σ H Q →
    wpAny (model X.prog X.w) X.A (forIn ifs true fun c r => if r = true then do let ok ← isTrue c X.env (eval c X.env); pure (ForInStep.yield ok) else pure (ForInStep.yield r)) (TP X pins σ Q) X.xe s
def tYes : TT := fun _ H Q => Q true H
theorem pts_nil {X : Cx} : PTs X [] tYes := fun _ _ _ H _ I h => wpAny_tests_nil ⟨H, I, h⟩
theorem pts_one {X : Cx} {c : Expr} {t : TT} (h : PT X c t) : PTs X [c] t := fun pins s σ H Q I q => wpAny_tests_one (h pins s σ H Q I q)

section
variable {prog : Program} {w : World} {A : Around} {R : Result → Shared → Prop} {s : Shared}
theorem compLoop_any {elt target iter : Expr} {ifs : List Expr} {scope : Scope} {pos : Pos} {it acc : Value} {env : Env} (W : Nat → Shared → Prop) {EE : Value → Shared → Prop}
    (hE : ∀ e s', EE e s' → notedBy (model prog w) A env (fun e s' => R (.error e) s') e s')
    (turn : ∀ n s, W n s → wpAny (model prog w) A (pyNext it) (fun r s₁ => match r with
      | none => R (.ok .next) s₁
      | some v => wpAny (model prog w) A (letOwnedTupleGo target it v) (fun _ t₁ => wpAny (model prog w) A (assign target env v) (fun _ s₂ =>
          wpAny (model prog w) A (forIn ifs true fun c r => if r = true then do let ok ← isTrue c env (eval c env); pure (ForInStep.yield ok) else pure (ForInStep.yield r)) (fun ok s₃ =>
            if ok = true then wpAny (model prog w) A (eval elt env) (fun x s₄ => wpAny (model prog w) A (call (.builtin "list.append") [acc, x]) (fun _ s₅ => ∃ m, m < n ∧ W m s₅) EE s₄) EE s₃
            else ∃ m, m < n ∧ W m s₃) EE s₂) EE t₁) EE s₁) EE s)
    (n : Nat) (h : W n s) : codeAny (model prog w) A (.compLoop (.ListComp elt [⟨target, iter, ifs, 0⟩] scope pos) 0 it acc env) R s := by
  refine codeAny_loop rfl W (fun n s hW => ?_) n h
  show wpAny _ A ((compTurn (.ListComp elt [⟨target, iter, ifs, 0⟩] scope pos) 0 it acc env).onRaise (fun x => do noteFrame x env; theTreesLotGoes x)) _ _ s
  refine wpAny_noted (wpAny_mono ?_ (fun _ _ q => q) hE)
  rw [compTurn_list]
  refine wpAny_bind (wpAny_standAt (wpAny_bind (thn (turn n s hW) fun r s₁ h₁ => ?_)))
  cases r with
  | none => exact wpAny_pure h₁
  | some v =>
    refine wpAny_bind (thn h₁ fun _ t₁ k₁ => ?_)
    refine wpAny_bind (thn k₁ fun _ s₂ h₂ => wpAny_bind (thn h₂ fun ok s₃ h₃ => ?_))
    cases ok with
    | false => exact wpAny_pure ⟨rfl, h₃⟩
    | true => exact wpAny_bind (wpAny_bind (thn h₃ fun x s₄ h₄ => wpAny_bind (thn h₄ fun _ s₅ h₅ => wpAny_pure (wpAny_pure ⟨rfl, h₅⟩))))
end

/-- [elt for g in wi if tt]: the list at D grows; W: what holds between the turns, by the turn, a measure, the list -/
def tComp (wi : TI) (g : TG) (tt : TT) (te : TE) (k : Nat) (ix : List Nat) : TE := fun σ H Q => wi σ H fun J H1 => ∀ D, H1 D = none →
  ∃ W : Nat → Nat → List V → St → Hp → Prop, (∃ m, W 0 m [] (List.replicate k none ++ capV ix σ) (upd H1 D (.lst []))) ∧ ∀ i m ys τ H, W i m ys τ H → H D = some (.lst ys) ∧
    ((J.stop i H ∧ Q (.ref D) H) ∨ (J.go i H ∧ ys.length < sizeLine ∧ ∃ N : V → St → Hp → Prop,
      (∀ v τ' H', N v τ' H' → H' D = some (.lst ys) ∧ ∃ m', m' < m ∧ W (i + 1) m' (ys ++ [v]) τ' (upd H' D (.lst (ys ++ [v])))) ∧ ∃ Nf : St → Hp → Prop, (∀ τ' H', Nf τ' H' → ∃ m', m' < m ∧ W (i + 1) m' ys τ' H') ∧
      ∀ x H', J.yld i H x H' → g x τ H' fun τ2 H2 => tt τ2 H2 fun b H3 => if b = true then te τ2 H3 fun v H4 => N v τ2 H4 else Nf τ2 H3))
section
variable {X : Cx} {elt iter tg : Expr} {ifs : List Expr} {scope : Scope} {pos : Pos} {cl : List (Str × Addr)} {ix : List Nat} {xs : List Str} {wi : TI} {g : TG} {tt : TT} {te : TE}
/-- the block, whatever is wanted behind it -/
theorem comp_block (S : CompScope X scope cl ix) (hc : X.calm = true) (hi : PI X tg iter wi)
    (hg : ∀ C fp s H, PG (X.comp scope cl C (xs ++ capN ix X.N) fp s H) tg g) (ht : ∀ C fp s H, PTs (X.comp scope cl C (xs ++ capN ix X.N) fp s H) ifs tt)
    (he : ∀ C fp s H, PE (X.comp scope cl C (xs ++ capN ix X.N) fp s H) elt te)
    {pins : List (Addr × Obj)} {s : Shared} {σ : St} {H : Hp} {Q : VK} (I : Inv X pins σ H s) (h : tComp wi g tt te xs.length ix σ H Q) {RR : Value → Addr → Result → Shared → Prop}
    (hR : ∀ v u s' C, RelV v u → (∃ H', Q v H' ∧ (∃ m, s'.heap.Ns C m) ∧ (∀ h', Heap.SameBut C s'.heap h' → Inv X pins σ H' { s' with heap := h' }) ∧ FpOk X pins H' C) → RR u C (.ok .next) s') :
    wpAny (model X.prog X.w) X.A (eval iter X.env) (fun x s₁ => wpAny (model X.prog X.w) X.A (pyIter x) (fun it s₂ => wpAny (model X.prog X.w) X.A (newList []) (fun acc s₃ =>
      wpAny (model X.prog X.w) X.A (newFunctionEnv scope X.env.globals cl [] X.env.qual none .none (some X.env)) (fun cenv s₄ =>
        codeAny (model X.prog X.w) X.A (.compStart (.ListComp elt [⟨tg, iter, ifs, 0⟩] scope pos) 0 it acc { cenv with scope := relabel scope X.env }) (RR acc cenv.locals) s₄) X.xe s₃) X.xe s₂) X.xe s₁) X.xe s := by
  refine thn (hi pins s σ H _ I h) fun v s1 h1 => thn h1 fun itv s2 h2 => ?_
  obtain ⟨it, fp, tn, J, H2, e, I2, T, st2, f2, hW⟩ := h2
  subst e
  refine wpAny_newObj_type (wpAny_newFunctionEnv S.nocell (fun y hy => nomatch hy) (fun h₁ hns₁ hsb₁ => ?_) S.kind)
  dsimp only at hns₁ hsb₁ ⊢
  obtain ⟨W, ⟨m0, w0⟩, turn⟩ := hW s2.heap.objs.size I2.fresh
  have I3 := I2.lnew (t' := s2.toks) (ys := []) (its := []) .nil (Nat.zero_le _)
  have hl3 : ∀ b ∈ fp, b < s2.heap.objs.size := fun b hb => by
    obtain ⟨o, e, _⟩ := T.obj _ _ st2 b hb
    exact Heap.lt_size e
  generalize hs3 : ({ s2 with heap := s2.heap.push { cls := .type "list", data := .seq ([] : List Value).toArray }, toks := s2.toks } : Shared) = s3 at I3
  have hs3h : s3.heap = s2.heap.push { cls := .type "list", data := .seq ([] : List Value).toArray } := by rw [← hs3]
  have hsz : s3.heap.objs.size = s2.heap.objs.size + 1 := by rw [hs3h, Heap.size_push]
  have f3 : ∀ b ∈ fp, FpOk X pins (upd H2 s2.heap.objs.size (.lst [])) b := fun b hb => by
    obtain ⟨q0, q⟩ := f2 b hb
    exact ⟨by rw [upd_ne (Nat.ne_of_lt (hl3 b hb))]; exact q0, q⟩
  have hl3' : ∀ b ∈ fp, b < s3.heap.objs.size := fun b hb => by rw [hsz]; exact Nat.lt_succ_of_lt (hl3 b hb)
  rw [← hs3h] at hns₁ hsb₁ ⊢
  have hk : ∀ b o, s3.heap.get? b = some o → h₁.get? b = some o := fun b o e => (hsb₁.2 b (Nat.ne_of_lt (Heap.lt_size e))).trans (Heap.get?_push_of_some _ e)
  have hk2 : ∀ b o, s2.heap.get? b = some o → s3.heap.get? b = some o := fun b o e => by rw [hs3h]; exact Heap.get?_push_of_some _ e
  have J0 := I3.comp (xs := xs) (t' := s2.toks) (C := s3.heap.objs.size) S rfl f3 hl3' hns₁ hk
  have st3 : tn 0 h₁ := T.keep _ _ _ st2 fun b _ o e => hk b o (hk2 b o e)
  have loop : ∀ tk, codeAny (model X.prog X.w) X.A (.compLoop (.ListComp elt [⟨tg, iter, ifs, 0⟩] scope pos) 0 (.ref it) (.ref s2.heap.objs.size) (compEnvC scope cl s3.heap.objs.size X.env))
      (RR (.ref s2.heap.objs.size) s3.heap.objs.size) { s3 with heap := h₁, toks := tk } := by
    intro tk
    refine compLoop_any (EE := fun _ _ => False) (fun n s' => ∃ i ys τ H', Inv (X.comp scope cl s3.heap.objs.size (xs ++ capN ix X.N) fp s3 (upd H2 s2.heap.objs.size (.lst []))) [] τ H' s' ∧ tn i s'.heap ∧ (∀ b ∈ fp, H' b = none) ∧ W i n ys τ H')
      (fun _ _ z => z.elim) ?_ m0 ⟨0, [], _, _, J0.tok tk, st3, fun b hb => (f3 b hb).1, w0⟩
    rintro n s' ⟨i, ys, τ, H', I', st', fr', w'⟩
    have stat : ∀ {H' : Hp}, (∀ b ∈ fp, H' b = none) → ∀ b ∈ fp, FpOk (X.comp scope cl s3.heap.objs.size (xs ++ capN ix X.N) fp s3 (upd H2 s2.heap.objs.size (.lst []))) [] H' b := fun hn b hb =>
      ⟨hn b hb, (I'.ok.exf b hb).1, I'.ok.exfs b hb, .inl hb, (I'.ok.exf b hb).2, fun p hp => absurd (show p ∈ ([] : List (Addr × Obj)) from hp) (by simp)⟩
    obtain ⟨hD, ⟨stop, q⟩ | ⟨go, hz, N, hN, Nf, hNf, step⟩⟩ := turn i n ys τ H' w'
    · refine thn (T.done (X.comp scope cl s3.heap.objs.size (xs ++ capN ix X.N) fp s3 (upd H2 s2.heap.objs.size (.lst []))) rfl rfl rfl hc i [] s' τ H' _ I' (stat fr') st' stop) fun r s4 ⟨hr, I4⟩ => ?_
      subst hr
      refine hR (.ref s2.heap.objs.size) _ s4 _ rfl ⟨H', q, ?_, fun h' hb => I3.uncomp rfl f3 I4 hb, I3.fpOk (Nat.le_refl _) I4.free⟩
      obtain ⟨m, hn, _⟩ := I4.loc
      exact ⟨m, hn⟩
    · refine thn (T.item (X.comp scope cl s3.heap.objs.size (xs ++ capN ix X.N) fp s3 (upd H2 s2.heap.objs.size (.lst []))) rfl rfl rfl hc i [] s' τ H' _ I' (stat fr') st' go) fun r s4 ⟨u, hr, h4⟩ => ?_
      subst hr
      refine thn h4 fun _ s5 ⟨x, H5, I5, r5, y5, st5, fr5⟩ => ?_
      have I5' := I5.pinned (stat fr5) (T.obj _ _ st5)
      refine thn (hg _ _ _ _ _ s5 τ H5 x u _ I5' r5 (step x H5 y5)) fun _ s6 ⟨τ6, H6, I6, q6⟩ => ?_
      refine thn (ht _ _ _ _ _ s6 τ6 H6 _ I6 q6) fun ok s7 ⟨H7, I7, q7⟩ => ?_
      have back : ∀ {s8 : Shared} {H8 : Hp} {m : Nat} {zs : List V}, Inv (X.comp scope cl s3.heap.objs.size (xs ++ capN ix X.N) fp s3 (upd H2 s2.heap.objs.size (.lst []))) ([] ++ pinsAt fp s5.heap) τ6 H8 s8 → W (i + 1) m zs τ6 H8 →
          ∃ i ys τ H', Inv (X.comp scope cl s3.heap.objs.size (xs ++ capN ix X.N) fp s3 (upd H2 s2.heap.objs.size (.lst []))) [] τ H' s8 ∧ tn i s8.heap ∧ (∀ b ∈ fp, H' b = none) ∧ W i m ys τ H' := fun {s8 H8 m zs} I8 w8 => by
        refine ⟨i + 1, zs, τ6, H8, I8.unpinned, T.keep _ _ _ st5 fun b hb o e => (I8.pin (b, o) (List.mem_append_right _ (List.mem_append_right _ (mem_pinsAt hb e)))).1, fun b hb => ?_, w8⟩
        obtain ⟨o, e, d⟩ := T.obj _ _ st5 b hb
        exact (I8.pin (b, o) (List.mem_append_right _ (List.mem_append_right _ (mem_pinsAt hb e)))).2.1
      cases ok with
      | false =>
        rw [if_neg Bool.false_ne_true] at q7 ⊢
        obtain ⟨m', hm, w7⟩ := hNf _ _ q7
        exact ⟨m', hm, back I7 w7⟩
      | true =>
        rw [if_pos rfl] at q7 ⊢
        refine thn (he _ _ _ _ _ s7 τ6 H7 _ I7 q7) fun y s8 ⟨v8, H8, I8, r8, n8⟩ => ?_
        obtain ⟨hD8, m', hm, w8⟩ := hN _ _ _ n8
        refine thn (mt_append _ s8 τ6 H8 (.ref s2.heap.objs.size) [v8] (.ref s2.heap.objs.size) [y] (fun _ Hn => ∃ m, m < n ∧ W (i + 1) m (ys ++ [v8]) τ6 Hn) I8 rfl (.cons r8 .nil) ⟨_, ys, v8, rfl, rfl, hD8, hz, m', hm, w8⟩) fun _ s9 ⟨_, H9, I9, _, m9, hm9, w9⟩ => ?_
        exact ⟨m9, hm9, back I9 w9⟩
  have e3 : ∀ tk, ({ s3 with heap := h₁, toks := tk } : Shared) = { s2 with heap := h₁, toks := tk } := fun tk => by rw [← hs3]
  have loop' : ∀ tk, codeAny (model X.prog X.w) X.A (.compLoop (.ListComp elt [⟨tg, iter, ifs, 0⟩] scope pos) 0 (.ref it) (.ref s2.heap.objs.size) (compEnvC scope cl s3.heap.objs.size X.env))
      (RR (.ref s2.heap.objs.size) s3.heap.objs.size) { s2 with heap := h₁, toks := tk } := fun tk => by rw [← e3]; exact loop tk
  exact codeAny_compStart_list (loop' _) (T.self _ 0 _ _ _ st3 (loop' _))
theorem pe_comp {osc : Scope} {N : List Str} (hc : X.calm = true) (hD : compD osc N scope ix = true) (hi : PI X tg iter wi)
    (hg : ∀ C fp s H, PG (X.comp scope (closOf scope X.env) C (xs ++ capN ix X.N) fp s H) tg g) (ht : ∀ C fp s H, PTs (X.comp scope (closOf scope X.env) C (xs ++ capN ix X.N) fp s H) ifs tt)
    (he : ∀ C fp s H, PE (X.comp scope (closOf scope X.env) C (xs ++ capN ix X.N) fp s H) elt te) (hsc : X.env.scope = osc := by rfl) (hN : X.N = N := by rfl) (hs : ∀ x, foldedSetIterable iter X.env x = pure x := by intro _; rfl) :
    PE X (.ListComp elt [⟨tg, iter, ifs, 0⟩] scope pos) (tComp wi g tt te xs.length ix) := by
  intro pins s σ H Q I h
  have S := compScope_of I.ok hD hsc hN
  rw [eval_ListComp]
  refine wpAny_comprehension_free (use := none) rfl hs S.clos S.kind S.names (comp_block S hc hi hg ht he I h (RR := fun acc C => compPost (model X.prog X.w) X.A X.xe none (EP X pins σ Q) acc C) ?_)
  rintro v u s' C r ⟨H', q, ⟨m, hn⟩, hI, _⟩
  exact ⟨m, hn, fun h' hb => ⟨v, H', hI h' hb, r, q⟩⟩
/-- y = [..] -/
theorem ps_setComp {osc : Scope} {N : List Str} {y : Str} {py : Pos} {j : Nat} {spos : Pos} (hNd : X.N.Nodup) (hj : X.N[j]? = some y) (hc : X.calm = true) (hy : Loc X.env.scope y) (hD : compD osc N scope ix = true) (hi : PI X tg iter wi)
    (hg : ∀ C fp s H, PG (X.comp scope (closOf scope X.env) C (xs ++ capN ix X.N) fp s H) tg g) (ht : ∀ C fp s H, PTs (X.comp scope (closOf scope X.env) C (xs ++ capN ix X.N) fp s H) ifs tt)
    (he : ∀ C fp s H, PE (X.comp scope (closOf scope X.env) C (xs ++ capN ix X.N) fp s H) elt te) (hsc : X.env.scope = osc := by rfl) (hN : X.N = N := by rfl)
    (hsw : swapsWith (.ListComp elt [⟨tg, iter, ifs, 0⟩] scope pos) (some (.Name y py)) spos.line X.env = pure true := by rfl)
    (hs : ∀ x, foldedSetIterable iter X.env x = pure x := by intro _; rfl) (hf : X.fn y = true ∨ X.env.scope.names.lookup y = some .local := by first | exact .inl rfl | exact .inr rfl | assumption) :
    PS X (.Assign [.Name y py] (.ListComp elt [⟨tg, iter, ifs, 0⟩] scope pos) spos) (tAsg (tComp wi g tt te xs.length ix) (gName j)) := by
  intro pins s σ H D I h
  have S := compScope_of I.ok hD hsc hN
  rw [exec_Assign_Name_used _ _ _ _ hsw]
  refine wpAny_bind (wpAny_standAt (wpAny_bind ?_))
  show wpAny _ X.A (do let _ ← comprehension (.ListComp elt [⟨tg, iter, ifs, 0⟩] scope pos) scope X.env _ (newList []) false (eval iter X.env) (some (assign (.Name y py) X.env))) _ _ s
  refine wpAny_bind (thn (wpAny_comprehension_free (use := some (assign (.Name y py) X.env)) (Q := fun _ s' => SP X pins D .next s') rfl hs S.clos S.kind S.names
    (comp_block S hc hi hg ht he I h (RR := fun acc C => compPost (model X.prog X.w) X.A X.xe (some (assign (.Name y py) X.env)) (fun _ s' => SP X pins D .next s') acc C) ?_)) fun _ s' hq => wpAny_pure (wpAny_pure hq))
  rintro v u s' C r ⟨H', q, ⟨m, hn⟩, hI, f0, f1, f2, f3, f4, f5⟩
  have I' : Inv X pins σ H' s' := hI s'.heap (.refl ..)
  show wpAny _ X.A (assign (.Name y py) X.env u) _ _ _
  refine wpAny_assign_Name (store_ok2 I' hNd hj hy r (fun s2 I2 hx => ?_) hf)
  obtain ⟨a, hb, ha⟩ := hx
  have hCa : C ≠ a := by
    rcases ha with rfl | ha
    · exact f1
    · exact Ne.symm (f4 _ _ ha)
  refine ⟨m, hn.sameBut hb hCa, fun h' hb' => ⟨_, H', ?_, q⟩⟩
  exact I2.turned (t' := s2.toks) (fun b o hne e => (hb'.2 b hne).trans e) f0 f1 f3 f4 f5
end
end L2

namespace L2
open PySem PySem.Spec PyProof.Rows
/-! ### readings: short names -/
abbrev rAddS : R2 := fun x y H Q => ∃ i j, x = .str i ∧ y = .str j ∧ i.length + j.length ≤ sizeLine ∧ Q (.str (i ++ j)) H
abbrev rInS : R2 := fun x y H Q => ∃ i j, x = .str i ∧ y = .str j ∧ Q (.bl (!(Builtin.Str.occurrences j i 0 j.length 1).isEmpty)) H
abbrev rNotInS : R2 := fun x y H Q => ∃ i j, x = .str i ∧ y = .str j ∧ Q (.bl (!(!(Builtin.Str.occurrences j i 0 j.length 1).isEmpty))) H
abbrev rIsB : R2 := fun x y H Q => ∃ a b, x = .bl a ∧ y = .bl b ∧ Q (.bl (a == b)) H
abbrev rIsNotB : R2 := fun x y H Q => ∃ a b, x = .bl a ∧ y = .bl b ∧ Q (.bl (a != b)) H
abbrev rIsN : R2 := fun x y H Q => y = .non ∧ Q (.bl (decide (x = .non))) H
abbrev rNotN : R2 := fun x y H Q => y = .non ∧ Q (.bl (!decide (x = .non))) H
abbrev RC := List V → Hp → VK → Prop
abbrev cLen (K : PySem.W.Frag) : RC := fun xs H Q => ∃ x n, xs = [x] ∧ LenV K x H n ∧ Q (.int n) H
abbrev cIsi (K : PySem.W.Frag) : RC := fun xs H Q => ∃ x c t b, xs = [x, c] ∧ TyOf K H x t ∧ (∃ T, c = .ty T ∧ PySem.W.kitOne K t (.type T) = some b) ∧ Q (.bl b) H
abbrev cAll (K : PySem.W.Frag) : RC := fun xs H Q => ∃ (a : Addr) (bs : List Bool), xs = [.ref a] ∧ SqL K H a (bs.map V.bl) ∧ Q (.bl (bs.all id)) H
abbrev cAbs : RC := fun xs H Q => ∃ i, xs = [.int i] ∧ Q (.int (if i < 0 then -i else i)) H
abbrev cStr : RC := fun xs H Q => ∃ i, xs = [.int i] ∧ i.natAbs.log2 < 1920 ∧ Q (.str (toString i)) H
abbrev RM := V → List V → Hp → VK → Prop
abbrev r_mt_startswith : RM := fun x xs H Q => ∃ a b, x = .str a ∧ xs = [.str b] ∧ Q (.bl (0 + b.length ≤ a.length && Builtin.Str.subAt a b 0)) H
/-! ### promises -/
/-- what is asked of the arguments and the heap; what is told; all that was tracked stays -/
def spP (pre : List V → Hp → Prop) (post : List V → Hp → V → Hp → Prop) : Sp := fun vs H Q _ => pre vs H ∧ ∀ r H', post vs H r H' → Same H H' → Q r H'
abbrev cInt : RC := fun xs H Q => ∃ (x : Str) (n : Int), xs = [.str x] ∧ PySem.intText? x = some n ∧ x.length ≤ 640 ∧ Q (.int n) H
abbrev r_mt_upper : RM := fun x xs H Q => ∃ a : Str, x = .str a ∧ xs = [] ∧ (∀ c ∈ a.cps.toList, c < 128) ∧ a.length ≤ sizeLine ∧ ∀ y : Str, y.length = a.length → Q (.str y) H
theorem new_obj {H : Hp} {p : Addr} {o : HO} (h : H p = none) : ∃ H', H' = upd H p o ∧ Same H H' ∧ H' p = some o :=
  ⟨_, rfl, fun b u e => by rw [upd_ne (ne_of_none e h)]; exact e, upd_same⟩
theorem isV (p : Addr) {H : Hp} {o : HO} (h : H p = none) : Same H (upd H p o) := fun b u e => by rw [upd_ne (ne_of_none e h)]; exact e
/-! ### the built-in names -/
theorem bt_len : bootBuiltins "len" = some (.builtin "len") := by decide +kernel
theorem bt_isinstance : bootBuiltins "isinstance" = some (.builtin "isinstance") := by decide +kernel
theorem bt_min : bootBuiltins "min" = some (.builtin "min") := by decide +kernel
theorem bt_sorted : bootBuiltins "sorted" = some (.builtin "sorted") := by decide +kernel
theorem bt_str : bootBuiltins "str" = some (.type "str") := by decide +kernel
theorem bt_int : bootBuiltins "int" = some (.type "int") := by decide +kernel
theorem bt_bool : bootBuiltins "bool" = some (.type "bool") := by decide +kernel
theorem bt_list : bootBuiltins "list" = some (.type "list") := by decide +kernel
theorem bt_tuple : bootBuiltins "tuple" = some (.type "tuple") := by decide +kernel
theorem bt_dict : bootBuiltins "dict" = some (.type "dict") := by decide +kernel
section
variable {X : Cx}

/-! ### bigger numbers -/
def big : Int := 10 ^ 200
def CDivB (_ j : Int) : Prop := 0 < j ∧ j < big
def CMulB (i j : Int) : Prop := (-big < i ∧ i < big) ∧ (-big < j ∧ j < big)
theorem log2_big {j : Int} (h : j.natAbs < 10 ^ 200) : j.natAbs.log2 < 700 := by
  by_cases h0 : j.natAbs = 0
  · rw [h0]; decide
  · exact (Nat.log2_lt h0).mpr (Nat.lt_of_lt_of_le h (by decide +kernel))
theorem abs_big {j : Int} (h : -big < j ∧ j < big) : j.natAbs < 10 ^ 200 := by
  have e : big = ((10 ^ 200 : Nat) : Int) := by decide +kernel
  rw [e] at h
  omega
theorem CMulB.ok {i j : Int} (h : CMulB i j) : IntMulOk i j := by
  have b : ∀ k : Int, (-big < k ∧ k < big) → Builtin.Int.intBits k ≤ 2 ^ 20 := fun k hk => by
    have q := log2_big (abs_big hk)
    unfold Builtin.Int.intBits
    split <;> omega
  exact .of_bits (b i h.1) (b j h.2)
theorem op_mulB : OpR X (binaryOp .Mult) (rI CMulB fun i j => .int (i * j)) := opI fun _ _ _ _ _ _ _ hc q => mul_int q hc.ok
theorem op_fdivB : OpR X (binaryOp .FloorDiv) (rI CDivB fun i j => .int (i / j)) := opI fun i j _ _ _ _ _ hc q => by
  have h1 : (0 : Int) < j := hc.1
  refine floordiv_int (by omega) ?_ (.inl (PyProof.noPylong_of_log2 (Nat.lt_trans (log2_big (abs_big ⟨by have := hc.2; omega, hc.2⟩)) (by decide))))
  rw [Int.fdiv_eq_ediv_of_nonneg i (by omega)]
  exact q

/-! ### is, of truths -/
/-! ### isinstance -/
theorem call_isi : CallR X (.builtin "isinstance") (cIsi X.K) := by
  intro pins s σ H xs us Q I r h
  obtain ⟨x, c, t, b, rfl, ty, ⟨T, rfl, e⟩, q⟩ := h
  obtain ⟨u, w', rfl, r1, r2⟩ := vals2 r
  cases r2
  exact isinst_ok I r1 ty e fun tk => ⟨.bl b, H, I.tok tk, rfl, q⟩

/-! ### signs of a text -/
def Its (x : Str) : It := ⟨fun i _ => i < x.cps.size, fun i H v H' => H' = H ∧ ∃ c, x.cps[i]? = some c ∧ v = .str ⟨#[c]⟩, fun i _ => x.cps.size ≤ i⟩
def iStr (tl : TE) : TI := fun σ H R => tl σ H fun x H1 => ∃ z, x = .str z ∧ R (Its z) H1
/-! ### all of a list of truths -/
/-! ### texts -/
def rSlS : V → Option Int → Option Int → Hp → VK → Prop := fun x lo hi H Q => ∃ z, x = .str z ∧ z.length ≤ sizeLine ∧ Q (.str (Txt.slice z lo hi)) H
theorem sl_str : SlR X rSlS := by
  intro pins s σ H x v vl vu lo hi sl Q I rx hs pl pu h
  obtain ⟨z, rfl, hz, q⟩ := h
  obtain ⟨t, rfl⟩ := rx
  obtain ⟨o, ho, hc, hd⟩ := hs
  refine ⟨"str", _, F.slot_str_getitem.lookup, typeIs_str _ _ _, ?_⟩
  obtain ⟨l, e1, e2⟩ : ∃ l : Option (Int × Tok), vl = partValue l ∧ lo = l.map (·.1) := by
    cases pl with
    | none => exact ⟨none, rfl, rfl⟩
    | int i t => exact ⟨some (i, t), rfl, rfl⟩
  obtain ⟨u, e3, e4⟩ : ∃ l : Option (Int × Tok), vu = partValue l ∧ hi = l.map (·.1) := by
    cases pu with
    | none => exact ⟨none, rfl, rfl⟩
    | int i t => exact ⟨some (i, t), rfl, rfl⟩
  subst e1 e2 e3 e4
  exact wpAny_getItem_str_slice (l := l) (u := u) (st := none) ⟨o, ho, hc, hd⟩ rfl
    (post_val_or_str ⟨Nat.le_trans (Txt.slice_le z _ _) hz, fun t' k => ⟨.str (Txt.slice z (l.map (·.1)) (u.map (·.1))), H, I.tok k, ⟨t', rfl⟩, q⟩⟩)
end
end L2

namespace L2
open PySem PySem.Spec PyProof.Rows

/-! ### exceptions of the text's own classes -/
theorem ObjOk.there {P : Program} {w : World} {H : Hp} {h : Heap} {a : Addr} {o : HO} (x : ObjOk P w H h a o) : ∃ u, h.get? a = some u := by
  cases o with
  | lst xs => obtain ⟨_, _, _, _, e⟩ := x; exact ⟨_, e⟩
  | tup xs => obtain ⟨_, _, _, o, e, _⟩ := x; exact ⟨_, e⟩
  | dK kvs => obtain ⟨_, _, _, _, o, _, _, e, _⟩ := x; exact ⟨_, e⟩
  | dT kvs => obtain ⟨_, _, _, _, o, _, _, e, _⟩ := x; exact ⟨_, e⟩
  | set S n => obtain ⟨o, _, _, _, e, _⟩ := x; exact ⟨_, e⟩
  | ins C dx fs => obtain ⟨_, _, _, e, _⟩ := x; exact ⟨_, e⟩
  | own y => exact x
  | xd fs => obtain ⟨_, ⟨o, _, _, e, _⟩, _⟩ := x; exact ⟨_, e⟩
  | rng lo hi => obtain ⟨_, _, _, e⟩ := x; exact ⟨_, e⟩
  | frz ob u => obtain ⟨e, _⟩ := x; exact ⟨_, e⟩
  | tbl ps => exact ⟨_, (show h.get? a = some _ from x)⟩
  | met f y => exact ⟨_, (show h.get? a = some _ from x)⟩
  | ext φ => obtain ⟨_, e, _⟩ := x; exact e
/-- an exception that flies: its record and its traceback's newest entry, both new since g, not tracked -/
def XF (g h : Heap) (H : Hp) (e : Addr) (cls : Value) : Prop :=
  ∃ oe vs a0 T oT ts, h.get? e = some oe ∧ (oe.cls = cls ∧ vs[0]? = some a0) ∧ oe.data = .fields vs ∧ vs[1]? = some (.ref T) ∧ T ≠ e ∧ h.get? T = some oT ∧ oT.data = .fields ts ∧ ts[3]? = some .none ∧
    g.get? e = none ∧ g.get? T = none ∧ H e = none ∧ H T = none
def CX1 (P : Program) (w : World) : CXT := fun outer H s E ev s' => ∃ e cls H', ev = .ref e ∧ s'.os = s.os ∧ AllBare s'.gens ∧ Un (frs outer) [] H H' s.heap s'.heap ∧ HOk P w H' s'.heap ∧ XF s.heap s'.heap H' e cls ∧ E cls none H'
theorem none_back {g h : Heap} (k : ∀ b o, g.get? b = some o → ∃ o', h.get? b = some o') {b : Addr} (e : h.get? b = none) : g.get? b = none := by
  cases q : g.get? b with
  | none => rfl
  | some o =>
    obtain ⟨o', z⟩ := k b o q
    rw [e] at z; cases z
theorem XF.older {g g' h : Heap} {H : Hp} {e : Addr} {cls : Value} (x : XF g h H e cls) (k : ∀ b o, g'.get? b = some o → ∃ o', g.get? b = some o') : XF g' h H e cls := by
  obtain ⟨oe, vs, a0, T, oT, ts, h1, h2, h3, h4, h5, h6, h7, h8, h9, h10, h11, h12⟩ := x
  exact ⟨oe, vs, a0, T, oT, ts, h1, h2, h3, h4, h5, h6, h7, h8, none_back k h9, none_back k h10, h11, h12⟩

section
variable {X : Cx} {pins : List (Addr × Obj)} {σ : St} {H : Hp} {s : Shared}
theorem Inv.stackFields (J : Inv X pins σ H s) {b : Addr} (hb : b ∈ frs X.stack) : ∃ o, s.heap.get? b = some o ∧ ∀ vs, o.data ≠ .fields vs := (J.stack.mem hb).2
theorem Inv.there0 (hex : X.ex = []) (J : Inv X pins σ H s) : ∀ b o, X.s₀.heap.get? b = some o → ∃ o', s.heap.get? b = some o' := fun b o e => J.base.there b o e (by rw [hex]; simp)
/-- the heap behind an exception's way through this frame: the frames up to their slots, the records at cs apart -/
theorem Inv.behind {h2 : Heap} {cs : List Addr} (hex : X.ex = []) (J : Inv X pins σ H s) (hcs : ∀ b ∈ cs, H b = none ∧ X.s₀.heap.get? b = none)
    (hB : ∀ b o, s.heap.get? b = some o → b ∉ frs X.stack → b ∉ cs → h2.get? b = some o) (hF : ∀ b o, s.heap.get? b = some o → b ∈ frs X.stack → ∃ sl, h2.get? b = some { o with slots := sl }) :
    Un X.fs [] X.H₀ H X.s₀.heap h2 ∧ HOk X.prog X.w H h2 := by
  have B : Un X.fs [] X.H₀ H X.s₀.heap s.heap := by have := J.base; rw [hex] at this; exact this
  have nL : ∀ b o, X.s₀.heap.get? b = some o → b ≠ X.env.locals := fun b o e => Nat.ne_of_lt (Nat.lt_of_lt_of_le (Heap.lt_size e) J.ok.above)
  have nC : ∀ b o, X.s₀.heap.get? b = some o → b ∉ cs := fun b o e z => by rw [(hcs b z).2] at e; cases e
  have any : ∀ b o, s.heap.get? b = some o → b ∉ cs → ∃ sl, h2.get? b = some { o with slots := sl } := fun b o e n => by
    by_cases hb : b ∈ frs X.stack
    · exact hF b o e hb
    · exact ⟨o.slots, hB b o e hb n⟩
  refine ⟨⟨fun b o e n h1 _ => ?_, fun b o e n h1 _ => ?_, B.free, fun b o e h1 => ?_, B.tups, B.frzs, B.tbls⟩, fun b u e => ?_⟩
  · refine hB b o (B.keep b o e n h1 (by simp)) (fun z => ?_) (nC b o e)
    rcases List.mem_cons.mp (J.stkSub b z) with q | q
    · exact nL b o e q
    · exact h1 q
  · obtain ⟨sl, q⟩ := B.slot b o e n h1 (by simp)
    obtain ⟨sl', q'⟩ := any b _ q (nC b o e)
    exact ⟨sl', q'⟩
  · obtain ⟨o', q⟩ := B.there b o e (by simp)
    obtain ⟨sl, q'⟩ := any b o' q (nC b o e)
    exact ⟨_, q'⟩
  · refine (J.hok b u e).stay (fun c v hc q => ?_) (fun _ q => q) fun _ _ q => q
    have hn : H c ≠ none := by
      rcases hc with rfl | hc
      · rw [e]; simp
      · rw [hc]; simp
    exact hB c v q (fun z => hn (J.stkFree c z)) fun z => hn (hcs c z).1
/-- .. and the exception itself, by what the library's stations say of it -/
theorem Inv.flown {B h2 : Heap} {cs : List Addr} {e : Addr} {cls a0 : Value} (hex : X.ex = []) (J : Inv X pins σ H s) (hcs : ∀ b ∈ cs, H b = none ∧ X.s₀.heap.get? b = none)
    (hB : ∀ b o, s.heap.get? b = some o → b ∉ frs X.stack → b ∉ cs → B.get? b = some o) (hF : ∀ b o, s.heap.get? b = some o → b ∈ frs X.stack → ∃ sl, h2.get? b = some { o with slots := sl })
    (he : H e = none) (he0 : X.s₀.heap.get? e = none) (kb : B.StaysIn h2) (tr : h2.TracedW B e cls a0) :
    Un X.fs [] X.H₀ H X.s₀.heap h2 ∧ HOk X.prog X.w H h2 ∧ XF X.s₀.heap h2 H e cls := by
  have hk := J.behind (h2 := h2) hex hcs (fun b o q n1 n2 => kb b o (hB b o q n1 n2)) hF
  refine ⟨hk.1, hk.2, ?_⟩
  obtain ⟨oe, vs, T, oT, ts, h1, h2', h3, h4, h5, h6, h7, h8, h9⟩ := tr
  have noT : ∀ o, s.heap.get? T = some o → T ∈ cs := fun o q => by
    by_cases hb : T ∈ frs X.stack
    · obtain ⟨o', q', nf⟩ := J.stackFields hb
      obtain ⟨sl, z⟩ := hF T o' q' hb
      rw [h7] at z
      have z' : oT = { o' with slots := sl } := Option.some.inj z
      exact absurd (by rw [← h8, z']) (nf ts)
    · by_cases hc : T ∈ cs
      · exact hc
      · rw [hB T o q hb hc] at h5; cases h5
  refine ⟨oe, vs, a0, T, oT, ts, h1, h2', h3, h4, h6, h7, h8, h9, he0, ?_, he, ?_⟩
  · cases q : X.s₀.heap.get? T with
    | none => rfl
    | some o =>
      obtain ⟨o', q'⟩ := J.there0 hex T o q
      rw [(hcs T (noT o' q')).2] at q; cases q
  · cases q : H T with
    | none => rfl
    | some u =>
      obtain ⟨o, z⟩ := (J.hok T u q).there
      rw [(hcs T (noT o z)).1] at q; cases q

/-- an exception just made leaves the frame -/
theorem leave_new {h' : Heap} {e : Addr} {cls : Value} {vs : List Value} {E : XK} {EE : Value → Shared → Prop} (hst : X.stack = X.env :: X.outer ∧ X.env.frame = some X.env.locals) (hex : X.ex = []) (J : Inv X pins σ H s) (hx : Heap.MadeExcOf s.heap h' e cls vs) (hE : E cls none H) :
    wpAny (model X.prog X.w) X.A (leaving X.env (.ref e)) (fun _ s2 => CX1 X.prog X.w X.outer X.H₀ X.s₀ E (.ref e) s2) EE { s with heap := h' } := by
  have fr : s.heap.FunFrames (PySem.W.hideAll s.heap (frs X.stack)) (X.env :: X.outer) := by
    have q := PySem.W.funFrames_hide (as := frs X.stack) J.stack fun env he a ha => List.mem_filterMap.mpr ⟨env, he, ha⟩
    rw [hst.1] at q ⊢
    exact q
  refine wpAny_leaves_madeW (s := { s with heap := h' }) (base := PySem.W.hideAll s.heap (frs X.stack)) (h := s.heap) (by rw [J.ok.frames, hst.1]) hst.2 (fun b o q => PySem.W.of_hideAll _ q) fr hx fun h2 t hfl _ _ hup => ?_
  obtain ⟨f1, f2, f3, f4⟩ := hfl
  have hF : ∀ b o, s.heap.get? b = some o → b ∈ frs X.stack → ∃ sl, h2.get? b = some { o with slots := sl } := fun b o q hb => by
    obtain ⟨o', q', nf⟩ := J.stackFields hb
    rw [q] at q'; cases q'
    exact hup b o (hx.keeps b o q) nf
  obtain ⟨r1, r2, r3⟩ := J.flown (cs := []) hex (fun b z => nomatch z) (fun b o q n _ => PySem.W.hideAll_get _ q n) hF
    (by
      cases q : H e with
      | none => rfl
      | some u =>
        obtain ⟨o, z⟩ := (J.hok e u q).there
        rw [hx.new] at z; cases z)
    (none_back (J.there0 hex) hx.new) f1 f4
  exact ⟨e, cls, H, rfl, J.os, J.bare, r1, r2, r3, hE⟩
/-- one that came from a callee leaves this frame too -/
theorem leave_on {e : Addr} {cls : Value} {E : XK} {EE : Value → Shared → Prop} (hst : X.stack = X.env :: X.outer ∧ X.env.frame = some X.env.locals) (hex : X.ex = []) (J : Inv X pins σ H s) (xf : XF X.s₀.heap s.heap H e cls) (hE : E cls none H) :
    wpAny (model X.prog X.w) X.A (leaving X.env (.ref e)) (fun _ s2 => CX1 X.prog X.w X.outer X.H₀ X.s₀ E (.ref e) s2) EE s := by
  obtain ⟨oe, vs, a0, T, oT, ts, h1, h2, h3, h4, h5, h6, h7, h8, h9, h10, h11, h12⟩ := id xf
  have fr : s.heap.FunFrames (PySem.W.hideAll s.heap (frs X.stack ++ [e, T])) (X.env :: X.outer) := by
    have q := PySem.W.funFrames_hide (as := frs X.stack ++ [e, T]) J.stack fun env he a ha => List.mem_append_left _ (List.mem_filterMap.mpr ⟨env, he, ha⟩)
    rw [hst.1] at q ⊢
    exact q
  refine wpAny_leaves_onW (base := PySem.W.hideAll s.heap (frs X.stack ++ [e, T])) (a0 := a0) (by rw [J.ok.frames, hst.1]) hst.2
    ⟨fun b o q => PySem.W.of_hideAll _ q, PySem.W.hideAll_none _ (List.mem_append_right _ (by simp)), fr, oe, vs, T, oT, ts, h1, h2, h3, h4, PySem.W.hideAll_none _ (List.mem_append_right _ (by simp)), h5, h6, h7, h8⟩ fun h2' hfl hup => ?_
  obtain ⟨f1, f2, f3, f4⟩ := hfl
  have hF : ∀ b o, s.heap.get? b = some o → b ∈ frs X.stack → ∃ sl, h2'.get? b = some { o with slots := sl } := fun b o q hb => by
    obtain ⟨o', q', nf⟩ := J.stackFields hb
    rw [q] at q'; cases q'
    exact hup b o q nf
  obtain ⟨r1, r2, r3⟩ := J.flown (cs := [e, T]) hex (fun b z => by
      have z' : b = e ∨ b = T := by simpa using z
      rcases z' with rfl | rfl
      · exact ⟨h11, h9⟩
      · exact ⟨h12, h10⟩) (fun b o q n n2 => PySem.W.hideAll_get _ q fun z => (List.mem_append.mp z).elim n n2) hF h11 h9 f1 f4
  exact ⟨e, cls, H, rfl, J.os, J.bare, r1, r2, r3, hE⟩
end

/-- an exception that a raise makes reaches what this body wants of exceptions -/
def Raises (X : Cx) (E : XK) : Prop := ∀ (pins : List (Addr × Obj)) (σ : St) (H : Hp) (s : Shared) (h' : Heap) (e : Addr) (cls : Value) (vs : List Value), Inv X pins σ H s → Heap.MadeExcOf s.heap h' e cls vs → E cls none H → X.xe (.ref e) { s with heap := h' }
section
variable {P : Program} {w : World} {K : PySem.W.Frag} {mg : Str → Option Value} {base : Heap} {N : List Str} {qual : Str} {scope : Scope} {f : Addr} {cd : Value} {A : Around} {outer : List Env} {s₀ : Shared} {H₀ : Hp} {E : XK}
theorem pass1 : Passes (CX1 P w) (cxOf (CX1 P w) P w K mg base N qual scope f cd A outer s₀ H₀ E) E := by
  intro pins σ H s ev s' I hcx
  obtain ⟨e, cls, H', rfl, os, bare, un, hok, xf, hE⟩ := hcx
  have J := I.call' (ch := []) os un hok bare (fun b z => nomatch z)
  exact leave_on (X := cxOf (CX1 P w) P w K mg base N qual scope f cd A outer s₀ H₀ E) ⟨rfl, rfl⟩ rfl J (xf.older (I.there0 rfl)) hE
theorem raises1 : Raises (cxOf (CX1 P w) P w K mg base N qual scope f cd A outer s₀ H₀ E) E := by
  intro pins σ H s h' e cls vs I hx hE
  exact leave_new (X := cxOf (CX1 P w) P w K mg base N qual scope f cd A outer s₀ H₀ E) ⟨rfl, rfl⟩ rfl I hx hE
theorem own1 : PassesOwn (model P w) (cxOf (CX1 P w) P w K mg base N qual scope f cd A outer s₀ H₀ E).A (cxOf (CX1 P w) P w K mg base N qual scope f cd A outer s₀ H₀ E).env (cxOf (CX1 P w) P w K mg base N qual scope f cd A outer s₀ H₀ E).xe := PassesOwn.leaving
end

/-! ### raise -/
abbrev bmVal : List Value := [.type "ValueError", .type "Exception", .type "BaseException", .type "object"]
abbrev newVal : String := "ValueError.__new__"
def tRaise (C : Addr) (ta : TA) (E : XK) : TS := fun _ σ H => ta σ H fun vs H1 => vs.length ≤ sizeLine ∧ E (.ref C) none H1
theorem own_cls {K : PySem.W.Frag} {h : Heap} {C : Addr} {bmB : List Value} {newId : String} (X : K.In h) (q : PySem.W.excIn K C bmB newId = true) :
    ∃ bm N nm qn bs hdct sn sub ab col dd k0 k1 k2 k3 k5 mN, h.get? C = some (excClassObj nm qn C N bs bm hdct sn sub ab col dd k0 k1 k2 k3 k5 newId) ∧ h.Ns N mN ∧ mN "__init__" = none ∧ OwnTail h bmB bm := by
  unfold PySem.W.excIn at q
  split at q
  case h_2 => cases q
  rename_i dd cd sl ho
  split at q
  case h_2 => cases q
  rename_i C' bm k0 k1 k2 k3 n k5 hm hs
  rw [Bool.and_eq_true, Bool.and_eq_true, Bool.and_eq_true, Bool.and_eq_true, Bool.and_eq_true] at q
  obtain ⟨⟨⟨⟨⟨q1, q2⟩, q3⟩, q4⟩, q5⟩, q6⟩ := q
  obtain rfl : C' = C := by simpa using q1
  obtain rfl : n = newId := by simpa using q2
  obtain ⟨nm, bs, mro, ns, qn, hd, sn, sub, ab, col, del⟩ := cd
  have hdel : del = false := by simpa using q3
  have hm' : mro = .ref C' :: bm := hm
  subst hdel hm'
  have hsl : sl = #[k0, k1, k2, k3, some (.builtin n), k5] := by
    apply Array.ext'
    exact hs
  subst hsl
  exact ⟨bm, ns, nm, qn, bs, hd, sn, sub, ab, col, dd, k0, k1, k2, k3, k5, _, X _ _ ho, .of_isNs (PySem.W.isNs_of_in X q5), PySem.W.nsMap_none_of_in X q5 (by simpa using q6), PySem.W.tail_of_in X q4⟩
section
variable {X : Cx} {x : Str} {C : Addr} {np cpos pos : Pos} {e₀ : Expr} {rest : List Expr} {ta : TA} {E : XK}
theorem ps_raise (hc : X.calm = true) (q : PySem.W.excIn X.K C bmVal newVal = true) (hr : Raises X E) (hg : Gl X x) (hm : X.mg x = some (.ref C)) (ha : PA X (e₀ :: rest) ta)
    (he : starEach (e₀ :: rest) X.env = (false, eval e₀ X.env) :: starEach rest X.env := by rfl) (hp : (backTo cpos (starEach rest X.env)).any (·.1) = false := by rfl) (hd : (x == ("__debug__" : Str)) = false := by decide) :
    PS X (.Raise (some (.Call (.Name x np) (e₀ :: rest) [] cpos)) none pos) (tRaise C ta E) := by
  intro pins s σ H D I h
  obtain ⟨tl, N, nm, qn, bs, hdct, sn, sub, ab, col, dd, k0, k1, k2, k3, k5, mN, hC, hN, hni, T⟩ := own_cls I.ok.mod.kin q
  refine wpAny_Raise_call_subT (C := C) (nm := nm) (q := qn) (N := N) (bs := bs) (bm := tl) (hdct := hdct) (sn := sn) (sub := sub) (ab := ab) (col := col) (dd := dd) (k0 := k0) (k1 := k1) (k2 := k2) (k3 := k3) (k5 := k5) (newId := newVal)
    PySem.F.excBase_ValueError (mN := mN) (T.hasType PySem.F.excBase_ValueError.hasBase) (I.ok.hd hc) (by rw [he]; exact hp) hni (ld_glob I hg hm ⟨rfl, ?_⟩ hd)
  have hA := ha cpos pins s σ H _ I h
  rw [he] at hA ⊢
  refine Calls.evalArgs_plain (thn hA fun us s2 ⟨vs, H2, I2, r2, z2, q2⟩ => ?_)
  exact ⟨rfl, by rw [← r2.length]; exact z2, I2.bk _ _ hC, hN.keeps I2.bk, T.keeps I2.bk, fun h' e hm => hr pins σ H2 s2 h' e _ _ I2 hm q2⟩
end

/-! ### texts of messages -/
/-- signs that a text may have -/
def Asc (x : Str) : Prop := ∀ c ∈ x.cps.toList, c < 128
section
variable {X : Cx} {e : Expr} {te : TE} {a : Str} {j : Nat} {p1 p2 p3 : Pos}
/-- f'.. {e!r}' -/
def tMsgR (te : TE) : TE := fun σ H Q => te σ H fun v H1 => ∃ x : Str, v = .str x ∧ x.length ≤ 100000 ∧ Asc x ∧ ∀ y : Str, Q (.str y) H1
/-- f'{e} ..' -/
def tMsgS (te : TE) : TE := fun σ H Q => te σ H fun v H1 => ∃ x : Str, v = .str x ∧ x.length ≤ 100000 ∧ ∀ y : Str, Q (.str y) H1
theorem pe_msgS (he : PE X e te) (hl : a.length ≤ 1000 := by decide +kernel) : PE X (.JoinedStr [.FormattedValue e (-1) none p2, .Constant (.str a) j p1] p3) (tMsgS te) := by
  intro pins s σ H Q I h
  refine wpAny_JoinedStr ?_
  show wpAny _ _ (eval (.FormattedValue e (-1) none p2) X.env) _ _ s
  refine wpAny_FormattedValue_plain (thn (he pins _ σ H _ I h) fun v s1 ⟨x, H1, I1, r1, z, ex, hz, q⟩ => ?_)
  subst ex
  obtain ⟨t, rfl⟩ := r1
  have hs : sizeLine = 16777216 := sizeLine_eq
  have e0 : (Str.empty ++ z).length = z.length := by rw [Str.length_append]; simp [Str.empty, Str.length]
  have fin : ∀ (t' : Tok) (tk : Nat), ∃ y u, Value.str z t' = Value.str y u ∧ (Str.empty ++ y).length ≤ sizeLine ∧ Joins (model X.prog X.w) X.A X.xe (evalEach [.Constant (.str a) j p1] X.env) (Str.empty ++ y) (fun out s₁ => out.length ≤ sizeLine ∧ EP X pins σ Q (.str out s₁.toks) { s₁ with toks := s₁.toks + 1 }) { s1 with toks := tk } := fun t' tk => by
    refine ⟨_, _, rfl, by rw [e0]; omega, ?_⟩
    show wpAny _ _ (eval (.Constant (.str a) j p1) X.env) _ _ _
    have hz2 : (Str.empty ++ z ++ a).length ≤ sizeLine := by rw [Str.length_append, e0]; omega
    refine Calls.Constant_str ⟨a, _, rfl, hz2, hz2, .str _, H1, I1.tok _, ⟨_, rfl⟩, q _⟩
  exact wpAny_formatField_str (fin _ _) (fin _ _) (by omega)
end
end L2

namespace L2
open PySem PySem.Spec PyProof.Rows
structure ExC (K : PySem.W.Frag) (C : Addr) : Prop where
  ga : PySem.W.findIn K (.ref C) "__getattribute__" = some (some (.builtin "BaseException.__getattribute__"))
  gx : PySem.W.findIn K (.ref C) "__getattr__" = some none
  cl : PySem.W.findIn K (.ref C) "__class__" = some (some (.builtin "object.__class__"))
  ob : PySem.W.mroIn K C (.type "object") = some true
  be : PySem.W.mroIn K C (.type "BaseException") = some true
  ge : PySem.W.specialIn K (.builtin "object.__class__") "__get__" = some (some (.builtin "getset_descriptor.__get__"))
  tk : PySem.W.takesIn K (.builtin "object.__class__") = some true
section
variable {prog : Program} {w : World} {A : Around} {E : Value → Shared → Prop} {K : PySem.W.Frag} {e C : Addr} {s : Shared}
open PySem.Builtin PySem.Builtin.Getset_descriptor in
end
end L2

namespace L2
open PySem PySem.Spec PyProof.Rows
/-! ### try, except C as n -/
section
variable {X : Cx} {pins : List (Addr × Obj)} {σ : St} {H : Hp} {s : Shared}
/-- the records at cs (an exception's) have changed, frames' slots too -/
theorem Inv.land {h2 : Heap} {cs : List Addr} (hex : X.ex = []) (I : Inv X pins σ H s) (hcs : ∀ b ∈ cs, H b = none ∧ X.s₀.heap.get? b = none) (hcp : ∀ b ∈ cs, ∀ p ∈ X.pn ++ pins, p.1 ≠ b)
    (hB : ∀ b o, s.heap.get? b = some o → b ∉ frs X.stack → b ∉ cs → h2.get? b = some o) (sm : s.heap.UpToSlots h2) : Inv X pins σ H { s with heap := h2 } := by
  have hF : ∀ b o, s.heap.get? b = some o → b ∈ frs X.stack → ∃ sl, h2.get? b = some { o with slots := sl } := fun b o q hb => by
    obtain ⟨o', q', nf⟩ := I.stackFields hb
    rw [q] at q'; cases q'
    exact sm b o q nf
  obtain ⟨r1, r2⟩ := I.behind hex hcs hB hF
  have ce : ∀ c v, s.heap.IsCell c v → h2.IsCell c v := fun c v ⟨o, ho, hd⟩ => by
    obtain ⟨sl, q⟩ := sm c o ho fun vs z => by rw [hd] at z; cases z
    exact ⟨_, q, hd⟩
  refine ⟨I.ok, I.os, I.bare, by rw [hex]; exact r1, ?_, fun x c e => ?_, I.free, I.freeC, fun p hp => ?_, r2, I.len⟩
  · obtain ⟨m, hn, hl⟩ := I.loc
    refine ⟨m, sm.ns hn, fun i x v e1 e2 e3 => ?_⟩
    obtain ⟨u, r, l⟩ := hl i x v e1 e2 e3
    refine ⟨u, r, ?_⟩
    rcases l with l | ⟨k, c, e, z⟩
    · exact .inl l
    · exact .inr ⟨k, c, e, ce c _ z⟩
  · obtain ⟨v, z⟩ := I.cell x c e
    exact ⟨v, ce c v z⟩
  · obtain ⟨e, n, ne, nf, d⟩ := I.pin p hp
    exact ⟨hB _ _ e (fun z => (List.mem_cons.mp (I.stkSub _ z)).elim ne nf) fun z => hcp _ z p hp rfl, n, ne, nf, d⟩
end
/-- what stands where an exception lies that is held by a name -/
def exO (e C : Addr) : HO := .ext fun h => ∃ o, h.get? e = some o ∧ o.cls = .ref C
/-- the context of an except suite -/
abbrev Cx.sub (X : Cx) (e : Addr) : Cx := { X with A := X.A.mark (some (.ref e)), calm := false, xe := fun _ _ => False }
section
variable {X : Cx} {pins : List (Addr × Obj)} {σ : St} {H : Hp} {s : Shared} {e : Addr}
theorem Inv.toSub (I : Inv X pins σ H s) : Inv (X.sub e) pins σ H s :=
  ⟨⟨I.ok.mod, I.ok.kind, I.ok.glob, I.ok.blt, I.ok.above, I.ok.inj, I.ok.has, I.ok.cab, (fun z => nomatch z), I.ok.frames, I.ok.stk, I.ok.exf, I.ok.bs, I.ok.bsz, I.ok.noex, I.ok.exfs, I.ok.funs, I.ok.frf⟩, I.os, I.bare, I.base, I.loc, I.cell, I.free, I.freeC, I.pin, I.hok, I.len⟩
theorem Inv.ofSub {J : Inv X pins σ H s} {σ' : St} {H' : Hp} {s' : Shared} (I : Inv (X.sub e) pins σ' H' s') : Inv X pins σ' H' s' :=
  ⟨J.ok, I.os, I.bare, I.base, I.loc, I.cell, I.free, I.freeC, I.pin, I.hok, I.len⟩
end
abbrev EXK := Value → St → Hp → Prop
/-- an exception that came from a call -/
def PX (X : Cx) (pins : List (Addr × Obj)) (EX : EXK) : Value → Shared → Prop := fun ev s' => ∃ e cls σ s1 H1 H', ev = .ref e ∧ Inv X pins σ H1 s1 ∧ Inv X pins σ H' s' ∧ XF s1.heap s'.heap H' e cls ∧ EX cls σ H'
def PEX (X : Cx) (ex : Expr) (t : EXK → TE) : Prop :=
  ∀ (pins : List (Addr × Obj)) (s : Shared) (σ : St) (H : Hp) (Q : VK) (EX : EXK), Inv X pins σ H s → t EX σ H Q → wpAny (model X.prog X.w) X.A (eval ex X.env) (EP X pins σ Q) (PX X pins EX) s
def PSX (X : Cx) (st : Stmt) (t : EXK → TS) : Prop :=
  ∀ (pins : List (Addr × Obj)) (s : Shared) (σ : St) (H : Hp) (D : Ends) (EX : EXK), Inv X pins σ H s → t EX D σ H → wpAny (model X.prog X.w) X.A (exec st X.env) (SP X pins D) (PX X pins EX) s
section
variable {X : Cx} {k : Nat} {f : Addr} {fd : FuncData} {ps : List Str} {sp : Sp} {x : Str} {p pos : Pos} {e : Expr} {es : List Expr} {t : TA}
def tCallX (sp : Sp) (ta : TA) (EX : EXK) : TE := fun σ H Q => ta σ H fun vs H1 => sp (vs ++ []) H1 Q fun cls _ H2 => EX cls σ H2
end
section
variable {X : Cx} {ex : Expr} {tx : EXK → TE} {pos p1 : Pos} {i : Nat} {y : Str}
def tDropX (tx : EXK → TE) (EX : EXK) : TS := fun D σ H => tx EX σ H fun _ H1 => D.nx σ H1
def tRetX (tx : EXK → TE) (EX : EXK) : TS := fun D σ H => tx EX σ H D.rt
def tAsgX (tx : EXK → TE) (i : Nat) (EX : EXK) : TS := fun D σ H => tx EX σ H fun v H1 => D.nx (σ.set i (some v)) H1
theorem psx_set {pos' : Pos} (hN : X.N.Nodup) (hi : X.N[i]? = some y) (hx : Loc X.env.scope y) (he : PEX X ex tx) (hs : swapsWith ex (some (.Name y pos')) pos.line X.env = pure false := by rfl) (hf : X.fn y = true ∨ X.env.scope.names.lookup y = some .local := by first | exact .inl rfl | exact .inr rfl | assumption) :
    PSX X (.Assign [.Name y pos'] ex pos) (tAsgX tx i) := by
  intro pins s σ H D EX I h
  refine wpAny_Assign_Name (thn (he pins s σ H _ EX I h) fun v s1 ⟨x, H1, I1, r1, q1⟩ => ?_) hs
  exact store_ok I1 hN hi hx r1 (fun s2 I2 => ⟨_, H1, I2, q1⟩) hf
end
/-- all that a class must have so that its exceptions are looked at -/
structure ExK (K : PySem.W.Frag) (C : Addr) : Prop extends ExC K C where
  has : (PySem.W.clsIn K C).isSome = true
/-- the ends of an except suite: the name goes -/
def endT (i : Nat) (D : Ends) : Ends := { nx := fun σ H => D.nx (σ.set i none) H, rt := D.rt, bk := fun σ H => D.bk (σ.set i none) H, ct := fun σ H => D.ct (σ.set i none) H }
def tTry (K : PySem.W.Frag) (tb : EXK → TS) (C0 : Addr) (i : Nat) (th : TS) : TS := fun D σ H => tb (fun cls σ1 H1 => ∃ C, cls = .ref C ∧ ExK K C ∧ PySem.W.exmOne K (.ref C) (.ref C0) = some true ∧
  ∀ e, H1 e = none → th (endT i D) (σ1.set i (some (.ref e))) (upd H1 e (exO e C))) D σ H
section
variable {X : Cx} {st b₀ : Stmt} {suite : List Stmt} {tb : EXK → TS} {th : TS} {c n : Str} {C0 : Addr} {i : Nat} {np hpos pos : Pos}
end
end L2

namespace L2
open PySem PySem.Spec PyProof.Rows
/-! ### isinstance of an exception -/
def clsV : V → Option Value
  | .ty T => some (.type T)
  | .ref D => some (.ref D)
  | _ => none
abbrev cIsx (K : PySem.W.Frag) : RC := fun xs H Q => ∃ a C c cv b, xs = [.ref a, c] ∧ H a = some (exO a C) ∧ ExK K C ∧ clsV c = some cv ∧ PySem.W.kitOne K (.ref C) cv = some b ∧ Q (.bl b) H
abbrev cIsxT (K : PySem.W.Frag) : RC := fun xs H Q => ∃ a C p, ∃ cs : List Addr, ∃ b, xs = [.ref a, .ref p] ∧ H a = some (exO a C) ∧ ExK K C ∧ H p = some (.tup (cs.map V.ref)) ∧ PySem.W.kitAny K (.ref C) (cs.map Value.ref) = some b ∧ Q (.bl b) H
section
variable {X : Cx}
end
/-! ### defs over CX1 -/
theorem pass10 {P : Program} {w : World} {X : Cx} : Passes (CX1 P w) X E0 := fun _ _ _ _ _ _ _ h => by
  obtain ⟨_, _, _, _, _, _, _, _, _, z⟩ := h
  exact z.elim
section
variable {P : Program} {w : World} {K : PySem.W.Frag} {mg : Str → Option Value} {base : Heap}
/-- a def that lets exceptions out -/
theorem Fun.ok1 {x qual : Str} {st : Stmt} {f : Addr} {fd : FuncData} {N ps : List Str} {k : Nat} {sp : Sp} (F : Fun K x qual st f fd) (S : FnScope N ps (defScope st)) (len : ∀ vs H Q E, sp vs H Q E → vs.length = ps.length)
    (hbody : ∀ (cdv : Value) (A : Around) (outer : List Env) (s : Shared) (H : Hp) (vs : List V) (Q : VK) (E : XK), Room k (A.deeper (envOfC qual (defScope st) s.heap.objs.size f cdv)) → sp vs H Q E →
      ∃ t, PSs (cxOf (CX1 P w) P w K mg base N qual (defScope st) f cdv A outer s H E) (defBody st) t ∧ t { nx := fun _ H' => Q .non H', rt := Q } (start N vs) H) : FnOk P w K mg base (CX1 P w) (k + 1) f fd ps sp := by
  obtain ⟨oc, od, kV, doc, pm, an, cdv, ct, osl, rfl, lk, hcd⟩ := F.ex
  exact fn_of lk hcd S len fun A outer s H vs Q E hr hsp => hbody cdv A outer s H vs Q E hr hsp
/-- a def out of which none comes -/
theorem Fun.ok0 {x qual : Str} {st : Stmt} {f : Addr} {fd : FuncData} {N ps : List Str} {k : Nat} {sp : Sp} (F : Fun K x qual st f fd) (S : FnScope N ps (defScope st)) (len : ∀ vs H Q E, sp vs H Q E → vs.length = ps.length)
    (hbody : ∀ (cdv : Value) (A : Around) (outer : List Env) (s : Shared) (H : Hp) (vs : List V) (Q : VK) (E : XK), Room k (A.deeper (envOfC qual (defScope st) s.heap.objs.size f cdv)) → sp vs H Q E →
      ∃ t, PSs (cxOf (CX1 P w) P w K mg base N qual (defScope st) f cdv A outer s H E).nox (defBody st) t ∧ t { nx := fun _ H' => Q .non H', rt := Q } (start N vs) H) : FnOk P w K mg base (CX1 P w) (k + 1) f fd ps sp :=
  F.ok1 S len fun cdv A outer s H vs Q E hr h => let ⟨t, a, b⟩ := hbody cdv A outer s H vs Q E hr h; ⟨t, a.nox, b⟩
end
theorem walk_ofX {l : PySem.W.OpenLaw} {n k : Nat} {q : Program} {loose : List Str} {XP : (Str → Option Value) → Heap → Prop} {YP : World → Heap → Prop} {d : DefRec} {K : Params → PySem.W.Frag} {sp : PySem.W.Frag → Sp} {x : Str}
    (hn : l.most = some n) (hn2 : n ≤ sizeLine) (hdf : d.params.defaults = []) (hr : Room k callerA)
    (hY : ∀ (w : World) (h : Heap), YP w h → (K w.params).In h)
    (F : ∀ (w : World) (mg : Str → Option Value) (fa : Addr) (h : Heap), (K w.params).In h → h.Ns mainGlobals mg → mg d.name = some (.ref fa) →
      ∃ fd : FuncData, (∀ (s : Shared) (u : Value), BindsTo s fd ⟨[u], []⟩ [(x, u)]) ∧
        ∀ base : Heap, (K w.params).In base → base.Ns mainGlobals mg → FnOk l.prog w (K w.params) mg base (CX1 l.prog w) k fa fd [x] (sp (K w.params)))
    (hsp : ∀ (K : PySem.W.Frag) (H : Hp) (a : Addr) (ns : List Int), ns.length ≤ n → Only H → SqL K H a (ns.map V.int) → sp K [.ref a] H (fun v _ => v = .bl true) fun _ _ _ => False) :
    PySem.W.WalkO q loose XP YP l.row.toRowW d [] (fun f vs => PySem.call f vs) :=
  walk_of (K := K) (CX := fun w => CX1 l.prog w) (sp := fun w => sp (K w.params)) hn hn2 hdf hr hY F (fun w H a ns h1 h2 h3 => hsp (K w.params) H a ns h1 h2 h3) fun _ _ _ _ _ z => by
    obtain ⟨_, _, _, _, _, _, _, _, _, y⟩ := z
    exact y
end L2

namespace L2
open PySem
/-! ### loops, as they stand behind the unfolding of their readings -/
section
variable {σ : St} {H : Hp} {nx : St → Hp → Prop} {B : V → St → Hp → (St → Hp → Prop) → Prop}
theorem loop_range {lo : Int} {n : Nat} (Pv : Nat → St → Hp → Prop) (h0 : Pv 0 σ H) (hs : ∀ i σ H, i < n → Pv i σ H → B (.int (lo + i)) σ H (Pv (i + 1))) (hd : ∀ σ H, Pv n σ H → nx σ H) :
    ∃ W : Nat → Nat → St → Hp → Prop, (∃ m, W 0 m σ H) ∧ ∀ i m σ H, W i m σ H → ((Itr lo n).stop i H ∧ nx σ H) ∨ ((Itr lo n).go i H ∧ ∃ N : St → Hp → Prop, (∀ σ' H', N σ' H' → ∃ m', m' < m ∧ W (i + 1) m' σ' H') ∧ ∀ x H', (Itr lo n).yld i H x H' → B x σ H' N) := by
  refine ⟨fun i m σ H => m = n - i ∧ i ≤ n ∧ Pv i σ H, ⟨n, by simp, Nat.zero_le _, h0⟩, ?_⟩
  rintro i m σ H ⟨rfl, hi, p⟩
  by_cases hlt : i < n
  · refine .inr ⟨hlt, Pv (i + 1), fun σ' H' p' => ⟨n - (i + 1), by omega, rfl, hlt, p'⟩, ?_⟩
    rintro x H' ⟨rfl, rfl⟩
    exact hs i σ _ hlt p
  · obtain rfl : i = n := by omega
    exact .inl ⟨Nat.le_refl _, hd σ H p⟩
theorem loop_list {K : PySem.W.Frag} {a : Addr} (xs : List V) (Pv : Nat → St → Hp → Prop) (h0 : Pv 0 σ H) (hl : ∀ i σ H, Pv i σ H → SqL K H a xs) (hs : ∀ i x σ H, xs[i]? = some x → Pv i σ H → B x σ H (Pv (i + 1))) (hd : ∀ σ H, Pv xs.length σ H → nx σ H) :
    ∃ W : Nat → Nat → St → Hp → Prop, (∃ m, W 0 m σ H) ∧ ∀ i m σ H, W i m σ H → ((Itl K a).stop i H ∧ nx σ H) ∨ ((Itl K a).go i H ∧ ∃ N : St → Hp → Prop, (∀ σ' H', N σ' H' → ∃ m', m' < m ∧ W (i + 1) m' σ' H') ∧ ∀ x H', (Itl K a).yld i H x H' → B x σ H' N) := by
  refine ⟨fun i m σ H => m = xs.length - i ∧ i ≤ xs.length ∧ Pv i σ H, ⟨xs.length, by simp, Nat.zero_le _, h0⟩, ?_⟩
  rintro i m σ H ⟨rfl, hi, p⟩
  have q := hl i σ H p
  by_cases hlt : i < xs.length
  · refine .inr ⟨⟨xs, xs[i], q, by simp [hlt]⟩, Pv (i + 1), fun σ' H' p' => ⟨xs.length - (i + 1), by omega, rfl, hlt, p'⟩, ?_⟩
    rintro x H' ⟨rfl, y⟩
    exact hs i x σ _ (y xs q) p
  · obtain rfl : i = xs.length := by omega
    exact .inl ⟨⟨xs, q, Nat.le_refl _⟩, hd σ H p⟩
theorem loop_tup {K : PySem.W.Frag} {a : Addr} (xs : List V) (Pv : Nat → St → Hp → Prop) (h0 : Pv 0 σ H) (hl : ∀ i σ H, Pv i σ H → SqT K H a xs) (hs : ∀ i x σ H, xs[i]? = some x → Pv i σ H → B x σ H (Pv (i + 1))) (hd : ∀ σ H, Pv xs.length σ H → nx σ H) :
    ∃ W : Nat → Nat → St → Hp → Prop, (∃ m, W 0 m σ H) ∧ ∀ i m σ H, W i m σ H → ((Itt K a).stop i H ∧ nx σ H) ∨ ((Itt K a).go i H ∧ ∃ N : St → Hp → Prop, (∀ σ' H', N σ' H' → ∃ m', m' < m ∧ W (i + 1) m' σ' H') ∧ ∀ x H', (Itt K a).yld i H x H' → B x σ H' N) := by
  refine ⟨fun i m σ H => m = xs.length - i ∧ i ≤ xs.length ∧ Pv i σ H, ⟨xs.length, by simp, Nat.zero_le _, h0⟩, ?_⟩
  rintro i m σ H ⟨rfl, hi, p⟩
  have q := hl i σ H p
  by_cases hlt : i < xs.length
  · refine .inr ⟨⟨xs, xs[i], q, by simp [hlt]⟩, Pv (i + 1), fun σ' H' p' => ⟨xs.length - (i + 1), by omega, rfl, hlt, p'⟩, ?_⟩
    rintro x H' ⟨rfl, y⟩
    exact hs i x σ _ (y xs q) p
  · obtain rfl : i = xs.length := by omega
    exact .inl ⟨⟨xs, q, Nat.le_refl _⟩, hd σ H p⟩
end
/-- a comprehension over anything that yields n items, the i-th with G i; each turn tells a value with R i, and leaves what is tracked; no test -/
theorem comp_gen {J : It} {D : Addr} {τ₀ : St} {H1 : Hp} {Q : Hp → Prop} {B : V → St → Hp → (V → St → Hp → Prop) → (St → Hp → Prop) → Prop} (n : Nat) (hn : n ≤ 1000000) (C : St → Prop) (R : Nat → V → Prop) (hC : C τ₀)
    (go : ∀ i H, Same H1 H → i < n → J.go i H) (stop : ∀ H, Same H1 H → J.stop n H) (hD : H1 D = none)
    (hs : ∀ i x τ H H', C τ → Same H1 H → i < n → J.yld i H x H' → B x τ H' (fun v τ' H4 => C τ' ∧ R i v ∧ Same H H4) (fun _ _ => False))
    (hd : ∀ ys H, ys.length = n → (∀ i v, ys[i]? = some v → R i v) → Same H1 H → H D = some (.lst ys) → Q H) :
    ∃ W : Nat → Nat → List V → St → Hp → Prop, (∃ m, W 0 m [] τ₀ (upd H1 D (.lst []))) ∧ ∀ i m ys τ H, W i m ys τ H → H D = some (.lst ys) ∧
    ((J.stop i H ∧ Q H) ∨ (J.go i H ∧ ys.length < sizeLine ∧ ∃ N : V → St → Hp → Prop,
      (∀ v τ' H', N v τ' H' → H' D = some (.lst ys) ∧ ∃ m', m' < m ∧ W (i + 1) m' (ys ++ [v]) τ' (upd H' D (.lst (ys ++ [v])))) ∧ ∃ Nf : St → Hp → Prop, (∀ τ' H', Nf τ' H' → ∃ m', m' < m ∧ W (i + 1) m' ys τ' H') ∧
      ∀ x H', J.yld i H x H' → B x τ H' N Nf)) := by
  have ext : ∀ {H : Hp} {o : HO}, Same H1 H → Same H1 (upd H D o) := fun {H o} h b u e => by
    rw [upd_ne (ne_of_none e hD)]; exact h b u e
  refine ⟨fun i m ys τ H => m = n - i ∧ i ≤ n ∧ ys.length = i ∧ (∀ j v, ys[j]? = some v → R j v) ∧ Same H1 H ∧ H D = some (.lst ys) ∧ C τ, ⟨n, by simp, Nat.zero_le _, rfl, by simp, ext (Same.refl _), upd_same, hC⟩, ?_⟩
  rintro i m ys τ H ⟨rfl, hi, hl, hR, hS, hy, hc⟩
  refine ⟨hy, ?_⟩
  by_cases hlt : i < n
  · refine .inr ⟨go i H hS hlt, Nat.lt_of_le_of_lt (by omega : ys.length ≤ 1000000) (by decide), (fun v τ' H4 => C τ' ∧ R i v ∧ Same H H4), ?_, (fun _ _ => False), fun _ _ z => z.elim, fun x H' y => hs i x τ H H' hc hS hlt y⟩
    rintro v τ' H4 ⟨c4, r4, s4⟩
    refine ⟨s4 _ _ hy, n - (i + 1), by omega, rfl, hlt, by simp [hl], fun j u hj => ?_, ext (hS.trans s4), upd_same, c4⟩
    rcases Nat.lt_trichotomy j ys.length with h | h | h
    · exact hR j u (by rwa [List.getElem?_append_left h] at hj)
    · subst h
      simp at hj
      subst hj
      rw [hl]; exact r4
    · rw [List.getElem?_eq_none (by simp; omega)] at hj; cases hj
  · obtain rfl : i = n := by omega
    exact .inl ⟨stop H hS, hd ys H hl hR hS hy⟩
/-! ### texts as lists of codes -/
theorem sIx_eq (n d : Nat) (v : Int) : max (0 : Int) (min (if v < 0 then v + n else v) n) = ((HT.sIx n d (some v) : Nat) : Int) := by
  show _ = (((if v < 0 then (v + (n : Int)).toNat else min v.toNat n) : Nat) : Int)
  by_cases hv : v < 0
  · simp only [if_pos hv]; omega
  · simp only [if_neg hv]; omega
theorem rng_one (a b : Nat) : sliceRange (a : Int) (b : Int) 1 = (List.range (b - a)).map fun k => a + k := by
  simp only [sliceRange, show ((1 : Int) > 0) = True from by simp, if_true]
  by_cases hlt : (a : Int) < b
  · have e3 : (((b : Int) - a + 1 - 1) / 1).toNat = b - a := by rw [Int.ediv_one]; omega
    simp only [hlt, if_true, e3]
    refine List.map_congr_left fun k _ => ?_
    omega
  · have : b - a = 0 := by omega
    simp [hlt, this]
theorem slice_ix (lo hi : Option Int) (n : Nat) : Builtin.Str.strSliceIndices lo hi 1 n = (List.range (HT.sIx n n hi - HT.sIx n 0 lo)).map fun k => HT.sIx n 0 lo + k := by
  rw [← rng_one]
  unfold Builtin.Str.strSliceIndices
  simp only [show ((1 : Int) > 0) = True from by simp, if_true]
  cases lo with
  | none =>
    cases hi with
    | none => rfl
    | some v => simp only [sIx_eq n n v]; rfl
  | some u =>
    cases hi with
    | none => simp only [sIx_eq n 0 u]; rfl
    | some v => simp only [sIx_eq n n v, sIx_eq n 0 u]
theorem slice_cps (x : Str) (lo hi : Option Int) : (Txt.slice x lo hi).cps.toList = (x.cps.toList.drop (HT.sIx x.length 0 lo)).take (HT.sIx x.length x.length hi - HT.sIx x.length 0 lo) := by
  have hb := HT.sIx_le x.length x.length (Nat.le_refl _) hi
  have hn : x.cps.toList.length = x.length := by simp [Str.length]
  unfold Txt.slice
  rw [slice_ix]
  split
  · rename_i h
    have h' : HT.sIx x.length x.length hi - HT.sIx x.length 0 lo = x.length := by simpa using h
    have e0 : HT.sIx x.length 0 lo = 0 ∨ x.length = 0 := by omega
    rcases e0 with e0 | e0
    · rw [e0, List.drop_zero, List.take_of_length_le]
      omega
    · rw [List.eq_nil_of_length_eq_zero (by omega : x.cps.toList.length = 0)]; simp
  · by_cases hab : HT.sIx x.length 0 lo ≤ HT.sIx x.length x.length hi
    · have h := StrLaws.picks x.cps.toList (HT.sIx x.length x.length hi - HT.sIx x.length 0 lo) (HT.sIx x.length 0 lo) (by omega)
      simpa using h
    · have : HT.sIx x.length x.length hi - HT.sIx x.length 0 lo = 0 := by omega
      rw [this]; simp
theorem slice_from (x : Str) (k : Nat) : (Txt.slice x (some (k : Int)) none).cps.toList = x.cps.toList.drop k := by
  rw [slice_cps, HT.sIx_none, HT.sIx_nat]
  have hn : x.cps.toList.length = x.length := by simp [Str.length]
  by_cases h : k ≤ x.length
  · rw [Nat.min_eq_left h, List.take_of_length_le (by rw [List.length_drop]; omega)]
  · rw [List.drop_eq_nil_of_le (by omega : x.cps.toList.length ≤ k), Nat.min_eq_right (by omega), List.drop_eq_nil_of_le (by omega)]; simp
theorem slice_to (x : Str) (k : Nat) : (Txt.slice x none (some (k : Int))).cps.toList = x.cps.toList.take k := by
  rw [slice_cps, HT.sIx_none, HT.sIx_nat, List.drop_zero, Nat.sub_zero]
  have hn : x.cps.toList.length = x.length := by simp [Str.length]
  by_cases h : k ≤ x.length
  · rw [Nat.min_eq_left h]
  · rw [Nat.min_eq_right (by omega), List.take_of_length_le (by omega), List.take_of_length_le (by omega)]
theorem str_ext {x y : Str} (h : x.cps.toList = y.cps.toList) : x = y := by
  obtain ⟨a⟩ := x
  obtain ⟨b⟩ := y
  have : a = b := Array.toList_inj.mp h
  rw [this]
theorem cps_app (x y : Str) : (x ++ y).cps.toList = x.cps.toList ++ y.cps.toList := by
  show (x.cps ++ y.cps).toList = _
  simp
/-! ### numerals -/
open PySem.NumText in
section
def numS (w : Int) : Str := Str.ofString (toString w)
def dg (m : Nat) : List Nat := (Nat.toDigits 10 m).map Char.toNat
theorem dg_small {m : Nat} (h : m < 10) : dg m = [48 + m] := by
  unfold dg
  rw [Nat.toDigits_of_lt_base h]
  have : ∀ d : Nat, d < 10 → (Nat.digitChar d).toNat = 48 + d := by decide
  simp [this m h]
theorem dg_step {m : Nat} (h : 10 ≤ m) : dg m = dg (m / 10) ++ [48 + m % 10] := by
  have hm : m % 10 < 10 := Nat.mod_lt m (by decide)
  have t : Nat.toDigits 10 (m / 10) ++ Nat.toDigits 10 (m % 10) = Nat.toDigits 10 (10 * (m / 10) + m % 10) := Nat.toDigits_append_toDigits (by decide) (by omega) hm
  rw [Nat.div_add_mod] at t
  rw [← dg_small hm]
  unfold dg
  rw [← t, List.map_append]
theorem len_cps (x : Str) : x.length = x.cps.toList.length := by simp [Str.length]
/-- the signs 0 to 9 -/
def inF (c : Nat) : Bool := !(Builtin.Str.occurrences "0123456789" ⟨#[c]⟩ 0 (Str.length "0123456789") 1).isEmpty
theorem inF_def (c : Nat) : (!(Builtin.Str.occurrences (Str.ofString "0123456789") ⟨#[c]⟩ 0 (Str.ofString "0123456789").length 1).isEmpty) = inF c := rfl
def isFig (x : Str) : Bool := !decide (x = "") && x.cps.toList.all inF
def inW (i : Int) : Bool := decide (-1000000000000000000000000000000 ≤ i ∧ i ≤ 1000000000000000000000000000000)
/-- the text without its minus -/
def fpart (x : Str) : Str := if (x.cps.toList.take 1 == [45]) = true then Txt.slice x (some 1) none else x
def valOf (x : Str) : Int := (intText? x).getD 0
def isNum (x : Str) : Bool := !(decide (31 < (fpart x).length) || !isFig (fpart x)) && (inW (valOf x) && decide (numS (valOf x) = x))
end
end L2

namespace L2
open PySem PySem.Spec PyProof.Rows
/-! ### more of texts -/
/-- where y lies in x -/
def findS (x y : Str) : Int := match Builtin.Str.occurrences x y 0 x.length 1 with | i :: _ => (i : Int) | [] => -1
abbrev r_mt_find : RM := fun x xs H Q => ∃ a b, x = .str a ∧ xs = [.str b] ∧ Q (.int (findS a b)) H
def joinS (sep : Str) : List Str → Str
  | [p] => p
  | l => Builtin.Str.glued sep l
def sumL (sep : Str) (ls : List Str) : Nat := ls.foldl (fun n p => n + p.length + sep.length) 0
abbrev r_mt_join (K : PySem.W.Frag) : RM := fun x xs H Q => ∃ sep a ls, x = .str sep ∧ xs = [.ref a] ∧ SqL K H a (ls.map V.str) ∧ sumL sep ls ≤ sizeLine ∧ Q (.str (joinS sep ls)) H
/-- x * n -/
def repS (x : Str) (n : Int) : Str := if n < 1 then Str.empty else if (n == 1 || x.length == 0) = true then x else ⟨(List.replicate n.toNat x.cps).foldl (· ++ ·) #[]⟩
abbrev rMulS : R2 := fun x y H Q => ∃ a n, x = .str a ∧ y = .int n ∧ (n < 1000000 ∧ -1000000 < n ∧ a.length * n.toNat ≤ 1000000) ∧ Q (.str (repS a n)) H
section
variable {X : Cx}
end
/-! ### signs that stay among the first 128 -/
theorem len_app (x y : Str) : (x ++ y).length = x.length + y.length := Str.length_append x y
end L2
namespace L2
open PySem PySem.Spec PyProof.Rows
/-! ### numerals, read sign by sign -/
section
open PySem.NumText
def fig (x : Str) : List Nat := (fpart x).cps.toList
end
end L2

namespace L2
open PySem PySem.Spec PyProof.Rows
/-! ### floor division by any number but 0 -/
def CDivS (_ j : Int) : Prop := j ≠ 0 ∧ -big < j ∧ j < big
section
variable {X : Cx}
theorem op_fdivS : OpR X (binaryOp .FloorDiv) (rI CDivS fun i j => .int (i.fdiv j)) := opI fun i j _ _ _ _ _ hc q =>
  floordiv_int hc.1 q (.inl (PyProof.noPylong_of_log2 (Nat.lt_trans (log2_big (abs_big hc.2)) (by decide))))
abbrev cIntB : RC := fun xs H Q => ∃ b : Bool, xs = [.bl b] ∧ Q (.int (if b then 1 else 0)) H
theorem call_int_bl : CallR X (.type "int") cIntB := by
  intro pins s σ H xs us Q I r h
  obtain ⟨b, rfl, q⟩ := h
  obtain ⟨u, rfl, r1⟩ := vals1 r
  cases r1
  exact call_int_bool ⟨.int _, H, I.tok _, ⟨_, rfl⟩, q⟩
end
/-! ### == of lists and tuples of flat values -/
theorem hu64 {k : Nat} {A : Around} (r : Room k A) : A.units + 64 < cLine := by have := r.un; omega
def datV : V → PyData
  | .non => .none
  | .bl b => .bool b
  | .int i => .int i
  | .str x => .str x
  | _ => .none
def isFlat : V → Bool
  | .non => true
  | .bl _ => true
  | .int _ => true
  | .str x => PyData.strOk x
  | _ => false
theorem Asc.flat {x : Str} (h : Asc x) : isFlat (.str x) = true := by
  unfold isFlat PyData.strOk
  rw [Array.all_eq_true]
  intro i hi
  have := h x.cps[i] (by simp)
  exact decide_eq_true (by omega)
/-- no truth beside a whole number -/
def mixV : V → V → Bool
  | .bl _, .int _ => false
  | .int _, .bl _ => false
  | _, _ => true
def mixAll : List V → List V → Bool
  | x :: xs, y :: ys => mixV x y && mixAll xs ys
  | _, _ => true
theorem same_dat {x y : V} (hx : isFlat x = true) (hy : isFlat y = true) : PySem.Spec.same (datV x) (datV y) = decide (x = y) := by
  cases x <;> cases y <;> simp_all [isFlat, datV, PySem.Spec.same] <;> (rename_i a b; by_cases e : a = b <;> simp [e])
theorem noMix_dat {x y : V} (hx : isFlat x = true) (hy : isFlat y = true) (h : mixV x y = true) : SeqAt.noMix (datV x) (datV y) = true := by
  cases x <;> cases y <;> simp_all [isFlat, datV, SeqAt.noMix, mixV]
abbrev rEqL (K : PySem.W.Frag) (neg : Bool) : R2 := fun x y H Q => ∃ a b xs ys, x = .ref a ∧ y = .ref b ∧ SqL K H a xs ∧ SqL K H b ys ∧ (xs.all isFlat = true ∧ ys.all isFlat = true ∧ mixAll xs ys = true) ∧ Q (.bl (if neg then !decide (xs = ys) else decide (xs = ys))) H
section
variable {X : Cx}
abbrev rEqNil (K : PySem.W.Frag) : R2 := fun x y H Q => ∃ a b xs, x = .ref a ∧ y = .ref b ∧ SqL K H a xs ∧ SqL K H b [] ∧ Q (.bl (decide (xs = []))) H
end
end L2

namespace L2
open PySem PySem.Spec PyProof.Rows
abbrev r_mt_append : RM := rAppend
abbrev r_mt_pop : RM := rPop
/-! ### terms, told with their parts ahead of their word -/
def jw : List V := [.str "plus", .str "minus", .str "times", .str "over", .str "rest", .str "under", .str "same"]
def isJ (v : V) : Bool := inV v jw
inductive Er where
  | nought | great | stuck
  deriving DecidableEq
def comeV (w : Str) (a b : Int) : Int :=
  if w = "plus" then a + b else if w = "minus" then a - b else if w = "times" then a * b else if w = "under" then (if a < b then 1 else 0) else if w = "same" then (if a = b then 1 else 0) else if w = "over" then a.fdiv b else a.fmod b
def isDiv (w : Str) : Prop := ¬ w = "plus" ∧ ¬ w = "minus" ∧ ¬ w = "times" ∧ ¬ w = "under" ∧ ¬ w = "same"
instance (w : Str) : Decidable (isDiv w) := by unfold isDiv; infer_instance
def joinE (w : Str) (a b : Int) : Except Er Int := if isDiv w ∧ b = 0 then .error .nought else if inW (comeV w a b) = true then .ok (comeV w a b) else .error .great
def wrth (kvs : List (Key × V)) : V → Int
  | .int i => i
  | .str x => (match valV kvs (.inr x) with | some (.int i) => i | _ => 0)
  | _ => 0
def stepE (kvs : List (Key × V)) (st : List Int) (v : V) : Except Er (List Int) :=
  if isJ v = true then (match v, st.reverse with | .str w, b :: a :: r => (match joinE w a b with | .ok c => .ok (r.reverse ++ [c]) | .error e => .error e) | _, _ => .error .stuck) else .ok (st ++ [wrth kvs v])
def runE (kvs : List (Key × V)) : List V → List Int → Except Er (List Int)
  | [], st => .ok st
  | v :: r, st => match stepE kvs st v with | .ok st' => runE kvs r st' | .error e => .error e
section
variable {kvs : List (Key × V)}
theorem runE_app : ∀ (p q : List V) (st : List Int), runE kvs (p ++ q) st = match runE kvs p st with | .ok st' => runE kvs q st' | .error e => .error e
  | [], q, st => rfl
  | v :: r, q, st => by
    show (match stepE kvs st v with | .ok st' => runE kvs (r ++ q) st' | .error e => .error e) = match (match stepE kvs st v with | .ok st' => runE kvs r st' | .error e => .error e) with | .ok st' => runE kvs q st' | .error e => .error e
    cases stepE kvs st v with
    | error e => rfl
    | ok st' => exact runE_app r q st'
def Good (kvs : List (Key × V)) (ps : List V) (r : Except Er Int) : Prop := (∀ st, runE kvs ps st = match r with | .ok i => .ok (st ++ [i]) | .error e => .error e) ∧ r ≠ .error .stuck
theorem good_leaf {v : V} (h : isJ v = false) : Good kvs [v] (.ok (wrth kvs v)) := by
  refine ⟨fun st => ?_, fun z => nomatch z⟩
  unfold runE stepE
  rw [h, if_neg (by decide)]
  rfl
def joinR (w : Str) (r1 r2 : Except Er Int) : Except Er Int := match r1 with | .error e => .error e | .ok a => match r2 with | .error e => .error e | .ok b => joinE w a b
theorem joinE_ns (w : Str) (a b : Int) : joinE w a b ≠ .error .stuck := by
  unfold joinE
  split
  · exact fun z => nomatch z
  · split <;> exact fun z => nomatch z
theorem good_join {w : Str} {p1 p2 : List V} {r1 r2 : Except Er Int} (hw : isJ (.str w) = true) (g1 : Good kvs p1 r1) (g2 : Good kvs p2 r2) : Good kvs (p1 ++ p2 ++ [.str w]) (joinR w r1 r2) := by
  refine ⟨fun st => ?_, ?_⟩
  · rw [runE_app, runE_app, g1.1]
    cases r1 with
    | error e => rfl
    | ok a =>
      show (match runE kvs p2 (st ++ [a]) with | .ok st' => runE kvs [.str w] st' | .error e => .error e) = _
      rw [g2.1]
      cases r2 with
      | error e => rfl
      | ok b =>
        show runE kvs [.str w] (st ++ [a] ++ [b]) = match joinE w a b with | .ok i => .ok (st ++ [i]) | .error e => .error e
        unfold runE stepE
        rw [hw, if_pos rfl]
        simp only [List.reverse_append, List.reverse_cons, List.reverse_nil, List.nil_append, List.cons_append, List.append_assoc]
        cases joinE w a b with
        | error e => rfl
        | ok c => simp [runE]
  · unfold joinR
    cases r1 with
    | error e => exact g1.2
    | ok a =>
      cases r2 with
      | error e => exact g2.2
      | ok b => exact joinE_ns w a b
/-- a run that breaks off stays so -/
theorem run_err {ps : List V} {i : Nat} {st : List Int} {e : Er} (h : runE kvs (ps.take i) st = .error e) : runE kvs ps st = .error e := by
  have := runE_app (kvs := kvs) (ps.take i) (ps.drop i) st
  rw [List.take_append_drop, h] at this
  exact this
theorem run_one {ps : List V} {i : Nat} {st st0 : List Int} {v : V} (h : runE kvs (ps.take i) st0 = .ok st) (hv : ps[i]? = some v) : runE kvs (ps.take (i + 1)) st0 = stepE kvs st v := by
  rw [List.take_add_one, hv]
  show runE kvs (ps.take i ++ [v]) st0 = _
  rw [runE_app, h]
  show (match stepE kvs st v with | .ok st' => runE kvs [] st' | .error e => .error e) = _
  cases stepE kvs st v <;> rfl
end
def okPart (v : V) : Prop := (∃ i, v = .int i ∧ inW i = true) ∨ ∃ x : Str, v = .str x ∧ x.length ≤ 1000
def SlotsOk (kvs : List (Key × V)) : Prop := ∀ k v, valV kvs k = some v → ∃ i, v = .int i ∧ inW i = true
theorem wrth_inW {kvs : List (Key × V)} (h : SlotsOk kvs) {v : V} (hv : okPart v) : inW (wrth kvs v) = true := by
  rcases hv with ⟨i, rfl, hi⟩ | ⟨x, rfl, _⟩
  · exact hi
  · show inW (match valV kvs (.inr x) with | some (.int i) => i | _ => 0) = true
    cases e : valV kvs (.inr x) with
    | none => rfl
    | some u =>
      obtain ⟨i, rfl, hi⟩ := h _ _ e
      exact hi
theorem inW_iff {i : Int} : inW i = true ↔ -1000000000000000000000000000000 ≤ i ∧ i ≤ 1000000000000000000000000000000 := by unfold inW; rw [decide_eq_true_eq]
theorem inW_big {i : Int} (h : inW i = true) : -big < i ∧ i < big := by
  have := inW_iff.mp h
  have hb : (1000000000000000000000000000001 : Int) < big := by decide +kernel
  omega
theorem isJ_str (w : Str) : isJ (.str w) = true ↔ (w = "plus" ∨ w = "minus" ∨ w = "times" ∨ w = "over" ∨ w = "rest" ∨ w = "under" ∨ w = "same") := by
  unfold isJ inV jw
  simp only [List.any_cons, List.any_nil, eqV, Bool.or_false, Bool.or_eq_true, beq_iff_eq]
  constructor
  · rintro (h | h | h | h | h | h | h) <;> simp [← h]
  · rintro (h | h | h | h | h | h | h) <;> simp [h]
theorem isJ_int (i : Int) : isJ (.int i) = false := rfl
end L2

namespace L2
open PySem PySem.Spec PyProof.Rows
/-! ### for x in reversed(list) -/
def Itv (K : PySem.W.Frag) (a : Addr) (xs : List V) : It := ⟨fun i H => i < xs.length ∧ SqL K H a xs, fun i H x H' => H' = H ∧ xs[xs.length - 1 - i]? = some x, fun i _ => xs.length ≤ i⟩
def iRev (K : PySem.W.Frag) (ta : TA) : TI := fun σ H R => ta σ H fun vs H1 => ∃ a xs, vs = [.ref a] ∧ SqL K H1 a xs ∧ R (Itv K a xs) H1
section
variable {X : Cx} {tg : Expr}
end
section
variable {σ : St} {H : Hp} {nx : St → Hp → Prop} {B : V → St → Hp → (St → Hp → Prop) → Prop}
end
end L2

namespace L2
open PySem PySem.Spec PyProof.Rows
abbrev cLst (K : PySem.W.Frag) : RC := fun xs H Q => ∃ p ys, xs = [.ref p] ∧ (SqL K H p ys ∨ SqT K H p ys) ∧ ∀ l, H l = none → Q (.ref l) (upd H l (.lst ys))
abbrev cMin : RC := fun xs H Q => ∃ i j, xs = [.int i, .int j] ∧ Q (.int (if j < i then j else i)) H
/-! ### names -/
def inL (c : Nat) : Bool := !(Builtin.Str.occurrences "abcdefghijklmnopqrstuvwxyz" ⟨#[c]⟩ 0 (Str.length "abcdefghijklmnopqrstuvwxyz") 1).isEmpty
theorem inL_def (c : Nat) : (!(Builtin.Str.occurrences (Str.ofString "abcdefghijklmnopqrstuvwxyz") ⟨#[c]⟩ 0 (Str.ofString "abcdefghijklmnopqrstuvwxyz").length 1).isEmpty) = inL c := rfl
def wl : List V := [.str "take", .str "give", .str "let", .str "say", .str "off", .str "if", .str "else", .str "end", .str "as"]
def isName (x : Str) : Bool := !(decide (x = "") || decide (6 < x.length)) && !(inV (.str x) jw || inV (.str x) wl) && x.cps.toList.all inL
theorem inL_iff (c : Nat) : inL c = true → 97 ≤ c ∧ c ≤ 122 := by
  unfold inL
  rw [StrLaws.found_one]
  have e : (Str.ofString "abcdefghijklmnopqrstuvwxyz").cps.toList = [97, 98, 99, 100, 101, 102, 103, 104, 105, 106, 107, 108, 109, 110, 111, 112, 113, 114, 115, 116, 117, 118, 119, 120, 121, 122] := by decide +kernel
  rw [e]
  simp only [decide_eq_true_eq, List.mem_cons, List.not_mem_nil, or_false]
  omega
theorem isName_parts {x : Str} (h : isName x = true) : x.cps.toList ≠ [] ∧ x.length ≤ 6 ∧ isJ (.str x) = false ∧ x.cps.toList.all inL = true := by
  unfold isName at h
  rw [Bool.and_eq_true, Bool.and_eq_true, Bool.not_eq_true', Bool.not_eq_true', Bool.or_eq_false_iff, Bool.or_eq_false_iff, decide_eq_false_iff_not, decide_eq_false_iff_not] at h
  refine ⟨fun z => h.1.1.1 (str_ext (by rw [z]; decide +kernel)), by omega, h.1.2.1, h.2⟩
theorem join_no {x : Str} (h : isJ (.str x) = true) : isName x = false ∧ isNum x = false := by
  refine ⟨Bool.eq_false_iff.mpr fun z => ?_, ?_⟩
  · rw [(isName_parts z).2.2.1] at h; cases h
  · rcases (isJ_str x).mp h with rfl | rfl | rfl | rfl | rfl | rfl | rfl <;> decide +kernel
/-! ### terms read: words as trees -/
def partW (w : Str) : Option V := if isName w = true then some (.str w) else if isNum w = true then some (.int (valOf w)) else none
theorem partW_j {w : Str} (h : isJ (.str w) = true) : partW w = none := by
  unfold partW
  rw [(join_no h).1, (join_no h).2]; rfl
theorem partW_flat {w : Str} {v : V} (h : partW w = some v) : isJ v = false ∧ ((∃ i, v = .int i) ∨ v = .str w) := by
  unfold partW at h
  split at h
  · rename_i z
    cases h
    exact ⟨(isName_parts z).2.2.1, .inr rfl⟩
  · split at h
    · cases h
      exact ⟨rfl, .inl ⟨_, rfl⟩⟩
    · cases h
inductive Tw where
  | leaf (w : Str) | node (w : Str) (a b : Tw)
def pre : Tw → List Str
  | .leaf w => [w]
  | .node w a b => w :: (pre a ++ pre b)
def wfT : Tw → Prop
  | .leaf w => isJ (.str w) = false
  | .node w a b => isJ (.str w) = true ∧ wfT a ∧ wfT b
def okT : Tw → Bool
  | .leaf w => (partW w).isSome
  | .node _ a b => okT a && okT b
def pvw (w : Str) : V := (partW w).getD (.str w)
def pst : Tw → List V
  | .leaf w => [pvw w]
  | .node w a b => pst a ++ pst b ++ [.str w]
def scanE : List Str → Nat → Option Nat
  | _, 0 => some 0
  | [], _ + 1 => none
  | w :: r, d + 1 => (scanE r (if isJ (.str w) = true then d + 2 else d)).map (· + 1)
/-- walked from the end; error true: a word that is no part -/
def stepR (st : List (List V)) (w : Str) : Except Bool (List (List V)) :=
  if isJ (.str w) = true then (match st.reverse with | a :: b :: r => .ok (r.reverse ++ [a ++ b ++ [.str w]]) | _ => .error false) else (match partW w with | some v => .ok (st ++ [[v]]) | none => .error true)
def runR : List Str → List (List V) → Except Bool (List (List V))
  | [], st => .ok st
  | w :: r, st => match stepR st w with | .ok st' => runR r st' | .error e => .error e
theorem runR_app : ∀ (p q : List Str) (st : List (List V)), runR (p ++ q) st = match runR p st with | .ok st' => runR q st' | .error e => .error e
  | [], q, st => rfl
  | v :: r, q, st => by
    show (match stepR st v with | .ok st' => runR (r ++ q) st' | .error e => .error e) = match (match stepR st v with | .ok st' => runR r st' | .error e => .error e) with | .ok st' => runR q st' | .error e => .error e
    cases stepR st v with
    | error e => rfl
    | ok st' => exact runR_app r q st'
/-- a term's parts and the place behind it, where it is one -/
def parse (ws : List Str) (at_ : Nat) : Option (List V × Nat) := match scanE (ws.drop at_) 1 with
  | some n => if n ≤ 60 then (match runR ((ws.drop at_).take n).reverse [] with | .ok [ps] => some (ps, at_ + n) | _ => none) else none
  | none => none
/-! ### a text among the items -/
end L2

namespace L2
open PySem PySem.Spec PyProof.Rows
/-! ### dict(d); d != e of alike dicts of whole numbers -/
abbrev cDct : RC := fun xs H Q => ∃ a kvs, xs = [.ref a] ∧ H a = some (.dK kvs) ∧ ∀ p, H p = none → Q (.ref p) (upd H p (.dK kvs))
abbrev rNeD : R2 := fun x y H Q => ∃ a b kvs, x = .ref a ∧ y = .ref b ∧ H a = some (.dK kvs) ∧ H b = some (.dK kvs) ∧ (∀ p ∈ kvs, ∃ i, p.2 = V.int i) ∧ Q (.bl false) H
section
variable {X : Cx}
theorem valV_mem {kvs : List (Key × V)} {k : Key} {v : V} (h : valV kvs k = some v) : ∃ p ∈ kvs, p.2 = v := by
  unfold valV at h
  obtain ⟨p, hp, e⟩ := Option.map_eq_some_iff.mp h
  exact ⟨p, List.mem_of_find?_eq_some hp, e⟩
end
/-! ### names: letters, one to six -/
def LW (x : Str) : Prop := x.cps.toList.all inL = true ∧ 1 ≤ x.length ∧ x.length ≤ 6
def freeW (x : Str) : Str := if inV (.str x) wl = true then x ++ "q" else if inV (.str x) jw = true then x ++ "q" else x
theorem name_asc {x : Str} (h : isName x = true) : Asc x := fun c hc => by
  have := inL_iff c (List.all_eq_true.mp (isName_parts h).2.2.2 c hc)
  omega
end L2

namespace L2
open PySem PySem.Spec PyProof.Rows
/-! ### zip of two tuples -/
section
variable {P : Program} {w : World} {A : Around} {E : Value → Shared → Prop} {s : Shared}
end
section
variable {P : Program} {w : World} {A : Around} {E : Value → Shared → Prop} {s : Shared}
/-- the objects of a zip of two tuples -/
structure ZApart (z a b i j p q : Addr) : Prop where
  az : a ≠ z
  bz : b ≠ z
  iz : i ≠ z
  jz : j ≠ z
  ab : a ≠ b
  ai : a ≠ i
  aj : a ≠ j
  bi : b ≠ i
  bj : b ≠ j
  ij : i ≠ j
  pz : p ≠ z
  pb : p ≠ b
  pi : p ≠ i
  pj : p ≠ j
  qz : q ≠ z
  qb : q ≠ b
  qi : q ≠ i
  qj : q ≠ j
def ZT (z a b i j p q : Addr) (k : Nat) (h : Heap) : Prop := IsZip h z a b .none ∧ IsPair h a (.ref i) (.ref j) ∧ (∃ u v, IsPair h b u v) ∧ h.IsTupleIter i p k ∧ h.IsTupleIter j q k
end
abbrev zp1 (h : Heap) (p : Addr) : Heap := h.push { cls := .type "tuple_iterator", data := .fields #[.ref p, .int 0 0] }
abbrev zp3 (h : Heap) (p q : Addr) : Heap := (zp1 (zp1 h p) q).push { cls := .type "tuple", data := .seq #[.ref h.objs.size, .ref (zp1 h p).objs.size] }
abbrev zp4 (h : Heap) (p q : Addr) : Heap := (zp3 h p q).push { cls := .type "tuple", data := .seq #[.none, .none] }
abbrev zp5 (h : Heap) (p q : Addr) : Heap := (zp4 h p q).push { cls := .type "zip", data := .fields #[.none, .bool false, .bool false, .ref (zp1 (zp1 h p) q).objs.size, .ref (zp3 h p q).objs.size] }
section
variable {P : Program} {w : World} {A : Around} {E : Value → Shared → Prop} {s : Shared}
end
/-- zip of two tuples of one length: each turn tells a new pair -/
def Itz (K : PySem.W.Frag) (p q : Addr) (xs ys : List V) : It := ⟨fun i H => i < xs.length ∧ SqT K H p xs ∧ SqT K H q ys, fun i H x H' => ∃ T u v, x = .ref T ∧ H T = none ∧ H' = upd H T (.tup [u, v]) ∧ xs[i]? = some u ∧ ys[i]? = some v, fun i H => xs.length ≤ i ∧ SqT K H p xs ∧ SqT K H q ys⟩
def iZip (K : PySem.W.Frag) (ta : TA) : TI := fun σ H R => ta σ H fun vs H1 => ∃ p q xs ys, vs = [.ref p, .ref q] ∧ SqT K H1 p xs ∧ SqT K H1 q ys ∧ xs.length = ys.length ∧ R (Itz K p q xs ys) H1
section
variable {X : Cx}
end
section
variable {σ : St} {H : Hp} {nx : St → Hp → Prop} {B : V → St → Hp → (St → Hp → Prop) → Prop}
end
abbrev cTup (K : PySem.W.Frag) : RC := fun xs H Q => ∃ p ys, xs = [.ref p] ∧ ((SqL K H p ys ∧ ∀ l, H l = none → Q (.ref l) (upd H l (.tup ys))) ∨ (SqT K H p ys ∧ Q (.ref p) H))
/-! ### terms written: what is read of a tree's words is the tree again -/
def stepA (st : List (List V)) (v : V) : Option (List (List V)) := if isJ v = true then (match st.reverse with | b :: a :: r => some (r.reverse ++ [v :: (a ++ b)]) | _ => none) else some (st ++ [[v]])
def runA : List V → List (List V) → Option (List (List V))
  | [], st => some st
  | v :: r, st => (stepA st v).bind (runA r)
theorem runA_app : ∀ (p q : List V) (st : List (List V)), runA (p ++ q) st = (runA p st).bind (runA q)
  | [], q, st => rfl
  | v :: r, q, st => by
    show (stepA st v).bind (runA (r ++ q)) = ((stepA st v).bind (runA r)).bind (runA q)
    cases stepA st v with
    | none => rfl
    | some st' => exact runA_app r q st'
theorem pvw_notJ {w : Str} (h : isJ (.str w) = false) : isJ (pvw w) = false := by
  unfold pvw
  cases hp : partW w with
  | none => exact h
  | some v => exact (partW_flat hp).1
theorem pvw_j {w : Str} (h : isJ (.str w) = true) : pvw w = .str w := by
  unfold pvw
  rw [partW_j h]; rfl
def wOfV : V → V
  | .int i => .str (numS i)
  | v => v
theorem partW_back {w : Str} {v : V} (h : partW w = some v) : wOfV v = .str w ∧ ((∃ i, v = .int i ∧ inW i = true) ∨ v = .str w) := by
  unfold partW at h
  split at h
  · cases h
    exact ⟨rfl, .inr rfl⟩
  · split at h
    · rename_i z
      cases h
      unfold isNum at z
      rw [Bool.and_eq_true, Bool.and_eq_true] at z
      refine ⟨?_, .inl ⟨_, rfl, z.2.1⟩⟩
      show V.str (numS (valOf w)) = .str w
      rw [of_decide_eq_true z.2.2]
    · cases h
end L2

namespace L2
open PySem PySem.W PyProof.Rows
/-! ### the sort's tree of questions, answered by a strict order -/
section
variable {α β : Type} {lt : Nat → Nat → Bool} {n : Nat}
def kOk (lt : Nat → Nat → Bool) (n : Nat) : KasT α → (α → Prop) → Prop
  | .ret a, R => R a
  | .ask i j k, R => i < n ∧ j < n ∧ i ≠ j ∧ kOk lt n (k (lt i j)) R
theorem kOk_bind : ∀ {t : KasT α} {f : α → KasT β} {R : β → Prop}, kOk lt n t (fun a => kOk lt n (f a) R) → kOk lt n (t.bind f) R
  | .ret _, _, _, h => h
  | .ask _ _ _, _, _, h => ⟨h.1, h.2.1, h.2.2.1, kOk_bind h.2.2.2⟩
theorem kOk_mono : ∀ {t : KasT α} {R R' : α → Prop}, kOk lt n t R → (∀ a, R a → R' a) → kOk lt n t R'
  | .ret _, _, _, h, m => m _ h
  | .ask _ _ _, _, _, h, m => ⟨h.1, h.2.1, h.2.2.1, kOk_mono h.2.2.2 m⟩
structure SO (lt : Nat → Nat → Bool) (n : Nat) : Prop where
  irr : ∀ i, i < n → lt i i = false
  trans : ∀ i j k, i < n → j < n → k < n → lt i j = true → lt j k = true → lt i k = true
  tot : ∀ i j, i < n → j < n → i ≠ j → lt i j = false → lt j i = true
def PP (n : Nat) (p : Array Nat) : Prop := p.Perm (List.range n).toArray
def gt (p : Array Nat) (k : Nat) : Nat := p.getD k 0
theorem gt_eq {p : Array Nat} {k : Nat} (h : k < p.size) : p[k]? = some (gt p k) := by
  unfold gt
  rw [Array.getD_eq_getD_getElem?, Array.getElem?_eq_getElem h]
  rfl
theorem PP.size {p : Array Nat} (h : PP n p) : p.size = n := by
  have := h.size_eq
  simpa using this
theorem PP.blt {p : Array Nat} (h : PP n p) {k : Nat} (hk : k < n) : gt p k < n := by
  have hs := h.size
  have m : gt p k ∈ p := Array.mem_of_getElem? (gt_eq (by omega))
  have m2 : gt p k ∈ (List.range n).toArray := (Array.Perm.mem_iff h).mp m
  simpa using m2
theorem PP.inj {p : Array Nat} (h : PP n p) {i j : Nat} (hi : i < n) (hj : j < n) (e : gt p i = gt p j) : i = j := by
  have hs := h.size
  have nd : p.toList.Nodup := by
    have : p.toList.Perm (List.range n) := by
      have := Array.perm_iff_toList_perm.mp h
      simpa using this
    exact this.nodup_iff.mpr List.nodup_range
  have e1 := gt_eq (p := p) (k := i) (by omega)
  have e2 := gt_eq (p := p) (k := j) (by omega)
  rw [← e] at e2
  have e1' : p.toList[i]? = some (gt p i) := by simpa using e1
  have e2' : p.toList[j]? = some (gt p i) := by simpa using e2
  obtain ⟨a1, b1⟩ := List.getElem?_eq_some_iff.mp e1'
  obtain ⟨a2, b2⟩ := List.getElem?_eq_some_iff.mp e2'
  exact (List.getElem_inj nd).mp (b1.trans b2.symm)
def Rise (lt : Nat → Nat → Bool) (p : Array Nat) (m : Nat) : Prop := ∀ i j, i < j → j < m → lt (gt p i) (gt p j) = true
def Fall (lt : Nat → Nat → Bool) (p : Array Nat) (m : Nat) : Prop := ∀ i j, i < j → j < m → lt (gt p j) (gt p i) = true
theorem asc_ok (S : SO lt n) {p : Array Nat} (hp : PP n p) : ∀ (f a : Nat), 1 ≤ a → a + f ≤ n → Rise lt p a → kOk lt n (kas_asc p f a) fun m => a ≤ m ∧ m ≤ a + f ∧ Rise lt p m ∧ (m < a + f → lt (gt p m) (gt p (m - 1)) = true)
  | 0, a, h1, h2, hr => ⟨Nat.le_refl _, Nat.le_refl _, hr, fun z => absurd z (Nat.lt_irrefl _)⟩
  | f + 1, a, h1, h2, hr => by
    refine ⟨hp.blt (by omega), hp.blt (by omega), (fun z => by have := hp.inj (by omega) (by omega) z; omega), ?_⟩
    show kOk lt n (if lt (gt p a) (gt p (a - 1)) = true then .ret a else kas_asc p f (a + 1)) _
    by_cases c : lt (gt p a) (gt p (a - 1)) = true
    · rw [if_pos c]
      exact ⟨Nat.le_refl _, by omega, hr, fun _ => c⟩
    · rw [if_neg c]
      have up : lt (gt p (a - 1)) (gt p a) = true := S.tot _ _ (hp.blt (by omega)) (hp.blt (by omega)) (fun z => by have := hp.inj (by omega) (by omega) z; omega) (Bool.eq_false_iff.mpr c)
      refine kOk_mono (asc_ok S hp f (a + 1) (by omega) (by omega) fun i j hij hj => ?_) fun m ⟨x1, x2, x3, x4⟩ => ⟨by omega, by omega, x3, fun z => x4 (by omega)⟩
      by_cases hja : j < a
      · exact hr i j hij hja
      · obtain rfl : j = a := by omega
        by_cases hi : i = j - 1
        · rw [hi]; exact up
        · exact S.trans _ _ _ (hp.blt (by omega)) (hp.blt (by omega)) (hp.blt (by omega)) (hr i (j - 1) (by omega) (by omega)) up
theorem desc_ok (S : SO lt n) {p : Array Nat} (hp : PP n p) : ∀ (f a : Nat), 1 ≤ a → a + f ≤ n → Fall lt p a → kOk lt n (kas_desc f p a 0) fun r => r.1 = p ∧ r.2.2 = 0 ∧ a ≤ r.2.1 ∧ r.2.1 ≤ a + f ∧ Fall lt p r.2.1
  | 0, a, h1, h2, hr => ⟨rfl, rfl, Nat.le_refl _, Nat.le_refl _, hr⟩
  | f + 1, a, h1, h2, hr => by
    refine ⟨hp.blt (by omega), hp.blt (by omega), (fun z => by have := hp.inj (by omega) (by omega) z; omega), ?_⟩
    show kOk lt n (if lt (gt p a) (gt p (a - 1)) = true then (if 0 > 0 then _ else kas_desc f p (a + 1) 0) else .ask (gt p (a - 1)) (gt p a) fun d => if d = true then .ret (p, a, 0) else kas_desc f p (a + 1) (0 + 1)) _
    by_cases c : lt (gt p a) (gt p (a - 1)) = true
    · rw [if_pos c, if_neg (by omega)]
      refine kOk_mono (desc_ok S hp f (a + 1) (by omega) (by omega) fun i j hij hj => ?_) fun m ⟨x1, x2, x3, x4, x5⟩ => ⟨x1, x2, by omega, by omega, x5⟩
      by_cases hja : j < a
      · exact hr i j hij hja
      · obtain rfl : j = a := by omega
        by_cases hi : i = j - 1
        · rw [hi]; exact c
        · exact S.trans _ _ _ (hp.blt (by omega)) (hp.blt (by omega)) (hp.blt (by omega)) c (hr i (j - 1) (by omega) (by omega))
    · rw [if_neg c]
      have up : lt (gt p (a - 1)) (gt p a) = true := S.tot _ _ (hp.blt (by omega)) (hp.blt (by omega)) (fun z => by have := hp.inj (by omega) (by omega) z; omega) (Bool.eq_false_iff.mpr c)
      refine ⟨hp.blt (by omega), hp.blt (by omega), (fun z => by have := hp.inj (by omega) (by omega) z; omega), ?_⟩
      show kOk lt n (if lt (gt p (a - 1)) (gt p a) = true then .ret (p, a, 0) else _) _
      rw [if_pos up]
      exact ⟨rfl, rfl, Nat.le_refl _, Nat.le_add_right _ _, hr⟩
theorem rev_gt {p : Array Nat} {m k : Nat} (hm : m ≤ p.size) (hk : k < m) : gt (kas_rev p 0 m) k = gt p (m - 1 - k) := by
  have e := getElem?_mirror_all (xs := p) (i := 0) (j := m) hm k
  rw [if_pos ⟨Nat.zero_le _, hk⟩] at e
  have e1 := gt_eq (p := kas_rev p 0 m) (k := k) (by unfold kas_rev; rw [mirror_size]; omega)
  have e2 := gt_eq (p := p) (k := m - 1 - k) (by omega)
  unfold kas_rev at e1 ⊢
  rw [e, show 0 + m - 1 - k = m - 1 - k by omega, e2] at e1
  exact (Option.some.inj e1).symm
theorem PP.rev {p : Array Nat} (h : PP n p) (m : Nat) : PP n (kas_rev p 0 m) := Array.Perm.trans (mirror_perm _ _ _ _) h
theorem tail_ok (S : SO lt n) {p : Array Nat} (hp : PP n p) {m : Nat} (h1 : 1 ≤ m) (h2 : m ≤ n) (hf : Fall lt p m) : kOk lt n (kas_tail3 m n p) fun r => PP n r.2 ∧ Rise lt r.2 r.1 ∧ 1 ≤ r.1 ∧ r.1 ≤ n := by
  refine kOk_bind (kOk_mono (asc_ok S (hp.rev m) (n - m) m h1 (by omega) fun i j hij hj => ?_) fun a ⟨x1, x2, x3, _⟩ => ⟨hp.rev m, x3, by omega, by omega⟩)
  have hs := hp.size
  rw [rev_gt (by omega) (by omega), rev_gt (by omega) hj]
  exact hf _ _ (by omega) (by omega)
theorem count_ok (S : SO lt n) {p : Array Nat} (hp : PP n p) (hn : 1 ≤ n) : kOk lt n (kas_count n p) fun r => PP n r.2 ∧ Rise lt r.2 r.1 ∧ 1 ≤ r.1 ∧ r.1 ≤ n := by
  refine kOk_bind (kOk_mono (asc_ok S hp (n - 1) 1 (Nat.le_refl _) (by omega) fun i j hij hj => by omega) fun m ⟨x1, x2, x3, x4⟩ => ?_)
  by_cases e : (m == n) = true
  · rw [if_pos e]
    exact ⟨hp, x3, x1, by omega⟩
  · rw [if_neg e]
    have ne : m ≠ n := by simpa using e
    by_cases h : m > 1
    · rw [if_pos h]
      refine ⟨hp.blt (by omega), hp.blt (by omega), (fun z => by have := hp.inj (by omega) (by omega) z; omega), ?_⟩
      show kOk lt n (if lt (gt p 0) (gt p (m - 1)) = true then .ret (m, p) else _) _
      rw [if_pos (x3 0 (m - 1) (by omega) (by omega))]
      exact ⟨hp, x3, x1, by omega⟩
    · rw [if_neg h]
      obtain rfl : m = 1 := by omega
      have c := x4 (by omega)
      refine kOk_bind (kOk_mono (desc_ok S hp (n - 2) 2 (by omega) (by omega) fun i j hij hj => ?_) fun r ⟨y1, y2, y3, y4, y5⟩ => ?_)
      · obtain rfl : j = 1 := by omega
        obtain rfl : i = 0 := by omega
        exact c
      · rw [if_neg (by omega), y1]
        exact tail_ok S hp (by omega) (by omega) y5
theorem place_ok (S : SO lt n) {p : Array Nat} (hp : PP n p) {k : Nat} (hk : k < n) (hr : Rise lt p k) : ∀ (f l r : Nat), l ≤ r → r ≤ k → r - l ≤ f → (∀ i, i < l → lt (gt p i) (gt p k) = true) → (∀ i, r ≤ i → i < k → lt (gt p k) (gt p i) = true) →
    kOk lt n (kas_place p k f l r) fun m => m ≤ k ∧ (∀ i, i < m → lt (gt p i) (gt p k) = true) ∧ ∀ i, m ≤ i → i < k → lt (gt p k) (gt p i) = true
  | 0, l, r, h1, h2, h3, h4, h5 => ⟨by omega, h4, fun i hi hik => h5 i (by omega) hik⟩
  | f + 1, l, r, h1, h2, h3, h4, h5 => by
    unfold kas_place
    by_cases c : l ≥ r
    · rw [if_pos c]
      exact ⟨by omega, h4, fun i hi hik => h5 i (by omega) hik⟩
    · rw [if_neg c]
      refine ⟨hp.blt (by omega), hp.blt (by omega), (fun z => by have := hp.inj (by omega) (by omega) z; omega), ?_⟩
      show kOk lt n (if lt (gt p k) (gt p ((l + r) / 2)) = true then _ else _) _
      by_cases d : lt (gt p k) (gt p ((l + r) / 2)) = true
      · rw [if_pos d]
        refine place_ok S hp hk hr f l ((l + r) / 2) (by omega) (by omega) (by omega) h4 fun i hi hik => ?_
        by_cases e : i = (l + r) / 2
        · rw [e]; exact d
        · exact S.trans _ _ _ (hp.blt (by omega)) (hp.blt (by omega)) (hp.blt (by omega)) d (hr _ i (by omega) hik)
      · rw [if_neg d]
        have up : lt (gt p ((l + r) / 2)) (gt p k) = true := S.tot _ _ (hp.blt (by omega)) (hp.blt (by omega)) (fun z => by have := hp.inj (by omega) (by omega) z; omega) (Bool.eq_false_iff.mpr d)
        refine place_ok S hp hk hr f ((l + r) / 2 + 1) r (by omega) (by omega) (by omega) (fun i hi => ?_) h5
        by_cases e : i = (l + r) / 2
        · rw [e]; exact up
        · exact S.trans _ _ _ (hp.blt (by omega)) (hp.blt (by omega)) (hp.blt (by omega)) (hr i _ (by omega) (by omega)) up
theorem bub_gt {p : Array Nat} {k d j : Nat} (hk : k < p.size) (hd : d ≤ k) (hj : j < p.size) : gt (bubble p k d) j = if j = k - d then gt p k else if k - d < j ∧ j ≤ k then gt p (j - 1) else gt p j := by
  have e := getElem?_bubble hk d hd j
  rw [gt_eq (p := bubble p k d) (k := j) (by rw [bubble_size]; exact hj)] at e
  by_cases h1 : j = k - d
  · rw [if_pos h1, gt_eq hk] at e
    rw [if_pos h1]; exact Option.some.inj e
  · rw [if_neg h1] at e ⊢
    by_cases h2 : k - d < j ∧ j ≤ k
    · rw [if_pos h2, gt_eq (by omega)] at e
      rw [if_pos h2]; exact Option.some.inj e
    · rw [if_neg h2, gt_eq hj] at e
      rw [if_neg h2]; exact Option.some.inj e
theorem bin_ok (S : SO lt n) : ∀ (f : Nat) {p : Array Nat} (k : Nat), PP n p → k + f = n → Rise lt p k → kOk lt n (kas_bin f p k) fun p' => PP n p' ∧ Rise lt p' n
  | 0, p, k, hp, hk, hr => ⟨hp, by rw [← hk]; exact hr⟩
  | f + 1, p, k, hp, hk, hr => by
    have hs := hp.size
    refine kOk_bind (kOk_mono (place_ok S hp (by omega) hr k 0 k (Nat.zero_le _) (Nat.le_refl _) (by omega) (fun i hi => by omega) (fun i h1 h2 => by omega)) fun l ⟨x1, x2, x3⟩ => ?_)
    refine bin_ok S f (k + 1) (Array.Perm.trans (bubble_perm _ _ _) hp) (by omega) fun i j hij hj => ?_
    rw [bub_gt (by omega) (by omega) (by omega), bub_gt (by omega) (by omega) (by omega)]
    have e : k - (k - l) = l := by omega
    rw [e]
    by_cases hi : i = l
    · rw [if_pos hi, if_neg (by omega), if_pos (by omega)]
      exact x3 _ (by omega) (by omega)
    · rw [if_neg hi]
      by_cases hi2 : l < i ∧ i ≤ k
      · rw [if_pos hi2, if_neg (by omega), if_pos (by omega)]
        exact hr _ _ (by omega) (by omega)
      · rw [if_neg hi2]
        by_cases hj1 : j = l
        · rw [if_pos hj1]
          exact x2 _ (by omega)
        · rw [if_neg hj1]
          by_cases hj2 : l < j ∧ j ≤ k
          · rw [if_pos hj2]
            by_cases hij2 : i < j - 1
            · exact hr _ _ hij2 (by omega)
            · omega
          · rw [if_neg hj2]
            exact hr _ _ hij (by omega)
theorem sort_ok (S : SO lt n) (hn : 1 ≤ n) : kOk lt n (kas_sort n) fun p => PP n p ∧ Rise lt p n := by
  refine kOk_bind (kOk_mono (count_ok S (p := List.toArray (List.range n)) (Array.Perm.refl _) hn) fun r ⟨x1, x2, x3, x4⟩ => ?_)
  by_cases h : r.1 < n
  · rw [if_pos h, Nat.max_eq_left x3]
    exact bin_ok S _ _ x1 (by omega) x2
  · rw [if_neg h]
    obtain e : r.1 = n := by omega
    exact ⟨x1, by rw [← e]; rw [e] at x2 ⊢; exact x2⟩
end
end L2

namespace L2
open PySem PySem.W PyProof.Rows
theorem kOk_at {α : Type} {lt : Nat → Nat → Bool} {n : Nat} {s : Shared} {cmp : Nat → Nat → (Bool → Shared → Prop) → Shared → Prop} (hc : ∀ i j C, i < n → j < n → i ≠ j → C (lt i j) s → cmp i j C s) : ∀ {t : KasT α} {R : α → Prop} {Q : α → Shared → Prop}, kOk lt n t R → (∀ a, R a → Q a s) → t.kasWp cmp Q s
  | .ret _, _, _, h, m => m _ h
  | .ask _ _ _, _, _, h, m => hc _ _ _ h.1 h.2.1 h.2.2.1 (kOk_at hc h.2.2.2 m)
def Kp (a : Addr) (h h' : Heap) : Prop := ∀ b o, b ≠ a → h.get? b = some o → h'.get? b = some o
def outOf (vs : List Value) (p : Array Nat) : List Value := p.toList.map fun i => vs.getD i Value.none
theorem outOf_range (vs : List Value) : outOf vs (List.toArray (List.range vs.length)) = vs := by
  unfold outOf
  apply List.ext_getElem?
  intro i
  simp only [List.getElem?_map]
  by_cases h : i < vs.length
  · rw [List.getElem?_eq_getElem (l := vs) h]
    simp [List.getElem?_range h, h]
  · rw [List.getElem?_eq_none (by omega : vs.length ≤ i)]
    simp
    omega
section
variable {P : Program} {w : World} {A : Around} {E : Value → Shared → Prop} {s : Shared}
theorem lsort_pure {a : Addr} {vs : List Value} {n : Nat} {κ : SortKind} {lt : Nat → Nat → Bool} {R : PySem.Fin → Shared → Prop} (ho : s.heap.get? a = some (seqObj "list" vs.toArray n)) (h64 : vs.length < 64)
    (hk : 2 ≤ vs.length → ∀ (h : Heap) (Q : SortKind → Shared → Prop), Kp a s.heap h → Q κ { s with heap := h } → wpAny (model P w) A (keyKind' vs.toArray) Q (fun _ _ => False) { s with heap := h })
    (hc : ∀ (h : Heap) i j C, Kp a s.heap h → i < vs.length → j < vs.length → i ≠ j → C (lt i j) { s with heap := h } → kas_ask P w A κ vs i j C { s with heap := h }) (S : SO lt vs.length)
    (fin : ∀ h p c, Kp a s.heap h → h.get? a = some (seqObj "list" (outOf vs p).toArray c) → PP vs.length p → Rise lt p vs.length → R (.done (.ret .none)) { s with heap := h }) :
    wpAny (model P w) A (Builtin.«list.sort» ⟨[.ref a], []⟩) R E s := by
  have ha : a < s.heap.objs.size := Heap.lt_size ho
  obtain ⟨e1, o1⟩ : ∃ e1, (s.heap.update a (Obj.mapSeq fun _ => (#[] : Array Value))).get? a = some (seqObj "list" #[] e1) := ⟨_, get?_update_seq ho fun _ => #[]⟩
  have k1 : Kp a s.heap (((s.heap.update a (Obj.mapSeq fun _ => (#[] : Array Value))).push (seqObj "tuple" vs.toArray 0)).push (seqObj "list" #[] 0)) := fun b o hb e =>
    Heap.get?_push_of_some _ (Heap.get?_push_of_some _ ((Heap.get?_update_other _ _ (Ne.symm hb)).trans e))
  have o3 : (((s.heap.update a (Obj.mapSeq fun _ => (#[] : Array Value))).push (seqObj "tuple" vs.toArray 0)).push (seqObj "list" #[] 0)).get? a = some (seqObj "list" #[] e1) := Heap.get?_push_of_some _ (Heap.get?_push_of_some _ o1)
  have last : ∀ out : List Value, out.length = vs.length → ∃ c, ((((s.heap.update a (Obj.mapSeq fun _ => (#[] : Array Value))).push (seqObj "tuple" vs.toArray 0)).push (seqObj "list" #[] 0)).update a (Obj.mapSeq fun _ => out.toArray)).get? a = some (seqObj "list" out.toArray c) := fun out _ => ⟨_, get?_update_seq o3 fun _ => out.toArray⟩
  have keep2 : ∀ out : List Value, Kp a s.heap ((((s.heap.update a (Obj.mapSeq fun _ => (#[] : Array Value))).push (seqObj "tuple" vs.toArray 0)).push (seqObj "list" #[] 0)).update a (Obj.mapSeq fun _ => out.toArray)) := fun out b o hb e =>
    (Heap.get?_update_other _ _ (Ne.symm hb)).trans (k1 b o hb e)
  rw [list_sort_plain]; refine wpAny_bind (listItems_at ho rfl ?_)
  refine wpAny_bind (listUpdate_at ho rfl ?_ (by rw [List.size_toArray, sizeLine_eq]; omega) (Nat.zero_le _)); refine wpAny_bind (seqEpoch_at o1 rfl ?_)
  refine wpAny_bind (wpAny_newTuple ?_ (by show vs.length ≤ _; rw [sizeLine_eq]; omega)); refine wpAny_bind (wpAny_newList ?_ (Nat.zero_le _)); refine wpAny_holding ?_
  show wpAny (model P w) A _ R E { s with heap := ((s.heap.update a (Obj.mapSeq fun _ => (#[] : Array Value))).push (seqObj "tuple" vs.toArray 0)).push (seqObj "list" #[] 0) }
  generalize hH : ((s.heap.update a (Obj.mapSeq fun _ => (#[] : Array Value))).push (seqObj "tuple" vs.toArray 0)).push (seqObj "list" #[] 0) = g at *
  dsimp only
  have up : ∀ out : List Value, out.length = vs.length → ∀ p, out = outOf vs p → PP vs.length p → Rise lt p vs.length → R (.done (.ret .none)) { s with heap := g.update a (Obj.mapSeq fun _ => out.toArray) } := fun out hl p e hp hr => by
    obtain ⟨c, hcc⟩ := last out hl
    refine fin _ p c (keep2 out) ?_ hp hr
    rw [← e]; exact hcc
  by_cases h2 : vs.toArray.size < 2
  · have hl2 : vs.length < 2 := by simpa using h2
    rw [if_pos h2, if_pos h2]; refine wpAny_bind (wpAny_pure ?_); rw [StateT.run_pure]; refine wpAny_bind (wpAny_pure ?_)
    dsimp only
    have ez : ((vs.toArray.zip vs.toArray).map (·.2)) = vs.toArray := by
      apply Array.toList_inj.mp
      rw [Array.toList_map, Array.toList_zip]
      simp [List.map_snd_zip]
    refine wpAny_bind (seqEpoch_at o3 rfl ?_)
    rw [show (arrOf (SortSt.mk' general' (vs.toArray.zip vs.toArray) #[] 7 none)) = vs.toArray.zip vs.toArray from rfl, ez]
    refine wpAny_bind (listUpdate_at o3 rfl ?_ (Nat.zero_le _) (by rw [List.size_toArray, sizeLine_eq]; omega))
    simp only [bne_self_eq_false, Bool.false_eq_true, if_false]
    exact wpAny_pure (up vs rfl _ (outOf_range vs).symm (Array.Perm.refl _) fun i j hij hj => by omega)
  · have hl2 : 2 ≤ vs.length := by simpa using h2
    rw [if_neg h2, if_neg h2]; refine wpAny_bind (wpAny_mono (hk hl2 g (fun κ' s' => κ' = κ ∧ s' = { s with heap := g }) k1 ⟨rfl, rfl⟩) (fun κ' s' hs => ?_) fun _ _ x => x.elim)
    obtain ⟨rfl, rfl⟩ := hs
    have run := kOk_at (s := { s with heap := g }) (cmp := kas_ask P w A κ' vs) (fun i j C hi hj hij hC => hc g i j C k1 hi hj hij hC) (sort_ok S (by omega)) (Q := fun p s' => s' = { s with heap := g } ∧ PP vs.length p ∧ Rise lt p vs.length) fun p hp => ⟨rfl, hp⟩
    refine wpAny_bind (wpAny_mono (kat_run (ks := vs) (Q := fun st s' => ∃ p : Array Nat, arrOf st = p.map (kas_item (vs.toArray.zip vs.toArray)) ∧ failedOf st = none ∧ s' = { s with heap := g } ∧ PP vs.length p ∧ Rise lt p vs.length) rfl hl2 h64 (fun p st s' _ a2 a3 a4 => ⟨p, a2, a3, a4⟩) run) ?_ fun _ _ e => e)
    rintro ⟨⟨⟩, st⟩ s' ⟨p, har, hf, rfl, hp, hr⟩
    dsimp only
    have out := kat_snds (ks := vs) rfl har
    have ol : (outOf vs p).length = vs.length := by unfold outOf; rw [List.length_map, Array.length_toList, hp.size]
    rw [out]; refine wpAny_bind (seqEpoch_at o3 rfl ?_)
    refine wpAny_bind (listUpdate_at o3 rfl ?_ (Nat.zero_le _) (by show (List.toArray (outOf vs p)).size ≤ _; rw [List.size_toArray, ol, sizeLine_eq]; omega)); rw [hf]
    simp only [bne_self_eq_false, Bool.false_eq_true, if_false]
    exact wpAny_pure (up (outOf vs p) ol p rfl hp hr)
/-- sorted(x), where x is collected as vs -/
theorem sorted_pure {l : Addr} {vs : List Value} {κ : SortKind} {lt : Nat → Nat → Bool} {Q : Value → Shared → Prop} (h64 : vs.length < 64) (S : SO lt vs.length)
    (coll : ∀ R : List Value → Shared → Prop, (∀ (h : Heap) (tk : Nat), (∀ b o, s.heap.get? b = some o → h.get? b = some o) → R vs { s with heap := h, toks := tk }) → wpAny (model P w) A.in1 (collect (.ref l)) R E s)
    (hk : 2 ≤ vs.length → ∀ (h : Heap) (tk : Nat) (Q : SortKind → Shared → Prop), (∀ b o, s.heap.get? b = some o → h.get? b = some o) → Q κ { s with heap := h, toks := tk } → wpAny (model P w) A.in1.in1 (keyKind' vs.toArray) Q (fun _ _ => False) { s with heap := h, toks := tk })
    (hc : ∀ (h : Heap) (tk : Nat) i j C, (∀ b o, s.heap.get? b = some o → h.get? b = some o) → i < vs.length → j < vs.length → i ≠ j → C (lt i j) { s with heap := h, toks := tk } → kas_ask P w A.in1.in1 κ vs i j C { s with heap := h, toks := tk })
    (fin : ∀ (h : Heap) (tk : Nat) (h' : Heap) (p : Array Nat) (c : Nat), (∀ b o, s.heap.get? b = some o → h.get? b = some o) → (∀ b o, h.get? b = some o → h'.get? b = some o) → h'.get? h.objs.size = some (seqObj "list" (outOf vs p).toArray c) → PP vs.length p → Rise lt p vs.length → Q (.ref h.objs.size) { s with heap := h', toks := tk }) :
    wpAny (model P w) A (call (.builtin "sorted") [.ref l]) Q E s := by
  refine Calls.call_function_entry kind_sorted plain_sorted entry_sorted (args_sorted1 _) ?_; unfold Builtin.«sorted»
  refine wpAny_bind (m := checkCount "sorted" 1 1 _) (wpAny_pure ?_); refine wpAny_bind (coll _ fun h tk hk1 => ?_)
  refine wpAny_bind (wpAny_newList ?_ (by rw [sizeLine_eq]; omega))
  have hoL : (h.push (seqObj "list" vs.toArray 0)).get? h.objs.size = some (seqObj "list" vs.toArray 0) := Heap.get?_push_size _ rfl
  have kept : ∀ h', Kp h.objs.size (h.push (seqObj "list" vs.toArray 0)) h' → ∀ b o, h.get? b = some o → h'.get? b = some o := fun h' k b o e => k b o (Nat.ne_of_lt (Heap.lt_size e)) (Heap.get?_push_of_some _ e)
  refine wpAny_bind (wpAny_holding (wpAny_call_entry slot_list_sort ⟨_, hoL, rfl⟩ entry_list_sort (lsort_pure (s := { s with heap := h.push (seqObj "list" vs.toArray 0), toks := tk }) hoL h64 (κ := κ) (lt := lt) (fun h2 h' Q' k q => ?_) (fun h' i j C k hi hj hij q => ?_) S fun h' p c k ho hp hr => ?_) (args_list_sort _)))
  · exact hk h2 h' tk Q' (fun b o e => kept h' k b o (hk1 b o e)) q
  · exact hc h' tk i j C (fun b o e => kept h' k b o (hk1 b o e)) hi hj hij q
  · exact ⟨_, rfl, wpAny_pure ⟨_, rfl, fin h tk h' p c hk1 (kept h' k) ho hp hr⟩⟩
end
end L2

namespace L2
open PySem PySem.W PyProof.Rows
def placeLt (a b : Str × Int) : Bool := if a.1 = b.1 then decide (a.2 < b.2) else decide (a.1.cps.toList < b.1.cps.toList)
/-- a place lies at an address -/
def PlAt (h : Heap) (v : Value) (q : Str × Int) : Prop := ∃ a o t u n, v = .ref a ∧ h.get? a = some o ∧ o.cls = .type "tuple" ∧ o.data = .seq #[.str q.1 t, .int q.2 u] n
section
variable {P : Program} {w : World} {A : Around} {E : Value → Shared → Prop} {s : Shared}
theorem lt1_str {a c : Str} {t u : Tok} {Q : Bool → Shared → Prop} (h : Q (decide (a.cps.toList < c.cps.toList)) s) : wpAny (model P w) A (oneLt' true (.str a t) (.str c u)) Q E s := by
  rw [← keyLt'_oneType]
  exact kas_lt_str h
theorem lt0_int {a c : Int} {t u : Tok} {Q : Bool → Shared → Prop} (h : Q (decide (a < c)) s) : wpAny (model P w) A (oneLt' false (.int a t) (.int c u)) Q E s :=
  kat_one _ _ (PyProof.Rows.lt_int (show PySem.W.BoolBack Q (.bool (decide (a < c))) s from h))
/-- the sort's question of two places -/
theorem ask_place {x y : Value} {a b : Str × Int} {Q : Bool → Shared → Prop} (hx : PlAt s.heap x a) (hy : PlAt s.heap y b) (h : Q (placeLt a b) s) (hn : a ≠ b) : wpAny (model P w) A (keyLt' (tuples' true) x y) Q E s := by
  obtain ⟨p, o, t, u, n, rfl, ho, hc, hd⟩ := hx
  obtain ⟨p2, o2, t2, u2, n2, rfl, ho2, hc2, hd2⟩ := hy
  refine kat_lt ho hd ho2 hd2 (kat_cons (wpAny_eqBool_str (kat_go (fun e => kat_yes (kat_cons (wpAny_eqBool_int (kat_go (fun e2 => ?_) fun e2 => kat_no ?_)))) fun e => kat_no ?_)))
  · exact absurd (Prod.ext (of_decide_eq_true e) (by simpa using e2)) hn
  · have e := of_decide_eq_true e
    unfold placeLt at h
    rw [if_pos e] at h
    exact lt0_int h
  · have e := of_decide_eq_false e
    unfold placeLt at h
    rw [if_neg e] at h
    exact lt1_str h
theorem kind_place {vs : List Value} {qs : List (Str × Int)} {Q : SortKind → Shared → Prop} (hl : vs.length = qs.length) (hv : ∀ (i : Nat) (v : Value) (q : Str × Int), vs[i]? = some v → qs[i]? = some q → PlAt s.heap v q) (h2 : 0 < vs.length) (h : Q (tuples' true) s) :
    wpAny (model P w) A (keyKind' vs.toArray) Q E s := by
  have T : ∀ (vs : List Value) (qs : List (Str × Int)), vs.length = qs.length → (∀ (i : Nat) (v : Value) (q : Str × Int), vs[i]? = some v → qs[i]? = some q → PlAt s.heap v q) → ∃ fs, KatTups s.heap vs fs ∧ fs.length = vs.length ∧ ∀ v ∈ fs, ∃ x t, v = Value.str x t := by
    intro vs
    induction vs with
    | nil => exact fun qs _ _ => ⟨[], trivial, rfl, fun _ z => nomatch z⟩
    | cons v r ih =>
      intro qs hl hv
      match qs, hl with
      | q :: qr, hl =>
        obtain ⟨fs, k, kl, kf⟩ := ih qr (by simpa using hl) fun i v' q' e1 e2 => hv (i + 1) v' q' (by simpa using e1) (by simpa using e2)
        obtain ⟨a, o, t, u, n, rfl, ho, hc, hd⟩ := hv 0 v q rfl rfl
        refine ⟨.str q.1 t :: fs, KatTups.cons ho hc hd rfl k, by simp [kl], fun z hz => ?_⟩
        rcases List.mem_cons.mp hz with rfl | hz
        · exact ⟨_, _, rfl⟩
        · exact kf z hz
  obtain ⟨fs, k, kl, kf⟩ := T vs qs hl hv
  refine kat_kind (T := .type "str") k (by omega) (fun v hv => ?_) (by decide) h
  obtain ⟨x, t, rfl⟩ := kf v hv
  exact Looks.of_pure rfl
end
theorem str_cps_inj {x y : Str} (h : x.cps.toList = y.cps.toList) : x = y := by
  obtain ⟨a⟩ := x
  obtain ⟨b⟩ := y
  have : a = b := Array.toList_inj.mp h
  rw [this]
theorem placeLt_so {qs : List (Str × Int)} (hn : qs.Nodup) : SO (fun i j => placeLt (qs.getD i ("", 0)) (qs.getD j ("", 0))) qs.length where
  irr := fun i _ => by
    unfold placeLt
    rw [if_pos rfl]
    exact decide_eq_false (by omega)
  trans := fun i j k _ _ _ h1 h2 => by
    generalize qs.getD i ("", 0) = a at *
    generalize qs.getD j ("", 0) = b at *
    generalize qs.getD k ("", 0) = c at *
    unfold placeLt at *
    by_cases e1 : a.1 = b.1
    · rw [if_pos e1] at h1
      by_cases e2 : b.1 = c.1
      · rw [if_pos e2] at h2
        rw [if_pos (e1.trans e2)]
        have h1 := of_decide_eq_true h1
        have h2 := of_decide_eq_true h2
        exact decide_eq_true (by omega)
      · rw [if_neg e2] at h2
        rw [if_neg (by rw [e1]; exact e2), e1]
        exact h2
    · rw [if_neg e1] at h1
      have h1 := of_decide_eq_true h1
      by_cases e2 : b.1 = c.1
      · rw [if_neg (by rw [← e2]; exact e1), ← e2]
        exact decide_eq_true h1
      · rw [if_neg e2] at h2
        have h2 := of_decide_eq_true h2
        have h3 := List.lt_trans h1 h2
        rw [if_neg (fun z => by rw [z] at h3; exact List.lt_irrefl _ h3)]
        exact decide_eq_true h3
  tot := fun i j hi hj hij h => by
    have ne : qs.getD i ("", 0) ≠ qs.getD j ("", 0) := fun z => hij (by
      rw [List.getD_eq_getElem?_getD, List.getD_eq_getElem?_getD, List.getElem?_eq_getElem hi, List.getElem?_eq_getElem hj] at z
      exact (List.getElem_inj hn).mp z)
    generalize qs.getD i ("", 0) = a at *
    generalize qs.getD j ("", 0) = b at *
    unfold placeLt at *
    by_cases e : a.1 = b.1
    · rw [if_pos e] at h
      rw [if_pos e.symm]
      have h := of_decide_eq_false h
      have : a.2 ≠ b.2 := fun z => ne (Prod.ext e z)
      exact decide_eq_true (by omega)
    · rw [if_neg e] at h
      rw [if_neg (fun z => e z.symm)]
      have h := of_decide_eq_false h
      refine decide_eq_true ?_
      rcases List.le_iff_lt_or_eq.mp (List.not_lt.mp h) with z | z
      · exact z
      · exact absurd (str_cps_inj z.symm) e
end L2

namespace L2
open PySem
/-! ### walking a dict's keys, whatever they are -/
def RawD (h : Heap) (d : Addr) (es : Array DictEntry) (ep : Nat) : Prop := ∃ o, h.get? d = some o ∧ o.ExactDict ∧ o.data = .dict es ep
section
variable {P : Program} {w : World} {A : Around} {E : Value → Shared → Prop} {s : Shared}
theorem RawD.type {d : Addr} {es : Array DictEntry} {ep : Nat} (x : RawD s.heap d es ep) : s.TypeIs (.ref d) "dict" := let ⟨o, ho, hc, _⟩ := x; ⟨o, ho, hc.1⟩
theorem RawD.at {h h' : Heap} {d : Addr} {es : Array DictEntry} {ep : Nat} (x : RawD h d es ep) (e : ∀ o, h.get? d = some o → h'.get? d = some o) : RawD h' d es ep := let ⟨o, ho, r⟩ := x; ⟨o, e _ ho, r⟩
theorem raw_iter {d : Addr} {es : Array DictEntry} {ep : Nat} {Q : Value → Shared → Prop} (lo : (d == sysModules) = false) (hm : RawD s.heap d es ep)
    (q : Q (.ref s.heap.objs.size) { s with heap := s.heap.push { cls := .type "dict_keyiterator", data := .fields #[.ref d, .int 0 0, .int es.size 0, .int ep 0] } }) : wpAny (model P w) A (pyIter (.ref d)) Q E s := by
  have T := hm.type
  obtain ⟨o, ho, hc, hd⟩ := id hm
  refine wpAny_pyIter_slot T F.slot_dict_iter (wpAny_call_entry F.slot_dict_iter T F.entry_dict_iter ?_ (F.args_dict_iter_1 _)); unfold Builtin.«dict.__iter__»
  refine wpAny_bind ?_; unfold Builtin.Dict.dictSlotNone; refine wpAny_bind (wpAny_notOrdered_dict T ?_)
  show wpAny _ _ (pure (Value.ref d)) _ _ s; refine wpAny_pure ?_
  show wpAny _ _ (Builtin.Dict.showsAll d >>= _) _ _ s; unfold Builtin.Dict.showsAll
  rw [if_neg (by rw [lo]; exact Bool.false_ne_true)]; refine wpAny_bind (wpAny_pure ?_)
  refine wpAny_bind (wpAny_dictEntries ho hd ?_); refine wpAny_bind (wpAny_dictEpoch ho hd ?_)
  refine wpAny_bind (wpAny_newObj_type (wpAny_pure ⟨_, rfl, "dict_keyiterator", _, ⟨_, Heap.get?_push_size _ rfl, rfl⟩, F.slot_dict_keyiterator_next.lookup, ?_⟩)); simpa [rawInt] using q
theorem raw_item {it d : Addr} {i ep : Nat} {es : Array DictEntry} {e : DictEntry} {Q : Option Value → Shared → Prop} (hit : s.heap.IsKeyIter it d i es.size ep) (hm : RawD s.heap d es ep) (hx : es[i]? = some e)
    (q : ∀ h, h.IsKeyIter it d (i + 1) es.size ep → Heap.SameBut it s.heap h → Q (some e.key) { s with heap := h }) : wpAny (model P w) A (pyNext (.ref it)) Q E s := by
  obtain ⟨o, ho, hc, hd⟩ := id hit
  obtain ⟨od, hod, hcd, hdd⟩ := id hm
  have lt : i < es.size := by
    rcases Nat.lt_or_ge i es.size with h | h
    · exact h
    · rw [Array.getElem?_eq_none h] at hx; cases hx
  unfold pyNext
  refine wpAny_bind (wpAny_attempt (wpAny_callSpecial?_slot (name := Str.ofString "__next__") hit.typeIs F.slot_dict_keyiterator_next (wpAny_call_entry F.slot_dict_keyiterator_next hit.typeIs F.entry_dict_keyiterator_next ?_ (F.args_dict_keyiterator_next_1 _))))
  refine wpAny_bind (wpAny_pure ?_); refine wpAny_bind ?_; refine wpAny_bind ?_
  first | (refine wpAny_bind (wpAny_typeNameOfWhole_keyiter hit.typeIs (wpAny_pure ?_))) | (refine wpAny_bind (wpAny_typeNameOf_keyiter hit.typeIs (wpAny_pure ?_)))
  refine wpAny_bind (wpAny_fieldsOf ho hd ?_); have own : Builtin.Dict_items.ownsTuple "dict_keyiterator" = false := by decide
  simp only [own, Bool.false_eq_true, if_false]; show wpAny _ _ (if (Value.ref d == Value.none) = true then _ else _) _ _ s
  rw [if_neg (show ¬ ((Value.ref d == Value.none) = true) from Bool.false_ne_true)]; refine wpAny_bind (wpAny_pure ?_); refine wpAny_bind (wpAny_dictEntries hod hdd ?_)
  rw [if_neg (by simp)]; refine wpAny_bind (wpAny_pure ?_); refine wpAny_bind (wpAny_dictEpoch hod hdd ?_); rw [if_neg (by simp)]; refine wpAny_pure ?_
  simp only [show ¬ ((i : Int) < 0) from by omega, if_false, Int.toNat_natCast, hx]
  refine wpAny_bind ?_
  first | (refine wpAny_bind (wpAny_typeNameOfWhole_keyiter hit.typeIs (wpAny_pure ?_))) | (refine wpAny_bind (wpAny_typeNameOf_keyiter hit.typeIs (wpAny_pure ?_)))
  refine wpAny_bind (wpAny_isOneOf_keyiter hit.typeIs ?_); show wpAny _ _ (setField (.ref it) 1 (rawInt ((i : Int) + 1)) >>= _) _ _ s
  refine wpAny_bind (wpAny_setField ho hd (by simp) ?_)
  have next : (s.heap.update it (Obj.mapFields (·.setIfInBounds 1 (rawInt ((i : Int) + 1))))).IsKeyIter it d (i + 1) es.size ep := by
    refine ⟨_, Heap.get?_update_self _ ho (Obj.isFreed_of_fields (Obj.data_mapFields hd _)), (Obj.cls_mapFields ..).trans hc, ?_⟩; rw [Obj.data_mapFields hd]; simp [rawInt]
  refine wpAny_bind (wpAny_holding ?_)
  refine wpAny_bind (wpAny_isOneOf_keyiter (s := { s with heap := s.heap.update it (Obj.mapFields (·.setIfInBounds 1 (rawInt ((i : Int) + 1)))) }) next.typeIs ?_); show wpAny _ _ (pure e.key) _ _ _
  exact wpAny_pure (wpAny_pure ⟨_, rfl, wpAny_pure (q _ next (Heap.SameBut.update ..))⟩)
theorem raw_end {it d : Addr} {i ep : Nat} {es : Array DictEntry} {Q : Option Value → Shared → Prop} (hh : A.handled = none) (hit : s.heap.IsKeyIter it d i es.size ep) (hm : RawD s.heap d es ep) (hx : es.size ≤ i)
    (q : ∀ h, Heap.ExtBut it s.heap h → Q none { s with heap := h }) : wpAny (model P w) A (pyNext (.ref it)) Q E s := by
  obtain ⟨o, ho, hc, hd⟩ := id hit
  obtain ⟨od, hod, hcd, hdd⟩ := id hm
  unfold pyNext
  refine wpAny_bind (wpAny_attempt (wpAny_callSpecial?_slot (name := Str.ofString "__next__") hit.typeIs F.slot_dict_keyiterator_next (wpAny_call_entry F.slot_dict_keyiterator_next hit.typeIs F.entry_dict_keyiterator_next ?_ (F.args_dict_keyiterator_next_1 _))))
  refine wpAny_bind (wpAny_pure ?_); refine wpAny_bind ?_; refine wpAny_bind ?_
  first | (refine wpAny_bind (wpAny_typeNameOfWhole_keyiter hit.typeIs (wpAny_pure ?_))) | (refine wpAny_bind (wpAny_typeNameOf_keyiter hit.typeIs (wpAny_pure ?_)))
  refine wpAny_bind (wpAny_fieldsOf ho hd ?_); have own : Builtin.Dict_items.ownsTuple "dict_keyiterator" = false := by decide
  simp only [own, Bool.false_eq_true, if_false]; show wpAny _ _ (if (Value.ref d == Value.none) = true then _ else _) _ _ s
  rw [if_neg (show ¬ ((Value.ref d == Value.none) = true) from Bool.false_ne_true)]; refine wpAny_bind (wpAny_pure ?_); refine wpAny_bind (wpAny_dictEntries hod hdd ?_)
  rw [if_neg (by simp)]; refine wpAny_bind (wpAny_pure ?_); refine wpAny_bind (wpAny_dictEpoch hod hdd ?_); rw [if_neg (by simp)]; refine wpAny_pure ?_
  simp only [show ¬ ((i : Int) < 0) from by omega, if_false, Int.toNat_natCast, Array.getElem?_eq_none hx]
  refine wpAny_bind ?_
  first | (refine wpAny_bind (wpAny_typeNameOfWhole_keyiter hit.typeIs (wpAny_pure ?_))) | (refine wpAny_bind (wpAny_typeNameOf_keyiter hit.typeIs (wpAny_pure ?_)))
  show wpAny _ _ (setField (.ref it) 0 .none >>= _) _ _ s; refine wpAny_bind (wpAny_setField ho hd (by simp) ?_)
  show wpAny _ _ (newExc (.type "StopIteration") [] >>= _) _ _ _; refine wpAny_bind ?_; simp only [newExc, newTuple]
  refine wpAny_bind (wpAny_newObj_type ?_ (by size_fits)); refine wpAny_bind (m := firstArgMember _ _) (wpAny_of_eq (a := Value.none) (by first | rfl | (simp only [firstArgMember]; rfl)) ?_)
  refine wpAny_newObj_type ?_ (by size_fits); simp only [raiseNew]
  refine wpAny_bind (wpAny_handled ?_); rw [show A.in1.handled = none from hh]; refine wpAny_bind (wpAny_pure (wpAny_throw ?_))
  exact wpAny_bind (wpAny_isInstance (T := "StopIteration") (b := true) ⟨_, Heap.get?_push_size _ rfl, rfl⟩ isSubtype_stop (wpAny_pure (q _ (((Heap.SameBut.update ..).extBut.push _).push _))))
theorem raw_walks (hh : A.handled = none) (I d : Addr) (hne : d ≠ I) (es : Array DictEntry) (ep : Nat) :
    Walks P w A I [I, d] [I] es.size (fun i v => ∃ e, es[i]? = some e ∧ v = e.key) (fun i h => h.IsKeyIter I d i es.size ep ∧ RawD h d es ep) where
  sub := fun b hb => by simp at hb; simp [hb]
  frame := fun _ _ _ st hk => ⟨st.1.at fun o e => hk I (by simp) o e, st.2.at fun o e => hk d (by simp) o e⟩
  item := fun i s Q E hi st hQ => by
    refine raw_item st.1 st.2 (Array.getElem?_eq_getElem hi) fun h' hit' hs' => ?_
    exact hQ _ h' s.toks ⟨_, Array.getElem?_eq_getElem hi, rfl⟩ ⟨hit', st.2.at fun o e => hs'.extBut d o hne e⟩ fun b o hb e => hs'.extBut b o (fun h => hb (by simp [h])) e
  done := fun s Q E st hQ => raw_end hh st.1 st.2 (Nat.le_refl _) fun h' he' => hQ h' s.toks fun b o hb e => he' b o (fun h => hb (by simp [h])) e
  self := fun _ _ _ _ st hQ => wpAny_pyIter_keyiter st.1 hQ
end
end L2

namespace L2
open PySem PySem.Spec PyProof.Rows
section
open PySem.SeqAt
open PySem.AutoSeq1 (wpAny_loadPart')
open PySem.MeetsSeq PySem.MeetsSeq2 PySem.MeetsSeq3
theorem tuple_lt_place (l b : Addr) (x y : Str) (i j : Int) (t u t2 u2 : Tok) (n n2 : Nat) (dd dd2 : Option Addr) (sl sl2 : Array (Option Value)) :
    Meets (Builtin.«tuple.__lt__» ⟨[.ref l, .ref b], []⟩) (fun _ R s => s.heap.get? l = some { cls := .type "tuple", dict := dd, data := .seq #[.str x t, .int i u] n, slots := sl } ∧
      s.heap.get? b = some { cls := .type "tuple", dict := dd2, data := .seq #[.str y t2, .int j u2] n2, slots := sl2 } ∧ R (.ok (.ret (.bool (placeLt (x, i) (y, j))))) s) :=
  .of_wp fun prog w A R s h => by
    obtain ⟨hp, g, d, tk, os⟩ := s; obtain ⟨hl, hb, h⟩ := h
    have f2 := AutoSeq1.sub_tuple_tuple
    have lt1 : ∀ (E : Value → Shared → Prop) (Q : Value → Shared → Prop) (s : Shared), Q (.bool (decide (x.cps.toList < y.cps.toList))) s → wpAny (model prog w) A.in1 (richCompare .Lt (.str x t) (.str y t2)) Q E s := fun E Q s q => (PyProof.Rows.lt_str q : wpAny (model prog w) A.in1 (compareOp .Lt (.str x t) (.str y t2)) Q E s)
    have lt2 := HT.rcLt_int A.in1 ⟨hp, g, d, tk, os⟩ i u j u2 prog w
    by_cases e : x = y
    · subst e
      have eq1 := SeqAt.EqAt.str_str (A := A.in1) (s := ⟨hp, g, d, tk, os⟩) x t x t2 prog w
      rw [beq_self_eq_true] at eq1
      unfold placeLt at h
      rw [if_pos rfl] at h
      by_cases e2 : i = j
      · subst e2
        have eq2 := SeqAt.EqAt.int_int (A := A.in1) (s := ⟨hp, g, d, tk, os⟩) i u i u2 prog w
        rw [beq_self_eq_true] at eq2
        wp_walk using wpAny_loadPart' hl, wpAny_loadPart' hb, eq1, eq2
        exact ⟨_, rfl, by simpa [Builtin.Tuple.tupleCompareSizes] using h⟩
      · have eq2 := SeqAt.EqAt.int_int (A := A.in1) (s := ⟨hp, g, d, tk, os⟩) i u j u2 prog w
        rw [show (i == j) = false from by simpa using e2] at eq2
        wp_walk using wpAny_loadPart' hl, wpAny_loadPart' hb, eq1, eq2, lt2
        exact ⟨_, rfl, by simpa using h⟩
    · have eq1 := SeqAt.EqAt.str_str (A := A.in1) (s := ⟨hp, g, d, tk, os⟩) x t y t2 prog w
      rw [show (x == y) = false from by simpa using e] at eq1
      unfold placeLt at h
      rw [if_neg e] at h
      wp_walk using wpAny_loadPart' hl, wpAny_loadPart' hb, eq1, lt1
      exact ⟨_, rfl, by simpa using h⟩
end
end L2

namespace L2
open PySem PySem.Spec PyProof.Rows
section
variable {P : Program} {w : World} {A : Around} {E : Value → Shared → Prop} {s : Shared}
theorem RawD.lt {h : Heap} {d : Addr} {es : Array DictEntry} {ep : Nat} (x : RawD h d es ep) : d < h.objs.size := let ⟨_, ho, _⟩ := x; Heap.lt_size ho
theorem raw_src {d : Addr} {es : Array DictEntry} {ep : Nat} (lo : (d == sysModules) = false) : PySem.W.KdlSrc P w "dict" d d es.size (fun i v => ∃ e, es[i]? = some e ∧ v = e.key) (fun h => RawD h d es ep) where
  type := fun _ hm => hm.type
  there := fun _ hm => ⟨hm.lt, hm.lt⟩
  keep := fun _ _ hm hk => hm.at fun o e => hk d (.inl rfl) o e
  notList := by decide
  notTuple := by decide
  hint := fun _ _ _ _ hm hq => PySem.W.kdl_hint_dict hm.type hq
  iter := fun _ _ hh hm => ⟨_, _, (fun _ _ hq => raw_iter lo hm hq), raw_walks hh _ d (Nat.ne_of_lt hm.lt) es ep, ⟨⟨_, Heap.get?_push_size _ rfl, rfl, rfl⟩, hm.at fun o e => Heap.get?_push_of_some _ e⟩⟩
theorem collect_src {T : String} {r d : Addr} {n : Nat} {G : Nat → Value → Prop} {OK : Heap → Prop} {R : List Value → Shared → Prop} (K : PySem.W.KdlSrc P w T r d n G OK) (hh : A.handled = none) (hok : OK s.heap) (hn : n ≤ sizeLine)
    (h : ∀ (h' : Heap) (tk : Nat) (vs : List Value), (∀ b o, s.heap.get? b = some o → h'.get? b = some o) → vs.length = n → (∀ j v, vs[j]? = some v → G j v) → R vs { s with heap := h', toks := tk }) :
    wpAny (model P w) A (collect (.ref r)) R E s := by
  obtain ⟨lr, ld⟩ := K.there _ hok
  unfold collect
  refine wpAny_bind (wpAny_runValue (codeAny_builtin entry_proto_collect' ?_)); rw [Around.under_plainId PySem.F.plain_proto_collect _]
  show wpAny _ A.in1 (newList [] >>= fun l => again (.builtin "list.__iadd__" ⟨[l, .ref r], []⟩)) _ _ s; refine wpAny_bind (wpAny_newObj_type ?_)
  refine wpAny_pure ⟨plainId_quiet PySem.F.plain_list_iadd _, codeAny_builtin entry_list_iadd' ?_⟩; rw [Around.under_plainId PySem.F.plain_list_iadd _]
  have hS : (s.heap.push { cls := .type "list", data := .seq ([] : List Value).toArray }).get? s.heap.objs.size = some { cls := .type "list", data := .seq #[] } := Heap.get?_push_size _ rfl
  show wpAny _ A.in1 (Builtin.List.listExtendWith (.ref s.heap.objs.size) (.ref r) (.ref s.heap.objs.size)) _ _ _
  have key := PySem.W.kdl_extend (A := A) (s := { s with heap := s.heap.push { cls := .type "list", data := .seq ([] : List Value).toArray } }) (R := fun (q : Result) (s' : Shared) => ∃ (h' : Heap) (tk : Nat) (acc : Array Value) (c : Nat), q = .ok (.ret (.ref s.heap.objs.size)) ∧ s' = { s with heap := h', toks := tk } ∧
      (∀ b o, s.heap.get? b = some o → h'.get? b = some o) ∧ h'.get? s.heap.objs.size = some { cls := .type "list", dict := none, data := .seq acc c, slots := #[] } ∧ ItemsOf G acc n) K hh (K.keep _ _ hok fun b _ o e => Heap.get?_push_of_some _ e) s.heap.objs.size (Nat.ne_of_gt lr) (Nat.ne_of_gt ld) (.ref s.heap.objs.size) 0 hS
    (fun h' tk acc c hk hS' hacc => ⟨h', tk, acc, c, rfl, rfl, fun b o e => hk b o (Nat.ne_of_lt (Heap.lt_size e)) (Heap.get?_push_of_some _ e), hS', hacc⟩) hn
  refine wpAny_mono key (fun fin s' x => ?_) fun e s' x => ?_
  · cases fin with
    | done f =>
      obtain ⟨h', tk, acc, c, e, rfl, hk, hS', hacc⟩ := x
      cases e
      show wpAny _ A (load s.heap.objs.size >>= _) _ _ _; refine wpAny_bind (wpAny_load hS' ?_)
      exact wpAny_pure (h h' tk acc.toList hk (by rw [Array.length_toList]; exact hacc.1) fun j v e => hacc.2 j v (by rw [← Array.getElem?_toList]; exact e))
    | again c =>
      refine ⟨x.1, codeAny_mono x.2 fun q s' x => ?_⟩
      obtain ⟨h', tk, acc, c, rfl, rfl, hk, hS', hacc⟩ := x
      show wpAny _ A (load s.heap.objs.size >>= _) _ _ _; refine wpAny_bind (wpAny_load hS' ?_)
      exact wpAny_pure (h h' tk acc.toList hk (by rw [Array.length_toList]; exact hacc.1) fun j v e => hacc.2 j v (by rw [← Array.getElem?_toList]; exact e))
  · obtain ⟨h', tk, acc, c, e', _⟩ := x
    cases e'
end
end L2

namespace L2
open PySem PySem.Spec PyProof.Rows
def plKey (q : Str × Int) : List Key := [.inr q.1, .inl q.2]
abbrev cSrtD : RC := fun xs H Q => ∃ (a : Addr) (kvs : List (List Key × V)) (qs : List (Str × Int)), xs = [.ref a] ∧ H a = some (.dT kvs) ∧ kvs.map (·.1) = qs.map plKey ∧ kvs.length < 64 ∧
  ∀ (l : Addr) (ps : List (Addr × (Str × Int))), H l = none → (ps.map (·.2)).Perm qs → (ps.map (·.2)).Pairwise (fun a b => placeLt a b = true) → (∀ n ∈ ps, H n.1 = some (.tup [.str n.2.1, .int n.2.2])) → Q (.ref l) (upd H l (.lst (ps.map fun n => V.ref n.1)))
theorem paired_get {α β : Type} {F : α → β → Prop} : ∀ {l₁ : List α} {l₂ : List β}, Paired F l₁ l₂ → ∀ {i : Nat} {a : α} {b : β}, l₁[i]? = some a → l₂[i]? = some b → F a b
  | _, _, .nil, i, a, b, h, _ => by simp at h
  | _, _, .cons x r, 0, a, b, h1, h2 => by
    simp only [List.getElem?_cons_zero, Option.some.injEq] at h1 h2
    subst h1 h2
    exact x
  | _, _, .cons x r, i + 1, a, b, h1, h2 => paired_get r (by simpa using h1) (by simpa using h2)
theorem PlAt.keep {h h' : Heap} {v : Value} {q : Str × Int} (x : PlAt h v q) (k : ∀ b o, h.get? b = some o → h'.get? b = some o) : PlAt h' v q := by
  obtain ⟨a, o, t, u, n, e, ho, r⟩ := x
  exact ⟨a, o, t, u, n, e, k _ _ ho, r⟩
section
variable {X : Cx}
theorem place_at {pins : List (Addr × Obj)} {σ : St} {H : Hp} {s : Shared} {a : Addr} {q : Str × Int} (I : Inv X pins σ H s) (h : H a = some (.tup [.str q.1, .int q.2])) : PlAt s.heap (.ref a) q := by
  obtain ⟨its, rv, ⟨o, ho, hc, n, hd⟩, _⟩ := I.tuple (SqT.of h)
  cases rv with
  | cons r1 rr =>
    cases rr with
    | cons r2 rn =>
      cases rn
      obtain ⟨t, rfl⟩ := r1
      obtain ⟨u, rfl⟩ := r2
      exact ⟨a, o, t, u, n, rfl, ho, hc, hd⟩
theorem nodup_map_inj {α β : Type} {f : α → β} : ∀ {l : List α}, (l.map f).Nodup → l.Nodup
  | [], _ => List.nodup_nil
  | a :: r, h => by
    rw [List.map_cons, List.nodup_cons] at h
    exact List.nodup_cons.mpr ⟨fun z => h.1 (List.mem_map_of_mem z), nodup_map_inj h.2⟩
theorem call_sortedD (hc : X.calm = true) : CallR X (.builtin "sorted") cSrtD := by
  intro pins s σ H xs us Q I r h
  obtain ⟨a, kvs, qs, rfl, ha, hk, h64, q⟩ := h
  obtain ⟨u, rfl, ru⟩ := vals1 r
  cases ru
  obtain ⟨hz, lo, xs, rel, o, es, ep, ho, hx, hd, he, hn⟩ := (show ObjOk X.prog X.w H s.heap a (.dT kvs) from I.hok a _ ha)
  have hh : X.A.handled = none := I.ok.hd hc
  have lk : kvs.length = qs.length := by have := congrArg List.length hk; simpa using this
  have lx : kvs.length = xs.length := Paired.length rel
  have les : es.size = xs.length := by rw [← Array.length_toList, he, List.length_map]
  -- the keys in their order
  have key : ∀ (i : Nat) (x : List Key × Addr × Value), xs[i]? = some x → ∃ q, qs[i]? = some q ∧ x.1 = plKey q ∧ H x.2.1 = some (.tup [.str q.1, .int q.2]) := fun i x hx => by
    have hi := (List.getElem?_eq_some_iff.mp hx).1
    obtain ⟨kv, hkv⟩ : ∃ kv, kvs[i]? = some kv := ⟨_, List.getElem?_eq_getElem (by omega)⟩
    obtain ⟨q, hq⟩ : ∃ q, qs[i]? = some q := ⟨_, List.getElem?_eq_getElem (by omega)⟩
    have rl := paired_get rel hkv hx
    have e1 : kv.1 = plKey q := by
      have e1 : (kvs.map (·.1))[i]? = some kv.1 := by rw [List.getElem?_map, hkv]; rfl
      have e2 : (qs.map plKey)[i]? = some (plKey q) := by rw [List.getElem?_map, hq]; rfl
      rw [hk, e2] at e1
      exact (Option.some.inj e1).symm
    refine ⟨q, hq, by rw [← rl.1, e1], ?_⟩
    have := rl.2.1
    rw [e1] at this
    exact this
  have nq : qs.Nodup := by
    refine nodup_map_inj (f := plKey) ?_
    have e : xs.map (·.1) = qs.map plKey := by
      rw [← hk]
      apply List.ext_getElem?
      intro i
      rw [List.getElem?_map, List.getElem?_map]
      cases hx : xs[i]? with
      | none =>
        have : xs.length ≤ i := by simpa using hx
        rw [List.getElem?_eq_none (by omega : kvs.length ≤ i)]
        rfl
      | some x =>
        have hi := (List.getElem?_eq_some_iff.mp hx).1
        have hkv : kvs[i]? = some kvs[i] := List.getElem?_eq_getElem (by omega)
        rw [hkv]
        have := (paired_get rel hkv hx).1
        simp [this]
    rw [← e]; exact hn
  have vv : ∀ (i : Nat) (v : Value) (q : Str × Int), (xs.map fun x => Value.ref x.2.1)[i]? = some v → qs[i]? = some q → PlAt s.heap v q := fun i v q hv hq => by
    rw [List.getElem?_map] at hv
    obtain ⟨x, hx, rfl⟩ := Option.map_eq_some_iff.mp hv
    obtain ⟨q', hq', _, hH⟩ := key i x hx
    rw [hq] at hq'
    cases hq'
    exact place_at I hH
  have lv : (xs.map fun x => Value.ref x.2.1).length = qs.length := by rw [List.length_map]; omega
  have vat : ∀ i, i < qs.length → PlAt s.heap ((xs.map fun x => Value.ref x.2.1).getD i Value.none) (qs.getD i ("", 0)) := fun i hi => by
    refine vv i _ _ ?_ ?_
    · rw [List.getD_eq_getElem?_getD, List.getElem?_eq_getElem (by rw [lv]; exact hi)]; rfl
    · rw [List.getD_eq_getElem?_getD, List.getElem?_eq_getElem hi]; rfl
  have S := placeLt_so nq
  rw [← lv] at S
  refine sorted_pure (vs := xs.map fun x => Value.ref x.2.1) (κ := tuples' true) (by rw [List.length_map]; omega) S (fun R hR => ?_) (fun h2 h tk Q' kp q' => ?_) (fun h tk i j C kp hi hj hij q' => ?_) fun h tk h' p c k1 k2 hD hp hr => ?_
  · refine collect_src (raw_src (ep := ep) (es := es) lo) hh ⟨o, ho, hx, hd⟩ (by rw [les]; omega) fun h' tk vs kp hl hG => ?_
    have ev : vs = xs.map fun x => Value.ref x.2.1 := by
      apply List.ext_getElem?
      intro i
      by_cases hi : i < vs.length
      · obtain ⟨e, hes, ek⟩ := hG i vs[i] (List.getElem?_eq_getElem hi)
        have e2 : es.toList[i]? = some e := by rw [Array.getElem?_toList]; exact hes
        rw [he, List.getElem?_map] at e2
        obtain ⟨x, hxx, ex⟩ := Option.map_eq_some_iff.mp e2
        rw [List.getElem?_eq_getElem hi, ek, List.getElem?_map, hxx, ← ex]
        rfl
      · rw [List.getElem?_eq_none (by omega), List.getElem?_eq_none (by rw [List.length_map]; omega)]
    rw [ev]
    exact hR h' tk kp
  · exact kind_place (s := { s with heap := h, toks := tk }) lv (fun i v q hv hq => (vv i v q hv hq).keep kp) (by omega) q'
  · rw [lv] at hi hj
    refine ask_place (s := { s with heap := h, toks := tk }) ((vat i hi).keep kp) ((vat j hj).keep kp) q' fun z => hij ?_
    rw [List.getD_eq_getElem?_getD, List.getD_eq_getElem?_getD, List.getElem?_eq_getElem hi, List.getElem?_eq_getElem hj] at z
    exact (List.getElem_inj nq).mp z
  · have I1 : Inv X pins σ H { s with heap := h, toks := tk } := I.kept k1
    have ps : ∃ ps : List (Addr × (Str × Int)), ps.map (fun n => Value.ref n.1) = outOf (xs.map fun x => Value.ref x.2.1) p ∧ ps.map (·.2) = p.toList.map (fun i => qs.getD i ("", 0)) ∧ ∀ n ∈ ps, H n.1 = some (.tup [.str n.2.1, .int n.2.2]) := by
      have pl : ∀ i ∈ p.toList, i < xs.length := fun i hi => by
        have : i ∈ p := by simpa using hi
        have := (Array.Perm.mem_iff hp).mp this
        rw [List.length_map] at this
        simpa using this
      refine ⟨p.toList.map fun i => ((xs.getD i ([], 0, .none)).2.1, qs.getD i ("", 0)), ?_, by rw [List.map_map]; rfl, fun n hn => ?_⟩
      · unfold outOf
        rw [List.map_map]
        refine List.map_congr_left fun i hi => ?_
        have := pl i hi
        simp [List.getD_eq_getElem?_getD, List.getElem?_map, List.getElem?_eq_getElem this]
      · obtain ⟨i, hi, rfl⟩ := List.mem_map.mp hn
        have hl := pl i hi
        obtain ⟨q, hq, _, hH⟩ := key i xs[i] (List.getElem?_eq_getElem hl)
        have e1 : xs.getD i ([], 0, .none) = xs[i] := by rw [List.getD_eq_getElem?_getD, List.getElem?_eq_getElem hl]; rfl
        have e2 : qs.getD i ("", 0) = q := by rw [List.getD_eq_getElem?_getD, hq]; rfl
        show H (xs.getD i ([], 0, .none)).2.1 = some (.tup [.str (qs.getD i ("", 0)).1, .int (qs.getD i ("", 0)).2])
        rw [e1, e2]
        exact hH
    obtain ⟨ps, e1, e2, hps⟩ := ps
    have vr : Vals (ps.map fun n => V.ref n.1) (ps.map fun n => Value.ref n.1) := by
      clear e1 e2 hps
      induction ps with
      | nil => exact .nil
      | cons n r ih => exact .cons rfl ih
    have psz : p.size = xs.length := by have := hp.size; rw [List.length_map] at this; exact this
    have pln : ps.length = xs.length := by have := congrArg List.length e1; unfold outOf at this; simpa [psz] using this
    have I2 : Inv X pins σ (upd H h.objs.size (.lst (ps.map fun n => V.ref n.1))) { s with heap := h', toks := tk } := I1.laid (s := { s with heap := h, toks := tk }) (a := h.objs.size) (o := .lst (ps.map fun n => V.ref n.1)) (t' := tk) k2 (Nat.le_refl _)
      ⟨by rw [List.length_map]; omega, ps.map fun n => Value.ref n.1, c, vr, by rw [e1]; exact hD⟩
    refine ⟨.ref h.objs.size, _, I2, rfl, q _ ps (I1.hok.fresh (Nat.le_refl _)) ?_ ?_ hps⟩
    · rw [e2]
      have pr : p.toList.Perm (List.range qs.length) := by
        have := Array.perm_iff_toList_perm.mp hp
        rw [lv] at this
        simpa using this
      refine (pr.map _).trans ?_
      have : (List.range qs.length).map (fun i => qs.getD i ("", 0)) = qs := by
        apply List.ext_getElem?
        intro i
        rw [List.getElem?_map]
        by_cases hi : i < qs.length
        · rw [List.getElem?_range hi, List.getElem?_eq_getElem hi]
          simp [List.getD_eq_getElem?_getD, List.getElem?_eq_getElem hi]
        · rw [List.getElem?_eq_none (by simpa using hi), List.getElem?_eq_none (by omega)]
          rfl
      rw [this]
    · rw [e2, List.pairwise_map, List.pairwise_iff_getElem]
      intro i j hi hj hij
      rw [Array.length_toList] at hi hj
      have g1 := gt_eq hi
      have g2 := gt_eq hj
      have r := hr i j hij (by rw [List.length_map]; omega)
      have x1 : p.toList[i] = gt p i := by
        rw [Array.getElem?_eq_getElem hi] at g1
        simpa using g1
      have x2 : p.toList[j] = gt p j := by
        rw [Array.getElem?_eq_getElem hj] at g2
        simpa using g2
      rw [x1, x2]
      exact r
end
end L2

namespace L2
open PySem PySem.Spec PyProof.Rows
/-! ### walking the keys of a dict of tuples: the dict is frozen while the loop walks it -/
def Itd (a : Addr) (o : Obj) (kvs : List (List Key × V)) : It :=
  ⟨fun i H => H a = some (.frz o (.dT kvs)) ∧ i < kvs.length, fun i H x H' => H' = H ∧ ∃ k v p, kvs[i]? = some (k, v) ∧ x = .ref p ∧ H p = some (.tup (k.map kV)), fun i H => H a = some (.frz o (.dT kvs)) ∧ kvs.length ≤ i⟩
section
variable {X : Cx}
def iDT (tl : TE) : TI := fun σ H R => tl σ H fun x H1 => ∃ a o kvs, x = .ref a ∧ H1 a = some (.frz o (.dT kvs)) ∧ R (Itd a o kvs) H1
/-! ### frozen and thawed -/
def Plain : HO → Prop
  | .tup _ => False
  | .own _ => False
  | .tbl _ => False
  | _ => True
/-- the object at a is known while t runs -/
def tFrz (t : TS) : TS := fun D σ H => ∃ a u0 kvs, H a = some u0 ∧ (u0 = .dT kvs ∨ ∃ o, u0 = .frz o (.dT kvs)) ∧ ∀ o, t
  ⟨fun σ' H' => H' a = some (.frz o (.dT kvs)) ∧ D.nx σ' (upd H' a u0), fun v H' => H' a = some (.frz o (.dT kvs)) ∧ D.rt v (upd H' a u0), fun σ' H' => H' a = some (.frz o (.dT kvs)) ∧ D.bk σ' (upd H' a u0), fun σ' H' => H' a = some (.frz o (.dT kvs)) ∧ D.ct σ' (upd H' a u0)⟩ σ (upd H a (.frz o (.dT kvs)))
end
section
variable {σ : St} {H : Hp} {nx : St → Hp → Prop} {B : V → St → Hp → (St → Hp → Prop) → Prop}
end
end L2

namespace L2
open PySem PySem.Spec PyProof.Rows
/-! ### values that hold others: what they are all through -/
mutual
inductive Dat (K : PySem.W.Frag) (H : Hp) : V → PyData → Prop
  | non : Dat K H .non .none
  | bl (b : Bool) : Dat K H (.bl b) (.bool b)
  | int (i : Int) : Dat K H (.int i) (.int i)
  | str (x : Str) : Dat K H (.str x) (.str x)
  | lst {a : Addr} {xs : List V} {ds : List PyData} : SqL K H a xs → DatAll K H xs ds → Dat K H (.ref a) (.list ds)
  | tup {a : Addr} {xs : List V} {ds : List PyData} : SqT K H a xs → DatAll K H xs ds → Dat K H (.ref a) (.tuple ds)
inductive DatAll (K : PySem.W.Frag) (H : Hp) : List V → List PyData → Prop
  | nil : DatAll K H [] []
  | cons {x : V} {d : PyData} {xs : List V} {ds : List PyData} : Dat K H x d → DatAll K H xs ds → DatAll K H (x :: xs) (d :: ds)
end
section
variable {X : Cx} {pins : List (Addr × Obj)} {σ : St} {H : Hp} {s : Shared}
mutual
theorem Dat.reads (I : Inv X pins σ H s) : ∀ {x : V} {d : PyData} {u : Value}, Dat X.K H x d → RelV x u → ∃ as, Reads s.heap u d as
  | _, _, _, .non, r => by cases r; exact ⟨_, .none⟩
  | _, _, _, .bl b, r => by cases r; exact ⟨_, .bool b⟩
  | _, _, _, .int i, r => by obtain ⟨t, rfl⟩ := r; exact ⟨_, .int i t⟩
  | _, _, _, .str x, r => by obtain ⟨t, rfl⟩ := r; exact ⟨_, .str x t⟩
  | _, _, _, .lst hq ha, r => by
    cases r
    obtain ⟨its, rv, ⟨o, n, e, c, _, d⟩, _⟩ := I.list hq
    obtain ⟨as, ra⟩ := DatAll.reads I ha rv
    exact ⟨_, .list e c d (by simpa using ra)⟩
  | _, _, _, .tup hq ha, r => by
    cases r
    obtain ⟨its, rv, ⟨o, e, c, n, d⟩, _⟩ := I.tuple hq
    obtain ⟨as, ra⟩ := DatAll.reads I ha rv
    exact ⟨_, .tuple e c d (by simpa using ra)⟩
theorem DatAll.reads (I : Inv X pins σ H s) : ∀ {xs : List V} {ds : List PyData} {us : List Value}, DatAll X.K H xs ds → Vals xs us → ∃ as, ReadsAll s.heap us ds as
  | _, _, _, .nil, r => by cases r; exact ⟨_, .nil⟩
  | _, _, _, .cons hx ht, r => by
    cases r with
    | cons r1 rr =>
      obtain ⟨as, ra⟩ := Dat.reads I hx r1
      obtain ⟨bs, rb⟩ := DatAll.reads I ht rr
      exact ⟨_, .cons ra rb⟩
end
end
section
variable {K : PySem.W.Frag} {H H' : Hp}
theorem SqL.mono {a : Addr} {xs : List V} (k : Same H H') (h : SqL K H a xs) : SqL K H' a xs := by
  rcases h with (h | ⟨o, h⟩) | h
  · exact .inl (.inl (k _ _ h))
  · exact .inl (.inr ⟨o, k _ _ h⟩)
  · exact .inr h
theorem SqT.mono {a : Addr} {xs : List V} (k : Same H H') (h : SqT K H a xs) : SqT K H' a xs := by
  rcases h with (h | ⟨o, h⟩) | h
  · exact .inl (.inl (k _ _ h))
  · exact .inl (.inr ⟨o, k _ _ h⟩)
  · exact .inr h
mutual
theorem Dat.mono (k : Same H H') : ∀ {x : V} {d : PyData}, Dat K H x d → Dat K H' x d
  | _, _, .non => .non
  | _, _, .bl b => .bl b
  | _, _, .int i => .int i
  | _, _, .str x => .str x
  | _, _, .lst hq ha => .lst (hq.mono k) (DatAll.mono k ha)
  | _, _, .tup hq ha => .tup (hq.mono k) (DatAll.mono k ha)
theorem DatAll.mono (k : Same H H') : ∀ {xs : List V} {ds : List PyData}, DatAll K H xs ds → DatAll K H' xs ds
  | _, _, .nil => .nil
  | _, _, .cons hx ht => .cons (Dat.mono k hx) (DatAll.mono k ht)
end
end
section
variable {X : Cx} {pins : List (Addr × Obj)} {σ : St} {H : Hp} {s : Shared}
end
/-- whole numbers, texts, None, and lists and tuples of these -/
def flatD : PyData → Bool
  | .none => true
  | .int _ => true
  | .str x => PyData.strOk x
  | _ => false
mutual
def plainD : PyData → Bool
  | .none => true
  | .int _ => true
  | .str x => PyData.strOk x
  | .list xs => plainDs xs
  | .tuple xs => plainDs xs
  | .bool _ => false
  | .dict _ => false
def plainDs : List PyData → Bool
  | [] => true
  | x :: xs => plainD x && plainDs xs
end
mutual
theorem plain_lay : ∀ {d : PyData}, plainD d = true → d.canLay0 = true
  | .none, _ => by simp [PyData.canLay0]
  | .int _, _ => by simp [PyData.canLay0]
  | .str x, h => by simpa [PyData.canLay0, plainD] using h
  | .list xs, h => by rw [PyData.canLay0]; exact plains_lay (by simpa [plainD] using h)
  | .tuple xs, h => by rw [PyData.canLay0]; exact plains_lay (by simpa [plainD] using h)
  | .bool _, h => by simp [plainD] at h
  | .dict _, h => by simp [plainD] at h
theorem plains_lay : ∀ {ds : List PyData}, plainDs ds = true → PyData.canLayAll0 ds = true
  | [], _ => by simp [PyData.canLayAll0]
  | x :: xs, h => by
    rw [plainDs, Bool.and_eq_true] at h
    rw [PyData.canLayAll0, plain_lay h.1, plains_lay h.2]; rfl
end
mutual
theorem plain_eqv : ∀ {d e : PyData}, plainD d = true → plainD e = true → (PyData.eqv d e = true ↔ d = e)
  | .list xs, .list ys, h, h' => by
    rw [PyData.eqv, plains_eqv (by simpa [plainD] using h) (by simpa [plainD] using h'), PyData.list.injEq]
  | .tuple xs, .tuple ys, h, h' => by
    rw [PyData.eqv, plains_eqv (by simpa [plainD] using h) (by simpa [plainD] using h'), PyData.tuple.injEq]
  | .bool _, _, h, _ => by simp [plainD] at h
  | .dict _, _, h, _ => by simp [plainD] at h
  | .none, .bool _, _, h => by simp [plainD] at h
  | .int _, .bool _, _, h => by simp [plainD] at h
  | .str _, .bool _, _, h => by simp [plainD] at h
  | .list _, .bool _, _, h => by simp [plainD] at h
  | .tuple _, .bool _, _, h => by simp [plainD] at h
  | .none, .dict _, _, h => by simp [plainD] at h
  | .int _, .dict _, _, h => by simp [plainD] at h
  | .str _, .dict _, _, h => by simp [plainD] at h
  | .list _, .dict _, _, h => by simp [plainD] at h
  | .tuple _, .dict _, _, h => by simp [plainD] at h
  | .none, .none, _, _ | .none, .int _, _, _ | .none, .str _, _, _ | .none, .list _, _, _ | .none, .tuple _, _, _ => by simp [PyData.eqv]
  | .int _, .none, _, _ | .int _, .int _, _, _ | .int _, .str _, _, _ | .int _, .list _, _, _ | .int _, .tuple _, _, _ => by simp [PyData.eqv]
  | .str _, .none, _, _ | .str _, .int _, _, _ | .str _, .str _, _, _ | .str _, .list _, _, _ | .str _, .tuple _, _, _ => by simp [PyData.eqv]
  | .list _, .none, _, _ | .list _, .int _, _, _ | .list _, .str _, _, _ | .list _, .tuple _, _, _ => by simp [PyData.eqv]
  | .tuple _, .none, _, _ | .tuple _, .int _, _, _ | .tuple _, .str _, _, _ | .tuple _, .list _, _, _ => by simp [PyData.eqv]
theorem plains_eqv : ∀ {xs ys : List PyData}, plainDs xs = true → plainDs ys = true → (PyData.eqvAll xs ys = true ↔ xs = ys)
  | [], [], _, _ => by simp [PyData.eqvAll]
  | [], _ :: _, _, _ => by simp [PyData.eqvAll]
  | _ :: _, [], _, _ => by simp [PyData.eqvAll]
  | x :: xs, y :: ys, h, h' => by
    rw [plainDs, Bool.and_eq_true] at h h'
    rw [PyData.eqvAll, Bool.and_eq_true, plain_eqv h.1 h'.1, plains_eqv h.2 h'.2, List.cons.injEq]
end
/-- both read whole: ne tells whether they differ -/
abbrev rEqD (K : PySem.W.Frag) (neg : Bool) : R2 := fun x y H Q => ∃ d e, Dat K H x d ∧ Dat K H y e ∧ (plainD d = true ∧ plainD e = true ∧ d.depth ≤ 64 ∧ e.depth ≤ 64) ∧ ∀ b : Bool, (b = true ↔ d = e) → Q (.bl (if neg then !b else b)) H
section
variable {X : Cx}
theorem shaped_plain {d : PyData} (h : plainD d = true) (h' : d.depth ≤ 64) : SeqAt.shaped d = true := by
  unfold SeqAt.shaped
  rw [plain_lay h, decide_eq_true h']; rfl
theorem op_eqAll (hu : X.A.units + 64 < cLine) : OpR X (compareOp .Eq) (rEqD X.K false) := by
  intro pins s σ H x y v u Q I rx ry h
  obtain ⟨d, e, hd, he, ⟨p1, p2, l1, l2⟩, q⟩ := h
  obtain ⟨as, ra⟩ := hd.reads I rx
  obtain ⟨bs, rb⟩ := he.reads I ry
  exact eq_dataH ra rb (shaped_plain p1 l1) (shaped_plain p2 l2) hu ⟨.bl _, H, I, rfl, q _ (plain_eqv p1 p2)⟩
theorem op_neAll (hu : X.A.units + 64 < cLine) : OpR X (compareOp .NotEq) (rEqD X.K true) := by
  intro pins s σ H x y v u Q I rx ry h
  obtain ⟨d, e, hd, he, ⟨p1, p2, l1, l2⟩, q⟩ := h
  obtain ⟨as, ra⟩ := hd.reads I rx
  obtain ⟨bs, rb⟩ := he.reads I ry
  exact ne_dataH ra rb (shaped_plain p1 l1) (shaped_plain p2 l2) hu ⟨.bl _, H, I, rfl, q _ (plain_eqv p1 p2)⟩
end
end L2

namespace L2
open PySem PySem.Spec PyProof.Rows
abbrev rLtS : R2 := fun x y H Q => ∃ i j, x = .str i ∧ y = .str j ∧ Q (.bl (decide (i.cps.toList < j.cps.toList))) H
abbrev rGtS : R2 := fun x y H Q => ∃ i j, x = .str i ∧ y = .str j ∧ Q (.bl (decide (j.cps.toList < i.cps.toList))) H
abbrev rInD (neg : Bool) : R2 := fun x y H Q => ∃ a o, y = .ref a ∧ DGet H a x o ∧ Q (.bl (if neg then !o.isSome else o.isSome)) H
section
variable {X : Cx}
end
end L2

namespace L2
open PySem
/-! ### tables: what the last row of each place tells -/
abbrev Pl := Str × Int
abbrev Row := Pl × Int
def lastW : List Row → Pl → Option Int
  | [], _ => none
  | r :: t, p => (lastW t p).or (if r.1 = p then some r.2 else none)
def dStep (kvs : List (List Key × V)) (q : Row) : List (List Key × V) := putK kvs (plKey q.1) (.int q.2)
def dOf (rows : List Row) : List (List Key × V) := rows.foldl dStep []
theorem plKey_inj {p q : Pl} (h : plKey p = plKey q) : p = q := by
  unfold plKey at h
  simp only [List.cons.injEq, Sum.inr.injEq, Sum.inl.injEq, and_true] at h
  exact Prod.ext h.1 h.2
theorem val_fold : ∀ (rows : List Row) (kvs : List (List Key × V)) (p : Pl), valV (rows.foldl dStep kvs) (plKey p) = ((lastW rows p).map V.int).or (valV kvs (plKey p))
  | [], _, _ => rfl
  | r :: t, kvs, p => by
    rw [List.foldl_cons, val_fold t, lastW]
    show _ = _
    rw [dStep, valV_put]
    cases lastW t p with
    | some w => rfl
    | none =>
      by_cases e : r.1 = p
      · subst e; simp
      · rw [if_neg (fun z => e (plKey_inj z).symm)]; simp [e]
theorem val_dOf (rows : List Row) (p : Pl) : valV (dOf rows) (plKey p) = (lastW rows p).map V.int := by
  unfold dOf
  rw [val_fold, valV_nil]
  cases lastW rows p <;> rfl
theorem dOf_snoc (rows : List Row) (q : Row) : dOf (rows ++ [q]) = putK (dOf rows) (plKey q.1) (.int q.2) := by
  unfold dOf
  rw [List.foldl_append]; rfl
def OkKv (kvs : List (List Key × V)) : Prop := (kvs.map (·.1)).Nodup ∧ ∀ kv ∈ kvs, ∃ (p : Pl) (w : Int), kv = (plKey p, .int w)
theorem OkKv.put {kvs : List (List Key × V)} (h : OkKv kvs) (p : Pl) (w : Int) : OkKv (putK kvs (plKey p) (.int w)) := by
  cases e : valV kvs (plKey p) with
  | none =>
    refine ⟨nd_putK _ h.1 e, fun kv hk => ?_⟩
    rw [putK_new _ e] at hk
    rcases List.mem_append.mp hk with hk | hk
    · exact h.2 kv hk
    · exact ⟨p, w, List.mem_singleton.mp hk⟩
  | some v =>
    have q : (kvs.any fun kv => decide (kv.1 = plKey p)) = true := by rw [valV_any, e]; rfl
    unfold putK
    rw [if_pos q]
    constructor
    · rw [List.map_map]
      have : ((fun x : List Key × V => x.1) ∘ fun kv : List Key × V => if kv.1 = plKey p then (kv.1, V.int w) else kv) = fun x => x.1 := by
        funext kv
        show (if kv.1 = plKey p then (kv.1, V.int w) else kv).1 = kv.1
        split <;> rfl
      rw [this]; exact h.1
    · intro kv hk
      obtain ⟨z, hz, rfl⟩ := List.mem_map.mp hk
      by_cases e : z.1 = plKey p
      · exact ⟨p, w, by rw [if_pos e, e]⟩
      · rw [if_neg e]; exact h.2 z hz
theorem okKv_fold : ∀ (rows : List Row) (kvs : List (List Key × V)), OkKv kvs → OkKv (rows.foldl dStep kvs)
  | [], _, h => h
  | r :: t, kvs, h => okKv_fold t _ (h.put r.1 r.2)
theorem okKv_dOf (rows : List Row) : OkKv (dOf rows) := okKv_fold rows [] ⟨List.nodup_nil, fun _ h => nomatch h⟩
theorem len_put (kvs : List (List Key × V)) (k : List Key) (v : V) : (putK kvs k v).length ≤ kvs.length + 1 := by
  unfold putK
  split
  · rw [List.length_map]; omega
  · rw [List.length_append]; simp
theorem len_fold : ∀ (rows : List Row) (kvs : List (List Key × V)), (rows.foldl dStep kvs).length ≤ kvs.length + rows.length
  | [], _ => by simp
  | r :: t, kvs => by
    have := len_fold t (dStep kvs r)
    have := len_put kvs (plKey r.1) (.int r.2)
    rw [List.foldl_cons, List.length_cons]
    unfold dStep at *
    omega
theorem len_dOf (rows : List Row) : (dOf rows).length ≤ rows.length := by have := len_fold rows []; simpa [dOf] using this
theorem valV_nd {kvs : List (List Key × V)} : (kvs.map (·.1)).Nodup → ∀ kv ∈ kvs, valV kvs kv.1 = some kv.2 := by
  induction kvs with
  | nil => exact fun _ kv h => nomatch h
  | cons a r ih =>
    intro hn kv hk
    rw [List.map_cons, List.nodup_cons] at hn
    rcases List.mem_cons.mp hk with rfl | hk
    · exact valV_pos rfl
    · rw [valV_neg fun z => hn.1 (by rw [z]; exact List.mem_map_of_mem hk)]
      exact ih hn.2 kv hk
/-- an entry of the dict is what the last row of its place tells -/
theorem mem_dOf {rows : List Row} {kv : List Key × V} : kv ∈ dOf rows ↔ ∃ p w, kv = (plKey p, .int w) ∧ lastW rows p = some w := by
  constructor
  · intro h
    obtain ⟨p, w, rfl⟩ := (okKv_dOf rows).2 kv h
    have := valV_nd (okKv_dOf rows).1 _ h
    rw [val_dOf] at this
    obtain ⟨w', e1, e2⟩ := Option.map_eq_some_iff.mp this
    cases e2
    exact ⟨p, w, rfl, e1⟩
  · rintro ⟨p, w, rfl, h⟩
    have e : valV (dOf rows) (plKey p) = some (.int w) := by rw [val_dOf, h]; rfl
    obtain ⟨kv, hk, e1⟩ := List.mem_map.mp (valV_in e)
    have := valV_nd (okKv_dOf rows).1 _ hk
    rw [e1, e] at this
    have e2 : kv = (plKey p, V.int w) := Prod.ext e1 (Option.some.inj this).symm
    rw [← e2]; exact hk
theorem placeLt_irr (a : Pl) : placeLt a a = false := by
  unfold placeLt
  rw [if_pos rfl]
  exact decide_eq_false (by omega)
theorem placeLt_trans {a b c : Pl} (h1 : placeLt a b = true) (h2 : placeLt b c = true) : placeLt a c = true := by
  unfold placeLt at *
  by_cases e1 : a.1 = b.1
  · rw [if_pos e1] at h1
    by_cases e2 : b.1 = c.1
    · rw [if_pos e2] at h2
      rw [if_pos (e1.trans e2)]
      have h1 := of_decide_eq_true h1
      have h2 := of_decide_eq_true h2
      exact decide_eq_true (by omega)
    · rw [if_neg e2] at h2
      rw [if_neg (by rw [e1]; exact e2), e1]
      exact h2
  · rw [if_neg e1] at h1
    have h1 := of_decide_eq_true h1
    by_cases e2 : b.1 = c.1
    · rw [if_neg (by rw [← e2]; exact e1), ← e2]
      exact decide_eq_true h1
    · rw [if_neg e2] at h2
      have h2 := of_decide_eq_true h2
      have h3 := List.lt_trans h1 h2
      rw [if_neg (fun z => by rw [z] at h3; exact List.lt_irrefl _ h3)]
      exact decide_eq_true h3
/-- strictly rising by place -/
def Rising (l : List Row) : Prop := l.Pairwise fun a b => placeLt a.1 b.1 = true
def IsTab (rows out : List Row) : Prop := Rising out ∧ ∀ p w, (p, w) ∈ out ↔ lastW rows p = some w ∧ w ≠ 0
theorem Rising.nd {l : List Row} (h : Rising l) : (l.map (·.1)).Nodup := by
  unfold List.Nodup
  rw [List.pairwise_map]
  exact List.Pairwise.imp (fun {a b} h z => by rw [z, placeLt_irr] at h; cases h) h
theorem last_none {p : Pl} : ∀ {l : List Row}, (∀ r ∈ l, r.1 ≠ p) → lastW l p = none
  | [], _ => rfl
  | r :: t, h => by
    rw [lastW, last_none fun r hr => h r (List.mem_cons_of_mem _ hr), if_neg (h r List.mem_cons_self)]; rfl
theorem last_nd {p : Pl} {w : Int} : ∀ {l : List Row}, (l.map (·.1)).Nodup → (lastW l p = some w ↔ (p, w) ∈ l)
  | [], _ => by simp [lastW]
  | r :: t, hn => by
    rw [List.map_cons, List.nodup_cons] at hn
    have ih := last_nd (p := p) (w := w) hn.2
    by_cases e : r.1 = p
    · have z : lastW t p = none := last_none fun q hq zz => hn.1 (by rw [e, ← zz]; exact List.mem_map_of_mem hq)
      rw [lastW, z, if_pos e]
      constructor
      · intro h
        have : r.2 = w := by simpa using h
        rw [← e, ← this]; exact List.mem_cons_self
      · intro h
        rcases List.mem_cons.mp h with h | h
        · rw [← h]; rfl
        · exact absurd (List.mem_map_of_mem (f := (·.1)) h) (by rw [← e]; exact hn.1)
    · rw [lastW, if_neg e, Option.or_none, ih, List.mem_cons]
      constructor
      · exact .inr
      · rintro (h | h)
        · exact absurd (by rw [← h]) e
        · exact h
theorem rising_ext : ∀ {a b : List Row}, Rising a → Rising b → (∀ x, x ∈ a ↔ x ∈ b) → a = b
  | [], [], _, _, _ => rfl
  | [], y :: _, _, _, h => absurd ((h y).mpr List.mem_cons_self) (by simp)
  | x :: _, [], _, _, h => absurd ((h x).mp List.mem_cons_self) (by simp)
  | x :: a, y :: b, ha, hb, h => by
    unfold Rising at ha hb
    rw [List.pairwise_cons] at ha hb
    have e : x = y := by
      rcases List.mem_cons.mp ((h x).mp List.mem_cons_self) with e | e
      · exact e
      · rcases List.mem_cons.mp ((h y).mpr List.mem_cons_self) with e' | e'
        · exact e'.symm
        · have := placeLt_trans (ha.1 y e') (hb.1 x e)
          rw [placeLt_irr] at this; cases this
    subst e
    have nx : x ∉ a := fun z => by have := ha.1 x z; rw [placeLt_irr] at this; cases this
    have ny : x ∉ b := fun z => by have := hb.1 x z; rw [placeLt_irr] at this; cases this
    rw [rising_ext ha.2 hb.2 fun z => ?_]
    constructor
    · intro hz
      rcases List.mem_cons.mp ((h z).mp (List.mem_cons_of_mem _ hz)) with e | e
      · subst e; exact absurd hz nx
      · exact e
    · intro hz
      rcases List.mem_cons.mp ((h z).mpr (List.mem_cons_of_mem _ hz)) with e | e
      · subst e; exact absurd hz ny
      · exact e
theorem tab_uniq {rows a b : List Row} (ha : IsTab rows a) (hb : IsTab rows b) : a = b :=
  rising_ext ha.1 hb.1 fun x => (ha.2 x.1 x.2).trans (hb.2 x.1 x.2).symm
/-- lists without a twin and with the same members have the same length -/
theorem nd_len_le {α : Type} [DecidableEq α] : ∀ {a b : List α}, a.Nodup → (∀ x ∈ a, x ∈ b) → a.length ≤ b.length
  | [], _, _, _ => Nat.zero_le _
  | x :: a, b, hn, h => by
    rw [List.nodup_cons] at hn
    have hx := h x List.mem_cons_self
    have := nd_len_le (a := a) (b := b.erase x) hn.2 fun y hy => (List.mem_erase_of_ne fun z => hn.1 (by rw [← z]; exact hy)).mpr (h y (List.mem_cons_of_mem _ hy))
    rw [List.length_erase_of_mem hx] at this
    have : 0 < b.length := List.length_pos_of_mem hx
    rw [List.length_cons]; omega
def nzV (kv : List Key × V) : Bool := decide (kv.2 ≠ .int 0)
end L2

namespace L2
open PySem PySem.Spec PyProof.Rows
/-! ### zip of two lists -/
def ZL (z a b i j p q : Addr) (k : Nat) (h : Heap) : Prop := IsZip h z a b .none ∧ IsPair h a (.ref i) (.ref j) ∧ (∃ u v, IsPair h b u v) ∧ h.IsListIter i p k ∧ h.IsListIter j q k
def Itzl (K : PySem.W.Frag) (p q : Addr) (xs ys : List V) : It := ⟨fun i H => i < xs.length ∧ SqL K H p xs ∧ SqL K H q ys, fun i H x H' => ∃ T u v, x = .ref T ∧ H T = none ∧ H' = upd H T (.tup [u, v]) ∧ xs[i]? = some u ∧ ys[i]? = some v, fun i H => xs.length ≤ i ∧ SqL K H p xs ∧ SqL K H q ys⟩
def iZipL (K : PySem.W.Frag) (ta : TA) : TI := fun σ H R => ta σ H fun vs H1 => ∃ p q xs ys, vs = [.ref p, .ref q] ∧ SqL K H1 p xs ∧ SqL K H1 q ys ∧ xs.length = ys.length ∧ R (Itzl K p q xs ys) H1
section
variable {X : Cx}
end
section
variable {σ : St} {H : Hp} {nx : St → Hp → Prop} {B : V → St → Hp → (St → Hp → Prop) → Prop}
end
end L2

namespace L2
open PySem PySem.Spec PyProof.Rows
/-! ### dict(list of pairs), the keys places -/
theorem plain_dul : plainId "dict.update.loop" = true := by decide +kernel
theorem entry_dul : entryFor table "dict.update.loop" = some Builtin.«dict.update.loop» := entryFor_of_fast (by kernel_rfl)
section
variable {X : Cx} {A : Around} {R : Result → Shared → Prop}
/-- a row of the list -/
def PrAt (H : Hp) (v : V) (q : Row) : Prop := ∃ r p, v = .ref r ∧ H r = some (.tup [.ref p, .int q.2]) ∧ H p = some (.tup [.str q.1.1, .int q.1.2])
theorem dul_store {pins : List (Addr × Obj)} {σ : St} {H : Hp} {s : Shared} {d b : Addr} {kvs : List (List Key × V)} {k : List Key} {v : V} {u : Value} {E : Value → Shared → Prop} {Q : Unit → Shared → Prop} (hu : A.units + 1 < cLine) (I : Inv X pins σ H s) (e : H d = some (.dT kvs)) (eb : H b = some (.tup (k.map kV))) (l : kvs.length < sizeLine) (rv : RelV v u)
    (h : ∀ h' tk, Inv X pins σ (upd H d (.dT (putK kvs k v))) { s with heap := h', toks := tk } → Heap.SameBut d s.heap h' → Q () { s with heap := h', toks := tk }) : wpAny (model X.prog X.w) A.in1 (dictSet d (.ref b) u) Q E s := by
  obtain ⟨z, hd, xs, rel, dd⟩ := dt_of I.hok e
  have hz : xs.length ≤ sizeLine := by rw [← Paired.length rel]; exact z
  have hl : (putK kvs k v).length ≤ sizeLine := by have := length_putK kvs k v; omega
  refine wpAny_dictSet_heap (hsz := hz) (tupleKind_room_in1 hu) (key_of I.hok eb) dd fun h' dd' hs => h _ _ ?_ hs
  obtain ⟨q, es, ep, hq, h2, h3, h4, _, h5⟩ := dd'
  refine d_write I (by rw [e]; exact True.intro) hs ⟨q, hq⟩ ⟨hl, hd, _, (rel.put k eb rv).keeps fun c ys ec => ?_, q, es, ep, hq, h2, h3, h4, h5⟩
  rw [upd_ne (ne_of ec e (fun z => nomatch z))]
  exact ec
theorem dul_loop {pins : List (Addr × Obj)} {σ : St} {H : Hp} {d it l : Addr} {xs : List V} {rows : List Row} {res : Value} (hu : A.units + 1 < cLine) (hh : A.handled = none) (hd : H d = none) (hl : H l = some (.lst xs)) (hr : Paired (PrAt H) xs rows) (h63 : rows.length ≤ 1000) (dit : it ≠ d) (lit : l ≠ it) :
    ∀ (k i : Nat) (s : Shared), rows.length - i = k → i ≤ rows.length → Inv X pins σ (upd H d (.dT (dOf (rows.take i)))) s → s.heap.IsListIter it l i → (∀ u, FpOk X pins (upd H d u) it) →
    (∀ s', Inv X pins σ (upd H d (.dT (dOf rows))) s' → R (.ok (.ret res)) s') →
    codeAny (model X.prog X.w) A (.builtin "dict.update.loop" ⟨[.ref d, .ref it, rawInt i, res], []⟩) R s := by
  have lx : xs.length = rows.length := Paired.length hr
  have S : ∀ u : HO, Same H (upd H d u) := fun u => isV (o := u) d hd
  intro k
  induction k with
  | zero =>
    intro i s hk hi I st hf fin
    have e : i = rows.length := by omega
    subst e
    refine codeAny_builtin entry_dul ?_
    rw [Around.under_plainId plain_dul _]
    show wpAny _ A.in1 (pyNext (.ref it) >>= _) _ _ s
    obtain ⟨its, rv, p, hz⟩ := I.list (SqL.of (S _ _ _ hl))
    obtain ⟨f0, f1, f2, f3, f4, f5⟩ := hf (.dT (dOf (rows.take rows.length)))
    have hl2 := rv.length
    refine wpAny_bind (wpAny_pyNext_list_end hh st p.isList (by simp; omega) fun h' eb => ?_)
    have I1 := I.turned (t' := s.toks) (fun b o hb e => eb b o hb e) f0 f1 f3 f4 f5
    rw [List.take_length] at I1
    show wpAny _ A.in1 (Builtin.Dict.addKeywords d [] >>= _) _ _ _
    exact wpAny_bind (wpAny_pure (wpAny_pure (fin _ I1)))
  | succ k ih =>
    intro i s hk hi I st hf fin
    have hlt : i < rows.length := by omega
    refine codeAny_builtin entry_dul ?_
    rw [Around.under_plainId plain_dul _]
    show wpAny _ A.in1 (pyNext (.ref it) >>= _) _ _ s
    obtain ⟨its, rv, p, hz⟩ := I.list (SqL.of (S _ _ _ hl))
    obtain ⟨f0, f1, f2, f3, f4, f5⟩ := hf (.dT (dOf (rows.take i)))
    have hx : xs[i]? = some xs[i] := List.getElem?_eq_getElem (by omega)
    have hq : rows[i]? = some rows[i] := List.getElem?_eq_getElem hlt
    obtain ⟨r, pl, e1, t1, u1⟩ := paired_get hr hx hq
    obtain ⟨u, hu', ru⟩ := rv.get hx
    rw [e1] at ru
    cases ru
    refine wpAny_bind (wpAny_pyNext_list_item st p.isList (x := .ref r) (by simpa using hu') fun h' st' sb => ?_)
    have I1 := I.turned (t' := s.toks) (fun b o hb e => (sb.2 b hb).trans e) f0 f1 f3 f4 f5
    obtain ⟨tis, tv, ⟨o, ho, hc, n, hdt⟩, _⟩ := I1.tuple (SqT.of (S _ _ _ t1))
    cases tv with
    | cons r1 rr =>
      cases rr with
      | cons r2 rn =>
        cases rn
        cases r1
        obtain ⟨tk, rfl⟩ := r2
        refine wpAny_bind (wpAny_holding ?_)
        have T : ({ s with heap := h' } : Shared).TypeIs (.ref r) "tuple" := ⟨o, ho, hc⟩
        refine wpAny_bind (wpAny_tryCatch ?_)
        unfold Builtin.Dict.pairItems
        refine wpAny_bind (wpAny_typeOf T ?_)
        rw [if_pos (by decide)]
        refine wpAny_bind ?_
        unfold seqItems?
        refine wpAny_bind (wpAny_load ho ?_)
        rw [hdt]
        refine wpAny_pure (wpAny_pure ?_)
        show wpAny _ _ (holding [.ref pl, .int rows[i].2 tk] (dictSet d (.ref pl) (.int rows[i].2 tk))) _ _ _
        refine wpAny_holding ?_
        have tk2 : dOf (rows.take (i + 1)) = putK (dOf (rows.take i)) (plKey rows[i].1) (.int rows[i].2) := by rw [List.take_add_one, hq, ← dOf_snoc]; rfl
        have l2 : (dOf (rows.take i)).length < sizeLine := by
          have h1 := len_dOf (rows.take i)
          have h2 := List.length_take_le' i rows
          exact Nat.lt_of_le_of_lt (by omega : _ ≤ 1000) (by decide)
        refine dul_store (k := plKey rows[i].1) (v := .int rows[i].2) hu I1 upd_same (S _ _ _ u1) l2 ⟨tk, rfl⟩ fun h2 tk3 I2 sb2 => ?_
        rw [upd_upd, ← tk2] at I2
        refine wpAny_pure ⟨plainId_quiet plain_dul _, ih (i + 1) _ (by omega) hlt I2 (st'.at fun o e => (sb2.2 it dit).trans e) hf fin⟩
end
end L2

namespace L2
open PySem PySem.Spec PyProof.Rows
theorem lk_list_keys : typeLookup (.type "list") "keys" = pure none := by rw [typeLookup_type, builtinLookup_eq_fast]; kernel_rfl
section
variable {prog : Program} {w : World} {A : Around} {E : Value → Shared → Prop} {s : Shared} {a : Addr} {o : Obj} {xs : Array Value} {k : Nat}
theorem keys_none_list {Q : Option Value → Shared → Prop} (hx : s.heap.get? a = some o) (hc : o.cls = .type "list") (hdat : o.data = .seq xs k) (hd : o.dict = none) (hA : A.handled = none)
    (h : ∀ h' tk, (∀ b ob, s.heap.get? b = some ob → h'.get? b = some ob) → Q none { s with heap := h', toks := tk }) : wpAny (model prog w) A (getAttr? (.ref a) "keys") Q E s := by
  obtain ⟨c, dct, dat, sl⟩ := o; simp only at hc hdat hd; subst hc hdat hd
  obtain ⟨hp, g, d, tk, os⟩ := s; have hT : ∀ tk', (⟨hp, g, d, tk', os⟩ : Shared).TypeIs (.ref a) "list" := fun _ => ⟨_, hx, rfl⟩
  have f1 := sub_AttributeError; have f3 := F.slot_list_getattribute.lookup; have f4 := F.slot_list_getattribute.bind (.ref a); have f5 := am_list_getattr_none
  unfold getAttr? getAttrBy? getAttrBy
  repeat (any_goals (first | assumption | exact hT _ | ((with_reducible show wpAny _ _ (call (Value.builtin "list.__getattribute__") _ _) _ _ _); refine call_meets F.slot_list_getattribute (hT _) am_entry_list_getattribute (F.args_list_getattribute_2 _ _) (meets_getattribute_miss_list a xs k sl "keys" _ lk_list_keys (by decide +kernel) (by decide +kernel)) ⟨hx, hA, fun h' tk' e hx' => ?_⟩) | wp_step))
  obtain ⟨t', u', he⟩ := hx'.there; have kp := hx'.keeps
  show wpAny _ _ (getattributeRaised _ _ _ _ _ _ _) _ _ _; unfold getattributeRaised
  repeat (any_goals (first | assumption | wp_step))
  all_goals exact h _ _ fun b ob e => kp b ob e
end
theorem hu3 {k : Nat} {A : Around} (r : Room k A) : A.units + 3 < cLine := by have := hu64 r; omega
abbrev cDctP : RC := fun vs H Q => ∃ (a : Addr) (xs : List V) (rows : List Row), vs = [.ref a] ∧ H a = some (.lst xs) ∧ Paired (PrAt H) xs rows ∧ rows.length ≤ 1000 ∧ ∀ p, H p = none → Q (.ref p) (upd H p (.dT (dOf rows)))
section
variable {X : Cx}
theorem call_dict_pairs (hc : X.calm = true) (hu : X.A.units + 3 < cLine) : CallR X (.type "dict") cDctP := by
  intro pins s σ H vs us Q I r h
  obtain ⟨a, xs, rows, rfl, ha, hr, hl, q⟩ := h
  obtain ⟨u, rfl, ru⟩ := vals1 r
  cases ru
  have hh : X.A.handled = none := I.ok.hd hc
  refine callType_codes (Q₁ := fun obj s₁ => obj = .ref s.heap.objs.size ∧ s₁ = { s with heap := s.heap.push { cls := .type "dict", data := .dict #[] } }) F.kt_called_dict (F.kt_typeCall_dict_1 _) F.entry_dict_init (kt_code_dict_new _ ⟨rfl, rfl⟩) ?_; rintro obj s₁ ⟨rfl, rfl⟩
  have T0 : ({ s with heap := s.heap.push { cls := .type "dict", data := .dict #[] } } : Shared).TypeIs (.ref s.heap.objs.size) "dict" := ⟨_, Heap.get?_push_size _ rfl, rfl⟩
  refine ⟨T0, F.args_dict_init_2 _ _, ?_⟩; unfold Builtin.«dict.__init__»; refine wpAny_bind ?_; unfold Builtin.Dict.selfAndRest
  refine wpAny_bind (wpAny_notOrdered_dict T0 ?_); show wpAny _ _ (pure (s.heap.objs.size, [Value.ref a])) _ _ _; refine wpAny_pure ?_
  show wpAny _ _ (Builtin.Dict.updateFrom "dict.__init__" s.heap.objs.size (.ref a) [] .none) _ _ _; unfold Builtin.Dict.updateFrom
  have hn : H s.heap.objs.size = none := I.hok.fresh (Nat.le_refl _)
  have S : ∀ u : HO, Same H (upd H s.heap.objs.size u) := fun u => isV (o := u) _ hn
  have I1 : Inv X pins σ (upd H s.heap.objs.size (.dT [])) { s with heap := s.heap.push { cls := .type "dict", data := .dict #[] } } :=
    I.laid (a := s.heap.objs.size) (o := .dT []) (t' := s.toks) (fun b o z => Heap.get?_push_of_some _ z) (Nat.le_refl _) (dt_empty s.heap I.big)
  obtain ⟨its, rv, pl, _⟩ := I1.list (SqL.of (S _ _ _ ha))
  obtain ⟨o, n, ho, oc, od, odat⟩ := id pl
  have T1 : ({ s with heap := s.heap.push { cls := .type "dict", data := .dict #[] } } : Shared).TypeIs (.ref a) "list" := ⟨o, ho, oc⟩
  refine wpAny_bind (wpAny_typeOf T1 ?_); rw [if_pos (by decide)]
  refine wpAny_bind (keys_none_list ho oc odat od (by exact hh) fun h2 tk2 k2 => ?_); rw [if_pos (show (none : Option Value).isNone = true from rfl)]
  refine wpAny_bind (wpAny_rule ?_)
  have I2 : Inv X pins σ (upd H s.heap.objs.size (.dT [])) { s with heap := h2, toks := tk2 } := I1.kept k2
  obtain ⟨its2, rv2, pl2, _⟩ := I2.list (SqL.of (S _ _ _ ha))
  refine wpAny_bind (wpAny_pyIter_list pl2.isList ?_)
  have I3 : Inv X pins σ (upd H s.heap.objs.size (.dT (dOf (rows.take 0)))) { s with heap := h2.push { cls := .type "list_iterator", data := .fields #[.ref a, .int 0 0] }, toks := tk2 } := I2.kept (t' := tk2) fun b o e => Heap.get?_push_of_some _ e
  refine wpAny_pure ⟨plainId_quiet plain_dul _, ?_⟩
  have lt : s.heap.objs.size < h2.objs.size := Heap.lt_size (k2 s.heap.objs.size _ (Heap.get?_push_size _ rfl))
  have la : a < h2.objs.size := by obtain ⟨_, _, z, _⟩ := pl2; exact Heap.lt_size z
  refine dul_loop (A := X.A.in1) (H := H) (d := s.heap.objs.size) (it := h2.objs.size) (l := a) (xs := xs) (rows := rows) (res := .none) ?_ hh hn ha hr hl (Nat.ne_of_gt lt) (Nat.ne_of_lt la) rows.length 0 _ (by omega) (Nat.zero_le _) I3 ⟨_, Heap.get?_push_size _ rfl, rfl, rfl⟩ (fun u => ?_) fun s' I' => ⟨rfl, .ref s.heap.objs.size, _, I', rfl, q _ hn⟩
  · have e : X.A.in1.units = X.A.units + 1 := rfl
    omega
  · refine I2.fpOk (Nat.le_refl _) ?_
    rw [upd_ne (Nat.ne_of_gt lt)]
    have := I2.hok.fresh (Nat.le_refl h2.objs.size)
    rw [upd_ne (Nat.ne_of_gt lt)] at this
    exact this
end
end L2

namespace L2
open PySem PySem.Spec PyProof.Rows
/-! ### a method of an instance that may raise, within a try -/
section
variable {X : Cx} {k : Nat} {f C : Addr} {fd : FuncData} {ps : List Str} {sp : Sp} {m : Str} {pos apos : Pos} {e o : Expr} {es : List Expr} {ta : TE} {t : TA}
def tMethX (C : Addr) (m : Str) (sp : Sp) (ta : TE) (t : TA) (EX : EXK) : TE := fun σ H Q => ta σ H fun x H1 => ∃ a dx fs, x = .ref a ∧ H1 a = some (.ins C dx fs) ∧ fs.lookup m = none ∧
  t σ H1 fun vs H2 => sp (x :: (vs ++ [])) H2 Q fun cls _ H3 => EX cls σ H3
theorem pex_meth {pl : Sem Bool} (he : PE X.nox o ta) (c : Cls X.K C) (hm : Meth X.K C m f) (F : FnOk X.prog X.w X.K X.mg X.base (CX1 X.prog X.w) k f fd ps sp) (hr : Room k X.A) (hb : Binds X.K fd ps []) (ha : PA X.nox (e :: es) t)
    (hst : starEach (e :: es) X.env = (false, eval e X.env) :: starEach es X.env := by rfl) (hpl : (backTo pos (starEach es X.env)).any (·.1) = false := by rfl)
    (ht : eval (.Call (.Attribute o m apos) (e :: es) [] pos) X.env = (do
      let ov ← eval o X.env
      standAt apos.atName
      let (f, first) ← holding [ov] (getMethod ov m pl)
      callWith pos f first (backTo pos (starEach (e :: es) X.env)) (backToKw pos (keywordEach [] X.env))) := by rfl) :
    PEX X (.Call (.Attribute o m apos) (e :: es) [] pos) (tMethX C m sp ta t) := by
  intro pins s σ H Q EX I h
  refine PySem.W.methodCall_KW (pl := pl) (wpAny_mono (he pins s σ H _ (I.wish _) h) (fun u s1 ⟨x, H1, I1', rx, a, dx, fs, ex, ea, l, q⟩ => ?_) fun _ _ z => False.elim z) ht
  subst ex
  obtain rfl : u = Value.ref a := rx
  have I1 := I1'.unwish
  refine getmeth_ok I1 ea c hm l ?_
  refine PySem.W.callWith_K (first := [.ref a]) (h₀ := X.base) I.ok.mod.kin hm.kp (wpAny_mono (ha pos pins s1 σ H1 _ (I1.wish _) q) (fun us s2 ⟨vs, H2, I2', r, q2⟩ => ⟨I2'.kIn, ?_⟩) fun _ _ z => False.elim z) hst hpl
  have I2 := I2'.unwish
  have r2 : Vals (V.ref a :: (vs ++ [])) (Value.ref a :: (us ++ [])) := .cons rfl (r.append .nil)
  have hl : ((Value.ref a :: us) ++ []).length = ps.length := by
    have e := r2.length
    rw [F.len _ _ _ _ q2] at e
    exact e.symm
  refine wpAny_call (codeAny_mono (F.run X.A X.stack s2 H2 ⟨.ref a :: us, []⟩ ((.ref a :: us) ++ []) (.ref a :: (vs ++ [])) _ _ hr I2.env0 (hb s2 (.ref a :: us) I2.kIn hl) r2 q2) fun r s' hq => ?_)
  cases r with
  | error ev =>
    obtain ⟨e, cls, H', rfl, os, bare, un, hok, xf, hE⟩ := hq
    exact ⟨e, cls, σ, s2, H2, H', rfl, I2, I2.call' (ch := []) os un hok bare (fun b z => nomatch z), xf, hE⟩
  | ok fl =>
    cases fl with
    | ret u => exact I2.after hq
    | next => exact False.elim hq
    | brk => exact False.elim hq
    | cont => exact False.elim hq
end
/-! ### try, except C: .. except D: .., without names -/
def tTryN (K : PySem.W.Frag) (tb : EXK → TS) (C1 : Addr) (th1 : TS) : TS := fun D σ H => tb (fun cls σ1 H1 => ∃ C, cls = .ref C ∧ PySem.W.exmOne K (.ref C) (.ref C1) = some true ∧ th1 D σ1 H1) D σ H
def tTryNN (K : PySem.W.Frag) (tb : EXK → TS) (C1 : Addr) (th1 : TS) (C2 : Addr) (th2 : TS) : TS := fun D σ H => tb (fun cls σ1 H1 => ∃ C, cls = .ref C ∧
  ((PySem.W.exmOne K (.ref C) (.ref C1) = some true ∧ th1 D σ1 H1) ∨ (PySem.W.exmOne K (.ref C) (.ref C1) = some false ∧ PySem.W.exmOne K (.ref C) (.ref C2) = some true ∧ th2 D σ1 H1))) D σ H
section
variable {X : Cx} {st b₀ b₁ : Stmt} {suite suite1 : List Stmt} {tb : EXK → TS} {th1 th2 : TS} {c1 c2 : Str} {C1 C2 : Addr} {np hpos np2 hpos2 pos : Pos}
theorem ps_tryNN (hst : X.stack = X.env :: X.outer ∧ X.env.frame = some X.env.locals) (hex : X.ex = []) (hb : PSX X st tb) (hg1 : Gl X c1) (hm1 : X.mg c1 = some (.ref C1)) (hg2 : Gl X c2) (hm2 : X.mg c2 = some (.ref C2))
    (hs1 : ∀ e, PSs (X.sub e) (b₀ :: suite) th1) (hs2 : ∀ e, PSs (X.sub e) (b₁ :: suite1) th2) (hdb1 : (c1 == ("__debug__" : Str)) = false := by decide) (hdb2 : (c2 == ("__debug__" : Str)) = false := by decide) :
    PS X (.Try [st] [.ExceptHandler (some (.Name c1 np)) none (b₀ :: suite) hpos, .ExceptHandler (some (.Name c2 np2)) none (b₁ :: suite1) hpos2] [] [] pos) (tTryNN X.K tb C1 th1 C2 th2) := by
  intro pins s σ H D I h
  refine wpAny_Try_except (wpAny_execs_cons (wpAny_mono (hb pins s σ H D _ I h) (fun f s1 q => ?_) fun ev s1 q => ?_))
  · cases f with
    | next => exact wpAny_execs_nil (wpAny_execs_nil q)
    | ret v => exact q
    | brk => exact q
    | cont => exact q
  obtain ⟨e, cls, σ1, s0, H0, H1, rfl, I0, I1, xf, C, rfl, hth⟩ := q
  obtain ⟨oe, vs, a0, T, oT, ts, h1, h2, h3, h4, h5, h6, h7, h8, h9, h10, h11, h12⟩ := xf
  have fr : s1.heap.FunFrames (PySem.W.hideAll s1.heap (frs X.stack ++ [e, T])) (X.env :: X.outer) := by
    have q := PySem.W.funFrames_hide (as := frs X.stack ++ [e, T]) I1.stack fun env he a ha => List.mem_append_left _ (List.mem_filterMap.mpr ⟨env, he, ha⟩)
    rw [hst.1] at q ⊢
    exact q
  have two : ∀ b ∈ [e, T], s0.heap.get? b = none ∧ H1 b = none := fun b z => by
    have z' : b = e ∨ b = T := by simpa using z
    rcases z' with rfl | rfl
    · exact ⟨h9, h11⟩
    · exact ⟨h10, h12⟩
  have hcs : ∀ b ∈ [e, T], H1 b = none ∧ X.s₀.heap.get? b = none := fun b z => ⟨(two b z).2, none_back (I0.there0 hex) (two b z).1⟩
  have hcp : ∀ b ∈ [e, T], ∀ p ∈ X.pn ++ pins, p.1 ≠ b := fun b z p hp q => by
    have := (I0.pin p hp).1
    rw [q, (two b z).1] at this; cases this
  refine wpAny_looks_onW (base := PySem.W.hideAll s1.heap (frs X.stack ++ [e, T])) (a0 := a0) (cls := .ref C) (by rw [I1.ok.frames, hst.1]) hst.2
    ⟨fun b o q => PySem.W.of_hideAll _ q, PySem.W.hideAll_none _ (List.mem_append_right _ (by simp)), fr, oe, vs, T, oT, ts, h1, h2, h3, h4, PySem.W.hideAll_none _ (List.mem_append_right _ (by simp)), h5, h6, h7, h8⟩ fun g4 held4 sm4 => ?_
  refine wpAny_landsW held4 fun g5 fly5 sm5 => ?_
  have hB : ∀ {g : Heap}, (PySem.W.hideAll s1.heap (frs X.stack ++ [e, T])).StaysIn g → ∀ b o, s1.heap.get? b = some o → b ∉ frs X.stack → b ∉ [e, T] → g.get? b = some o :=
    fun {g} k b o q n1 n2 => k b o (PySem.W.hideAll_get _ q fun z => (List.mem_append.mp z).elim n1 n2)
  have I5 : Inv X pins σ1 H1 { s1 with heap := g5 } := I1.land hex hcs hcp (hB fly5.1) (sm4.trans sm5)
  have K5 := I5.kIn
  have ty5 : PySem.W.Looks (model X.prog X.w) g5 (typeOf (.ref e)) (.ref C) := by
    obtain ⟨o, p1, p2⟩ := fly5.there
    exact p2 ▸ (PySem.W.Looks.ld p1).andThen .now
  have run : ∀ {b₂ : Stmt} {su : List Stmt} {th : TS} {hp : Pos} {R : Result → Shared → Prop}, (∀ e, PSs (X.sub e) (b₂ :: su) th) → th D σ1 H1 → (∀ f s', SP X pins D f s' → R (.ok f) s') →
      codeAny (model X.prog X.w) (X.A.mark (some (.ref e))) (.handlers (.ref e) [.ExceptHandler none none (b₂ :: su) hp] X.env) R { s1 with heap := g5 } := fun {b₂ su th hp R} hs hth hR => by
    refine codeAny_handlers_suite (lands_againW fly5 fun g6 fly6 sm6 => ?_)
    have I6 : Inv X pins σ1 H1 { s1 with heap := g6 } := I1.land hex hcs hcp (hB fly6.1) ((sm4.trans sm5).trans sm6)
    refine wpAny_mono (hs e pins _ σ1 H1 D I6.toSub hth) (fun f s9 q => hR f s9 ?_) fun _ _ z => False.elim z
    cases f with
    | next => obtain ⟨σ9, H9, J, z⟩ := q; exact ⟨σ9, H9, Inv.ofSub (J := I) J, z⟩
    | brk => obtain ⟨σ9, H9, J, z⟩ := q; exact ⟨σ9, H9, Inv.ofSub (J := I) J, z⟩
    | cont => obtain ⟨σ9, H9, J, z⟩ := q; exact ⟨σ9, H9, Inv.ofSub (J := I) J, z⟩
    | ret u => obtain ⟨v, σ9, H9, J, r, z⟩ := q; exact ⟨v, σ9, H9, Inv.ofSub (J := I) J, r, z⟩
  refine wpAny_handleBy_cons (codeAny_handlers_test ?_) (by intro q; cases q)
  refine ld_glob (X := X.sub e) (I5.toSub (e := e)) hg1 hm1 ?_ hdb1
  rcases hth with ⟨hx, ht⟩ | ⟨hx, hx2, ht⟩
  · refine (PySem.W.exm_one K5 ty5 hx).here ?_
    exact run hs1 ht fun f s' q => q
  · refine (PySem.W.exm_one K5 ty5 hx).here ?_
    show wpAny _ _ (handleBy (.ref e) X.env _) _ _ _
    refine wpAny_handleBy_cons (codeAny_handlers_test ?_) (by intro q; cases q)
    refine ld_glob (X := X.sub e) (I5.toSub (e := e)) hg2 hm2 ?_ hdb2
    refine (PySem.W.exm_one K5 ty5 hx2).here ?_
    exact run hs2 ht fun f s' q => q
end
/-! ### a def that is called within an except suite -/
structure RoomH (k : Nat) (A : Around) : Prop where
  dp : A.depth + 3 * k + 5 < recursionLimit
  un : A.units + 16 * k + 200 < cLine
theorem roomH {k : Nat} {A : Around} {v : Option Value} (r : Room k A) : RoomH k (A.mark v) := ⟨r.dp, r.un⟩
theorem RoomH.deeper {k : Nat} {A : Around} (r : RoomH (k + 1) A) (env : Env) : RoomH k (A.deeper env) :=
  ⟨by have := r.dp; show A.depth + 1 + 3 * k + 5 < _; omega, by have := r.un; show A.units + 3 + 16 * k + 200 < _; omega⟩
theorem RoomH.mono {j k : Nat} {A : Around} (r : RoomH k A) (h : j ≤ k) : RoomH j A := ⟨by have := r.dp; omega, by have := r.un; omega⟩
structure FnOkH (P : Program) (w : World) (K : PySem.W.Frag) (mg : Str → Option Value) (base : Heap) (k : Nat) (f : Addr) (fd : FuncData) (ps : List Str) (sp : Sp) : Prop where
  len : ∀ vs H Q E, sp vs H Q E → vs.length = ps.length
  run : ∀ (A : Around) (outer : List Env) (s : Shared) (H : Hp) (args : Args) (us : List Value) (vs : List V) (Q : VK) (E : XK), RoomH k A → Env0 P w K mg base A outer s H → BindsTo s fd args (ps.zip us) → Vals vs us → sp vs H Q E →
    codeAny (model P w) A (.call (.ref f) args) (CR CX0 outer P w H s Q E) s
theorem FnOkH.toFn {P : Program} {w : World} {K : PySem.W.Frag} {mg : Str → Option Value} {base : Heap} {CX : CXT} {k : Nat} {f : Addr} {fd : FuncData} {ps : List Str} {sp : Sp} (F : FnOkH P w K mg base k f fd ps sp) : FnOk P w K mg base CX k f fd ps sp :=
  ⟨F.len, fun A outer s H args us vs Q E hr he hb hv hs => codeAny_mono (F.run A outer s H args us vs Q E ⟨hr.dp, hr.un⟩ he hb hv hs) fun r s' q => by
    cases r with
    | error e => exact False.elim q
    | ok fl => cases fl <;> exact q⟩
abbrev cxH (P : Program) (w : World) (K : PySem.W.Frag) (mg : Str → Option Value) (base : Heap) (N : List Str) (qual : Str) (scope : Scope) (f : Addr) (cd : Value) (A : Around) (outer : List Env) (s : Shared) (H : Hp) : Cx :=
  { cxOf CX0 P w K mg base N qual scope f cd A outer s H E0 with calm := false, xe := fun _ _ => False }
theorem fn_ofH {P : Program} {w : World} {K : PySem.W.Frag} {mg : Str → Option Value} {base : Heap} {k : Nat} {f : Addr} {name qual : Str} {params : Arguments} {body : List Stmt} {scope : Scope} {dV kV doc pm cdv ct oc : Value} {an od : Option Addr}
    {osl : Array (Option Value)} {N ps : List Str} {sp : Sp} (lk : K.lookup f = some ⟨oc, od, .func (PySem.W.fnOf name qual params body scope dV kV doc pm an cdv ct), osl⟩) (hcd : PySem.W.codeIn K cdv qual = true) (S : FnScope N ps scope)
    (len : ∀ vs H Q E, sp vs H Q E → vs.length = ps.length)
    (hbody : ∀ (A : Around) (outer : List Env) (s : Shared) (H : Hp) (vs : List V) (Q : VK) (E : XK), RoomH k (A.deeper (envOfC qual scope s.heap.objs.size f cdv)) → sp vs H Q E →
      ∃ t, PSs (cxH P w K mg base N qual scope f cdv A outer s H) body t ∧ t { nx := fun _ H' => Q .non H', rt := Q } (start N vs) H) :
    FnOkH P w K mg base (k + 1) f (PySem.W.fnOf name qual params body scope dV kV doc pm an cdv ct) ps sp := by
  refine ⟨len, fun A outer s H args us vs Q E hr e0 hb r hsp => ?_⟩
  have hl := len _ _ _ _ hsp
  have KX : K.In s.heap := e0.mod.kin.keeps fun b o e => (e0.bs b o e).1
  have lim : s.heap.NoLimit := e0.mod.nolimit.keeps fun b o e => (e0.bs b o e).1
  have hkind : ∀ y ∈ ps.zip us, scope.names.lookup y.1 = some .local ∨ (scope.names.lookup y.1 = some .cell ∧ ((cellsFrom (s.heap.objs.size + 1) scope.names []).lookup y.1).isSome = true) := fun ⟨n, v⟩ hy => by
    rcases S.par n (List.of_mem_zip hy).1 with q | q
    · exact .inl q
    · exact .inr ⟨q, PySem.W.cellsFrom_some _ _ _ (.inl q)⟩
  refine codeAny_call_function (by have := hr.dp; omega) (KX _ _ lk) rfl S.co S.gen rfl (PySem.W.codeRec_of KX hcd) (hb _ _ _ _ ?_)
  refine wpAny_newFunctionEnv_cells S.kind hkind fun env he s1 x => ?_
  subst he
  refine ⟨lim.keeps x.toInCall.keep, codeAny_func ?_⟩
  obtain ⟨t, ht, hq⟩ := hbody A outer s H vs Q E (hr.deeper _) hsp
  have e1 : Env0 P w K mg base { A with handled := none } outer s H := ⟨e0.frames, e0.mod, e0.bs, e0.bsz, e0.funs, e0.frf, e0.hok, e0.bare⟩
  have I0 : Inv (cxOf CX0 P w K mg base N qual scope f cdv { A with handled := none } outer s H E0) [] (start N vs) H s1 := inv_start S rfl e1 hl r x
  have I : Inv (cxH P w K mg base N qual scope f cdv A outer s H) [] (start N vs) H s1 :=
    ⟨⟨I0.ok.mod, I0.ok.kind, I0.ok.glob, I0.ok.blt, I0.ok.above, I0.ok.inj, I0.ok.has, I0.ok.cab, (fun z => nomatch z), Around.frames_deeper e0.frames, I0.ok.stk, I0.ok.exf, I0.ok.bs, I0.ok.bsz, I0.ok.noex, I0.ok.exfs, I0.ok.funs, I0.ok.frf⟩, I0.os, I0.bare, I0.base, I0.loc, I0.cell, I0.free, I0.freeC, I0.pin, I0.hok, I0.len⟩
  refine wpAny_mono (ht [] s1 (start N vs) H _ I hq) (fun fl s' hs => ?_) fun e s' hs => False.elim hs
  have fin : ∀ {σ' : St} {H' : Hp} {v : V} {u : Value}, Inv (cxH P w K mg base N qual scope f cdv A outer s H) [] σ' H' s' → RelV v u → Q v H' → CE outer P w H s Q u s' :=
    fun {σ' H' v u} J rv q => ⟨v, H', J.os, J.bare, J.base, J.hok, rv, q⟩
  cases fl with
  | ret u =>
    obtain ⟨v, σ', H', J, rv, q⟩ := hs
    exact fin J rv q
  | next =>
    obtain ⟨σ', H', J, q⟩ := hs
    exact fin (v := V.non) (u := Value.none) J rfl q
  | brk =>
    obtain ⟨_, _, _, q⟩ := hs
    exact False.elim q
  | cont =>
    obtain ⟨_, _, _, q⟩ := hs
    exact False.elim q
theorem Fun.okH {P : Program} {w : World} {K : PySem.W.Frag} {mg : Str → Option Value} {base : Heap} {x qual : Str} {st : Stmt} {f : Addr} {fd : FuncData} {N ps : List Str} {k : Nat} {sp : Sp} (F : Fun K x qual st f fd) (S : FnScope N ps (defScope st)) (len : ∀ vs H Q E, sp vs H Q E → vs.length = ps.length)
    (hbody : ∀ (cdv : Value) (A : Around) (outer : List Env) (s : Shared) (H : Hp) (vs : List V) (Q : VK) (E : XK), RoomH k (A.deeper (envOfC qual (defScope st) s.heap.objs.size f cdv)) → sp vs H Q E →
      ∃ t, PSs (cxH P w K mg base N qual (defScope st) f cdv A outer s H) (defBody st) t ∧ t { nx := fun _ H' => Q .non H', rt := Q } (start N vs) H) : FnOkH P w K mg base (k + 1) f fd ps sp := by
  obtain ⟨oc, od, kV, doc, pm, an, cdv, ct, osl, rfl, lk, hcd⟩ := F.ex
  exact fn_ofH lk hcd S len fun A outer s H vs Q E hr hsp => hbody cdv A outer s H vs Q E hr hsp
section
variable {X : Cx} {k : Nat} {f : Addr} {fd : FuncData} {ps : List Str} {sp : Sp} {x : Str} {p pos : Pos} {e : Expr} {es : List Expr} {t : TA}
theorem pe_callH (F : FnOkH X.prog X.w X.K X.mg X.base k f fd ps sp) (hr : RoomH k X.A) (hg : Gl X x) (hm : X.mg x = some (.ref f)) (hk : PySem.W.keepIn X.K (.ref f) = true) (hb : Binds X.K fd ps [])
    (ha : PA X (e :: es) t) (hdb : (x == ("__debug__" : Str)) = false := by decide) (he : starEach (e :: es) X.env = (false, eval e X.env) :: starEach es X.env := by rfl) (hpl : (backTo pos (starEach es X.env)).any (·.1) = false := by rfl) :
    PE X (.Call (.Name x p) (e :: es) [] pos) (tCall sp [] E0 t) := by
  intro pins s σ H Q I h
  refine wpAny_Call_Name_kw (ld_glob I hg hm ?_ hdb)
  refine PySem.W.callWith_K (h₀ := X.base) I.ok.mod.kin hk (thn (ha pos pins s σ H _ I h) fun us s1 ⟨vs, H1, I1, r, q⟩ => ⟨I1.kIn, ?_⟩) he hpl
  have r2 : Vals (vs ++ []) (us ++ []) := r.append .nil
  have hl : (us ++ []).length = ps.length := by rw [← r2.length]; exact F.len _ _ _ _ q
  refine wpAny_call (codeAny_mono (F.run X.A X.stack s1 H1 ⟨us, []⟩ (us ++ []) (vs ++ []) Q E0 hr I1.env0 (hb s1 us I1.kIn hl) r2 q) fun r s' hq => ?_)
  cases r with
  | error e => exact False.elim hq
  | ok fl =>
    cases fl with
    | ret u => exact I1.after hq
    | next => exact False.elim hq
    | brk => exact False.elim hq
    | cont => exact False.elim hq
end
end L2

namespace L2
open PySem
/-! ### dealings done: their rows, and what becomes of them -/
def rk (kvs : List (Key × V)) (ps : List V) : Except Er Int := match runE kvs ps [] with
  | .ok [i] => .ok i
  | .ok _ => .error .stuck
  | .error e => .error e
theorem Good.rk {kvs : List (Key × V)} {ps : List V} {r : Except Er Int} (h : Good kvs ps r) : L2.rk kvs ps = r := by
  unfold L2.rk
  rw [h.1 []]
  cases r <;> rfl
theorem step_inW {kvs : List (Key × V)} (hs : SlotsOk kvs) {v : V} (hv : okPart v) {st st' : List Int} (h : ∀ x ∈ st, inW x = true) (e : stepE kvs st v = .ok st') : ∀ x ∈ st', inW x = true := by
  unfold stepE at e
  split at e
  · split at e
    · rename_i w b a r hr hj
      unfold joinE at e
      by_cases c1 : isDiv w ∧ b = 0
      · rw [if_pos c1] at e; cases e
      · rw [if_neg c1] at e
        by_cases c2 : inW (comeV w a b) = true
        · rw [if_pos c2] at e
          cases e
          intro x hx
          rcases List.mem_append.mp hx with hx | hx
          · refine h x (List.mem_reverse.mp ?_)
            rw [hr]
            exact List.mem_cons_of_mem _ (List.mem_cons_of_mem _ (List.mem_reverse.mp hx))
          · rw [List.mem_singleton.mp hx]; exact c2
        · rw [if_neg c2] at e; cases e
    · cases e
  · cases e
    intro x hx
    rcases List.mem_append.mp hx with hx | hx
    · exact h x hx
    · rw [List.mem_singleton.mp hx]; exact wrth_inW hs hv
theorem run_inW {kvs : List (Key × V)} (hs : SlotsOk kvs) : ∀ {ps : List V} {st st' : List Int}, (∀ v ∈ ps, okPart v) → (∀ x ∈ st, inW x = true) → runE kvs ps st = .ok st' → ∀ x ∈ st', inW x = true
  | [], st, st', _, h, e => by cases e; exact h
  | v :: r, st, st', hp, h, e => by
    unfold runE at e
    split at e
    · rename_i st1 e1
      exact run_inW hs (fun v hv => hp v (List.mem_cons_of_mem _ hv)) (step_inW hs (hp v List.mem_cons_self) h e1) e
    · cases e
theorem rk_inW {kvs : List (Key × V)} (hs : SlotsOk kvs) {ps : List V} (hp : ∀ v ∈ ps, okPart v) {i : Int} (e : rk kvs ps = .ok i) : inW i = true := by
  unfold rk at e
  split at e
  · rename_i j hj
    cases e
    exact run_inW hs hp (fun _ z => absurd z List.not_mem_nil) hj i List.mem_cons_self
  · cases e
  · cases e
/-- a term that comes to something, whatever the slots hold -/
def TermOk (e : List V) : Prop := (∀ kvs, ∃ r, Good kvs e r) ∧ (∀ v ∈ e, okPart v) ∧ e.length ≤ 1000
theorem TermOk.good {e : List V} (h : TermOk e) (kvs : List (Key × V)) : Good kvs e (rk kvs e) := by
  obtain ⟨r, g⟩ := h.1 kvs
  rw [g.rk]; exact g
mutual
inductive Rw where
  | take (sh : Str) (e : List V) (sl : Str)
  | give (sh : Str) (e f : List V)
  | lt (sl : Str) (e : List V)
  | say (e : List V)
  | off (e : List V)
  | iff (e : List V) (a b : Rws)
inductive Rws where
  | nil
  | cons (r : Rw) (rs : Rws)
end
set_option genSizeOf false in
set_option genInjectivity false in
structure Sta where
  sl : List (Key × V)
  wo : List Row
  sa : List Int
inductive Res where
  | go (s : Sta)
  | off
  | er (e : Er)
mutual
def goR : Rw → Sta → Res
  | .take sh e sl, s => match rk s.sl e with
    | .ok n => .go { s with sl := putK s.sl (.inr sl) (.int ((lastW s.wo (sh, n)).getD 0)) }
    | .error x => .er x
  | .give sh e f, s => match rk s.sl e with
    | .ok n => (match rk s.sl f with
      | .ok w => .go { s with wo := s.wo ++ [((sh, n), w)] }
      | .error x => .er x)
    | .error x => .er x
  | .lt sl e, s => match rk s.sl e with
    | .ok n => .go { s with sl := putK s.sl (.inr sl) (.int n) }
    | .error x => .er x
  | .say e, s => match rk s.sl e with
    | .ok n => .go { s with sa := s.sa ++ [n] }
    | .error x => .er x
  | .off e, s => match rk s.sl e with
    | .ok n => if n = 0 then .go s else .off
    | .error x => .er x
  | .iff e a b, s => match rk s.sl e with
    | .ok n => if n = 0 then goRs b s else goRs a s
    | .error x => .er x
def goRs : Rws → Sta → Res
  | .nil, s => .go s
  | .cons r rs, s => match goR r s with
    | .go s' => goRs rs s'
    | x => x
end
mutual
/-- a row as it stands in the heap, all its things at addresses with F -/
def RwAt (F : Addr → Prop) (H : Hp) (v : V) : Rw → Prop
  | .take sh e sl => ∃ r te, v = .ref r ∧ F r ∧ F te ∧ H r = some (.tup [.str "take", .str sh, .ref te, .str sl]) ∧ H te = some (.tup e)
  | .give sh e f => ∃ r te tf, v = .ref r ∧ F r ∧ F te ∧ F tf ∧ H r = some (.tup [.str "give", .str sh, .ref te, .ref tf]) ∧ H te = some (.tup e) ∧ H tf = some (.tup f)
  | .lt sl e => ∃ r te, v = .ref r ∧ F r ∧ F te ∧ H r = some (.tup [.str "let", .str sl, .ref te]) ∧ H te = some (.tup e)
  | .say e => ∃ r te, v = .ref r ∧ F r ∧ F te ∧ H r = some (.tup [.str "say", .ref te]) ∧ H te = some (.tup e)
  | .off e => ∃ r te, v = .ref r ∧ F r ∧ F te ∧ H r = some (.tup [.str "off", .ref te]) ∧ H te = some (.tup e)
  | .iff e a b => ∃ r te la lb xs ys, v = .ref r ∧ F r ∧ F te ∧ F la ∧ F lb ∧ H r = some (.tup [.str "if", .ref te, .ref la, .ref lb]) ∧ H te = some (.tup e) ∧ H la = some (.lst xs) ∧ RwsAt F H xs a ∧ H lb = some (.lst ys) ∧ RwsAt F H ys b
def RwsAt (F : Addr → Prop) (H : Hp) (vs : List V) : Rws → Prop
  | .nil => vs = []
  | .cons r rs => ∃ v ws, vs = v :: ws ∧ RwAt F H v r ∧ RwsAt F H ws rs
end
mutual
theorem RwAt.to_ {F G : Addr → Prop} {H H' : Hp} (g : ∀ b o, F b → H b = some o → G b) (s : ∀ b o, F b → H b = some o → H' b = some o) : ∀ {v : V} (r : Rw), RwAt F H v r → RwAt G H' v r
  | v, .take sh e sl, h => by
    unfold RwAt at h ⊢
    obtain ⟨r, te, e1, f1, f2, e2, e3⟩ := h
    exact ⟨r, te, e1, g _ _ f1 e2, g _ _ f2 e3, s _ _ f1 e2, s _ _ f2 e3⟩
  | v, .give sh e f, h => by
    unfold RwAt at h ⊢
    obtain ⟨r, te, tf, e1, f1, f2, f3, e2, e3, e4⟩ := h
    exact ⟨r, te, tf, e1, g _ _ f1 e2, g _ _ f2 e3, g _ _ f3 e4, s _ _ f1 e2, s _ _ f2 e3, s _ _ f3 e4⟩
  | v, .lt sl e, h => by
    unfold RwAt at h ⊢
    obtain ⟨r, te, e1, f1, f2, e2, e3⟩ := h
    exact ⟨r, te, e1, g _ _ f1 e2, g _ _ f2 e3, s _ _ f1 e2, s _ _ f2 e3⟩
  | v, .say e, h => by
    unfold RwAt at h ⊢
    obtain ⟨r, te, e1, f1, f2, e2, e3⟩ := h
    exact ⟨r, te, e1, g _ _ f1 e2, g _ _ f2 e3, s _ _ f1 e2, s _ _ f2 e3⟩
  | v, .off e, h => by
    unfold RwAt at h ⊢
    obtain ⟨r, te, e1, f1, f2, e2, e3⟩ := h
    exact ⟨r, te, e1, g _ _ f1 e2, g _ _ f2 e3, s _ _ f1 e2, s _ _ f2 e3⟩
  | v, .iff e a b, h => by
    unfold RwAt at h ⊢
    obtain ⟨r, te, la, lb, xs, ys, e1, f1, f2, f3, f4, e2, e3, e4, e5, e6, e7⟩ := h
    exact ⟨r, te, la, lb, xs, ys, e1, g _ _ f1 e2, g _ _ f2 e3, g _ _ f3 e4, g _ _ f4 e6, s _ _ f1 e2, s _ _ f2 e3, s _ _ f3 e4, RwsAt.to_ g s a e5, s _ _ f4 e6, RwsAt.to_ g s b e7⟩
theorem RwsAt.to_ {F G : Addr → Prop} {H H' : Hp} (g : ∀ b o, F b → H b = some o → G b) (s : ∀ b o, F b → H b = some o → H' b = some o) : ∀ {vs : List V} (r : Rws), RwsAt F H vs r → RwsAt G H' vs r
  | vs, .nil, h => by
    unfold RwsAt at h ⊢
    exact h
  | vs, .cons r rs, h => by
    unfold RwsAt at h ⊢
    obtain ⟨v, ws, e1, e2, e3⟩ := h
    exact ⟨v, ws, e1, RwAt.to_ g s r e2, RwsAt.to_ g s rs e3⟩
end
theorem RwAt.to {F G : Addr → Prop} {H H' : Hp} {v : V} (r : Rw) (g : ∀ b o, F b → H b = some o → G b) (s : ∀ b o, F b → H b = some o → H' b = some o) (h : RwAt F H v r) : RwAt G H' v r := RwAt.to_ g s r h
theorem RwsAt.to {F G : Addr → Prop} {H H' : Hp} {vs : List V} (r : Rws) (g : ∀ b o, F b → H b = some o → G b) (s : ∀ b o, F b → H b = some o → H' b = some o) (h : RwsAt F H vs r) : RwsAt G H' vs r := RwsAt.to_ g s r h
theorem RwAt.mono {F : Addr → Prop} {H H' : Hp} (s : Same H H') {v : V} {r : Rw} (h : RwAt F H v r) : RwAt F H' v r := h.to r (fun _ _ f _ => f) (fun b o _ e => s b o e)
theorem RwsAt.mono {F : Addr → Prop} {H H' : Hp} (s : Same H H') {vs : List V} {r : Rws} (h : RwsAt F H vs r) : RwsAt F H' vs r := h.to r (fun _ _ f _ => f) (fun b o _ e => s b o e)
/-- a list of rows -/
def RlAt (F : Addr → Prop) (H : Hp) (v : V) (r : Rws) : Prop := ∃ a xs, v = .ref a ∧ F a ∧ H a = some (.lst xs) ∧ RwsAt F H xs r
theorem RlAt.to {F G : Addr → Prop} {H H' : Hp} (g : ∀ b o, F b → H b = some o → G b) (s : ∀ b o, F b → H b = some o → H' b = some o) {v : V} {r : Rws} (h : RlAt F H v r) : RlAt G H' v r := by
  obtain ⟨a, xs, e, f, e1, e2⟩ := h
  exact ⟨a, xs, e, g _ _ f e1, s _ _ f e1, RwsAt.to r g s e2⟩
theorem RlAt.mono {F : Addr → Prop} {H H' : Hp} (s : Same H H') {v : V} {r : Rws} (h : RlAt F H v r) : RlAt F H' v r := h.to (fun _ _ f _ => f) fun b o _ e => s b o e
abbrev anyA : Addr → Prop := fun _ => True
mutual
def RwOk : Rw → Prop
  | .take _ e _ => TermOk e
  | .give _ e f => TermOk e ∧ TermOk f
  | .lt _ e => TermOk e
  | .say e => TermOk e
  | .off e => TermOk e
  | .iff e a b => TermOk e ∧ RwsOk a ∧ RwsOk b
def RwsOk : Rws → Prop
  | .nil => True
  | .cons r rs => RwOk r ∧ RwsOk rs
end
mutual
def Rw.deep : Rw → Nat
  | .iff _ a b => max a.deep b.deep + 1
  | _ => 0
def Rws.deep : Rws → Nat
  | .nil => 0
  | .cons r rs => max r.deep rs.deep
end
mutual
def Rw.cnt : Rw → Nat
  | .iff _ a b => max a.cnt b.cnt + 1
  | _ => 1
def Rws.cnt : Rws → Nat
  | .nil => 0
  | .cons r rs => r.cnt + rs.cnt
end
end L2

namespace L2
open PySem
/-! ### walking a dict's pairs, whatever the keys are -/
abbrev ItA (h : Heap) (it d : Addr) (i n ep : Nat) (o0 : Value) (f : Bool) (ok ov : Value) : Prop :=
  h.get? it = some { cls := .type "dict_itemiterator", dict := none, data := .fields #[o0, .bool f, .ref d, .int i 0, .int n 0, .int ep 0, ok, ov], slots := #[] }
section
variable {P : Program} {w : World} {A : Around} {E : Value → Shared → Prop} {s : Shared}
theorem rit_iter {v d : Addr} {es : Array DictEntry} {ep : Nat} {Q : Value → Shared → Prop} (hv : s.heap.IsItemsView v d) (hm : RawD s.heap d es ep)
    (q : Q (.ref s.heap.objs.size) { s with heap := s.heap.push { cls := .type "dict_itemiterator", data := .fields #[.none, .bool false, .ref d, .int 0 0, .int es.size 0, .int ep 0, .none, .none] } }) : wpAny (model P w) A (pyIter (.ref v)) Q E s := by
  obtain ⟨ov, hov, hcv, hdv⟩ := id hv; obtain ⟨o, ho, hc, hdat⟩ := id hm
  refine wpAny_pyIter_slot hv.typeIs F.slot_dict_items_iter (wpAny_call_entry F.slot_dict_items_iter hv.typeIs F.entry_dict_items_iter ?_ (F.args_dict_items_iter_1 _)); unfold Builtin.«dict_items.__iter__»
  refine wpAny_bind (wpAny_pure ?_); refine wpAny_bind ?_; unfold Builtin.Dict_items.dictOf
  refine wpAny_bind (wpAny_field hov hdv (x := .ref d) rfl (wpAny_pure ?_)); refine wpAny_bind ?_; unfold Builtin.Dict_items.newIterator
  refine wpAny_bind (wpAny_dictEntries ho hdat ?_); refine wpAny_bind (wpAny_dictEpoch ho hdat ?_)
  have own : Builtin.Dict_items.ownsTuple "dict_itemiterator" = true := by decide
  simp only [own, if_true]; refine wpAny_newObj_type (wpAny_pure ⟨_, rfl, "dict_itemiterator", _, ⟨_, Heap.get?_push_size _ rfl, rfl⟩, F.slot_dict_itemiterator_next.lookup, ?_⟩) (by simp only [sizeOk, Builtin.Dict_items.ownedTupleFields, List.size_toArray, List.length_append, List.length_cons, List.length_nil, sizeLine_eq]; omega)
  simpa [rawInt, Builtin.Dict_items.ownedTupleFields] using q
/-- the tuple of a pair, first or later -/
theorem rit_next {it d : Addr} {i ep : Nat} {es : Array DictEntry} {e : DictEntry} {o0 ok ov : Value} {f : Bool} {Q : Option Value → Shared → Prop} (hit : ItA s.heap it d i es.size ep o0 f ok ov) (hm : RawD s.heap d es ep) (hx : es[i]? = some e)
    (ho0 : (o0 = .none ∧ f = false) ∨ ∃ (a : Addr) (oa : Obj), o0 = rawInt (a : Nat) ∧ s.heap.get? a = some oa ∧ a ≠ it)
    (q : ∀ h' o1 f1 k1 v1, ItA h' it d (i + 1) es.size ep o1 f1 k1 v1 → ((o1 = .none ∧ f1 = false) ∨ ∃ (a : Addr) (oa : Obj), o1 = rawInt (a : Nat) ∧ h'.get? a = some oa ∧ a ≠ it) → h'.get? s.heap.objs.size = some { cls := .type "tuple", data := .seq #[e.key, e.val] } → h'.objs.size = s.heap.objs.size + 1 →
      (∀ b o, b ≠ it → s.heap.get? b = some o → h'.get? b = some o) → (∀ a : Addr, o1 = rawInt (a : Nat) → a = s.heap.objs.size ∨ o0 = rawInt (a : Nat)) → Q (some (.ref s.heap.objs.size)) { s with heap := h' }) : wpAny (model P w) A (pyNext (.ref it)) Q E s := by
  obtain ⟨hp, g, dr, tk, os⟩ := s; obtain ⟨od, hod, hcd, hdd⟩ := id hm
  have T : Shared.TypeIs ⟨hp, g, dr, tk, os⟩ (.ref it) "dict_itemiterator" := ⟨_, hit, rfl⟩
  unfold pyNext; refine wpAny_bind (wpAny_attempt (wpAny_callSpecial?_slot (name := Str.ofString "__next__") T F.slot_dict_itemiterator_next (wpAny_call_entry F.slot_dict_itemiterator_next T F.entry_dict_itemiterator_next ?_ (F.args_dict_itemiterator_next_1 _))))
  refine wpAny_bind (wpAny_pure ?_); refine wpAny_bind ?_; refine wpAny_bind ?_
  first | (refine wpAny_bind (wpAny_typeNameOfWhole_itemiter T (wpAny_pure ?_))) | (refine wpAny_bind (wpAny_typeNameOf_itemiter T (wpAny_pure ?_)))
  refine wpAny_bind (wpAny_fieldsOf hit rfl ?_); have own : Builtin.Dict_items.ownsTuple "dict_itemiterator" = true := by decide
  simp only [own, if_true]; show wpAny _ _ (if (Value.ref d == Value.none) = true then _ else _) _ _ _
  rw [if_neg (show ¬ ((Value.ref d == Value.none) = true) from Bool.false_ne_true)]; refine wpAny_bind (wpAny_pure ?_); refine wpAny_bind (wpAny_dictEntries hod hdd ?_)
  rw [if_neg (by simp)]; refine wpAny_bind (wpAny_pure ?_); refine wpAny_bind (wpAny_dictEpoch hod hdd ?_); rw [if_neg (by simp)]; refine wpAny_pure ?_
  simp only [show ¬ ((i : Int) < 0) from by omega, if_false, Int.toNat_natCast, hx]; refine wpAny_bind ?_
  first | (refine wpAny_bind (wpAny_typeNameOfWhole_itemiter T (wpAny_pure ?_))) | (refine wpAny_bind (wpAny_typeNameOf_itemiter T (wpAny_pure ?_)))
  refine wpAny_bind (wpAny_isOneOf_itemiter T ?_); show wpAny _ _ (setField (.ref it) 3 (rawInt ((i : Int) + 1)) >>= _) _ _ ⟨hp, g, dr, tk, os⟩
  refine wpAny_bind (wpAny_setField_rec hit (by simp) fun h₁ e1 s1 => ?_)
  replace s1 : Heap.SameBut it hp h₁ := s1
  replace e1 : ItA h₁ it d (i + 1) es.size ep o0 f ok ov := by
    have z : ((i + 1 : Nat) : Int) = (i : Int) + 1 := by omega
    unfold ItA; rw [z]; simpa [rawInt] using e1
  have T1 : Shared.TypeIs ⟨h₁, g, dr, tk, os⟩ (.ref it) "dict_itemiterator" := ⟨_, e1, rfl⟩
  refine wpAny_bind (wpAny_holding ?_); refine wpAny_bind (wpAny_isOneOf_itemiter T1 ?_); refine wpAny_bind (wpAny_isOneOf_itemiter T1 ?_)
  show wpAny _ _ (Builtin.Dict_items.pairFromOwner (.ref it) 6 e.key e.val) _ _ ⟨h₁, g, dr, tk, os⟩
  unfold Builtin.Dict_items.pairFromOwner; refine wpAny_bind (wpAny_newTuple ?_)
  have e2 : ItA (h₁.push { cls := .type "tuple", data := .seq #[e.key, e.val] }) it d (i + 1) es.size ep o0 f ok ov := Heap.get?_push_of_some _ e1
  generalize hg : h₁.push { cls := .type "tuple", data := .seq #[e.key, e.val] } = h₂ at e2
  have z1 : h₁.objs.size = hp.objs.size := s1.1; have il : it < hp.objs.size := Heap.lt_size hit
  have t2 : h₂.get? hp.objs.size = some { cls := .type "tuple", data := .seq #[e.key, e.val] } := by rw [← hg, ← z1]; exact Heap.get?_push_size _ rfl
  have z2 : h₂.objs.size = hp.objs.size + 1 := by rw [← hg, Heap.size_push, z1]
  have k2 : ∀ b o, b ≠ it → hp.get? b = some o → h₂.get? b = some o := fun b o hb z => by rw [← hg]; exact Heap.get?_push_of_some _ (s1.extBut b o hb z)
  show wpAny _ _ (Builtin.Dict_items.ownedTupleIsFree (.ref it) >>= _) _ _ ⟨h₂, g, dr, tk, os⟩; rw [z1]
  clear hg e1 s1 T1 z1 h₁; refine wpAny_bind ?_; unfold Builtin.Dict_items.ownedTupleIsFree
  rcases ho0 with ⟨rfl, rfl⟩ | ⟨a, oa, rfl, ha, hai⟩
  · refine wpAny_bind (wpAny_field e2 rfl (x := .none) rfl (wpAny_pure ?_)); simp only [if_true]
    refine wpAny_bind (wpAny_field e2 rfl (x := ok) rfl ?_); refine wpAny_bind (wpAny_field e2 rfl (x := ov) rfl ?_)
    refine wpAny_bind (wpAny_setField_rec e2 (by simp) fun h₃ e3 s3 => ?_); replace s3 : Heap.SameBut it h₂ h₃ := s3; replace e3 : ItA h₃ it d (i + 1) es.size ep .none false e.key ov := e3
    refine wpAny_bind (wpAny_setField_rec e3 (by simp) fun h₄ e4 s4 => ?_); replace s4 : Heap.SameBut it h₃ h₄ := s4; replace e4 : ItA h₄ it d (i + 1) es.size ep .none false e.key e.val := e4
    refine wpAny_bind (wpAny_setField_rec e4 (by simp) fun h₅ e5 s5 => ?_); replace s5 : Heap.SameBut it h₄ h₅ := s5; replace e5 : ItA h₅ it d (i + 1) es.size ep (rawInt (hp.objs.size : Nat)) false e.key e.val := e5
    refine wpAny_bind (wpAny_setField_rec e5 (by simp) fun h₆ e6 s6 => ?_); replace s6 : Heap.SameBut it h₅ h₆ := s6; replace e6 : ItA h₆ it d (i + 1) es.size ep (rawInt (hp.objs.size : Nat)) false e.key e.val := e6
    have k6 : ∀ b o, b ≠ it → h₂.get? b = some o → h₆.get? b = some o := fun b o hb z => s6.extBut b o hb (s5.extBut b o hb (s4.extBut b o hb (s3.extBut b o hb z)))
    have t6 := k6 _ _ (Nat.ne_of_gt il) t2
    refine wpAny_bind (wpAny_letGo (wpAny_pure (wpAny_pure ⟨_, rfl, wpAny_pure (q h₆ _ _ _ _ e6 (.inr ⟨_, _, rfl, t6, Nat.ne_of_gt il⟩) t6 ?_ (fun b o hb z => k6 b o hb (k2 b o hb z)) fun a z => ?_)⟩)))
    · show h₆.objs.size = hp.objs.size + 1; rw [s6.1, s5.1, s4.1, s3.1, z2]
    · refine .inl ?_
      have z' : (Value.int (hp.objs.size : Nat) 0 : Value) = Value.int (a : Nat) 0 := z
      have z'' : ((hp.objs.size : Nat) : Int) = ((a : Nat) : Int) := by injection z'
      exact (Int.ofNat.inj z'').symm
  · refine wpAny_bind (wpAny_field e2 rfl (x := rawInt (a : Nat)) rfl ?_); show wpAny _ _ (loadIfAlive (((a : Nat) : Int).toNat) >>= _) _ _ _; rw [Int.toNat_natCast]
    have a2 : h₂.get? a = some oa := k2 a oa hai ha
    refine wpAny_bind (PySem.W.kdx_alive a2 ?_); simp only [Option.isNone_some, Bool.false_eq_true, if_false]; refine wpAny_bind (wpAny_field e2 rfl (x := .bool f) rfl ?_)
    cases f with
    | true =>
      rw [if_neg (show ¬ ((Value.bool true != Value.bool true) = true) from Bool.false_ne_true)]; refine wpAny_pure ?_; simp only [Bool.false_eq_true, if_false]
      exact wpAny_pure (wpAny_pure ⟨_, rfl, wpAny_pure (q h₂ _ _ _ _ e2 (.inr ⟨_, _, rfl, a2, hai⟩) t2 z2 k2 fun a z => .inr z)⟩)
    | false =>
      rw [if_pos (show (Value.bool false != Value.bool true) = true from rfl)]; refine wpAny_bind (wpAny_setField_rec e2 (by simp) fun h₃ e3 s3 => ?_)
      replace s3 : Heap.SameBut it h₂ h₃ := s3; replace e3 : ItA h₃ it d (i + 1) es.size ep (rawInt (a : Nat)) true ok ov := e3
      refine wpAny_pure ?_; simp only [Bool.false_eq_true, if_false]
      exact wpAny_pure (wpAny_pure ⟨_, rfl, wpAny_pure (q h₃ _ _ _ _ e3 (.inr ⟨_, _, rfl, s3.extBut _ _ hai a2, hai⟩) (s3.extBut _ _ (Nat.ne_of_gt il) t2) (by show h₃.objs.size = _; rw [s3.1, z2]) (fun b o hb z => s3.extBut b o hb (k2 b o hb z)) fun a z => .inr z)⟩)
theorem rit_end {it d : Addr} {i ep : Nat} {es : Array DictEntry} {o0 ok ov : Value} {f : Bool} {Q : Option Value → Shared → Prop} (hh : A.handled = none) (hit : ItA s.heap it d i es.size ep o0 f ok ov) (hm : RawD s.heap d es ep) (hx : es.size ≤ i)
    (q : ∀ h', Heap.ExtBut it s.heap h' → Q none { s with heap := h' }) : wpAny (model P w) A (pyNext (.ref it)) Q E s := by
  obtain ⟨od, hod, hcd, hdd⟩ := id hm; have T : s.TypeIs (.ref it) "dict_itemiterator" := ⟨_, hit, rfl⟩
  unfold pyNext; refine wpAny_bind (wpAny_attempt (wpAny_callSpecial?_slot (name := Str.ofString "__next__") T F.slot_dict_itemiterator_next (wpAny_call_entry F.slot_dict_itemiterator_next T F.entry_dict_itemiterator_next ?_ (F.args_dict_itemiterator_next_1 _))))
  refine wpAny_bind (wpAny_pure ?_); refine wpAny_bind ?_; refine wpAny_bind ?_
  first | (refine wpAny_bind (wpAny_typeNameOfWhole_itemiter T (wpAny_pure ?_))) | (refine wpAny_bind (wpAny_typeNameOf_itemiter T (wpAny_pure ?_)))
  refine wpAny_bind (wpAny_fieldsOf hit rfl ?_); have own : Builtin.Dict_items.ownsTuple "dict_itemiterator" = true := by decide
  simp only [own, if_true]; show wpAny _ _ (if (Value.ref d == Value.none) = true then _ else _) _ _ s
  rw [if_neg (show ¬ ((Value.ref d == Value.none) = true) from Bool.false_ne_true)]; refine wpAny_bind (wpAny_pure ?_); refine wpAny_bind (wpAny_dictEntries hod hdd ?_)
  rw [if_neg (by simp)]; refine wpAny_bind (wpAny_pure ?_); refine wpAny_bind (wpAny_dictEpoch hod hdd ?_); rw [if_neg (by simp)]; refine wpAny_pure ?_
  simp only [show ¬ ((i : Int) < 0) from by omega, if_false, Int.toNat_natCast, Array.getElem?_eq_none hx]; refine wpAny_bind ?_
  first | (refine wpAny_bind (wpAny_typeNameOfWhole_itemiter T (wpAny_pure ?_))) | (refine wpAny_bind (wpAny_typeNameOf_itemiter T (wpAny_pure ?_)))
  show wpAny _ _ (setField (.ref it) 2 .none >>= _) _ _ s; refine wpAny_bind (wpAny_setField hit rfl (by simp) ?_)
  show wpAny _ _ (newExc (.type "StopIteration") [] >>= _) _ _ _; refine wpAny_bind ?_; simp only [newExc, newTuple]; refine wpAny_bind (wpAny_newObj_type ?_ (by size_fits))
  refine wpAny_bind (m := firstArgMember _ _) (wpAny_of_eq (a := Value.none) (by first | rfl | (simp only [firstArgMember]; rfl)) ?_); refine wpAny_newObj_type ?_ (by size_fits)
  simp only [raiseNew]; refine wpAny_bind (wpAny_handled ?_); rw [show A.in1.handled = none from hh]; refine wpAny_bind (wpAny_pure (wpAny_throw ?_))
  refine wpAny_bind (wpAny_isInstance (T := "StopIteration") (b := true) ⟨_, Heap.get?_push_size _ rfl, rfl⟩ isSubtype_stop ?_); exact wpAny_pure (q _ (((Heap.SameBut.update ..).extBut.push _).push _))
end
end L2

namespace L2
open PySem PySem.Spec PyProof.Rows
/-! ### d.items(), and list of it -/
def viewO (r d : Addr) : HO := .ext fun h => h.IsItemsView r d
def tItems (td : TE) : TE := fun σ H Q => td σ H fun x H1 => ∃ d kvs, x = .ref d ∧ H1 d = some (.dT kvs) ∧ ∀ r, H1 r = none → Q (.ref r) (upd H1 r (viewO r d))
section
variable {X : Cx} {o : Expr} {apos cpos : Pos} {td : TE}
theorem pe_items (ho : PE X o td) (hbase : attributeBase o "items" X.env (eval o X.env) = eval o X.env := by rfl) (hline : (apos.endLine == cpos.line) = true := by rfl) : PE X (.Call (.Attribute o "items" apos) [] [] cpos) (tItems td) := by
  intro pins s σ H Q I h
  refine wpAny_Call_method0_late hbase hline (thn (ho pins s σ H _ I h) fun v s1 ⟨x, H1, I1, r1, d, kvs, ex, hd, q1⟩ => ?_)
  subst ex
  obtain rfl : v = Value.ref d := r1
  obtain ⟨t1, t2, t3⟩ := isD_at I1 (.inr ⟨kvs, .inl hd⟩)
  refine ⟨"dict", "dict.items", PySem.F.plainAttrs_dict, PySem.F.slot_dict_items, PySem.F.type_dict_items, t1, t2, Calls.callWith_builtin rfl (PySem.evalArgs_none ?_)⟩
  refine wpAny_call_entry PySem.F.slot_dict_items t1 PySem.F.entry_dict_items ?_ (PySem.F.args_dict_items_1 _)
  unfold Builtin.«dict.items»; refine wpAny_bind ?_; unfold Builtin.Dict.noArgs; refine wpAny_bind (wpAny_notOrdered_dict t1 ?_)
  show wpAny _ _ (pure d) _ _ s1; refine wpAny_pure ?_
  show wpAny _ _ (Builtin.Dict.showsAll d >>= _) _ _ s1; unfold Builtin.Dict.showsAll
  rw [if_neg (by rw [t3]; exact Bool.false_ne_true)]; refine wpAny_bind (wpAny_pure ?_)
  refine wpAny_bind (wpAny_newObj_type (wpAny_pure ⟨_, rfl, ?_⟩))
  have hn : H1 s1.heap.objs.size = none := I1.hok.fresh (Nat.le_refl _)
  have at0 : (s1.heap.push { cls := .type "dict_items", data := .fields #[.ref d] }).get? s1.heap.objs.size = some { cls := .type "dict_items", data := .fields #[.ref d] } := Heap.get?_push_size _ rfl
  refine ⟨.ref s1.heap.objs.size, _, I1.laid (a := s1.heap.objs.size) (o := viewO s1.heap.objs.size d) (t' := s1.toks) (fun b u e => Heap.get?_push_of_some _ e) (Nat.le_refl _) ?_, rfl, q1 _ hn⟩
  exact ⟨⟨_, at0, rfl, rfl⟩, ⟨_, at0⟩, fun h1 h2 ⟨o, e1, e2⟩ k => ⟨o, k o e1, e2⟩⟩
end
/-- a pair of the list that is made -/
def KvAt (H : Hp) (v : V) (kv : List Key × V) : Prop := ∃ r p, v = .ref r ∧ H r = some (.tup [.ref p, kv.2]) ∧ H p = some (.tup (kv.1.map kV))
theorem kvs_mono {H H' : Hp} (s : ∀ b ys, H b = some (.tup ys) → H' b = some (.tup ys)) : ∀ {vs : List V} {kvs : List (List Key × V)}, Paired (KvAt H) vs kvs → Paired (KvAt H') vs kvs
  | _, _, .nil => .nil
  | _, _, .cons ⟨r, p, e, h1, h2⟩ t => .cons ⟨r, p, e, s _ _ h1, s _ _ h2⟩ (kvs_mono s t)
theorem kvs_snoc {H : Hp} {v : V} {q : List Key × V} : ∀ {ys : List V} {kvs : List (List Key × V)}, Paired (KvAt H) ys kvs → KvAt H v q → Paired (KvAt H) (ys ++ [v]) (kvs ++ [q])
  | _, _, .nil, h => .cons h .nil
  | _, _, .cons a r, h => .cons a (kvs_snoc r h)
section
variable {X : Cx} {A : Around} {R : Result → Shared → Prop}
theorem itl_loop {pins : List (Addr × Obj)} {σ : St} {H : Hp} {S it d : Addr} {kvs : List (List Key × V)} {es : Array DictEntry} {ep : Nat} {res : Value} (hh : A.handled = none) (hS : H S = none) (hd : H d = some (.dT kvs)) (Sit : S ≠ it) (dit : d ≠ it) (hz : kvs.length ≤ 1000)
    (hes : es.size = kvs.length) (hen : ∀ (i : Nat) (e : DictEntry) (kv : List Key × V), es[i]? = some e → kvs[i]? = some kv → ∃ p, e.key = .ref p ∧ H p = some (.tup (kv.1.map kV)) ∧ RelV kv.2 e.val) (fin : ∀ s' H' ys, Inv X pins σ H' s' → Same H H' → H' S = some (.lst ys) → Paired (KvAt H') ys kvs → R (.ok (.ret res)) s') :
    ∀ (k i : Nat) (s : Shared) (Hi : Hp) (ys : List V) (o0 ok ov : Value) (f : Bool), kvs.length - i = k → i ≤ kvs.length → Inv X pins σ Hi s → Same H Hi → Hi S = some (.lst ys) → Paired (KvAt Hi) ys (kvs.take i) → RawD s.heap d es ep → ItA s.heap it d i es.size ep o0 f ok ov →
    ((o0 = .none ∧ f = false) ∨ ∃ (a : Addr) (oa : Obj), o0 = rawInt (a : Nat) ∧ s.heap.get? a = some oa ∧ a ≠ it ∧ a ≠ S) → FpOk X pins Hi it →
    codeAny (model X.prog X.w) A (.builtin "list.extend.loop" ⟨[.ref S, .ref it, res], []⟩) R s := by
  intro k
  induction k with
  | zero =>
    intro i s Hi ys o0 ok ov f hk hi I sm hy pr rd hit ho0 hf
    have e : i = kvs.length := by omega
    subst e
    refine codeAny_builtin PySem.F.entry_extend_loop ?_; rw [Around.under_plainId PySem.F.plain_extend_loop _]
    show wpAny _ A.in1 (pyNext (.ref it) >>= _) _ _ s
    obtain ⟨f0, f1, f2, f3, f4, f5⟩ := hf
    refine wpAny_bind (rit_end (A := A.in1) hh hit rd (by omega) fun h' eb => ?_)
    have I1 := I.turned (t' := s.toks) (fun b o hb e => eb b o hb e) f0 f1 f3 f4 f5
    rw [List.take_length] at pr
    exact wpAny_pure (fin _ Hi ys I1 sm hy pr)
  | succ k ih =>
    intro i s Hi ys o0 ok ov f hk hi I sm hy pr rd hit ho0 hf
    have hlt : i < kvs.length := by omega
    have hx : es[i]? = some es[i] := Array.getElem?_eq_getElem (by omega)
    have hkv : kvs[i]? = some kvs[i] := List.getElem?_eq_getElem hlt
    obtain ⟨p, ek, hp, rv⟩ := hen i _ _ hx hkv
    refine codeAny_builtin PySem.F.entry_extend_loop ?_; rw [Around.under_plainId PySem.F.plain_extend_loop _]
    show wpAny _ A.in1 (pyNext (.ref it) >>= _) _ _ s
    obtain ⟨f0, f1, f2, f3, f4, f5⟩ := id hf
    have ho0' : (o0 = .none ∧ f = false) ∨ ∃ (a : Addr) (oa : Obj), o0 = rawInt (a : Nat) ∧ s.heap.get? a = some oa ∧ a ≠ it := by
      rcases ho0 with z | ⟨a, oa, z1, z2, z3, _⟩
      · exact .inl z
      · exact .inr ⟨a, oa, z1, z2, z3⟩
    refine wpAny_bind (rit_next (A := A.in1) hit rd hx ho0' fun h' o1 f1' k1 v1 hit' ho1 ht hz' kp own => ?_)
    have Sl : S < s.heap.objs.size := by
      obtain ⟨_, _, _, _, e⟩ := (show ObjOk X.prog X.w Hi s.heap S (.lst ys) from I.hok S _ hy)
      exact Heap.lt_size e
    have tn : s.heap.objs.size ≠ it := Nat.ne_of_gt (Heap.lt_size hit)
    have hTn : Hi s.heap.objs.size = none := I.hok.fresh (Nat.le_refl _)
    have STn : S ≠ s.heap.objs.size := Nat.ne_of_lt Sl
    generalize hT : s.heap.objs.size = T at *
    have I6 : Inv X pins σ (upd Hi T (.tup [.ref p, kvs[i].2])) { s with heap := s.heap.push { cls := .type "tuple", data := .seq #[es[i].key, es[i].val] } } :=
      I.laid (a := T) (o := .tup [.ref p, kvs[i].2]) (t' := s.toks) (fun b u e => Heap.get?_push_of_some _ e) (by rw [hT]; exact Nat.le_refl _) ⟨by show 2 ≤ sizeLine; decide, [es[i].key, es[i].val], .cons (by rw [ek]; exact rfl) (.cons rv .nil), ⟨_, by rw [← hT]; exact Heap.get?_push_size _ rfl, rfl, _, rfl⟩⟩
    have S6 : Same Hi (upd Hi T (.tup [.ref p, kvs[i].2])) := isV T hTn
    have I7 : Inv X pins σ (upd Hi T (.tup [.ref p, kvs[i].2])) { s with heap := h' } := I6.turned (s := { s with heap := s.heap.push { cls := .type "tuple", data := .seq #[es[i].key, es[i].val] } }) (t' := s.toks) (fun b o hb e => by
      rcases Heap.get?_push_cases (show (s.heap.push { cls := .type "tuple", data := .seq #[es[i].key, es[i].val] }).get? b = some o from e) with ⟨rfl, rfl⟩ | e
      · rw [hT]; exact ht
      · exact kp b o hb e) (by rw [upd_ne (Ne.symm tn)]; exact f0) f1 f3 f4 f5
    have hy7 : (upd Hi T (.tup [.ref p, kvs[i].2])) S = some (.lst ys) := S6 _ _ hy
    obtain ⟨z, its, n, r, hl, e⟩ := I7.lstM hy7
    have yl : ys.length = i := by
      have := Paired.length pr
      rw [List.length_take] at this
      omega
    show wpAny _ A.in1 (updateSeq S (·.push (Value.ref T)) >>= _) _ _ _
    have e' : h'.get? S = some { cls := .type "list", data := .seq its.toArray n } := e
    refine wpAny_bind (wpAny_updateSeq (s := { s with heap := h' }) e' rfl ?_ (by rw [List.size_toArray, ← r.length, yl]; exact Nat.le_trans (by omega : i ≤ 1000) (by decide)) (by rw [Array.size_push, List.size_toArray, ← r.length, yl]; exact Nat.le_trans (by omega : i + 1 ≤ 1001) (by decide)))
    have I8 := I7.lset (f := fun xs => xs.push (Value.ref T)) (t' := s.toks) (its' := its ++ [Value.ref T]) hy7 e' (by simp) (r.append (.cons (show RelV (.ref T) (.ref T) from rfl) .nil)) (by rw [List.length_append, yl]; exact Nat.le_trans (by show i + 1 ≤ 1001; omega) (by decide))
    have up : ∀ b o, b ≠ S → h'.get? b = some o → (h'.update S (Obj.mapSeq (·.push (Value.ref T)))).get? b = some o := fun b o hb z => (Heap.get?_update_other _ _ (Ne.symm hb)).trans z
    have dS : d ≠ S := ne_of_none hd hS
    have tS : ∀ b zs, Hi b = some (.tup zs) → (upd (upd Hi T (.tup [.ref p, kvs[i].2])) S (.lst (ys ++ [.ref T]))) b = some (.tup zs) := fun b zs z => by
      rw [upd_ne (ne_of z hy (by intro z; cases z))]; exact S6 _ _ z
    have ri : ∀ {a b : Nat}, (rawInt (a : Int) : Value) = rawInt (b : Int) → a = b := fun {a b} z => by
      have z' : (Value.int (a : Int) 0 : Value) = Value.int (b : Int) 0 := z
      have z'' : (a : Int) = (b : Int) := by injection z'
      exact Int.ofNat.inj z''
    refine wpAny_pure ⟨plainId_quiet PySem.F.plain_extend_loop _, ih (i + 1) _ _ (ys ++ [.ref T]) o1 k1 v1 f1' (by omega) hlt I8 (fun b o z => ?_) upd_same ?_ (rd.at fun o z => up d o dS (kp d o dit z)) (up it _ (Ne.symm Sit) hit') ?_ ⟨?_, f1, f2, f3, f4, f5⟩⟩
    · rw [upd_ne (ne_of_none z hS)]; exact S6 _ _ (sm _ _ z)
    · rw [List.take_add_one, hkv]
      exact kvs_snoc (kvs_mono tS pr) ⟨T, p, rfl, by rw [upd_ne (Ne.symm STn), upd_same], tS _ _ (sm _ _ hp)⟩
    · rcases ho1 with z | ⟨a, oa, z1, z2, z3⟩
      · exact .inl z
      · have aS : a ≠ S := by
          rcases own a z1 with z | z
          · rw [z]; exact Ne.symm STn
          · rcases ho0 with ⟨y1, _⟩ | ⟨a', oa', y1, _, _, y4⟩
            · rw [y1] at z; cases z
            · rw [y1] at z
              rw [← ri z]; exact y4
        exact .inr ⟨a, oa, z1, up a _ aS z2, z3, aS⟩
    · rw [upd_ne (Ne.symm Sit), upd_ne (Ne.symm tn)]; exact f0
end
end L2

namespace L2
open PySem PySem.Spec PyProof.Rows
abbrev cLstI : RC := fun vs H Q => ∃ r d kvs, vs = [.ref r] ∧ H r = some (viewO r d) ∧ H d = some (.dT kvs) ∧ kvs.length ≤ 1000 ∧ ∀ l ys H', Same H H' → H l = none → H' l = some (.lst ys) → Paired (KvAt H') ys kvs → Q (.ref l) H'
theorem view_at {P : Program} {w : World} {H : Hp} {h : Heap} {r d : Addr} (k : HOk P w H h) (e : H r = some (viewO r d)) : h.IsItemsView r d := (k r _ e).1
theorem rel_get {H : Hp} : ∀ {kvs : List (List Key × V)} {xs : List (List Key × Addr × Value)}, Paired (fun (p : List Key × V) (q : List Key × Addr × Value) => p.1 = q.1 ∧ H q.2.1 = some (.tup (p.1.map kV)) ∧ RelV p.2 q.2.2) kvs xs → ∀ {i : Nat} {kv : List Key × V} {x : List Key × Addr × Value}, kvs[i]? = some kv → xs[i]? = some x → H x.2.1 = some (.tup (kv.1.map kV)) ∧ RelV kv.2 x.2.2 :=
  fun {_ _} h {_ _ _} e1 e2 => (paired_get h e1 e2).2
section
variable {X : Cx}
/-- what the pairs of a dict are -/
theorem raw_of {pins : List (Addr × Obj)} {σ : St} {H : Hp} {s : Shared} {d : Addr} {kvs : List (List Key × V)} (I : Inv X pins σ H s) (e : H d = some (.dT kvs)) : ∃ es ep, RawD s.heap d es ep ∧ es.size = kvs.length ∧
    ∀ (i : Nat) (en : DictEntry) (kv : List Key × V), es[i]? = some en → kvs[i]? = some kv → ∃ p, en.key = .ref p ∧ H p = some (.tup (kv.1.map kV)) ∧ RelV kv.2 en.val := by
  obtain ⟨z, hd, xs, rel, o, es, ep, h1, h2, h3, h4, _⟩ := (show ObjOk X.prog X.w H s.heap d (.dT kvs) from I.hok d _ e)
  have l1 : es.size = xs.length := by rw [← Array.length_toList, h4, List.length_map]
  refine ⟨es, ep, ⟨o, h1, h2, h3⟩, by rw [l1, ← Paired.length rel], fun i en kv e1 e2 => ?_⟩
  have e3 : es.toList[i]? = some en := by rw [Array.getElem?_toList]; exact e1
  rw [h4, List.getElem?_map] at e3
  obtain ⟨x, hx, rfl⟩ := Option.map_eq_some_iff.mp e3
  obtain ⟨g1, g2⟩ := rel_get rel e2 hx
  exact ⟨x.2.1, rfl, g1, g2⟩
theorem ext_items {A : Around} {R : Result → Shared → Prop} {pins : List (Addr × Obj)} {σ : St} {H : Hp} {s : Shared} {S r d : Addr} {kvs : List (List Key × V)} {res : Value} {c : Nat} (hh : A.handled = none) (hS : H S = none) (hr : H r = some (viewO r d)) (hd : H d = some (.dT kvs)) (hl : kvs.length ≤ 1000)
    (I2 : Inv X pins σ (upd H S (.lst [])) s) (T2 : s.heap.get? S = some { cls := .type "list", data := .seq #[] c }) (hR : ∀ s' H' ys, Inv X pins σ H' s' → Same H H' → H' S = some (.lst ys) → Paired (KvAt H') ys kvs → R (.ok (.ret res)) s') :
    wpAny (model X.prog X.w) A.in1 (Builtin.List.listExtendWith (.ref S) (.ref r) res) (fun fin s' => match fin with | .done f => R (.ok f) s' | .again c' => c'.quiet = true ∧ codeAny (model X.prog X.w) A c' R s') (fun e s' => R (.error e) s') s := by
  have Sr : r ≠ S := ne_of_none hr hS
  have Sd : d ≠ S := ne_of_none hd hS
  have SS : Same H (upd H S (.lst [])) := isV S hS
  obtain ⟨es, ep, rd, hes, hen0⟩ := raw_of I2 (SS _ _ hd)
  have hen : ∀ (i : Nat) (en : DictEntry) (kv : List Key × V), es[i]? = some en → kvs[i]? = some kv → ∃ p, en.key = .ref p ∧ H p = some (.tup (kv.1.map kV)) ∧ RelV kv.2 en.val := fun i en kv e1 e2 => by
    obtain ⟨p, g1, g2, g3⟩ := hen0 i en kv e1 e2
    refine ⟨p, g1, ?_, g3⟩
    by_cases hp : p = S
    · rw [hp, upd_same] at g2; cases g2
    · rwa [upd_ne hp] at g2
  have vw := view_at I2.hok (SS _ _ hr)
  unfold Builtin.List.listExtendWith
  refine wpAny_bind (wpAny_typeOf (T := "dict_items") vw.typeIs ?_)
  have c1 : Builtin.List.listSameRef (.ref S) (.ref r) = false := by simp [Builtin.List.listSameRef, Ne.symm Sr]
  have c2 : (Value.type "dict_items" == Value.type "list") = false := by decide
  have c3 : (Value.type "dict_items" == Value.type "tuple") = false := by decide
  simp only [c1, c2, c3, Bool.or_false, Bool.false_eq_true, if_false]
  refine wpAny_bind (rit_iter vw rd ?_)
  have ni : (upd H S (.lst [])) s.heap.objs.size = none := I2.hok.fresh (Nat.le_refl _)
  have fp : FpOk X pins (upd H S (.lst [])) s.heap.objs.size := I2.fpOk (Nat.le_refl _) ni
  have Si : S ≠ s.heap.objs.size := Nat.ne_of_lt (Heap.lt_size T2)
  have di : d ≠ s.heap.objs.size := Nat.ne_of_lt rd.lt
  have I3 : Inv X pins σ (upd H S (.lst [])) { s with heap := s.heap.push { cls := .type "dict_itemiterator", data := .fields #[.none, .bool false, .ref d, .int 0 0, .int es.size 0, .int ep 0, .none, .none] } } := I2.kept (t' := s.toks) fun b o e => Heap.get?_push_of_some _ e
  have T3 := Heap.get?_push_of_some { cls := .type "dict_itemiterator", data := .fields #[.none, .bool false, .ref d, .int 0 0, .int es.size 0, .int ep 0, .none, .none] } T2
  have it3 : ItA (s.heap.push { cls := .type "dict_itemiterator", data := .fields #[.none, .bool false, .ref d, .int 0 0, .int es.size 0, .int ep 0, .none, .none] }) s.heap.objs.size d 0 es.size ep .none false .none .none := Heap.get?_push_size _ rfl
  have rd3 : RawD (s.heap.push { cls := .type "dict_itemiterator", data := .fields #[.none, .bool false, .ref d, .int 0 0, .int es.size 0, .int ep 0, .none, .none] }) d es ep := rd.at fun o e => Heap.get?_push_of_some _ e
  have vw3 : (s.heap.push { cls := .type "dict_itemiterator", data := .fields #[.none, .bool false, .ref d, .int 0 0, .int es.size 0, .int ep 0, .none, .none] }).IsItemsView r d := let ⟨o, ho, x⟩ := vw; ⟨o, Heap.get?_push_of_some _ ho, x⟩
  generalize hh3 : s.heap.push { cls := .type "dict_itemiterator", data := .fields #[.none, .bool false, .ref d, .int 0 0, .int es.size 0, .int ep 0, .none, .none] } = h3 at *
  generalize s.heap.objs.size = it at *
  refine wpAny_bind (wpAny_holding (PySem.W.kdx_hint vw3.typeIs ?_))
  have fin : ∀ (h4 : Heap) (tk : Nat) (R : Result → Shared → Prop), (∀ s' H' ys, Inv X pins σ H' s' → Same H H' → H' S = some (.lst ys) → Paired (KvAt H') ys kvs → R (.ok (.ret res)) s') → Inv X pins σ (upd H S (.lst [])) { s with heap := h4, toks := tk } → RawD h4 d es ep → ItA h4 it d 0 es.size ep .none false .none .none →
      codeAny (model X.prog X.w) A (.builtin "list.extend.loop" ⟨[.ref S, .ref it, res], []⟩) R { s with heap := h4, toks := tk } := fun h4 tk R hR I4 rd4 it4 =>
    itl_loop (A := A) (H := H) (es := es) (ep := ep) hh hS hd Si di hl hes hen hR kvs.length 0 _ (upd H S (.lst [])) [] .none .none .none false (Nat.sub_zero _) (Nat.zero_le _) I4 SS upd_same .nil rd4 it4 (.inl ⟨rfl, rfl⟩) fp
  refine wpAny_ite_split (fun _ => ?_) (fun _ => wpAny_pure ⟨plainId_quiet PySem.F.plain_extend_loop _, fin h3 s.toks _ hR I3 rd3 it3⟩)
  refine wpAny_bind (wpAny_rule ?_); refine wpAny_bind ?_
  show wpAny _ _ (updateSeq S (·.push .none) >>= fun _ => updateSeq S (·.pop)) _ _ _; refine wpAny_bind (wpAny_updateSeq T3 rfl ?_)
  have T4 := Heap.get?_update_self (Obj.mapSeq (·.push Value.none)) T3 rfl
  refine wpAny_updateSeq (hz := by seq_fits) T4 rfl ?_
  have I4 := I3.lset (f := fun xs => xs.push Value.none) (its := []) (its' := [Value.none]) (ys := [V.non]) (t' := s.toks) upd_same T3 rfl (.cons rfl .nil) (by show 1 ≤ sizeLine; decide)
  have I5 := I4.lset (f := fun xs => xs.pop) (its := [Value.none]) (its' := []) (ys := []) (t' := s.toks) upd_same T4 rfl .nil (Nat.zero_le _)
  rw [upd_upd, upd_upd] at I5
  have oth : ∀ b o, b ≠ S → h3.get? b = some o → ((h3.update S (Obj.mapSeq (·.push Value.none))).update S (Obj.mapSeq (·.pop))).get? b = some o := fun b o hb e => (Heap.get?_update_other _ _ (Ne.symm hb)).trans ((Heap.get?_update_other _ _ (Ne.symm hb)).trans e)
  exact wpAny_pure ⟨plainId_quiet PySem.F.plain_extend_loop _, fin _ s.toks _ hR I5 (rd3.at fun o e => oth d o Sd e) (oth it _ (Ne.symm Si) it3)⟩
theorem call_list_items (hc : X.calm = true) : CallR X (.type "list") cLstI := by
  intro pins s σ H vs us Q I r0 h
  obtain ⟨r, d, kvs, rfl, hr, hd, hl, q⟩ := h
  obtain ⟨u, rfl, ru⟩ := vals1 r0
  cases ru
  have hh : X.A.handled = none := I.ok.hd hc
  refine callType_codes (Q₁ := fun obj s₁ => obj = .ref s.heap.objs.size ∧ s₁ = { s with heap := s.heap.push { cls := .type "list", data := .seq #[] } }) PySem.F.called_list (PySem.F.typeCall_list_1 _) PySem.F.entry_list_init (code_list_new _ ⟨rfl, rfl⟩) ?_; rintro obj s₁ ⟨rfl, rfl⟩
  have hS : H s.heap.objs.size = none := I.hok.fresh (Nat.le_refl _)
  have I1 : Inv X pins σ (upd H s.heap.objs.size (.lst [])) { s with heap := s.heap.push { cls := .type "list", data := .seq #[] } } := I.lnew (its := []) (t' := s.toks) .nil (Nat.zero_le _)
  have T0 : (s.heap.push { cls := .type "list", data := .seq #[] }).get? s.heap.objs.size = some { cls := .type "list", data := .seq #[] } := Heap.get?_push_size _ rfl
  generalize hT : s.heap.objs.size = S at *
  refine ⟨⟨_, T0, rfl⟩, PySem.F.args_list_init_2 _ _, ?_⟩
  show wpAny _ _ (do let old ← Builtin.List.listItems (.ref S); Builtin.List.listUpdate (.ref S) (fun _ => #[]); letGo old.toList.reverse; Builtin.List.listExtendWith (.ref S) (.ref r) .none) _ _ _
  refine wpAny_bind ?_; unfold Builtin.List.listItems; refine wpAny_bind (wpAny_seqItems T0 rfl (wpAny_pure ?_))
  show wpAny _ _ (updateSeq S (fun _ => #[]) >>= fun _ => letGo (#[] : Array Value).toList.reverse >>= fun _ => Builtin.List.listExtendWith (.ref S) (.ref r) .none) _ _ _
  refine wpAny_bind (wpAny_updateSeq T0 rfl ?_)
  have I2 := I1.lset (f := fun _ => (#[] : Array Value)) (its := []) (its' := []) (ys := []) (t' := s.toks) upd_same T0 rfl .nil (Nat.zero_le _)
  rw [upd_upd] at I2
  have T2 := Heap.get?_update_self (Obj.mapSeq (fun _ => (#[] : Array Value))) T0 rfl
  refine wpAny_bind (wpAny_letGo ?_)
  generalize hh2 : (s.heap.push { cls := .type "list", data := .seq #[] }).update S (Obj.mapSeq (fun _ => (#[] : Array Value))) = h2 at *
  exact ext_items (A := X.A.in1) (H := H) hh hS hr hd hl I2 T2 fun s' H' ys I' sm hy pr => ⟨rfl, .ref S, H', I', rfl, q S ys H' sm hS hy pr⟩
end
end L2

namespace L2
open PySem PySem.Spec PyProof.Rows PySem.W
/-! ### sorted(d.items()) -/
section
variable {X : Cx}
theorem coll_items {A : Around} {E : Value → Shared → Prop} {R : List Value → Shared → Prop} {pins : List (Addr × Obj)} {σ : St} {H : Hp} {s : Shared} {r d : Addr} {kvs : List (List Key × V)} (hh : A.handled = none) (hr : H r = some (viewO r d)) (hd : H d = some (.dT kvs)) (hl : kvs.length ≤ 1000) (I : Inv X pins σ H s)
    (h : ∀ s1 H' ys us, Inv X pins σ H' s1 → Same H H' → Paired (KvAt H') ys kvs → Vals ys us → R us s1) : wpAny (model X.prog X.w) A (collect (.ref r)) R E s := by
  have hS : H s.heap.objs.size = none := I.hok.fresh (Nat.le_refl _)
  have I1 : Inv X pins σ (upd H s.heap.objs.size (.lst [])) { s with heap := s.heap.push { cls := .type "list", data := .seq ([] : List Value).toArray } } := I.lnew (its := []) (t' := s.toks) .nil (Nat.zero_le _)
  have T1 : (s.heap.push { cls := .type "list", data := .seq ([] : List Value).toArray }).get? s.heap.objs.size = some { cls := .type "list", data := .seq #[] } := Heap.get?_push_size _ rfl
  unfold collect; refine wpAny_bind (wpAny_runValue (codeAny_builtin entry_proto_collect' ?_)); rw [Around.under_plainId PySem.F.plain_proto_collect _]
  show wpAny _ A.in1 (newList [] >>= fun l => again (.builtin "list.__iadd__" ⟨[l, .ref r], []⟩)) _ _ s; refine wpAny_bind (wpAny_newObj_type ?_)
  refine wpAny_pure ⟨plainId_quiet PySem.F.plain_list_iadd _, codeAny_builtin entry_list_iadd' ?_⟩; rw [Around.under_plainId PySem.F.plain_list_iadd _]
  generalize s.heap.objs.size = S at *
  show wpAny _ A.in1 (Builtin.List.listExtendWith (.ref S) (.ref r) (.ref S)) _ _ _
  have key := ext_items (A := A) (R := fun (q : Result) (s' : Shared) => ∃ H' ys, q = .ok (.ret (.ref S)) ∧ Inv X pins σ H' s' ∧ Same H H' ∧ H' S = some (.lst ys) ∧ Paired (KvAt H') ys kvs) (res := .ref S) hh hS hr hd hl I1 T1 fun s' H' ys I' sm hy pr => ⟨H', ys, rfl, I', sm, hy, pr⟩
  have fin : ∀ s' : Shared, (∃ H' ys, Inv X pins σ H' s' ∧ Same H H' ∧ H' S = some (.lst ys) ∧ Paired (KvAt H') ys kvs) → wpAny (model X.prog X.w) A (load S >>= fun o => match o.data with | .seq xs _ => pure xs.toList | _ => unsupported "internal:collect") R E s' := fun s' ⟨H', ys, I', sm, hy, pr⟩ => by
    obtain ⟨z, its, n, rv, hl', e⟩ := I'.lstM hy
    refine wpAny_bind (wpAny_load e ?_)
    refine wpAny_pure ?_
    exact h s' H' ys its I' sm pr rv
  refine wpAny_mono key (fun f s' x => ?_) fun e s' x => ?_
  · cases f with
    | done f =>
      obtain ⟨H', ys, e, x⟩ := x
      cases e
      exact fin s' ⟨H', ys, x⟩
    | again c₁ =>
      refine ⟨x.1, codeAny_mono x.2 fun q s₂ y => ?_⟩
      obtain ⟨H', ys, rfl, y⟩ := y
      exact fin s₂ ⟨H', ys, y⟩
  · obtain ⟨_, _, e', _⟩ := x
    cases e'
end
section
variable {P : Program} {w : World} {A : Around} {E : Value → Shared → Prop} {s : Shared}
theorem lt_place {x y : Addr} {a b : Str × Int} {Q : Bool → Shared → Prop} (hu : A.units < cLine) (hx : PlAt s.heap (.ref x) a) (hy : PlAt s.heap (.ref y) b) (h : Q (placeLt a b) s) : wpAny (model P w) A (oneLt' false (.ref x) (.ref y)) Q E s := by
  obtain ⟨p, o, t, u, n, e1, ho, hc, hd⟩ := hx
  obtain ⟨p2, o2, t2, u2, n2, e2, ho2, hc2, hd2⟩ := hy
  cases e1
  cases e2
  obtain ⟨c, dd, dat, sl⟩ := o
  obtain ⟨c2, dd2, dat2, sl2⟩ := o2
  simp only at hc hd hc2 hd2
  subst hc hd hc2 hd2
  have T1 : s.TypeIs (.ref x) "tuple" := ⟨_, ho, rfl⟩
  have T2 : s.TypeIs (.ref y) "tuple" := ⟨_, ho2, rfl⟩
  refine kat_one _ _ ?_
  show wpAny _ _ (richCompare .Lt (.ref x) (.ref y)) _ _ _
  refine wpAny_richCompare_same_room T1 T2 PySem.F.slot_tuple_lt ?_ hu
  exact call_meets PySem.F.slot_tuple_lt T1 PySem.F.entry_tuple_lt (PySem.F.args_tuple_lt_2 _ _) (tuple_lt_place x y a.1 b.1 a.2 b.2 t u t2 u2 n n2 dd dd2 sl sl2) ⟨ho, ho2, by simp, h⟩
theorem pl_key {h : Heap} {x : Addr} {a : Str × Int} (hx : PlAt h (.ref x) a) : IsTupleKey (mixKind P w) h (plKey a) x := by
  obtain ⟨p, o, t, u, n, e1, ho, hc, hd⟩ := hx
  cases e1
  exact ⟨o, _, n, ho, hc, hd, items_are (ks := plKey a) (.cons ⟨t, rfl⟩ (.cons ⟨u, rfl⟩ .nil))⟩
/-- a row lies at an address -/
def RvAt (h : Heap) (v : Value) (q : Row) : Prop := ∃ a o p t n, v = .ref a ∧ h.get? a = some o ∧ o.cls = .type "tuple" ∧ o.data = .seq #[.ref p, .int q.2 t] n ∧ PlAt h (.ref p) q.1
theorem RvAt.keep {h h' : Heap} {v : Value} {q : Row} (x : RvAt h v q) (k : ∀ b o, h.get? b = some o → h'.get? b = some o) : RvAt h' v q := by
  obtain ⟨a, o, p, t, n, e, ho, hc, hd, hp⟩ := x
  exact ⟨a, o, p, t, n, e, k _ _ ho, hc, hd, hp.keep k⟩
theorem ask_row {x y : Value} {a b : Row} {Q : Bool → Shared → Prop} (hu : A.units < cLine) (hx : RvAt s.heap x a) (hy : RvAt s.heap y b) (h : Q (placeLt a.1 b.1) s) (hn : a.1 ≠ b.1) : wpAny (model P w) A (keyLt' (tuples' false) x y) Q E s := by
  obtain ⟨p, o, pp, t, n, rfl, ho, hc, hd, hp⟩ := hx
  obtain ⟨p2, o2, pp2, t2, n2, rfl, ho2, hc2, hd2, hp2⟩ := hy
  refine kat_lt ho hd ho2 hd2 (kat_cons (wpAny_eqBool_tuple (knd := mixKind P w) hu (pl_key hp) (pl_key hp2) (kat_go (fun e => ?_) fun e => kat_no ?_)))
  · exact absurd (plKey_inj (of_decide_eq_true e)) hn
  · exact lt_place hu hp hp2 h
theorem kind_row {vs : List Value} {qs : List Row} {Q : SortKind → Shared → Prop} (hl : vs.length = qs.length) (hv : ∀ (i : Nat) (v : Value) (q : Row), vs[i]? = some v → qs[i]? = some q → RvAt s.heap v q) (h2 : 0 < vs.length) (h : Q (tuples' false) s) :
    wpAny (model P w) A (keyKind' vs.toArray) Q E s := by
  have T : ∀ (vs : List Value) (qs : List Row), vs.length = qs.length → (∀ (i : Nat) (v : Value) (q : Row), vs[i]? = some v → qs[i]? = some q → RvAt s.heap v q) → ∃ fs, KatTups s.heap vs fs ∧ fs.length = vs.length ∧ ∀ v ∈ fs, ∃ p o, v = Value.ref p ∧ s.heap.get? p = some o ∧ o.cls = .type "tuple" := by
    intro vs
    induction vs with
    | nil => exact fun qs _ _ => ⟨[], trivial, rfl, fun _ z => nomatch z⟩
    | cons v r ih =>
      intro qs hl hv
      match qs, hl with
      | q :: qr, hl =>
        obtain ⟨fs, k, kl, kf⟩ := ih qr (by simpa using hl) fun i v' q' e1 e2 => hv (i + 1) v' q' (by simpa using e1) (by simpa using e2)
        obtain ⟨a, o, p, t, n, rfl, ho, hc, hd, hp⟩ := hv 0 v q rfl rfl
        refine ⟨.ref p :: fs, KatTups.cons ho hc hd rfl k, by simp [kl], fun z hz => ?_⟩
        rcases List.mem_cons.mp hz with rfl | hz
        · obtain ⟨p', o', _, _, _, e, g1, g2, _⟩ := hp
          cases e
          exact ⟨_, o', rfl, g1, g2⟩
        · exact kf z hz
  obtain ⟨fs, k, kl, kf⟩ := T vs qs hl hv
  refine kat_kind (T := .type "tuple") k (by omega) (fun v hv => ?_) (by decide) h
  obtain ⟨p, o, rfl, g1, g2⟩ := kf v hv
  exact g2 ▸ (PySem.W.Looks.ld g1).andThen .now
/-- sorted(x), where what is collected is known behind the collecting only -/
theorem sorted_pure2 {l : Addr} {κ : SortKind} {Q : Value → Shared → Prop} (G : List Value → (Nat → Nat → Bool) → Shared → Prop)
    (coll : ∀ R : List Value → Shared → Prop, (∀ vs lt s1, G vs lt s1 → R vs s1) → wpAny (model P w) A.in1 (collect (.ref l)) R E s)
    (h64 : ∀ vs lt s1, G vs lt s1 → vs.length < 64 ∧ SO lt vs.length)
    (hk : ∀ vs lt s1, G vs lt s1 → 2 ≤ vs.length → ∀ (h : Heap) (Q : SortKind → Shared → Prop), (∀ b o, s1.heap.get? b = some o → h.get? b = some o) → Q κ { s1 with heap := h } → wpAny (model P w) A.in1.in1 (keyKind' vs.toArray) Q (fun _ _ => False) { s1 with heap := h })
    (hc : ∀ vs lt s1, G vs lt s1 → ∀ (h : Heap) i j C, (∀ b o, s1.heap.get? b = some o → h.get? b = some o) → i < vs.length → j < vs.length → i ≠ j → C (lt i j) { s1 with heap := h } → kas_ask P w A.in1.in1 κ vs i j C { s1 with heap := h })
    (fin : ∀ vs lt s1, G vs lt s1 → ∀ (h' : Heap) (p : Array Nat) (c : Nat), (∀ b o, s1.heap.get? b = some o → h'.get? b = some o) → h'.get? s1.heap.objs.size = some (seqObj "list" (outOf vs p).toArray c) → PP vs.length p → Rise lt p vs.length → Q (.ref s1.heap.objs.size) { s1 with heap := h' }) :
    wpAny (model P w) A (call (.builtin "sorted") [.ref l]) Q E s := by
  refine Calls.call_function_entry kind_sorted plain_sorted entry_sorted (args_sorted1 _) ?_; unfold Builtin.«sorted»
  refine wpAny_bind (m := checkCount "sorted" 1 1 _) (wpAny_pure ?_); refine wpAny_bind (coll _ fun vs lt s1 g => ?_)
  obtain ⟨l64, S⟩ := h64 vs lt s1 g
  refine wpAny_bind (wpAny_newList ?_ (by rw [sizeLine_eq]; omega))
  have hoL : (s1.heap.push (seqObj "list" vs.toArray 0)).get? s1.heap.objs.size = some (seqObj "list" vs.toArray 0) := Heap.get?_push_size _ rfl
  have kept : ∀ h', Kp s1.heap.objs.size (s1.heap.push (seqObj "list" vs.toArray 0)) h' → ∀ b o, s1.heap.get? b = some o → h'.get? b = some o := fun h' k b o e => k b o (Nat.ne_of_lt (Heap.lt_size e)) (Heap.get?_push_of_some _ e)
  refine wpAny_bind (wpAny_holding (wpAny_call_entry slot_list_sort ⟨_, hoL, rfl⟩ entry_list_sort (lsort_pure (s := { s1 with heap := s1.heap.push (seqObj "list" vs.toArray 0) }) hoL l64 (κ := κ) (lt := lt) (fun h2 h' Q' k q => ?_) (fun h' i j C k hi hj hij q => ?_) S fun h' p c k ho hp hr => ?_) (args_list_sort _)))
  · exact hk vs lt s1 g h2 h' Q' (kept h' k) q
  · exact hc vs lt s1 g h' i j C (kept h' k) hi hj hij q
  · exact ⟨_, rfl, wpAny_pure ⟨_, rfl, fin vs lt s1 g h' p c (kept h' k) ho hp hr⟩⟩
end
end L2

namespace L2
open PySem PySem.Spec PyProof.Rows PySem.W
def d0 : Row := (("", 0), 0)
theorem its_of (rows : List Row) : ∃ its : List Row, dOf rows = its.map (fun q => (plKey q.1, V.int q.2)) ∧ (its.map (·.1)).Nodup ∧ ∀ p w, (p, w) ∈ its ↔ lastW rows p = some w := by
  have h := okKv_dOf rows
  have : ∀ (kvs : List (List Key × V)), (∀ kv ∈ kvs, ∃ (p : Pl) (w : Int), kv = (plKey p, .int w)) → ∃ its : List Row, kvs = its.map (fun q => (plKey q.1, V.int q.2)) := fun kvs => by
    induction kvs with
    | nil => exact fun _ => ⟨[], rfl⟩
    | cons kv r ih =>
      intro hk
      obtain ⟨qs, e⟩ := ih fun z hz => hk z (List.mem_cons_of_mem _ hz)
      obtain ⟨p, w, e2⟩ := hk kv List.mem_cons_self
      exact ⟨(p, w) :: qs, by rw [List.map_cons, ← e, e2]⟩
  obtain ⟨its, e⟩ := this _ h.2
  refine ⟨its, e, ?_, fun p w => ?_⟩
  · have := h.1
    rw [e, List.map_map] at this
    refine nodup_map_inj (f := plKey) ?_
    rw [List.map_map]
    exact this
  · have m := mem_dOf (rows := rows) (kv := (plKey p, V.int w))
    constructor
    · intro hm
      obtain ⟨p', w', e1, e2⟩ := m.mp (by rw [e]; exact List.mem_map.mpr ⟨_, hm, rfl⟩)
      have e3 := plKey_inj (Prod.mk.inj e1).1
      have e4 := V.int.inj (Prod.mk.inj e1).2
      rw [e3, e4]; exact e2
    · intro hw
      have hm := m.mpr ⟨p, w, rfl, hw⟩
      rw [e] at hm
      obtain ⟨q, hq, e1⟩ := List.mem_map.mp hm
      have e3 := plKey_inj (Prod.mk.inj e1).1
      have e4 := V.int.inj (Prod.mk.inj e1).2
      rw [← e3, ← e4]; exact hq
theorem range_getD {α : Type} (l : List α) (d : α) : (List.range l.length).map (fun i => l.getD i d) = l := by
  apply List.ext_getElem?
  intro i
  rw [List.getElem?_map]
  by_cases hi : i < l.length
  · rw [List.getElem?_range hi, List.getElem?_eq_getElem hi]
    simp [List.getD_eq_getElem?_getD, List.getElem?_eq_getElem hi]
  · rw [List.getElem?_eq_none (by simpa using hi), List.getElem?_eq_none (by omega)]
    rfl
theorem PP.list {n : Nat} {p : Array Nat} (h : PP n p) : p.toList.Perm (List.range n) := by
  have := Array.perm_iff_toList_perm.mp h
  simpa using this
theorem PP.lt {n : Nat} {p : Array Nat} (h : PP n p) : ∀ i ∈ p.toList, i < n := fun i hi => by
  have := h.list.mem_iff.mp hi
  simpa using this
theorem rise_pairs {α : Type} {F : α → α → Bool} {l : List α} {d : α} {n : Nat} {p : Array Nat} (hp : PP n p) (hr : Rise (fun i j => F (l.getD i d) (l.getD j d)) p n) : (p.toList.map fun i => l.getD i d).Pairwise fun a b => F a b = true := by
  rw [List.pairwise_map, List.pairwise_iff_getElem]
  intro i j hi hj hij
  rw [Array.length_toList] at hi hj
  have g1 := gt_eq hi
  have g2 := gt_eq hj
  have sz := hp.size
  have r := hr i j hij (by omega)
  have x1 : p.toList[i] = gt p i := by
    rw [Array.getElem?_eq_getElem hi] at g1
    simpa using g1
  have x2 : p.toList[j] = gt p j := by
    rw [Array.getElem?_eq_getElem hj] at g2
    simpa using g2
  rw [x1, x2]; exact r
theorem paired_pick {α β : Type} {F : α → β → Prop} {l₁ : List α} {l₂ : List β} (h : Paired F l₁ l₂) (a : α) (b : β) : ∀ {is : List Nat}, (∀ i ∈ is, i < l₁.length) → Paired F (is.map fun i => l₁.getD i a) (is.map fun i => l₂.getD i b)
  | [], _ => .nil
  | i :: r, hi => by
    have l := Paired.length h
    have h1 := hi i List.mem_cons_self
    refine .cons ?_ (paired_pick h a b fun j hj => hi j (List.mem_cons_of_mem _ hj))
    show F (l₁.getD i a) (l₂.getD i b)
    have e1 := List.getElem?_eq_getElem h1
    have e2 : l₂[i]? = some l₂[i] := List.getElem?_eq_getElem (by omega)
    rw [List.getD_eq_getElem?_getD, List.getD_eq_getElem?_getD, e1, e2]
    exact paired_get h e1 e2
abbrev cSrtI : RC := fun vs H Q => ∃ r d rows, vs = [.ref r] ∧ H r = some (viewO r d) ∧ H d = some (.dT (dOf rows)) ∧ (dOf rows).length < 64 ∧
  ∀ l ys srt H', Same H H' → H l = none → H' l = some (.lst ys) → Paired (PrAt H') ys srt → Rising srt → (∀ p w, (p, w) ∈ srt ↔ lastW rows p = some w) → Q (.ref l) H'
theorem kv_pr {H : Hp} : ∀ {ys : List V} {its : List Row}, Paired (KvAt H) ys (its.map fun q => (plKey q.1, V.int q.2)) → Paired (PrAt H) ys its
  | _, [], h => by cases h; exact .nil
  | _, q :: r, h => by
    rw [List.map_cons] at h
    cases h with
    | cons a t => exact .cons a (kv_pr t)
section
variable {X : Cx}
theorem rv_at {pins : List (Addr × Obj)} {σ : St} {H : Hp} {s : Shared} {v : V} {u : Value} {q : Row} (I : Inv X pins σ H s) (h : PrAt H v q) (r : RelV v u) : RvAt s.heap u q := by
  obtain ⟨a, p, rfl, h1, h2⟩ := h
  cases r
  obtain ⟨_, its, rv, o, o1, o2, n, o3⟩ := (show ObjOk X.prog X.w H s.heap a (.tup [.ref p, .int q.2]) from I.hok a _ h1)
  cases rv with
  | cons r1 rr =>
    cases rr with
    | cons r2 rn =>
      cases rn
      cases r1
      obtain ⟨t, rfl⟩ := r2
      exact ⟨a, o, p, t, n, rfl, o1, o2, o3, place_at I h2⟩
theorem call_sorted_items (hc : X.calm = true) (hu : X.A.units + 3 < cLine) : CallR X (.builtin "sorted") cSrtI := by
  intro pins s σ H vs us Q I r0 h
  obtain ⟨r, d, rows, rfl, hr, hd, h64, q⟩ := h
  obtain ⟨u, rfl, ru⟩ := vals1 r0
  cases ru
  have hh : X.A.handled = none := I.ok.hd hc
  obtain ⟨its, ei, nd, mi⟩ := its_of rows
  have li : (dOf rows).length = its.length := by rw [ei, List.length_map]
  have so := placeLt_so nd
  have vat : ∀ {s1 : Shared} {H' : Hp} {ys : List V} {vs : List Value}, Inv X pins σ H' s1 → Paired (PrAt H') ys its → Vals ys vs → ∀ (i : Nat) (q : Row), its[i]? = some q → ∃ v, vs[i]? = some v ∧ RvAt s1.heap v q := fun {s1 H' ys vs} I' pr rv i q hq => by
    have hi := (List.getElem?_eq_some_iff.mp hq).1
    have l1 := Paired.length pr
    obtain ⟨y, hy⟩ : ∃ y, ys[i]? = some y := ⟨_, List.getElem?_eq_getElem (by omega)⟩
    obtain ⟨u, hu', ru⟩ := rv.get hy
    exact ⟨u, hu', rv_at I' (paired_get pr hy hq) ru⟩
  refine sorted_pure2 (κ := tuples' false) (fun vs lt s1 => ∃ H' ys, Inv X pins σ H' s1 ∧ Same H H' ∧ Paired (PrAt H') ys its ∧ Vals ys vs ∧ lt = fun i j => placeLt ((its.map (·.1)).getD i (("", 0) : Pl)) ((its.map (·.1)).getD j (("", 0) : Pl)))
    (fun R hR => coll_items (A := X.A.in1) hh hr hd (by omega) I fun s1 H' ys us I' sm pr rv => hR us _ s1 ⟨H', ys, I', sm, kv_pr (by rw [← ei]; exact pr), rv, rfl⟩) ?_ ?_ ?_ ?_
  · rintro vs lt s1 ⟨H', ys, I', sm, pr, rv, rfl⟩
    have l1 := Paired.length pr
    have l2 := rv.length
    refine ⟨by omega, ?_⟩
    rw [show vs.length = (its.map (·.1)).length by rw [List.length_map]; omega]
    exact so
  · rintro vs lt s1 ⟨H', ys, I', sm, pr, rv, rfl⟩ h2 h Q' k q'
    have l1 := Paired.length pr
    have l2 := rv.length
    refine kind_row (s := { s1 with heap := h }) (qs := its) (by omega) (fun i v q hv hq => ?_) (by omega) q'
    obtain ⟨v', hv', rr⟩ := vat I' pr rv i q hq
    rw [hv] at hv'
    cases hv'
    exact rr.keep k
  · rintro vs lt s1 ⟨H', ys, I', sm, pr, rv, rfl⟩ h i j C k hi hj hij q'
    have l1 := Paired.length pr
    have l2 := rv.length
    have e1 : its[i]? = some its[i] := List.getElem?_eq_getElem (by omega)
    have e2 : its[j]? = some its[j] := List.getElem?_eq_getElem (by omega)
    obtain ⟨v1, g1, r1⟩ := vat I' pr rv i _ e1
    obtain ⟨v2, g2, r2⟩ := vat I' pr rv j _ e2
    have n1 : (its.map (·.1)).getD i (("", 0) : Pl) = its[i].1 := by rw [List.getD_eq_getElem?_getD, List.getElem?_map, e1]; rfl
    have n2 : (its.map (·.1)).getD j (("", 0) : Pl) = its[j].1 := by rw [List.getD_eq_getElem?_getD, List.getElem?_map, e2]; rfl
    have m1 : vs.getD i Value.none = v1 := by rw [List.getD_eq_getElem?_getD, g1]; rfl
    have m2 : vs.getD j Value.none = v2 := by rw [List.getD_eq_getElem?_getD, g2]; rfl
    simp only [n1, n2] at q'
    have key := ask_row (P := X.prog) (w := X.w) (A := X.A.in1.in1) (E := fun _ _ => False) (s := { s1 with heap := h }) (Q := C) (by have e : X.A.in1.in1.units = X.A.units + 2 := rfl; omega) (r1.keep k) (r2.keep k) q' fun z => hij (by
      have e3 : (its.map (·.1))[i]? = some its[i].1 := by rw [List.getElem?_map, e1]; rfl
      have e4 : (its.map (·.1))[j]? = some its[j].1 := by rw [List.getElem?_map, e2]; rfl
      rw [z] at e3
      exact (List.getElem?_inj (by rw [List.length_map]; omega) nd).mp (e3.trans e4.symm))
    rw [← m1, ← m2] at key
    exact key
  · rintro vs lt s1 ⟨H', ys, I', sm, pr, rv, rfl⟩ h' p c k hD hp hr
    have l1 := Paired.length pr
    have l2 := rv.length
    have hp' : PP its.length p := by rw [show its.length = vs.length by omega]; exact hp
    have fr : H' s1.heap.objs.size = none := I'.hok.fresh (Nat.le_refl _)
    have sz := hp'.size
    have pk := paired_pick pr V.non d0 (is := p.toList) fun i hi => by have := hp'.lt i hi; omega
    have vk : Vals (p.toList.map fun i => ys.getD i V.non) (outOf vs p) := paired_pick rv V.non Value.none (is := p.toList) fun i hi => by have := hp'.lt i hi; omega
    have I2 : Inv X pins σ (upd H' s1.heap.objs.size (.lst (p.toList.map fun i => ys.getD i V.non))) { s1 with heap := h' } := I'.laid (a := s1.heap.objs.size) (o := .lst (p.toList.map fun i => ys.getD i V.non)) (t' := s1.toks) k (Nat.le_refl _)
      ⟨by rw [List.length_map, Array.length_toList]; exact Nat.le_trans (by omega : _ ≤ 64) (by decide), outOf vs p, c, vk, hD⟩
    have S2 : Same H' (upd H' s1.heap.objs.size (.lst (p.toList.map fun i => ys.getD i V.non))) := isV _ fr
    have hn : H s1.heap.objs.size = none := by
      cases e : H s1.heap.objs.size with
      | none => rfl
      | some o => rw [sm _ _ e] at fr; cases fr
    have mono : ∀ {us : List V} {ws : List Row}, Paired (PrAt H') us ws → Paired (PrAt (upd H' s1.heap.objs.size (.lst (p.toList.map fun i => ys.getD i V.non)))) us ws := fun {us ws} h => by
      induction h with
      | nil => exact .nil
      | cons a _ ih =>
        obtain ⟨r, p, e, h1, h2⟩ := a
        exact .cons ⟨r, p, e, S2 _ _ h1, S2 _ _ h2⟩ ih
    refine ⟨.ref s1.heap.objs.size, _, I2, rfl, q _ _ (p.toList.map fun i => its.getD i d0) _ (sm.trans S2) hn upd_same (mono pk) ?_ fun pl wv => ?_⟩
    · have hr' : Rise (fun i j => placeLt ((its.map (·.1)).getD i (("", 0) : Pl)) ((its.map (·.1)).getD j (("", 0) : Pl))) p its.length := by rw [show its.length = vs.length by omega]; exact hr
      have pw := rise_pairs (F := placeLt) hp' hr'
      have eq : (p.toList.map fun i => its.getD i d0).map (·.1) = p.toList.map fun i => (its.map (·.1)).getD i (("", 0) : Pl) := by
        rw [List.map_map]
        refine List.map_congr_left fun i hi => ?_
        have hi := hp'.lt i hi
        simp [List.getD_eq_getElem?_getD, List.getElem?_map, List.getElem?_eq_getElem hi]
      rw [← eq, List.pairwise_map] at pw
      exact pw
    · have pm : (p.toList.map fun i => its.getD i d0).Perm its := by
        refine (hp'.list.map _).trans ?_
        rw [range_getD]
      rw [pm.mem_iff]
      exact mi pl wv
end
end L2

namespace L2
open PySem PySem.Spec PyProof.Rows
/-! ### range(i, j, c), c above 0 -/
def Itr3 (lo c : Int) (n : Nat) : It := ⟨fun i _ => i < n, fun i H x H' => H' = H ∧ x = .int (lo + i * c), fun i _ => n ≤ i⟩
def cntR (i j c : Int) : Nat := if i < j then ((j - i - 1) / c + 1).toNat else 0
def iRng3 (ta : TA) : TI := fun σ H R => ta σ H fun vs H1 => ∃ i j c : Int, vs = [.int i, .int j, .int c] ∧ (0 ≤ i ∧ i < 1073741824 ∧ 0 ≤ j ∧ j < 1073741824 ∧ 0 < c ∧ c < 1073741824) ∧ R (Itr3 i c (cntR i j c)) H1
section
variable {X : Cx} {tg : Expr}
end
end L2

namespace L2
open PySem
/-! ### dealings done: what stays true, and what comes out -/
structure StOk (n : Nat) (s : Sta) : Prop where
  so : SlotsOk s.sl
  wo : ∀ r ∈ s.wo, inW r.2 = true
  l1 : s.sl.length ≤ n
  l2 : s.wo.length ≤ n
  l3 : s.sa.length ≤ n
theorem StOk.mono {n m : Nat} {s : Sta} (h : StOk n s) (l : n ≤ m) : StOk m s := ⟨h.so, h.wo, Nat.le_trans h.l1 l, Nat.le_trans h.l2 l, Nat.le_trans h.l3 l⟩
theorem slots_put {kvs : List (Key × V)} (h : SlotsOk kvs) (k : Key) {i : Int} (hi : inW i = true) : SlotsOk (putK kvs k (.int i)) := fun k' v e => by
  rw [valV_put] at e
  by_cases c : k' = k
  · rw [if_pos c] at e
    exact ⟨i, (Option.some.inj e).symm, hi⟩
  · rw [if_neg c] at e
    exact h k' v e
theorem last_in {P : Row → Prop} {p : Pl} {w : Int} : ∀ {l : List Row}, (∀ r ∈ l, P r) → lastW l p = some w → P (p, w)
  | [], _, h => by cases h
  | r :: t, hp, h => by
    rw [lastW] at h
    cases e : lastW t p with
    | some w' =>
      rw [e] at h
      have : w' = w := by simpa using h
      subst this
      exact last_in (fun r hr => hp r (List.mem_cons_of_mem _ hr)) e
    | none =>
      rw [e] at h
      by_cases c : r.1 = p
      · rw [if_pos c] at h
        have : r.2 = w := by simpa using h
        rw [← c, ← this]; exact hp r List.mem_cons_self
      · rw [if_neg c] at h; cases h
theorem last_inW {l : List Row} (h : ∀ r ∈ l, inW r.2 = true) (p : Pl) : inW ((lastW l p).getD 0) = true := by
  cases e : lastW l p with
  | none => rfl
  | some w => exact last_in (P := fun r => inW r.2 = true) h e
theorem take_ok {n : Nat} {s : Sta} (h : StOk n s) (x : Str) (p : Pl) : StOk (n + 1) { s with sl := putK s.sl (.inr x) (.int ((lastW s.wo p).getD 0)) } :=
  ⟨slots_put h.so _ (last_inW h.wo p), h.wo, Nat.le_trans (length_putK _ _ _) (Nat.succ_le_succ h.l1), Nat.le_succ_of_le h.l2, Nat.le_succ_of_le h.l3⟩
theorem give_ok {n : Nat} {s : Sta} (h : StOk n s) (p : Pl) {w : Int} (hw : inW w = true) : StOk (n + 1) { s with wo := s.wo ++ [(p, w)] } :=
  ⟨h.so, fun r hr => by
    rcases List.mem_append.mp hr with hr | hr
    · exact h.wo r hr
    · rw [List.mem_singleton.mp hr]; exact hw, Nat.le_succ_of_le h.l1, by show (s.wo ++ [(p, w)]).length ≤ n + 1; rw [List.length_append]; exact Nat.succ_le_succ h.l2, Nat.le_succ_of_le h.l3⟩
theorem let_ok {n : Nat} {s : Sta} (h : StOk n s) (x : Str) {w : Int} (hw : inW w = true) : StOk (n + 1) { s with sl := putK s.sl (.inr x) (.int w) } :=
  ⟨slots_put h.so _ hw, h.wo, Nat.le_trans (length_putK _ _ _) (Nat.succ_le_succ h.l1), Nat.le_succ_of_le h.l2, Nat.le_succ_of_le h.l3⟩
theorem say_ok {n : Nat} {s : Sta} (h : StOk n s) (w : Int) : StOk (n + 1) { s with sa := s.sa ++ [w] } :=
  ⟨h.so, h.wo, Nat.le_succ_of_le h.l1, Nat.le_succ_of_le h.l2, by show (s.sa ++ [w]).length ≤ n + 1; rw [List.length_append]; exact Nat.succ_le_succ h.l3⟩
mutual
theorem goR_ok : ∀ (r : Rw) {n : Nat} {s s' : Sta}, StOk n s → RwOk r → goR r s = .go s' → StOk (n + r.cnt) s'
  | .take sh e sl, n, s, s', h, k, g => by
    unfold goR at g
    unfold RwOk at k
    split at g
    · cases g; exact take_ok h _ _
    · cases g
  | .give sh e f, n, s, s', h, k, g => by
    unfold goR at g
    unfold RwOk at k
    split at g
    · split at g
      · rename_i w hw
        cases g
        exact give_ok h _ (rk_inW h.so k.2.2.1 hw)
      · cases g
    · cases g
  | .lt sl e, n, s, s', h, k, g => by
    unfold goR at g
    unfold RwOk at k
    split at g
    · rename_i w hw
      cases g
      exact let_ok h _ (rk_inW h.so k.2.1 hw)
    · cases g
  | .say e, n, s, s', h, k, g => by
    unfold goR at g
    split at g
    · cases g; exact say_ok h _
    · cases g
  | .off e, n, s, s', h, k, g => by
    unfold goR at g
    split at g
    · split at g
      · cases g; exact h.mono (Nat.le_add_right _ _)
      · cases g
    · cases g
  | .iff e a b, n, s, s', h, k, g => by
    unfold goR at g
    unfold RwOk at k
    have c : (Rw.iff e a b).cnt = max a.cnt b.cnt + 1 := by rw [Rw.cnt]
    rw [c]
    split at g
    · split at g
      · exact (goRs_ok b h k.2.2 g).mono (by omega)
      · exact (goRs_ok a h k.2.1 g).mono (by omega)
    · cases g
theorem goRs_ok : ∀ (r : Rws) {n : Nat} {s s' : Sta}, StOk n s → RwsOk r → goRs r s = .go s' → StOk (n + r.cnt) s'
  | .nil, n, s, s', h, k, g => by
    unfold goRs at g
    cases g
    exact h.mono (Nat.le_add_right _ _)
  | .cons r rs, n, s, s', h, k, g => by
    unfold goRs at g
    unfold RwsOk at k
    have c : (Rws.cons r rs).cnt = r.cnt + rs.cnt := by rw [Rws.cnt]
    rw [c]
    split at g
    · rename_i s1 e1
      exact (goRs_ok rs (goR_ok r h k.1 e1) k.2 g).mono (by omega)
    · rename_i x hx
      exact absurd g (hx s')
end
/-! a place that a dealing may give to -/
mutual
def RwIn (P : Pl → Prop) : Rw → Prop
  | .give sh e _ => ∀ kvs n, rk kvs e = .ok n → P (sh, n)
  | .iff _ a b => RwsIn P a ∧ RwsIn P b
  | _ => True
def RwsIn (P : Pl → Prop) : Rws → Prop
  | .nil => True
  | .cons r rs => RwIn P r ∧ RwsIn P rs
end
inductive Oc where
  | done (sa : List Int)
  | off (why : Str)
def whyOf : Er → Str
  | .great => "great"
  | _ => "nought"
def AloneR (rws : Rws) (tab : List Row) (oc : Oc) (out : List Row) : Prop := match goRs rws ⟨[], tab, []⟩ with
  | .go s => oc = .done s.sa ∧ IsTab s.wo out
  | .off => oc = .off "told" ∧ out = tab
  | .er e => oc = .off (whyOf e) ∧ out = tab
inductive SeqR : List Rws → List Row → List Oc → List Row → Prop
  | nil {tab : List Row} : SeqR [] tab [] tab
  | cons {d : Rws} {ds : List Rws} {tab mid out : List Row} {oc : Oc} {ocs : List Oc} : AloneR d tab oc mid → SeqR ds mid ocs out → SeqR (d :: ds) tab (oc :: ocs) out
theorem SeqR.snoc {d : Rws} {oc : Oc} {out : List Row} : ∀ {ds : List Rws} {tab mid : List Row} {ocs : List Oc}, SeqR ds tab ocs mid → AloneR d mid oc out → SeqR (ds ++ [d]) tab (ocs ++ [oc]) out
  | _, _, _, _, .nil, a => .cons a .nil
  | _, _, _, _, .cons b h, a => .cons b (SeqR.snoc h a)
/-- dealings one by one, with the table behind each -/
structure ChR (ds : List Rws) (ocs : List Oc) (tabs : List (List Row)) : Prop where
  l1 : ocs.length = ds.length
  l2 : tabs.length = ds.length + 1
  st : ∀ (i : Nat) (d : Rws) (oc : Oc) (a b : List Row), ds[i]? = some d → ocs[i]? = some oc → tabs[i]? = some a → tabs[i + 1]? = some b → AloneR d a oc b
/-- the table of a dict's pairs is the table of its rows -/
theorem tab_its {rows its out : List Row} (nd : (its.map (·.1)).Nodup) (hi : ∀ p w, (p, w) ∈ its ↔ lastW rows p = some w) (t : IsTab its out) : IsTab rows out := by
  refine ⟨t.1, fun p w => (t.2 p w).trans ?_⟩
  rw [last_nd nd, hi]
/-! ### rows as data -/
def partD : V → PyData
  | .int i => .int i
  | .str x => .str x
  | _ => .none
def plV (v : V) : Prop := (∃ i, v = .int i) ∨ ∃ x, v = .str x ∧ PyData.strOk x = true
def termD (e : List V) : PyData := .tuple (e.map partD)
mutual
def rwD : Rw → PyData
  | .take sh e sl => .tuple [.str "take", .str sh, termD e, .str sl]
  | .give sh e f => .tuple [.str "give", .str sh, termD e, termD f]
  | .lt sl e => .tuple [.str "let", .str sl, termD e]
  | .say e => .tuple [.str "say", termD e]
  | .off e => .tuple [.str "off", termD e]
  | .iff e a b => .tuple [.str "if", termD e, .list (rwsD a), .list (rwsD b)]
def rwsD : Rws → List PyData
  | .nil => []
  | .cons r rs => rwD r :: rwsD rs
end
def tmP (e : List V) : Prop := ∀ v ∈ e, plV v
mutual
def RwPl : Rw → Prop
  | .take sh e sl => PyData.strOk sh = true ∧ tmP e ∧ PyData.strOk sl = true
  | .give sh e f => PyData.strOk sh = true ∧ tmP e ∧ tmP f
  | .lt sl e => PyData.strOk sl = true ∧ tmP e
  | .say e => tmP e
  | .off e => tmP e
  | .iff e a b => tmP e ∧ RwsPl a ∧ RwsPl b
def RwsPl : Rws → Prop
  | .nil => True
  | .cons r rs => RwPl r ∧ RwsPl rs
end
section
variable {K : PySem.W.Frag} {H : Hp} {F : Addr → Prop}
theorem part_dat {v : V} (h : plV v) : Dat K H v (partD v) := by
  rcases h with ⟨i, rfl⟩ | ⟨x, rfl, _⟩
  · exact .int i
  · exact .str x
theorem parts_dat : ∀ {e : List V}, tmP e → DatAll K H e (e.map partD)
  | [], _ => .nil
  | v :: r, h => .cons (part_dat (h v List.mem_cons_self)) (parts_dat fun u hu => h u (List.mem_cons_of_mem _ hu))
theorem term_dat {a : Addr} {e : List V} (h : H a = some (.tup e)) (p : tmP e) : Dat K H (.ref a) (termD e) := .tup (SqT.of h) (parts_dat p)
mutual
theorem rw_dat : ∀ (r : Rw) {v : V}, RwAt F H v r → RwPl r → Dat K H v (rwD r)
  | .take sh e sl, v, h, p => by
    unfold RwAt at h
    unfold RwPl at p
    obtain ⟨r, te, rfl, f1, f2, e2, e3⟩ := h
    rw [rwD]
    exact .tup (SqT.of e2) (.cons (.str _) (.cons (.str _) (.cons (term_dat e3 p.2.1) (.cons (.str _) .nil))))
  | .give sh e f, v, h, p => by
    unfold RwAt at h
    unfold RwPl at p
    obtain ⟨r, te, tf, rfl, f1, f2, f3, e2, e3, e4⟩ := h
    rw [rwD]
    exact .tup (SqT.of e2) (.cons (.str _) (.cons (.str _) (.cons (term_dat e3 p.2.1) (.cons (term_dat e4 p.2.2) .nil))))
  | .lt sl e, v, h, p => by
    unfold RwAt at h
    unfold RwPl at p
    obtain ⟨r, te, rfl, f1, f2, e2, e3⟩ := h
    rw [rwD]
    exact .tup (SqT.of e2) (.cons (.str _) (.cons (.str _) (.cons (term_dat e3 p.2) .nil)))
  | .say e, v, h, p => by
    unfold RwAt at h
    unfold RwPl at p
    obtain ⟨r, te, rfl, f1, f2, e2, e3⟩ := h
    rw [rwD]
    exact .tup (SqT.of e2) (.cons (.str _) (.cons (term_dat e3 p) .nil))
  | .off e, v, h, p => by
    unfold RwAt at h
    unfold RwPl at p
    obtain ⟨r, te, rfl, f1, f2, e2, e3⟩ := h
    rw [rwD]
    exact .tup (SqT.of e2) (.cons (.str _) (.cons (term_dat e3 p) .nil))
  | .iff e a b, v, h, p => by
    unfold RwAt at h
    unfold RwPl at p
    obtain ⟨r, te, la, lb, xs, ys, rfl, f1, f2, f3, f4, e2, e3, e4, e5, e6, e7⟩ := h
    rw [rwD]
    exact .tup (SqT.of e2) (.cons (.str _) (.cons (term_dat e3 p.1) (.cons (.lst (SqL.of e4) (rws_dat a e5 p.2.1)) (.cons (.lst (SqL.of e6) (rws_dat b e7 p.2.2)) .nil))))
theorem rws_dat : ∀ (r : Rws) {vs : List V}, RwsAt F H vs r → RwsPl r → DatAll K H vs (rwsD r)
  | .nil, vs, h, p => by
    unfold RwsAt at h
    subst h
    rw [rwsD]; exact .nil
  | .cons r rs, vs, h, p => by
    unfold RwsAt at h
    unfold RwsPl at p
    obtain ⟨v, ws, rfl, e2, e3⟩ := h
    rw [rwsD]
    exact .cons (rw_dat r e2 p.1) (rws_dat rs e3 p.2)
end
theorem RlAt.dat {v : V} {r : Rws} (h : RlAt F H v r) (p : RwsPl r) : Dat K H v (.list (rwsD r)) := by
  obtain ⟨a, xs, rfl, f, e1, e2⟩ := h
  exact .lst (SqL.of e1) (rws_dat r e2 p)
end
theorem parts_plain : ∀ {e : List V}, tmP e → plainDs (e.map partD) = true
  | [], _ => by simp [plainDs]
  | v :: r, h => by
    rw [List.map_cons, plainDs, parts_plain fun u hu => h u (List.mem_cons_of_mem _ hu), Bool.and_true]
    rcases h v List.mem_cons_self with ⟨i, rfl⟩ | ⟨x, rfl, hx⟩
    · rw [partD, plainD]
    · rw [partD, plainD]; exact hx
theorem term_plain {e : List V} (h : tmP e) : plainD (termD e) = true := by rw [termD, plainD]; exact parts_plain h
theorem parts_deep : ∀ (e : List V), PyData.depthAll (e.map partD) = 0
  | [] => by simp [PyData.depthAll]
  | v :: r => by
    rw [List.map_cons, PyData.depthAll, parts_deep r]
    cases v <;> simp [partD, PyData.depth]
theorem term_deep (e : List V) : (termD e).depth ≤ 1 := by rw [termD, PyData.depth, parts_deep]; omega
theorem sok_take : PyData.strOk "take" = true := by decide +kernel
theorem sok_give : PyData.strOk "give" = true := by decide +kernel
theorem sok_let : PyData.strOk "let" = true := by decide +kernel
theorem sok_say : PyData.strOk "say" = true := by decide +kernel
theorem sok_off : PyData.strOk "off" = true := by decide +kernel
theorem sok_if : PyData.strOk "if" = true := by decide +kernel
mutual
theorem rw_plain : ∀ (r : Rw), RwPl r → plainD (rwD r) = true
  | .take sh e sl, p => by unfold RwPl at p; rw [rwD]; simp [plainD, plainDs, sok_take, term_plain p.2.1, p.1, p.2.2]
  | .give sh e f, p => by unfold RwPl at p; rw [rwD]; simp [plainD, plainDs, sok_give, term_plain p.2.1, p.1, term_plain p.2.2]
  | .lt sl e, p => by unfold RwPl at p; rw [rwD]; simp [plainD, plainDs, sok_let, term_plain p.2, p.1]
  | .say e, p => by unfold RwPl at p; rw [rwD]; simp [plainD, plainDs, sok_say, term_plain p]
  | .off e, p => by unfold RwPl at p; rw [rwD]; simp [plainD, plainDs, sok_off, term_plain p]
  | .iff e a b, p => by unfold RwPl at p; rw [rwD]; simp [plainD, plainDs, sok_if, term_plain p.1, rws_plain a p.2.1, rws_plain b p.2.2]
theorem rws_plain : ∀ (r : Rws), RwsPl r → plainDs (rwsD r) = true
  | .nil, _ => by rw [rwsD, plainDs]
  | .cons r rs, p => by unfold RwsPl at p; rw [rwsD, plainDs, rw_plain r p.1, rws_plain rs p.2]; rfl
end
mutual
theorem rw_deep : ∀ (r : Rw), (rwD r).depth ≤ 2 * r.deep + 2
  | .take sh e sl => by have := term_deep e; rw [rwD]; simp [PyData.depth, PyData.depthAll]; omega
  | .give sh e f => by have := term_deep e; have := term_deep f; rw [rwD]; simp [PyData.depth, PyData.depthAll]; omega
  | .lt sl e => by have := term_deep e; rw [rwD]; simp [PyData.depth, PyData.depthAll]; omega
  | .say e => by have := term_deep e; rw [rwD]; simp [PyData.depth, PyData.depthAll]; omega
  | .off e => by have := term_deep e; rw [rwD]; simp [PyData.depth, PyData.depthAll]; omega
  | .iff e a b => by
    have := term_deep e
    have h1 := rws_deep a
    have h2 := rws_deep b
    have c : (Rw.iff e a b).deep = max a.deep b.deep + 1 := by rw [Rw.deep]
    rw [rwD, c]; simp [PyData.depth, PyData.depthAll]; omega
theorem rws_deep : ∀ (r : Rws), PyData.depthAll (rwsD r) ≤ 2 * r.deep + 2
  | .nil => by rw [rwsD]; simp [PyData.depthAll]
  | .cons r rs => by
    have h1 := rw_deep r
    have h2 := rws_deep rs
    have c : (Rws.cons r rs).deep = max r.deep rs.deep := by rw [Rws.deep]
    rw [rwsD, c, PyData.depthAll]; omega
end
/-! ### rows, one more behind -/
def Rws.snoc : Rws → Rw → Rws
  | .nil, x => .cons x .nil
  | .cons r rs, x => .cons r (rs.snoc x)
def Rws.app : Rws → Rws → Rws
  | .nil, x => x
  | .cons r rs, x => .cons r (rs.app x)
theorem Rws.snoc_app : ∀ (a : Rws) (r : Rw) (b : Rws), (a.snoc r).app b = a.app (.cons r b)
  | .nil, r, b => rfl
  | .cons x a, r, b => by
    show Rws.cons x ((a.snoc r).app b) = Rws.cons x (a.app (.cons r b))
    rw [Rws.snoc_app a]
theorem Rws.app_nil : ∀ (a : Rws), a.app .nil = a
  | .nil => rfl
  | .cons x a => by
    show Rws.cons x (a.app .nil) = Rws.cons x a
    rw [Rws.app_nil a]
theorem RwsAt.snoc {F : Addr → Prop} {H : Hp} {v : V} {x : Rw} (hx : RwAt F H v x) : ∀ (r : Rws) {vs : List V}, RwsAt F H vs r → RwsAt F H (vs ++ [v]) (r.snoc x)
  | .nil, vs, h => by
    unfold RwsAt at h
    subst h
    show RwsAt F H [v] (.cons x .nil)
    unfold RwsAt
    exact ⟨v, [], rfl, hx, by unfold RwsAt; rfl⟩
  | .cons r rs, vs, h => by
    unfold RwsAt at h
    obtain ⟨u, ws, rfl, e2, e3⟩ := h
    show RwsAt F H (u :: (ws ++ [v])) (.cons r (rs.snoc x))
    unfold RwsAt
    exact ⟨u, ws ++ [v], rfl, e2, RwsAt.snoc hx rs e3⟩
theorem RwsAt.len {F : Addr → Prop} {H : Hp} : ∀ (r : Rws) {vs : List V}, RwsAt F H vs r → vs.length ≤ r.cnt
  | .nil, vs, h => by
    unfold RwsAt at h
    subst h
    exact Nat.zero_le _
  | .cons r rs, vs, h => by
    unfold RwsAt at h
    obtain ⟨u, ws, rfl, e2, e3⟩ := h
    have := RwsAt.len rs e3
    have c : (Rws.cons r rs).cnt = r.cnt + rs.cnt := by rw [Rws.cnt]
    have : 1 ≤ r.cnt := by cases r <;> simp [Rw.cnt]
    rw [c, List.length_cons]; omega
theorem RwsAt.get {F : Addr → Prop} {H : Hp} : ∀ {r : Rws} {vs : List V} {i : Nat} {v : V}, RwsAt F H (vs.drop i) r → vs[i]? = some v → ∃ x rs, r = .cons x rs ∧ RwAt F H v x ∧ RwsAt F H (vs.drop (i + 1)) rs
  | .nil, vs, i, v, h, e => by
    unfold RwsAt at h
    have := (List.getElem?_eq_some_iff.mp e).1
    have := congrArg List.length h
    rw [List.length_drop] at this
    simp at this
    omega
  | .cons x rs, vs, i, v, h, e => by
    unfold RwsAt at h
    obtain ⟨u, ws, e1, e2, e3⟩ := h
    have hi := (List.getElem?_eq_some_iff.mp e).1
    have d := List.drop_eq_getElem_cons hi
    rw [e1] at d
    have e4 : vs[i] = v := (List.getElem?_eq_some_iff.mp e).2
    rw [e4] at d
    injection d with d1 d2
    subst d1 d2
    exact ⟨x, rs, rfl, e2, e3⟩
theorem RwsAt.none {F : Addr → Prop} {H : Hp} {r : Rws} {vs : List V} (h : RwsAt F H (vs.drop vs.length) r) : r = .nil := by
  rw [List.drop_length] at h
  cases r with
  | nil => rfl
  | cons x rs =>
    unfold RwsAt at h
    obtain ⟨_, _, e, _⟩ := h
    cases e
theorem snoc_ok {x : Rw} (hx : RwOk x) : ∀ (r : Rws), RwsOk r → RwsOk (r.snoc x)
  | .nil, _ => by show RwsOk (.cons x .nil); unfold RwsOk; exact ⟨hx, by unfold RwsOk; trivial⟩
  | .cons y r, h => by
    unfold RwsOk at h
    show RwsOk (.cons y (r.snoc x))
    unfold RwsOk
    exact ⟨h.1, snoc_ok hx r h.2⟩
theorem snoc_pl {x : Rw} (hx : RwPl x) : ∀ (r : Rws), RwsPl r → RwsPl (r.snoc x)
  | .nil, _ => by show RwsPl (.cons x .nil); unfold RwsPl; exact ⟨hx, by unfold RwsPl; trivial⟩
  | .cons y r, h => by
    unfold RwsPl at h
    show RwsPl (.cons y (r.snoc x))
    unfold RwsPl
    exact ⟨h.1, snoc_pl hx r h.2⟩
theorem snoc_cnt (x : Rw) : ∀ (r : Rws), (r.snoc x).cnt = r.cnt + x.cnt
  | .nil => by show (Rws.cons x .nil).cnt = _; simp [Rws.cnt]
  | .cons y r => by
    show (Rws.cons y (r.snoc x)).cnt = _
    rw [Rws.cnt, Rws.cnt, snoc_cnt x r]; omega
theorem snoc_deep (x : Rw) : ∀ (r : Rws), (r.snoc x).deep = max r.deep x.deep
  | .nil => by show (Rws.cons x .nil).deep = _; simp [Rws.deep]
  | .cons y r => by
    show (Rws.cons y (r.snoc x)).deep = _
    rw [Rws.deep, Rws.deep, snoc_deep x r]; exact (Nat.max_assoc _ _ _).symm
/-! ### terms of one part, and of two -/
theorem term_one {v : V} (h : okPart v) (j : isJ v = false) : TermOk [v] :=
  ⟨fun kvs => ⟨_, good_leaf j⟩, fun u hu => by rw [List.mem_singleton.mp hu]; exact h, by simp⟩
theorem rk_int (kvs : List (Key × V)) (n : Int) : rk kvs [.int n] = .ok n := by
  have := (good_leaf (kvs := kvs) (v := .int n) (isJ_int n)).rk
  rw [this]; rfl
/-! ### pairs of lists -/
theorem Paired.snocP {α β : Type} {F : α → β → Prop} {x : α} {y : β} : ∀ {a : List α} {b : List β}, Paired F a b → F x y → Paired F (a ++ [x]) (b ++ [y])
  | _, _, .nil, h => .cons h .nil
  | _, _, .cons a r, h => .cons a (Paired.snocP r h)
theorem Paired.getP {α β : Type} {F : α → β → Prop} {a : List α} {b : List β} {i : Nat} {x : α} (h : Paired F a b) (e : a[i]? = some x) : ∃ y, b[i]? = some y ∧ F x y := by
  have hi := (List.getElem?_eq_some_iff.mp e).1
  have l := Paired.length h
  exact ⟨b[i], List.getElem?_eq_getElem (by omega), paired_get h e (List.getElem?_eq_getElem (by omega))⟩
theorem RwAt.up {F : Addr → Prop} {H1 : Hp} {R : Addr} {o : HO} {v : V} {r : Rw} (h : RwAt F H1 v r) (hF : ∀ b, F b → b ≠ R) : RwAt F (upd H1 R o) v r := h.to r (fun _ _ f _ => f) fun b u f e => by rw [upd_ne (hF b f)]; exact e
theorem RwsAt.up {F : Addr → Prop} {H1 : Hp} {R : Addr} {o : HO} {vs : List V} {r : Rws} (h : RwsAt F H1 vs r) (hF : ∀ b, F b → b ≠ R) : RwsAt F (upd H1 R o) vs r := h.to r (fun _ _ f _ => f) fun b u f e => by rw [upd_ne (hF b f)]; exact e
theorem FnOkH.mono {P : Program} {w : World} {K : PySem.W.Frag} {mg : Str → Option Value} {base : Heap} {j k : Nat} {f : Addr} {fd : FuncData} {ps : List Str} {sp : Sp} (F : FnOkH P w K mg base j f fd ps sp) (h : j ≤ k) : FnOkH P w K mg base k f fd ps sp :=
  ⟨F.len, fun A outer s H args us vs Q E hr he hb hv hs => F.run A outer s H args us vs Q E (hr.mono h) he hb hv hs⟩
end L2

namespace K22
open PySem L2
def top (i : Nat) : Stmt := PySem.Challenge.pw_forerun_k22_broken_off.main.body.getD i (.Pass ⟨0, 0, 0, 0⟩)
abbrev s__law_draw : Stmt := top 21
abbrev s__law_names : Stmt := top 22
abbrev s__law_number : Stmt := top 23
abbrev s__law_table : Stmt := top 26
abbrev s__law_part : Stmt := top 24
abbrev s__law_nought : Stmt := top 27
abbrev s__law_great : Stmt := top 28
abbrev s__law_bad : Stmt := top 29
abbrev s__law_breaker : Stmt := top 30
abbrev s__law_copied : Stmt := top 32
abbrev s_Doing_init : Stmt := inClass (top 15) 0
abbrev s_divided : Stmt := top 10
abbrev s_come_to : Stmt := top 11
abbrev s_is_worth : Stmt := top 7
abbrev s_joined : Stmt := top 12
abbrev s_reckoned : Stmt := top 13
abbrev s_Doing_worth_of : Stmt := inClass (top 15) 1
abbrev s_Doing_does : Stmt := inClass (top 15) 3
abbrev s_Doing_goes_through : Stmt := inClass (top 15) 2
abbrev s_broken_off : Stmt := top 16
abbrev s_table_of : Stmt := top 5
abbrev s_alone : Stmt := top 17
abbrev s_one_by_one : Stmt := top 18
abbrev s__law_cell_at : Stmt := top 20
abbrev s__law_row : Stmt := top 25
abbrev s__law_within : Stmt := top 31
abbrev s__law_outcome : Stmt := top 33
abbrev s_law : Stmt := top 34
theorem sc__law_draw : FnScope ["cell", "j", "far"] ["cell", "j"] (defScope s__law_draw) := ⟨rfl, rfl, rfl, by decide +kernel, rfl, by decide +kernel, by decide +kernel⟩
theorem sc__law_names : FnScope ["cell", "many", "size", "signs", "stem", "k", "at", "turn"] ["cell", "many"] (defScope s__law_names) := ⟨rfl, rfl, rfl, by decide +kernel, rfl, by decide +kernel, by decide +kernel⟩
theorem sc__law_number : FnScope ["cell", "j"] ["cell", "j"] (defScope s__law_number) := ⟨rfl, rfl, rfl, by decide +kernel, rfl, by decide +kernel, by decide +kernel⟩
theorem sc__law_table : FnScope ["cell", "shelves", "worths", "k", "worth"] ["cell", "shelves"] (defScope s__law_table) := ⟨rfl, rfl, rfl, by decide +kernel, rfl, by decide +kernel, by decide +kernel⟩
theorem sc__law_part : FnScope ["cell", "j", "slots"] ["cell", "j", "slots"] (defScope s__law_part) := ⟨rfl, rfl, rfl, by decide +kernel, rfl, by decide +kernel, by decide +kernel⟩
theorem sc__law_nought : FnScope ["cell", "slots", "some", "word"] ["cell", "slots"] (defScope s__law_nought) := ⟨rfl, rfl, rfl, by decide +kernel, rfl, by decide +kernel, by decide +kernel⟩
theorem sc__law_great : FnScope ["cell", "high", "some"] ["cell"] (defScope s__law_great) := ⟨rfl, rfl, rfl, by decide +kernel, rfl, by decide +kernel, by decide +kernel⟩
theorem sc__law_bad : FnScope ["cell", "slots", "way"] ["cell", "slots"] (defScope s__law_bad) := ⟨rfl, rfl, rfl, by decide +kernel, rfl, by decide +kernel, by decide +kernel⟩
theorem sc__law_breaker : FnScope ["cell", "slots", "shelves", "why", "term", "other_why", "other", "kind", "some"] ["cell", "slots", "shelves"] (defScope s__law_breaker) := ⟨rfl, rfl, rfl, by decide +kernel, rfl, by decide +kernel, by decide +kernel⟩
theorem sc__law_copied : FnScope ["rows", "found", "row"] ["rows"] (defScope s__law_copied) := ⟨rfl, rfl, rfl, by decide +kernel, rfl, by decide +kernel, by decide +kernel⟩
theorem sc_Doing_init : FnScope ["self", "table"] ["self", "table"] (defScope s_Doing_init) := ⟨rfl, rfl, rfl, by decide +kernel, rfl, by decide +kernel, by decide +kernel⟩
theorem sc_divided : FnScope ["word", "first", "second"] ["word", "first", "second"] (defScope s_divided) := ⟨rfl, rfl, rfl, by decide +kernel, rfl, by decide +kernel, by decide +kernel⟩
theorem sc_come_to : FnScope ["word", "first", "second"] ["word", "first", "second"] (defScope s_come_to) := ⟨rfl, rfl, rfl, by decide +kernel, rfl, by decide +kernel, by decide +kernel⟩
theorem sc_is_worth : FnScope ["thing"] ["thing"] (defScope s_is_worth) := ⟨rfl, rfl, rfl, by decide +kernel, rfl, by decide +kernel, by decide +kernel⟩
theorem sc_joined : FnScope ["word", "first", "second", "worth"] ["word", "first", "second"] (defScope s_joined) := ⟨rfl, rfl, rfl, by decide +kernel, rfl, by decide +kernel, by decide +kernel⟩
theorem sc_reckoned : FnScope ["term", "slots", "worths", "part", "second", "first"] ["term", "slots"] (defScope s_reckoned) := ⟨rfl, rfl, rfl, by decide +kernel, rfl, by decide +kernel, by decide +kernel⟩
theorem sc_Doing_worth_of : FnScope ["self", "term"] ["self", "term"] (defScope s_Doing_worth_of) := ⟨rfl, rfl, rfl, by decide +kernel, rfl, by decide +kernel, by decide +kernel⟩
theorem sc_Doing_does : FnScope ["self", "row", "place"] ["self", "row"] (defScope s_Doing_does) := ⟨rfl, rfl, rfl, by decide +kernel, rfl, by decide +kernel, by decide +kernel⟩
theorem sc_Doing_goes_through : FnScope ["self", "rows", "row"] ["self", "rows"] (defScope s_Doing_goes_through) := ⟨rfl, rfl, rfl, by decide +kernel, rfl, by decide +kernel, by decide +kernel⟩
theorem sc_broken_off : FnScope ["why", "table"] ["why", "table"] (defScope s_broken_off) := ⟨rfl, rfl, rfl, by decide +kernel, rfl, by decide +kernel, by decide +kernel⟩
theorem sc_table_of : FnScope ["rows", "worths"] ["rows"] (defScope s_table_of) := ⟨rfl, rfl, rfl, by decide +kernel, rfl, by decide +kernel, by decide +kernel⟩
theorem sc_alone : FnScope ["rows", "table", "doing", "came_through"] ["rows", "table"] (defScope s_alone) := ⟨rfl, rfl, rfl, by decide +kernel, rfl, by decide +kernel, by decide +kernel⟩
theorem sc_one_by_one : FnScope ["dealings", "table", "outcomes", "behind", "rows", "done"] ["dealings", "table"] (defScope s_one_by_one) := ⟨rfl, rfl, rfl, by decide +kernel, rfl, by decide +kernel, by decide +kernel⟩
theorem sc__law_cell_at : FnScope ["script", "k"] ["script", "k"] (defScope s__law_cell_at) := ⟨rfl, rfl, rfl, by decide +kernel, rfl, by decide +kernel, by decide +kernel⟩
theorem sc__law_row : FnScope ["cell", "slots", "shelves", "kind", "shelf", "slot"] ["cell", "slots", "shelves"] (defScope s__law_row) := ⟨rfl, rfl, rfl, by decide +kernel, rfl, by decide +kernel, by decide +kernel⟩
theorem sc__law_within : FnScope ["row", "cell", "behind", "rows", "k"] ["row", "cell", "behind"] (defScope s__law_within) := ⟨rfl, rfl, rfl, by decide +kernel, rfl, by decide +kernel, by decide +kernel⟩
theorem sc__law_outcome : FnScope ["found", "why"] ["found", "why"] (defScope s__law_outcome) := ⟨rfl, rfl, rfl, by decide +kernel, rfl, by decide +kernel, by decide +kernel⟩
theorem sc_law : FnScope ["script", "slots", "shelves", "table", "why", "row", "behind", "rows", "handed", "given", "outcome", "told", "many", "last"] ["script"] (defScope s_law) := ⟨rfl, rfl, rfl, by decide +kernel, rfl, by decide +kernel, by decide +kernel⟩
/-- the addresses of the text -/
structure Adr where
  a__law_draw : Addr
  d__law_draw : FuncData
  a__law_names : Addr
  d__law_names : FuncData
  a__law_number : Addr
  d__law_number : FuncData
  a__law_table : Addr
  d__law_table : FuncData
  a__law_part : Addr
  d__law_part : FuncData
  a__law_nought : Addr
  d__law_nought : FuncData
  a__law_great : Addr
  d__law_great : FuncData
  a__law_bad : Addr
  d__law_bad : FuncData
  a__law_breaker : Addr
  d__law_breaker : FuncData
  a__law_copied : Addr
  d__law_copied : FuncData
  a_Doing_init : Addr
  d_Doing_init : FuncData
  a_divided : Addr
  d_divided : FuncData
  a_come_to : Addr
  d_come_to : FuncData
  a_is_worth : Addr
  d_is_worth : FuncData
  a_joined : Addr
  d_joined : FuncData
  a_reckoned : Addr
  d_reckoned : FuncData
  a_Doing_worth_of : Addr
  d_Doing_worth_of : FuncData
  a_Doing_does : Addr
  d_Doing_does : FuncData
  a_Doing_goes_through : Addr
  d_Doing_goes_through : FuncData
  a_broken_off : Addr
  d_broken_off : FuncData
  a_table_of : Addr
  d_table_of : FuncData
  a_alone : Addr
  d_alone : FuncData
  a_one_by_one : Addr
  d_one_by_one : FuncData
  a__law_cell_at : Addr
  d__law_cell_at : FuncData
  a__law_row : Addr
  d__law_row : FuncData
  a__law_within : Addr
  d__law_within : FuncData
  a__law_outcome : Addr
  d__law_outcome : FuncData
  a_law : Addr
  d_law : FuncData
  c_JOINING : Addr
  c_Doing : Addr
  c_Great : Addr
  c_Nought : Addr
structure Txt (K : PySem.W.Frag) (mg : Str → Option Value) (t : Adr) : Prop where
  f__law_draw : Fun K "_law_draw" "_law_draw" s__law_draw t.a__law_draw t.d__law_draw
  b__law_draw : Binds K t.d__law_draw ["cell", "j"] []
  m__law_draw : mg "_law_draw" = some (.ref t.a__law_draw)
  f__law_names : Fun K "_law_names" "_law_names" s__law_names t.a__law_names t.d__law_names
  b__law_names : Binds K t.d__law_names ["cell", "many"] []
  m__law_names : mg "_law_names" = some (.ref t.a__law_names)
  f__law_number : Fun K "_law_number" "_law_number" s__law_number t.a__law_number t.d__law_number
  b__law_number : Binds K t.d__law_number ["cell", "j"] []
  m__law_number : mg "_law_number" = some (.ref t.a__law_number)
  f__law_table : Fun K "_law_table" "_law_table" s__law_table t.a__law_table t.d__law_table
  b__law_table : Binds K t.d__law_table ["cell", "shelves"] []
  m__law_table : mg "_law_table" = some (.ref t.a__law_table)
  f__law_part : Fun K "_law_part" "_law_part" s__law_part t.a__law_part t.d__law_part
  b__law_part : Binds K t.d__law_part ["cell", "j", "slots"] []
  m__law_part : mg "_law_part" = some (.ref t.a__law_part)
  f__law_nought : Fun K "_law_nought" "_law_nought" s__law_nought t.a__law_nought t.d__law_nought
  b__law_nought : Binds K t.d__law_nought ["cell", "slots"] []
  m__law_nought : mg "_law_nought" = some (.ref t.a__law_nought)
  f__law_great : Fun K "_law_great" "_law_great" s__law_great t.a__law_great t.d__law_great
  b__law_great : Binds K t.d__law_great ["cell"] []
  m__law_great : mg "_law_great" = some (.ref t.a__law_great)
  f__law_bad : Fun K "_law_bad" "_law_bad" s__law_bad t.a__law_bad t.d__law_bad
  b__law_bad : Binds K t.d__law_bad ["cell", "slots"] []
  m__law_bad : mg "_law_bad" = some (.ref t.a__law_bad)
  f__law_breaker : Fun K "_law_breaker" "_law_breaker" s__law_breaker t.a__law_breaker t.d__law_breaker
  b__law_breaker : Binds K t.d__law_breaker ["cell", "slots", "shelves"] []
  m__law_breaker : mg "_law_breaker" = some (.ref t.a__law_breaker)
  f__law_copied : Fun K "_law_copied" "_law_copied" s__law_copied t.a__law_copied t.d__law_copied
  b__law_copied : Binds K t.d__law_copied ["rows"] []
  m__law_copied : mg "_law_copied" = some (.ref t.a__law_copied)
  f_Doing_init : Fun K "__init__" "Doing.__init__" s_Doing_init t.a_Doing_init t.d_Doing_init
  b_Doing_init : Binds K t.d_Doing_init ["self", "table"] []
  f_divided : Fun K "divided" "divided" s_divided t.a_divided t.d_divided
  b_divided : Binds K t.d_divided ["word", "first", "second"] []
  m_divided : mg "divided" = some (.ref t.a_divided)
  f_come_to : Fun K "come_to" "come_to" s_come_to t.a_come_to t.d_come_to
  b_come_to : Binds K t.d_come_to ["word", "first", "second"] []
  m_come_to : mg "come_to" = some (.ref t.a_come_to)
  f_is_worth : Fun K "is_worth" "is_worth" s_is_worth t.a_is_worth t.d_is_worth
  b_is_worth : Binds K t.d_is_worth ["thing"] []
  m_is_worth : mg "is_worth" = some (.ref t.a_is_worth)
  f_joined : Fun K "joined" "joined" s_joined t.a_joined t.d_joined
  b_joined : Binds K t.d_joined ["word", "first", "second"] []
  m_joined : mg "joined" = some (.ref t.a_joined)
  f_reckoned : Fun K "reckoned" "reckoned" s_reckoned t.a_reckoned t.d_reckoned
  b_reckoned : Binds K t.d_reckoned ["term", "slots"] []
  m_reckoned : mg "reckoned" = some (.ref t.a_reckoned)
  f_Doing_worth_of : Fun K "worth_of" "Doing.worth_of" s_Doing_worth_of t.a_Doing_worth_of t.d_Doing_worth_of
  b_Doing_worth_of : Binds K t.d_Doing_worth_of ["self", "term"] []
  me_Doing_worth_of : Meth K t.c_Doing "worth_of" t.a_Doing_worth_of
  f_Doing_does : Fun K "does" "Doing.does" s_Doing_does t.a_Doing_does t.d_Doing_does
  b_Doing_does : Binds K t.d_Doing_does ["self", "row"] []
  me_Doing_does : Meth K t.c_Doing "does" t.a_Doing_does
  f_Doing_goes_through : Fun K "goes_through" "Doing.goes_through" s_Doing_goes_through t.a_Doing_goes_through t.d_Doing_goes_through
  b_Doing_goes_through : Binds K t.d_Doing_goes_through ["self", "rows"] []
  me_Doing_goes_through : Meth K t.c_Doing "goes_through" t.a_Doing_goes_through
  f_broken_off : Fun K "broken_off" "broken_off" s_broken_off t.a_broken_off t.d_broken_off
  b_broken_off : Binds K t.d_broken_off ["why", "table"] []
  m_broken_off : mg "broken_off" = some (.ref t.a_broken_off)
  f_table_of : Fun K "table_of" "table_of" s_table_of t.a_table_of t.d_table_of
  b_table_of : Binds K t.d_table_of ["rows"] []
  m_table_of : mg "table_of" = some (.ref t.a_table_of)
  f_alone : Fun K "alone" "alone" s_alone t.a_alone t.d_alone
  b_alone : Binds K t.d_alone ["rows", "table"] []
  m_alone : mg "alone" = some (.ref t.a_alone)
  f_one_by_one : Fun K "one_by_one" "one_by_one" s_one_by_one t.a_one_by_one t.d_one_by_one
  b_one_by_one : Binds K t.d_one_by_one ["dealings", "table"] []
  m_one_by_one : mg "one_by_one" = some (.ref t.a_one_by_one)
  f__law_cell_at : Fun K "_law_cell_at" "_law_cell_at" s__law_cell_at t.a__law_cell_at t.d__law_cell_at
  b__law_cell_at : Binds K t.d__law_cell_at ["script", "k"] []
  m__law_cell_at : mg "_law_cell_at" = some (.ref t.a__law_cell_at)
  f__law_row : Fun K "_law_row" "_law_row" s__law_row t.a__law_row t.d__law_row
  b__law_row : Binds K t.d__law_row ["cell", "slots", "shelves"] []
  m__law_row : mg "_law_row" = some (.ref t.a__law_row)
  f__law_within : Fun K "_law_within" "_law_within" s__law_within t.a__law_within t.d__law_within
  b__law_within : Binds K t.d__law_within ["row", "cell", "behind"] []
  m__law_within : mg "_law_within" = some (.ref t.a__law_within)
  f__law_outcome : Fun K "_law_outcome" "_law_outcome" s__law_outcome t.a__law_outcome t.d__law_outcome
  b__law_outcome : Binds K t.d__law_outcome ["found", "why"] []
  m__law_outcome : mg "_law_outcome" = some (.ref t.a__law_outcome)
  f_law : Fun K "law" "law" s_law t.a_law t.d_law
  b_law : Binds K t.d_law ["script"] []
  m_law : mg "law" = some (.ref t.a_law)
  w_law : ∀ (s : Shared) (v : Value), BindsTo s t.d_law ⟨[v], []⟩ [("script", v)]
  b_bool : mg "bool" = none
  b_dict : mg "dict" = none
  b_int : mg "int" = none
  b_isinstance : mg "isinstance" = none
  b_len : mg "len" = none
  b_list : mg "list" = none
  b_min : mg "min" = none
  b_range : mg "range" = none
  b_sorted : mg "sorted" = none
  b_str : mg "str" = none
  b_tuple : mg "tuple" = none
  g_JOINING : mg "JOINING" = some (.ref t.c_JOINING)
  v_JOINING : ∀ H : Hp, SqT K H t.c_JOINING [.str "plus", .str "minus", .str "times", .str "over", .str "rest", .str "under", .str "same"]
  g_Doing : mg "Doing" = some (.ref t.c_Doing)
  g_Great : mg "Great" = some (.ref t.c_Great)
  g_Nought : mg "Nought" = some (.ref t.c_Nought)
  cl_Doing : Cls K t.c_Doing
  mk_Doing : Mk K t.c_Doing t.a_Doing_init
  na_Doing_sayings : NoAttr K t.c_Doing "sayings"
  na_Doing_slots : NoAttr K t.c_Doing "slots"
  na_Doing_worths : NoAttr K t.c_Doing "worths"
  x_Nought : PySem.W.excIn K t.c_Nought bmVal newVal = true
  y_Nought : ExK K t.c_Nought
  e_Nought_Great : PySem.W.exmOne K (.ref t.c_Nought) (.ref t.c_Great) = some false
  e_Nought_Nought : PySem.W.exmOne K (.ref t.c_Nought) (.ref t.c_Nought) = some true
  x_Great : PySem.W.excIn K t.c_Great bmVal newVal = true
  y_Great : ExK K t.c_Great
  e_Great_Great : PySem.W.exmOne K (.ref t.c_Great) (.ref t.c_Great) = some true
  e_Great_Nought : PySem.W.exmOne K (.ref t.c_Great) (.ref t.c_Nought) = some false
theorem txt_mk {K : PySem.W.Frag} {h : Heap} {mg : Str → Option Value} (X : K.In h) (G : h.Ns mainGlobals mg)
    {f0 : Addr} {od0 an0 : Option Addr} {sl0 : Array (Option Value)} {oc0 kV0 dc0 pm0 cd0 ct0 : Value}
    {f1 : Addr} {od1 an1 : Option Addr} {sl1 : Array (Option Value)} {oc1 kV1 dc1 pm1 cd1 ct1 : Value}
    {f2 : Addr} {od2 an2 : Option Addr} {sl2 : Array (Option Value)} {oc2 kV2 dc2 pm2 cd2 ct2 : Value}
    {f3 : Addr} {od3 an3 : Option Addr} {sl3 : Array (Option Value)} {oc3 kV3 dc3 pm3 cd3 ct3 : Value}
    {f4 : Addr} {od4 an4 : Option Addr} {sl4 : Array (Option Value)} {oc4 kV4 dc4 pm4 cd4 ct4 : Value}
    {f5 : Addr} {od5 an5 : Option Addr} {sl5 : Array (Option Value)} {oc5 kV5 dc5 pm5 cd5 ct5 : Value}
    {f6 : Addr} {od6 an6 : Option Addr} {sl6 : Array (Option Value)} {oc6 kV6 dc6 pm6 cd6 ct6 : Value}
    {f7 : Addr} {od7 an7 : Option Addr} {sl7 : Array (Option Value)} {oc7 kV7 dc7 pm7 cd7 ct7 : Value}
    {f8 : Addr} {od8 an8 : Option Addr} {sl8 : Array (Option Value)} {oc8 kV8 dc8 pm8 cd8 ct8 : Value}
    {f9 : Addr} {od9 an9 : Option Addr} {sl9 : Array (Option Value)} {oc9 kV9 dc9 pm9 cd9 ct9 : Value}
    {f10 : Addr} {od10 an10 : Option Addr} {sl10 : Array (Option Value)} {oc10 kV10 dc10 pm10 cd10 ct10 : Value}
    {f11 : Addr} {od11 an11 : Option Addr} {sl11 : Array (Option Value)} {oc11 kV11 dc11 pm11 cd11 ct11 : Value}
    {f12 : Addr} {od12 an12 : Option Addr} {sl12 : Array (Option Value)} {oc12 kV12 dc12 pm12 cd12 ct12 : Value}
    {f13 : Addr} {od13 an13 : Option Addr} {sl13 : Array (Option Value)} {oc13 kV13 dc13 pm13 cd13 ct13 : Value}
    {f14 : Addr} {od14 an14 : Option Addr} {sl14 : Array (Option Value)} {oc14 kV14 dc14 pm14 cd14 ct14 : Value}
    {f15 : Addr} {od15 an15 : Option Addr} {sl15 : Array (Option Value)} {oc15 kV15 dc15 pm15 cd15 ct15 : Value}
    {f16 : Addr} {od16 an16 : Option Addr} {sl16 : Array (Option Value)} {oc16 kV16 dc16 pm16 cd16 ct16 : Value}
    {f17 : Addr} {od17 an17 : Option Addr} {sl17 : Array (Option Value)} {oc17 kV17 dc17 pm17 cd17 ct17 : Value}
    {f18 : Addr} {od18 an18 : Option Addr} {sl18 : Array (Option Value)} {oc18 kV18 dc18 pm18 cd18 ct18 : Value}
    {f19 : Addr} {od19 an19 : Option Addr} {sl19 : Array (Option Value)} {oc19 kV19 dc19 pm19 cd19 ct19 : Value}
    {f20 : Addr} {od20 an20 : Option Addr} {sl20 : Array (Option Value)} {oc20 kV20 dc20 pm20 cd20 ct20 : Value}
    {f21 : Addr} {od21 an21 : Option Addr} {sl21 : Array (Option Value)} {oc21 kV21 dc21 pm21 cd21 ct21 : Value}
    {f22 : Addr} {od22 an22 : Option Addr} {sl22 : Array (Option Value)} {oc22 kV22 dc22 pm22 cd22 ct22 : Value}
    {f23 : Addr} {od23 an23 : Option Addr} {sl23 : Array (Option Value)} {oc23 kV23 dc23 pm23 cd23 ct23 : Value}
    {f24 : Addr} {od24 an24 : Option Addr} {sl24 : Array (Option Value)} {oc24 kV24 dc24 pm24 cd24 ct24 : Value}
    {f25 : Addr} {od25 an25 : Option Addr} {sl25 : Array (Option Value)} {oc25 kV25 dc25 pm25 cd25 ct25 : Value}
    {f26 : Addr} {od26 an26 : Option Addr} {sl26 : Array (Option Value)} {oc26 kV26 dc26 pm26 cd26 ct26 : Value}
    {f27 : Addr} {od27 an27 : Option Addr} {sl27 : Array (Option Value)} {oc27 kV27 dc27 pm27 cd27 ct27 : Value}
    {ga0 : Addr} {gn0 : Nat} {gt0_0 : Tok} {gt0_1 : Tok} {gt0_2 : Tok} {gt0_3 : Tok} {gt0_4 : Tok} {gt0_5 : Tok} {gt0_6 : Tok}
    {ca0 : Addr}
    {ca1 : Addr}
    {ca2 : Addr}
    {cl0 : ClassData}
    {cl1 : ClassData}
    (qa0 : PySem.W.nsIn K mainGlobals "_law_draw" = some (some (.ref f0))) (ql0 : K.lookup f0 = some ⟨oc0, od0, .func (PySem.W.fnOf "_law_draw" "_law_draw" (defArgs s__law_draw) (defBody s__law_draw) (defScope s__law_draw) .none kV0 dc0 pm0 an0 cd0 ct0), sl0⟩) (qc0 : PySem.W.codeIn K cd0 "_law_draw" = true) (qk0 : PySem.W.keepIn K (.ref f0) = true)
    (qa1 : PySem.W.nsIn K mainGlobals "_law_names" = some (some (.ref f1))) (ql1 : K.lookup f1 = some ⟨oc1, od1, .func (PySem.W.fnOf "_law_names" "_law_names" (defArgs s__law_names) (defBody s__law_names) (defScope s__law_names) .none kV1 dc1 pm1 an1 cd1 ct1), sl1⟩) (qc1 : PySem.W.codeIn K cd1 "_law_names" = true) (qk1 : PySem.W.keepIn K (.ref f1) = true)
    (qa2 : PySem.W.nsIn K mainGlobals "_law_number" = some (some (.ref f2))) (ql2 : K.lookup f2 = some ⟨oc2, od2, .func (PySem.W.fnOf "_law_number" "_law_number" (defArgs s__law_number) (defBody s__law_number) (defScope s__law_number) .none kV2 dc2 pm2 an2 cd2 ct2), sl2⟩) (qc2 : PySem.W.codeIn K cd2 "_law_number" = true) (qk2 : PySem.W.keepIn K (.ref f2) = true)
    (qa3 : PySem.W.nsIn K mainGlobals "_law_table" = some (some (.ref f3))) (ql3 : K.lookup f3 = some ⟨oc3, od3, .func (PySem.W.fnOf "_law_table" "_law_table" (defArgs s__law_table) (defBody s__law_table) (defScope s__law_table) .none kV3 dc3 pm3 an3 cd3 ct3), sl3⟩) (qc3 : PySem.W.codeIn K cd3 "_law_table" = true) (qk3 : PySem.W.keepIn K (.ref f3) = true)
    (qa4 : PySem.W.nsIn K mainGlobals "_law_part" = some (some (.ref f4))) (ql4 : K.lookup f4 = some ⟨oc4, od4, .func (PySem.W.fnOf "_law_part" "_law_part" (defArgs s__law_part) (defBody s__law_part) (defScope s__law_part) .none kV4 dc4 pm4 an4 cd4 ct4), sl4⟩) (qc4 : PySem.W.codeIn K cd4 "_law_part" = true) (qk4 : PySem.W.keepIn K (.ref f4) = true)
    (qa5 : PySem.W.nsIn K mainGlobals "_law_nought" = some (some (.ref f5))) (ql5 : K.lookup f5 = some ⟨oc5, od5, .func (PySem.W.fnOf "_law_nought" "_law_nought" (defArgs s__law_nought) (defBody s__law_nought) (defScope s__law_nought) .none kV5 dc5 pm5 an5 cd5 ct5), sl5⟩) (qc5 : PySem.W.codeIn K cd5 "_law_nought" = true) (qk5 : PySem.W.keepIn K (.ref f5) = true)
    (qa6 : PySem.W.nsIn K mainGlobals "_law_great" = some (some (.ref f6))) (ql6 : K.lookup f6 = some ⟨oc6, od6, .func (PySem.W.fnOf "_law_great" "_law_great" (defArgs s__law_great) (defBody s__law_great) (defScope s__law_great) .none kV6 dc6 pm6 an6 cd6 ct6), sl6⟩) (qc6 : PySem.W.codeIn K cd6 "_law_great" = true) (qk6 : PySem.W.keepIn K (.ref f6) = true)
    (qa7 : PySem.W.nsIn K mainGlobals "_law_bad" = some (some (.ref f7))) (ql7 : K.lookup f7 = some ⟨oc7, od7, .func (PySem.W.fnOf "_law_bad" "_law_bad" (defArgs s__law_bad) (defBody s__law_bad) (defScope s__law_bad) .none kV7 dc7 pm7 an7 cd7 ct7), sl7⟩) (qc7 : PySem.W.codeIn K cd7 "_law_bad" = true) (qk7 : PySem.W.keepIn K (.ref f7) = true)
    (qa8 : PySem.W.nsIn K mainGlobals "_law_breaker" = some (some (.ref f8))) (ql8 : K.lookup f8 = some ⟨oc8, od8, .func (PySem.W.fnOf "_law_breaker" "_law_breaker" (defArgs s__law_breaker) (defBody s__law_breaker) (defScope s__law_breaker) .none kV8 dc8 pm8 an8 cd8 ct8), sl8⟩) (qc8 : PySem.W.codeIn K cd8 "_law_breaker" = true) (qk8 : PySem.W.keepIn K (.ref f8) = true)
    (qa9 : PySem.W.nsIn K mainGlobals "_law_copied" = some (some (.ref f9))) (ql9 : K.lookup f9 = some ⟨oc9, od9, .func (PySem.W.fnOf "_law_copied" "_law_copied" (defArgs s__law_copied) (defBody s__law_copied) (defScope s__law_copied) .none kV9 dc9 pm9 an9 cd9 ct9), sl9⟩) (qc9 : PySem.W.codeIn K cd9 "_law_copied" = true) (qk9 : PySem.W.keepIn K (.ref f9) = true)
    (qa10 : PySem.W.findIn K (.ref ca0) "__init__" = some (some (.ref f10))) (qi10 : PySem.W.isFn K (.ref f10) = true) (ql10 : K.lookup f10 = some ⟨oc10, od10, .func (PySem.W.fnOf "__init__" "Doing.__init__" (defArgs s_Doing_init) (defBody s_Doing_init) (defScope s_Doing_init) .none kV10 dc10 pm10 an10 cd10 ct10), sl10⟩) (qc10 : PySem.W.codeIn K cd10 "Doing.__init__" = true) (qk10 : PySem.W.keepIn K (.ref f10) = true)
    (qa11 : PySem.W.nsIn K mainGlobals "divided" = some (some (.ref f11))) (ql11 : K.lookup f11 = some ⟨oc11, od11, .func (PySem.W.fnOf "divided" "divided" (defArgs s_divided) (defBody s_divided) (defScope s_divided) .none kV11 dc11 pm11 an11 cd11 ct11), sl11⟩) (qc11 : PySem.W.codeIn K cd11 "divided" = true) (qk11 : PySem.W.keepIn K (.ref f11) = true)
    (qa12 : PySem.W.nsIn K mainGlobals "come_to" = some (some (.ref f12))) (ql12 : K.lookup f12 = some ⟨oc12, od12, .func (PySem.W.fnOf "come_to" "come_to" (defArgs s_come_to) (defBody s_come_to) (defScope s_come_to) .none kV12 dc12 pm12 an12 cd12 ct12), sl12⟩) (qc12 : PySem.W.codeIn K cd12 "come_to" = true) (qk12 : PySem.W.keepIn K (.ref f12) = true)
    (qa13 : PySem.W.nsIn K mainGlobals "is_worth" = some (some (.ref f13))) (ql13 : K.lookup f13 = some ⟨oc13, od13, .func (PySem.W.fnOf "is_worth" "is_worth" (defArgs s_is_worth) (defBody s_is_worth) (defScope s_is_worth) .none kV13 dc13 pm13 an13 cd13 ct13), sl13⟩) (qc13 : PySem.W.codeIn K cd13 "is_worth" = true) (qk13 : PySem.W.keepIn K (.ref f13) = true)
    (qa14 : PySem.W.nsIn K mainGlobals "joined" = some (some (.ref f14))) (ql14 : K.lookup f14 = some ⟨oc14, od14, .func (PySem.W.fnOf "joined" "joined" (defArgs s_joined) (defBody s_joined) (defScope s_joined) .none kV14 dc14 pm14 an14 cd14 ct14), sl14⟩) (qc14 : PySem.W.codeIn K cd14 "joined" = true) (qk14 : PySem.W.keepIn K (.ref f14) = true)
    (qa15 : PySem.W.nsIn K mainGlobals "reckoned" = some (some (.ref f15))) (ql15 : K.lookup f15 = some ⟨oc15, od15, .func (PySem.W.fnOf "reckoned" "reckoned" (defArgs s_reckoned) (defBody s_reckoned) (defScope s_reckoned) .none kV15 dc15 pm15 an15 cd15 ct15), sl15⟩) (qc15 : PySem.W.codeIn K cd15 "reckoned" = true) (qk15 : PySem.W.keepIn K (.ref f15) = true)
    (qa16 : PySem.W.findIn K (.ref ca0) "worth_of" = some (some (.ref f16))) (qi16 : PySem.W.isFn K (.ref f16) = true) (ql16 : K.lookup f16 = some ⟨oc16, od16, .func (PySem.W.fnOf "worth_of" "Doing.worth_of" (defArgs s_Doing_worth_of) (defBody s_Doing_worth_of) (defScope s_Doing_worth_of) .none kV16 dc16 pm16 an16 cd16 ct16), sl16⟩) (qc16 : PySem.W.codeIn K cd16 "Doing.worth_of" = true) (qk16 : PySem.W.keepIn K (.ref f16) = true)
    (qa17 : PySem.W.findIn K (.ref ca0) "does" = some (some (.ref f17))) (qi17 : PySem.W.isFn K (.ref f17) = true) (ql17 : K.lookup f17 = some ⟨oc17, od17, .func (PySem.W.fnOf "does" "Doing.does" (defArgs s_Doing_does) (defBody s_Doing_does) (defScope s_Doing_does) .none kV17 dc17 pm17 an17 cd17 ct17), sl17⟩) (qc17 : PySem.W.codeIn K cd17 "Doing.does" = true) (qk17 : PySem.W.keepIn K (.ref f17) = true)
    (qa18 : PySem.W.findIn K (.ref ca0) "goes_through" = some (some (.ref f18))) (qi18 : PySem.W.isFn K (.ref f18) = true) (ql18 : K.lookup f18 = some ⟨oc18, od18, .func (PySem.W.fnOf "goes_through" "Doing.goes_through" (defArgs s_Doing_goes_through) (defBody s_Doing_goes_through) (defScope s_Doing_goes_through) .none kV18 dc18 pm18 an18 cd18 ct18), sl18⟩) (qc18 : PySem.W.codeIn K cd18 "Doing.goes_through" = true) (qk18 : PySem.W.keepIn K (.ref f18) = true)
    (qa19 : PySem.W.nsIn K mainGlobals "broken_off" = some (some (.ref f19))) (ql19 : K.lookup f19 = some ⟨oc19, od19, .func (PySem.W.fnOf "broken_off" "broken_off" (defArgs s_broken_off) (defBody s_broken_off) (defScope s_broken_off) .none kV19 dc19 pm19 an19 cd19 ct19), sl19⟩) (qc19 : PySem.W.codeIn K cd19 "broken_off" = true) (qk19 : PySem.W.keepIn K (.ref f19) = true)
    (qa20 : PySem.W.nsIn K mainGlobals "table_of" = some (some (.ref f20))) (ql20 : K.lookup f20 = some ⟨oc20, od20, .func (PySem.W.fnOf "table_of" "table_of" (defArgs s_table_of) (defBody s_table_of) (defScope s_table_of) .none kV20 dc20 pm20 an20 cd20 ct20), sl20⟩) (qc20 : PySem.W.codeIn K cd20 "table_of" = true) (qk20 : PySem.W.keepIn K (.ref f20) = true)
    (qa21 : PySem.W.nsIn K mainGlobals "alone" = some (some (.ref f21))) (ql21 : K.lookup f21 = some ⟨oc21, od21, .func (PySem.W.fnOf "alone" "alone" (defArgs s_alone) (defBody s_alone) (defScope s_alone) .none kV21 dc21 pm21 an21 cd21 ct21), sl21⟩) (qc21 : PySem.W.codeIn K cd21 "alone" = true) (qk21 : PySem.W.keepIn K (.ref f21) = true)
    (qa22 : PySem.W.nsIn K mainGlobals "one_by_one" = some (some (.ref f22))) (ql22 : K.lookup f22 = some ⟨oc22, od22, .func (PySem.W.fnOf "one_by_one" "one_by_one" (defArgs s_one_by_one) (defBody s_one_by_one) (defScope s_one_by_one) .none kV22 dc22 pm22 an22 cd22 ct22), sl22⟩) (qc22 : PySem.W.codeIn K cd22 "one_by_one" = true) (qk22 : PySem.W.keepIn K (.ref f22) = true)
    (qa23 : PySem.W.nsIn K mainGlobals "_law_cell_at" = some (some (.ref f23))) (ql23 : K.lookup f23 = some ⟨oc23, od23, .func (PySem.W.fnOf "_law_cell_at" "_law_cell_at" (defArgs s__law_cell_at) (defBody s__law_cell_at) (defScope s__law_cell_at) .none kV23 dc23 pm23 an23 cd23 ct23), sl23⟩) (qc23 : PySem.W.codeIn K cd23 "_law_cell_at" = true) (qk23 : PySem.W.keepIn K (.ref f23) = true)
    (qa24 : PySem.W.nsIn K mainGlobals "_law_row" = some (some (.ref f24))) (ql24 : K.lookup f24 = some ⟨oc24, od24, .func (PySem.W.fnOf "_law_row" "_law_row" (defArgs s__law_row) (defBody s__law_row) (defScope s__law_row) .none kV24 dc24 pm24 an24 cd24 ct24), sl24⟩) (qc24 : PySem.W.codeIn K cd24 "_law_row" = true) (qk24 : PySem.W.keepIn K (.ref f24) = true)
    (qa25 : PySem.W.nsIn K mainGlobals "_law_within" = some (some (.ref f25))) (ql25 : K.lookup f25 = some ⟨oc25, od25, .func (PySem.W.fnOf "_law_within" "_law_within" (defArgs s__law_within) (defBody s__law_within) (defScope s__law_within) .none kV25 dc25 pm25 an25 cd25 ct25), sl25⟩) (qc25 : PySem.W.codeIn K cd25 "_law_within" = true) (qk25 : PySem.W.keepIn K (.ref f25) = true)
    (qa26 : PySem.W.nsIn K mainGlobals "_law_outcome" = some (some (.ref f26))) (ql26 : K.lookup f26 = some ⟨oc26, od26, .func (PySem.W.fnOf "_law_outcome" "_law_outcome" (defArgs s__law_outcome) (defBody s__law_outcome) (defScope s__law_outcome) .none kV26 dc26 pm26 an26 cd26 ct26), sl26⟩) (qc26 : PySem.W.codeIn K cd26 "_law_outcome" = true) (qk26 : PySem.W.keepIn K (.ref f26) = true)
    (qa27 : PySem.W.nsIn K mainGlobals "law" = some (some (.ref f27))) (ql27 : K.lookup f27 = some ⟨oc27, od27, .func (PySem.W.fnOf "law" "law" (defArgs s_law) (defBody s_law) (defScope s_law) .none kV27 dc27 pm27 an27 cd27 ct27), sl27⟩) (qc27 : PySem.W.codeIn K cd27 "law" = true) (qk27 : PySem.W.keepIn K (.ref f27) = true)
    (qz0 : PySem.W.nsIn K mainGlobals "bool" = some none)
    (qz1 : PySem.W.nsIn K mainGlobals "dict" = some none)
    (qz2 : PySem.W.nsIn K mainGlobals "int" = some none)
    (qz3 : PySem.W.nsIn K mainGlobals "isinstance" = some none)
    (qz4 : PySem.W.nsIn K mainGlobals "len" = some none)
    (qz5 : PySem.W.nsIn K mainGlobals "list" = some none)
    (qz6 : PySem.W.nsIn K mainGlobals "min" = some none)
    (qz7 : PySem.W.nsIn K mainGlobals "range" = some none)
    (qz8 : PySem.W.nsIn K mainGlobals "sorted" = some none)
    (qz9 : PySem.W.nsIn K mainGlobals "str" = some none)
    (qz10 : PySem.W.nsIn K mainGlobals "tuple" = some none)
    (qg0 : PySem.W.nsIn K mainGlobals "JOINING" = some (some (.ref ga0))) (qh0 : K.lookup ga0 = some ⟨.type "tuple", none, .seq #[.str "plus" gt0_0, .str "minus" gt0_1, .str "times" gt0_2, .str "over" gt0_3, .str "rest" gt0_4, .str "under" gt0_5, .str "same" gt0_6] gn0, #[]⟩)
    (qv0 : PySem.W.nsIn K mainGlobals "Doing" = some (some (.ref ca0)))
    (qv1 : PySem.W.nsIn K mainGlobals "Great" = some (some (.ref ca1)))
    (qv2 : PySem.W.nsIn K mainGlobals "Nought" = some (some (.ref ca2)))
    (pg0 : PySem.W.plainGet K ca0 Str.empty = true) (pd0 : PySem.W.hasDictIn K ca0 = true) (po0 : PySem.W.plainOver K ca0 = true) (pe0 : PySem.W.findIn K (.ref ca0) "__setattr__" = some (some (.builtin "object.__setattr__"))) (pm0_ : PySem.W.makesIn K ca0 = true) (pk0 : PySem.W.keepIn K (.ref ca0) = true)
    (pn0_0 : PySem.W.findIn K (.ref ca0) "sayings" = some none)
    (pn0_1 : PySem.W.findIn K (.ref ca0) "slots" = some none)
    (pn0_2 : PySem.W.findIn K (.ref ca0) "worths" = some none)
    (rx0 : PySem.W.excIn K ca2 bmVal newVal = true)
    (ry0_0 : PySem.W.findIn K (.ref ca2) "__getattribute__" = some (some (.builtin "BaseException.__getattribute__")))
    (ry0_1 : PySem.W.findIn K (.ref ca2) "__getattr__" = some none)
    (ry0_2 : PySem.W.findIn K (.ref ca2) "__class__" = some (some (.builtin "object.__class__")))
    (ry0_3 : PySem.W.mroIn K ca2 (.type "object") = some true)
    (ry0_4 : PySem.W.mroIn K ca2 (.type "BaseException") = some true)
    (ry0_5 : PySem.W.specialIn K (.builtin "object.__class__") "__get__" = some (some (.builtin "getset_descriptor.__get__")))
    (ry0_6 : PySem.W.takesIn K (.builtin "object.__class__") = some true)
    (ry0_7 : PySem.W.clsIn K ca2 = some cl0)
    (re0_0 : PySem.W.exmOne K (.ref ca2) (.ref ca1) = some false)
    (re0_1 : PySem.W.exmOne K (.ref ca2) (.ref ca2) = some true)
    (rx1 : PySem.W.excIn K ca1 bmVal newVal = true)
    (ry1_0 : PySem.W.findIn K (.ref ca1) "__getattribute__" = some (some (.builtin "BaseException.__getattribute__")))
    (ry1_1 : PySem.W.findIn K (.ref ca1) "__getattr__" = some none)
    (ry1_2 : PySem.W.findIn K (.ref ca1) "__class__" = some (some (.builtin "object.__class__")))
    (ry1_3 : PySem.W.mroIn K ca1 (.type "object") = some true)
    (ry1_4 : PySem.W.mroIn K ca1 (.type "BaseException") = some true)
    (ry1_5 : PySem.W.specialIn K (.builtin "object.__class__") "__get__" = some (some (.builtin "getset_descriptor.__get__")))
    (ry1_6 : PySem.W.takesIn K (.builtin "object.__class__") = some true)
    (ry1_7 : PySem.W.clsIn K ca1 = some cl1)
    (re1_0 : PySem.W.exmOne K (.ref ca1) (.ref ca1) = some true)
    (re1_1 : PySem.W.exmOne K (.ref ca1) (.ref ca2) = some false) : ∃ t, Txt K mg t := by
  have F0 := fun_mk (st := s__law_draw) ql0 qc0 qk0
  have F1 := fun_mk (st := s__law_names) ql1 qc1 qk1
  have F2 := fun_mk (st := s__law_number) ql2 qc2 qk2
  have F3 := fun_mk (st := s__law_table) ql3 qc3 qk3
  have F4 := fun_mk (st := s__law_part) ql4 qc4 qk4
  have F5 := fun_mk (st := s__law_nought) ql5 qc5 qk5
  have F6 := fun_mk (st := s__law_great) ql6 qc6 qk6
  have F7 := fun_mk (st := s__law_bad) ql7 qc7 qk7
  have F8 := fun_mk (st := s__law_breaker) ql8 qc8 qk8
  have F9 := fun_mk (st := s__law_copied) ql9 qc9 qk9
  have F10 := fun_mk (st := s_Doing_init) ql10 qc10 qk10
  have F11 := fun_mk (st := s_divided) ql11 qc11 qk11
  have F12 := fun_mk (st := s_come_to) ql12 qc12 qk12
  have F13 := fun_mk (st := s_is_worth) ql13 qc13 qk13
  have F14 := fun_mk (st := s_joined) ql14 qc14 qk14
  have F15 := fun_mk (st := s_reckoned) ql15 qc15 qk15
  have F16 := fun_mk (st := s_Doing_worth_of) ql16 qc16 qk16
  have F17 := fun_mk (st := s_Doing_does) ql17 qc17 qk17
  have F18 := fun_mk (st := s_Doing_goes_through) ql18 qc18 qk18
  have F19 := fun_mk (st := s_broken_off) ql19 qc19 qk19
  have F20 := fun_mk (st := s_table_of) ql20 qc20 qk20
  have F21 := fun_mk (st := s_alone) ql21 qc21 qk21
  have F22 := fun_mk (st := s_one_by_one) ql22 qc22 qk22
  have F23 := fun_mk (st := s__law_cell_at) ql23 qc23 qk23
  have F24 := fun_mk (st := s__law_row) ql24 qc24 qk24
  have F25 := fun_mk (st := s__law_within) ql25 qc25 qk25
  have F26 := fun_mk (st := s__law_outcome) ql26 qc26 qk26
  have F27 := fun_mk (st := s_law) ql27 qc27 qk27
  exact ⟨⟨f0, _, f1, _, f2, _, f3, _, f4, _, f5, _, f6, _, f7, _, f8, _, f9, _, f10, _, f11, _, f12, _, f13, _, f14, _, f15, _, f16, _, f17, _, f18, _, f19, _, f20, _, f21, _, f22, _, f23, _, f24, _, f25, _, f26, _, f27, _, ga0, ca0, ca1, ca2⟩, ⟨F0, F0.binds (ps := ["cell", "j"]) (fun _ _ _ _ _ _ us hl => match us, hl with | [_, _], _ => rfl), PySem.W.mg_of X G qa0,
    F1, F1.binds (ps := ["cell", "many"]) (fun _ _ _ _ _ _ us hl => match us, hl with | [_, _], _ => rfl), PySem.W.mg_of X G qa1,
    F2, F2.binds (ps := ["cell", "j"]) (fun _ _ _ _ _ _ us hl => match us, hl with | [_, _], _ => rfl), PySem.W.mg_of X G qa2,
    F3, F3.binds (ps := ["cell", "shelves"]) (fun _ _ _ _ _ _ us hl => match us, hl with | [_, _], _ => rfl), PySem.W.mg_of X G qa3,
    F4, F4.binds (ps := ["cell", "j", "slots"]) (fun _ _ _ _ _ _ us hl => match us, hl with | [_, _, _], _ => rfl), PySem.W.mg_of X G qa4,
    F5, F5.binds (ps := ["cell", "slots"]) (fun _ _ _ _ _ _ us hl => match us, hl with | [_, _], _ => rfl), PySem.W.mg_of X G qa5,
    F6, F6.binds (ps := ["cell"]) (fun _ _ _ _ _ _ us hl => match us, hl with | [_], _ => rfl), PySem.W.mg_of X G qa6,
    F7, F7.binds (ps := ["cell", "slots"]) (fun _ _ _ _ _ _ us hl => match us, hl with | [_, _], _ => rfl), PySem.W.mg_of X G qa7,
    F8, F8.binds (ps := ["cell", "slots", "shelves"]) (fun _ _ _ _ _ _ us hl => match us, hl with | [_, _, _], _ => rfl), PySem.W.mg_of X G qa8,
    F9, F9.binds (ps := ["rows"]) (fun _ _ _ _ _ _ us hl => match us, hl with | [_], _ => rfl), PySem.W.mg_of X G qa9,
    F10, F10.binds (ps := ["self", "table"]) (fun _ _ _ _ _ _ us hl => match us, hl with | [_, _], _ => rfl),
    F11, F11.binds (ps := ["word", "first", "second"]) (fun _ _ _ _ _ _ us hl => match us, hl with | [_, _, _], _ => rfl), PySem.W.mg_of X G qa11,
    F12, F12.binds (ps := ["word", "first", "second"]) (fun _ _ _ _ _ _ us hl => match us, hl with | [_, _, _], _ => rfl), PySem.W.mg_of X G qa12,
    F13, F13.binds (ps := ["thing"]) (fun _ _ _ _ _ _ us hl => match us, hl with | [_], _ => rfl), PySem.W.mg_of X G qa13,
    F14, F14.binds (ps := ["word", "first", "second"]) (fun _ _ _ _ _ _ us hl => match us, hl with | [_, _, _], _ => rfl), PySem.W.mg_of X G qa14,
    F15, F15.binds (ps := ["term", "slots"]) (fun _ _ _ _ _ _ us hl => match us, hl with | [_, _], _ => rfl), PySem.W.mg_of X G qa15,
    F16, F16.binds (ps := ["self", "term"]) (fun _ _ _ _ _ _ us hl => match us, hl with | [_, _], _ => rfl), ⟨qa16, qi16, qk16⟩,
    F17, F17.binds (ps := ["self", "row"]) (fun _ _ _ _ _ _ us hl => match us, hl with | [_, _], _ => rfl), ⟨qa17, qi17, qk17⟩,
    F18, F18.binds (ps := ["self", "rows"]) (fun _ _ _ _ _ _ us hl => match us, hl with | [_, _], _ => rfl), ⟨qa18, qi18, qk18⟩,
    F19, F19.binds (ps := ["why", "table"]) (fun _ _ _ _ _ _ us hl => match us, hl with | [_, _], _ => rfl), PySem.W.mg_of X G qa19,
    F20, F20.binds (ps := ["rows"]) (fun _ _ _ _ _ _ us hl => match us, hl with | [_], _ => rfl), PySem.W.mg_of X G qa20,
    F21, F21.binds (ps := ["rows", "table"]) (fun _ _ _ _ _ _ us hl => match us, hl with | [_, _], _ => rfl), PySem.W.mg_of X G qa21,
    F22, F22.binds (ps := ["dealings", "table"]) (fun _ _ _ _ _ _ us hl => match us, hl with | [_, _], _ => rfl), PySem.W.mg_of X G qa22,
    F23, F23.binds (ps := ["script", "k"]) (fun _ _ _ _ _ _ us hl => match us, hl with | [_, _], _ => rfl), PySem.W.mg_of X G qa23,
    F24, F24.binds (ps := ["cell", "slots", "shelves"]) (fun _ _ _ _ _ _ us hl => match us, hl with | [_, _, _], _ => rfl), PySem.W.mg_of X G qa24,
    F25, F25.binds (ps := ["row", "cell", "behind"]) (fun _ _ _ _ _ _ us hl => match us, hl with | [_, _, _], _ => rfl), PySem.W.mg_of X G qa25,
    F26, F26.binds (ps := ["found", "why"]) (fun _ _ _ _ _ _ us hl => match us, hl with | [_, _], _ => rfl), PySem.W.mg_of X G qa26,
    F27, F27.binds (ps := ["script"]) (fun _ _ _ _ _ _ us hl => match us, hl with | [_], _ => rfl), PySem.W.mg_of X G qa27,
    fun s v => .of_eq rfl,
    PySem.W.mg_none_of X G qz0,
    PySem.W.mg_none_of X G qz1,
    PySem.W.mg_none_of X G qz2,
    PySem.W.mg_none_of X G qz3,
    PySem.W.mg_none_of X G qz4,
    PySem.W.mg_none_of X G qz5,
    PySem.W.mg_none_of X G qz6,
    PySem.W.mg_none_of X G qz7,
    PySem.W.mg_none_of X G qz8,
    PySem.W.mg_none_of X G qz9,
    PySem.W.mg_none_of X G qz10,
    PySem.W.mg_of X G qg0, fun _ => .inr ⟨_, _, _, qh0, rfl, rfl, (by show 7 ≤ sizeLine; decide), (.cons ⟨_, rfl⟩ (.cons ⟨_, rfl⟩ (.cons ⟨_, rfl⟩ (.cons ⟨_, rfl⟩ (.cons ⟨_, rfl⟩ (.cons ⟨_, rfl⟩ (.cons ⟨_, rfl⟩ .nil)))))))⟩,
    PySem.W.mg_of X G qv0,
    PySem.W.mg_of X G qv1,
    PySem.W.mg_of X G qv2,
    ⟨pg0, pd0, po0, pe0⟩,
    ⟨pm0_, qa10, qi10, pk0⟩,
    pn0_0,
    pn0_1,
    pn0_2,
    rx0,
    ⟨⟨ry0_0, ry0_1, ry0_2, ry0_3, ry0_4, ry0_5, ry0_6⟩, by rw [ry0_7]; rfl⟩,
    re0_0,
    re0_1,
    rx1,
    ⟨⟨ry1_0, ry1_1, ry1_2, ry1_3, ry1_4, ry1_5, ry1_6⟩, by rw [ry1_7]; rfl⟩,
    re1_0,
    re1_1⟩⟩
structure KF (K : PySem.W.Frag) : Prop where
  i_b : PySem.W.kitOne K (.type "int") (.type "bool") = some false
  i_s : PySem.W.kitOne K (.type "int") (.type "str") = some false
def IntFact (K : PySem.W.Frag) : Prop := PySem.W.kitOne K (.type "int") (.type "bool") = some false
def fin (t : Adr) (r : Except Er Int) (Q : VK) (E : XK) (H : Hp) : Prop := match r with
  | .ok i => Q (.int i) H
  | .error .nought => E (.ref t.c_Nought) none H
  | .error .great => E (.ref t.c_Great) none H
  | .error .stuck => True
def errE (t : Adr) (e : Er) (E : XK) (H : Hp) : Prop := match e with
  | .nought => E (.ref t.c_Nought) none H
  | .great => E (.ref t.c_Great) none H
  | .stuck => True
/-- rows of a table as they stand in the heap: each a tuple of its own, of a place that is one and a worth -/
def RowAt (H : Hp) (v : V) (q : Row) : Prop := ∃ r p, v = .ref r ∧ H r = some (.tup [.ref p, .int q.2]) ∧ H p = some (.tup [.str q.1.1, .int q.1.2])
def RowsAt (H : Hp) (vs : List V) (rows : List Row) : Prop := Paired (RowAt H) vs rows
def okRow (q : Row) : Prop := isName q.1.1 = true
def LsAt (H : Hp) (a : Addr) (rows : List Row) : Prop := ∃ xs, H a = some (.lst xs) ∧ RowsAt H xs rows
def NamesAt (H : Hp) (nm : Addr) (ws : List Str) : Prop := H nm = some (.lst (ws.map V.str)) ∧ ∀ w ∈ ws, isName w = true
structure DoF (K : PySem.W.Frag) (t : Adr) : Prop where
  cl : Cls K t.c_Doing
  n1 : NoAttr K t.c_Doing "slots"
  n2 : NoAttr K t.c_Doing "worths"
  n3 : NoAttr K t.c_Doing "sayings"
/-- a dealing under way: what stood ahead of it stays -/
structure DoAt (t : Adr) (H0 H : Hp) (x dx sl wo sa : Addr) (s : Sta) : Prop where
  sm : Same H0 H
  f1 : H0 sl = none
  f2 : H0 wo = none
  f3 : H0 sa = none
  ix : H x = some (.ins t.c_Doing dx [("slots", .ref sl), ("worths", .ref wo), ("sayings", .ref sa)])
  hs : H sl = some (.dK s.sl)
  hw : H wo = some (.dT (dOf s.wo))
  ha : H sa = some (.lst (s.sa.map V.int))
def OcAt (H : Hp) (v : V) : Oc → Prop
  | .done sa => ∃ o y, v = .ref o ∧ H o = some (.tup [.str "done", .ref y]) ∧ H y = some (.tup (sa.map V.int))
  | .off w => ∃ o, v = .ref o ∧ H o = some (.tup [.str "off", .str w])
structure AlPre (rws : Rws) (tab : List Row) : Prop where
  ok : RwsOk rws
  dp : rws.deep < 6
  iw : ∀ r ∈ tab, inW r.2 = true
  ln : tab.length + rws.cnt ≤ 500
  fw : ∀ s, goRs rws ⟨[], tab, []⟩ = .go s → (dOf s.wo).length ≤ 63
def isDoes : Rw → Prop
  | .off _ => False
  | .iff _ _ _ => False
  | _ => True
def sp_is_worth : Sp := fun vs H Q _ => ∃ i, vs = [.int i] ∧ ∀ H', Same H H' → Q (.bl (inW i)) H'
def sp_divided (t : Adr) : Sp := fun vs H Q E => ∃ w a b, vs = [.str w, .int a, .int b] ∧ w.length ≤ 1000 ∧ inW a = true ∧ inW b = true ∧ ∀ H', Same H H' → if b = 0 then E (.ref t.c_Nought) none H' else Q (.int (if w = "over" then a.fdiv b else a.fmod b)) H'
def sp_come_to (t : Adr) : Sp := fun vs H Q E => ∃ w a b, vs = [.str w, .int a, .int b] ∧ w.length ≤ 1000 ∧ inW a = true ∧ inW b = true ∧ ∀ H', Same H H' → if isDiv w ∧ b = 0 then E (.ref t.c_Nought) none H' else Q (.int (comeV w a b)) H'
def sp_joined (t : Adr) : Sp := fun vs H Q E => ∃ w a b, vs = [.str w, .int a, .int b] ∧ w.length ≤ 1000 ∧ inW a = true ∧ inW b = true ∧ ∀ H', Same H H' → fin t (joinE w a b) Q E H'
def sp_reckoned (t : Adr) : Sp := fun vs H Q E => ∃ kvs tm sl ps r, vs = [.ref tm, .ref sl] ∧ H tm = some (.tup ps) ∧ H sl = some (.dK kvs) ∧ Good kvs ps r ∧ (∀ v ∈ ps, okPart v) ∧ ps.length ≤ 1000 ∧ SlotsOk kvs ∧ ∀ H', Same H H' → fin t r Q E H'
def sp_Doing_init (t : Adr) : Sp := fun vs H Q _ => ∃ x a tab H0 dx, vs = [.ref x, .ref a] ∧ Same H0 H ∧ H0 x = none ∧ H x = some (.ins t.c_Doing dx []) ∧ LsAt H0 a tab ∧ tab.length ≤ 500 ∧
  ∀ H' sl wo sa, DoAt t H0 H' x dx sl wo sa ⟨[], tab, []⟩ → Q .non H'
def sp_Doing_worth_of (t : Adr) : Sp := fun vs H Q E => ∃ x tm e H0 dx sl wo sa s, vs = [.ref x, .ref tm] ∧ DoAt t H0 H x dx sl wo sa s ∧ SlotsOk s.sl ∧ H tm = some (.tup e) ∧ TermOk e ∧ ∀ H', Same H H' → fin t (rk s.sl e) Q E H'
def sp_Doing_does (t : Adr) : Sp := fun vs H Q E => ∃ x v r m H0 dx sl wo sa s, vs = [.ref x, v] ∧ DoAt t H0 H x dx sl wo sa s ∧ RwAt anyA H0 v r ∧ isDoes r ∧ RwOk r ∧ StOk m s ∧ m ≤ 900 ∧
  (∀ H' s', goR r s = .go s' → DoAt t H0 H' x dx sl wo sa s' → Q .non H') ∧ ∀ H' e, goR r s = .er e → Same H0 H' → errE t e E H'
def sp_Doing_goes_through (t : Adr) (n : Nat) : Sp := fun vs H Q E => ∃ x l xs rws m H0 dx sl wo sa s, vs = [.ref x, .ref l] ∧ DoAt t H0 H x dx sl wo sa s ∧ H0 l = some (.lst xs) ∧ RwsAt anyA H0 xs rws ∧ RwsOk rws ∧ rws.deep < n ∧ StOk m s ∧ m + rws.cnt ≤ 900 ∧
  (∀ H' s', goRs rws s = .go s' → DoAt t H0 H' x dx sl wo sa s' → Q (.bl true) H') ∧ (∀ H', goRs rws s = .off → Same H0 H' → Q (.bl false) H') ∧ ∀ H' e, goRs rws s = .er e → Same H0 H' → errE t e E H'
def sp_broken_off : Sp := fun vs H Q _ => ∃ (w : Str) (a : Addr) (tab : List Row), vs = [.str w, .ref a] ∧ LsAt H a tab ∧ ∀ r o l H', Same H H' → H l = none → H' r = some (.tup [o, .ref l]) → OcAt H' o (.off w) → LsAt H' l tab → Q (.ref r) H'
def sp_table_of : Sp := fun vs H Q _ => ∃ a rows, vs = [.ref a] ∧ LsAt H a rows ∧ (dOf rows).length ≤ 63 ∧ rows.length ≤ 1000 ∧ ∀ l out H', Same H H' → H l = none → LsAt H' l out → IsTab rows out → Q (.ref l) H'
def sp_alone : Sp := fun vs H Q _ => ∃ v a rws tab, vs = [v, .ref a] ∧ RlAt anyA H v rws ∧ LsAt H a tab ∧ AlPre rws tab ∧ ∀ r o l oc out H', Same H H' → H l = none → H' r = some (.tup [o, .ref l]) → OcAt H' o oc → LsAt H' l out → AloneR rws tab oc out → Q (.ref r) H'
def sp_one_by_one : Sp := fun vs H Q _ => ∃ (a b : Addr) (xs : List V) (ds : List Rws) (tab : List Row) (I : List Row → Prop), vs = [.ref a, .ref b] ∧ H a = some (.lst xs) ∧ Paired (RlAt anyA H) xs ds ∧ LsAt H b tab ∧ I tab ∧ ds.length ≤ 500 ∧ (∀ d ∈ ds, ∀ tab, I tab → AlPre d tab ∧ ∀ oc out, AloneR d tab oc out → I out) ∧
  ∀ r ol l ys ocs out H', Same H H' → H l = none → H ol = none → H' r = some (.tup [.ref ol, .ref l]) → H' ol = some (.lst ys) → Paired (OcAt H') ys ocs → LsAt H' l out → SeqR ds tab ocs out → Q (.ref r) H'
def sp__law_cell_at (K : PySem.W.Frag) : Sp := fun vs H Q _ => ∃ (a : Addr) (ns : List Int) (k : Nat), vs = [.ref a, .int k] ∧ SqL K H a (ns.map V.int) ∧ ns.length ≤ 63 ∧ ∀ c H', Same H H' → Q (.int c) H'
def sp__law_draw : Sp := fun vs H Q _ => ∃ c j, vs = [.int c, .int j] ∧ 0 ≤ j ∧ j ≤ 1000 ∧ ∀ r H', 0 ≤ r → r < 2147483648 → Same H H' → Q (.int r) H'
def sp__law_names : Sp := fun vs H Q _ => ∃ c m, vs = [.int c, .int m] ∧ 0 ≤ m ∧ m ≤ 6 ∧ ∀ nm ws H', Same H H' → NamesAt H' nm ws → (ws.length : Int) = m → ws.Nodup → Q (.ref nm) H'
def sp__law_number : Sp := fun vs H Q _ => ∃ c j, vs = [.int c, .int j] ∧ 0 ≤ j ∧ j ≤ 900 ∧ ∀ w H', inW w = true → Same H H' → Q (.int w) H'
def lfV (v : V) : Prop := (∃ i, v = .int i ∧ inW i = true) ∨ ∃ x, v = .str x ∧ isName x = true
def sp__law_part : Sp := fun vs H Q _ => ∃ c j a x y z, vs = [.int c, .int j, .ref a] ∧ 0 ≤ j ∧ j ≤ 800 ∧ NamesAt H a [x, y, z] ∧ ∀ p v H', lfV v → Same H H' → H p = none → H' p = some (.tup [v]) → Q (.ref p) H'
/-- slots of the right kind, the third one empty -/
def Fr (z : Str) (kvs : List (Key × V)) : Prop := SlotsOk kvs ∧ valV kvs (.inr z) = none
def SF (z : Str) (s : Sta) : Prop := Fr z s.sl ∧ ∀ q ∈ s.wo, inW q.2 = true
def TmV (e : List V) : Prop := TermOk e ∧ tmP e ∧ e.length ≤ 20
def TB (z : Str) (x : Er) (e : List V) : Prop := ∀ kvs, Fr z kvs → Good kvs e (.error x)
def bad (z w : Str) (e : List V) : Prop := (w = "great" ∧ TB z .great e) ∨ (w = "nought" ∧ TB z .nought e)
def wOk (w : Str) : Prop := w = "told" ∨ w = "great" ∨ w = "nought"
def resW (w : Str) (r : Res) : Prop := (w = "told" ∧ r = .off) ∨ (w = "great" ∧ r = .er .great) ∨ (w = "nought" ∧ r = .er .nought)
structure rwV (z : Str) (r : Rw) : Prop where
  ok : RwOk r
  dp : r.deep = 0
  ct : r.cnt = 1
  pl : RwPl r
  rn : ∀ s, SF z s → ∃ s', goR r s = .go s' ∧ SF z s'
structure brV (z w : Str) (r : Rw) : Prop where
  ok : RwOk r
  dp : r.deep ≤ 1
  ct : r.cnt ≤ 2
  pl : RwPl r
  bk : ∀ s, SF z s → resW w (goR r s)
structure brsV (z w : Str) (d m : Nat) (r : Rws) : Prop where
  ok : RwsOk r
  dp : r.deep ≤ d
  ct : r.cnt ≤ m
  pl : RwsPl r
  bk : ∀ s, SF z s → resW w (goRs r s)
def sp__law_row : Sp := fun vs H Q _ => ∃ c a b x y z us, vs = [.int c, .ref a, .ref b] ∧ NamesAt H a [x, y, z] ∧ (x ≠ z ∧ y ≠ z) ∧ NamesAt H b us ∧ us.length = 2 ∧ ∀ v r H', Same H H' → RwAt (fun b => H b = none) H' v r → rwV z r → Q v H'
structure TabI (tab : List Row) : Prop where
  ri : Rising tab
  ps : ∀ r ∈ tab, isName r.1.1 = true ∧ inW r.2 = true ∧ r.2 ≠ 0
  ln : tab.length ≤ 6
def sp__law_table : Sp := fun vs H Q _ => ∃ c b us, vs = [.int c, .ref b] ∧ NamesAt H b us ∧ us.length = 2 ∧ ∀ l tab H', Same H H' → LsAt H' l tab → TabI tab → Q (.ref l) H'
def sp__law_nought : Sp := fun vs H Q _ => ∃ c a x y z, vs = [.int c, .ref a] ∧ NamesAt H a [x, y, z] ∧ ∀ p e H', Same H H' → H' p = some (.tup e) → TmV e → e.length ≤ 5 → TB z .nought e → Q (.ref p) H'
def sp__law_great : Sp := fun vs H Q _ => ∃ c, vs = [.int c] ∧ ∀ p e H', Same H H' → H' p = some (.tup e) → TmV e → e.length ≤ 3 → (∀ z, TB z .great e) → Q (.ref p) H'
def sp__law_bad : Sp := fun vs H Q _ => ∃ c a x y z, vs = [.int c, .ref a] ∧ NamesAt H a [x, y, z] ∧ ∀ r w p e H', Same H H' → H' r = some (.tup [.str w, .ref p]) → H' p = some (.tup e) → TmV e → bad z w e → Q (.ref r) H'
def sp__law_breaker : Sp := fun vs H Q _ => ∃ c a b x y z u0 u1, vs = [.int c, .ref a, .ref b] ∧ NamesAt H a [x, y, z] ∧ NamesAt H b [u0, u1] ∧ ∀ r w v rw H', Same H H' → H' r = some (.tup [.str w, v]) → RwAt anyA H' v rw → brV z w rw → wOk w → Q (.ref r) H'
def sp__law_within : Sp := fun vs H Q _ => ∃ v c b rw bs beh z w, vs = [v, .int c, .ref b] ∧ RwAt anyA H v rw ∧ brV z w rw ∧ H b = some (.lst bs) ∧ RwsAt anyA H bs beh ∧ (RwsOk beh ∧ RwsPl beh ∧ beh.deep = 0 ∧ beh.cnt = 2 ∧ bs.length = 2) ∧
  ∀ p xs rws H', Same H H' → H' p = some (.lst xs) → RwsAt anyA H' xs rws → brsV z w 5 14 rws → Q (.ref p) H'
def sp__law_copied (n : Nat) : Sp := fun vs H Q _ => ∃ (F : Addr → Prop) (v : V) (rws : Rws), vs = [v] ∧ RlAt F H v rws ∧ (∀ b, H b = none → F b) ∧ rws.deep < n ∧ rws.cnt ≤ 500 ∧ ∀ v' H', Same H H' → RlAt F H' v' rws → Q v' H'
def sp__law_outcome : Sp := fun vs H Q _ => ∃ (o : Addr) (w : Str), vs = [.ref o, .str w] ∧ H o = some (.tup [.str "off", .str w]) ∧ wOk w ∧ ∀ H', Same H H' → Q (.bl true) H'
def sp_law (K : PySem.W.Frag) : Sp := fun vs H Q _ => ∃ (a : Addr) (ns : List Int), vs = [.ref a] ∧ SqL K H a (ns.map V.int) ∧ ns.length ≤ 63 ∧ ∀ H', Q (.bl true) H'

def rd__law_draw (K : PySem.W.Frag) (t : Adr) : TS := (tSeq (tAsg (tOp (rI (fun _ j => 0 < j) fun i j => .int (i % j)) (tOp (rI0 fun i j => .int (i + j)) (tOp (rI CMulB fun i j => .int (i * j)) (tOp (rI (fun _ j => 0 < j) fun i j => .int (i % j)) (tVar 0) (tC (.int 1000000007))) (tC (.int 6700417))) (tOp (rI CMulB fun i j => .int (i * j)) (tOp (rI CMulB fun i j => .int (i * j)) (tOp (rI0 fun i j => .int (i + j)) (tVar 1) (tC (.int 1))) (tC (.int 104729))) (tC (.int 65537)))) (tC (.int 1000000009))) (gName 2))
    (tRet (tOp (rI CDivB fun i j => .int (i / j)) (tOp (rI (fun _ j => 0 < j) fun i j => .int (i % j)) (tOp (rI CMulB fun i j => .int (i * j)) (tOp (rI (fun _ j => 0 < j) fun i j => .int (i % j)) (tOp (rI CMulB fun i j => .int (i * j)) (tVar 2) (tVar 2)) (tC (.int 1000000009))) (tVar 2)) (tC (.int 1000000009))) (tC (.int 32)))))
def rd__law_names_8 (K : PySem.W.Frag) (t : Adr) : TS := (tRet (tComp (iRng1 (tCons (tVar 1) tNil)) (gName 0) tYes (tOp rAddS (tOp rAddS (tSl rSlS (tVar 1) tNoPart (tPart (tVar 2))) (tOp rIxS (tVar 3) (tVar 0))) (tSl rSlS (tVar 1) (tPart (tOp (rI0 fun i j => .int (i + j)) (tVar 2) (tC (.int 1)))) tNoPart)) 1 [4, 6, 3]))
def rd__law_names_5 (K : PySem.W.Frag) (t : Adr) : TS := (tSeq (tAsg (tOp (rI (fun _ j => 0 < j) fun i j => .int (i % j)) (tCall sp__law_draw [] E0 (tCons (tVar 0) (tCons (tC (.int 8)) tNil))) (tVar 2)) (gName 6))
    (tSeq (tAsg (tOp (rI (fun _ j => 0 < j) fun i j => .int (i % j)) (tCall sp__law_draw [] E0 (tCons (tVar 0) (tCons (tC (.int 9)) tNil))) (tCB (cLen K) (tCons (tVar 3) tNil))) (gName 7))
    (tSeq (tAsg (tOp rAddS (tSl rSlS (tVar 3) (tPart (tVar 7)) tNoPart) (tSl rSlS (tVar 3) tNoPart (tPart (tVar 7)))) (gName 3))
    (rd__law_names_8 K t))))
def rd__law_names_3 (K : PySem.W.Frag) (t : Adr) : TS := (tSeq (tAsg (tC (.str "")) (gName 4))
    (tSeq (tFor (iRng1 (tCons (tVar 2) tNil)) (gName 5)
      (tAsg (tOp rAddS (tVar 4) (tOp rIxS (tVar 3) (tOp (rI (fun _ j => 0 < j) fun i j => .int (i % j)) (tCall sp__law_draw [] E0 (tCons (tVar 0) (tCons (tOp (rI0 fun i j => .int (i + j)) (tC (.int 2)) (tVar 5)) tNil))) (tCB (cLen K) (tCons (tVar 3) tNil))))) (gName 4)))
    (rd__law_names_5 K t)))
def rd__law_names (K : PySem.W.Frag) (t : Adr) : TS := (tSeq (tAsg (tOp (rI0 fun i j => .int (i + j)) (tC (.int 1)) (tOp (rI (fun _ j => 0 < j) fun i j => .int (i % j)) (tCall sp__law_draw [] E0 (tCons (tVar 0) (tCons (tC (.int 1)) tNil))) (tC (.int 6)))) (gName 2))
    (tSeq (tAsg (tC (.str "zyxwvtsrqpnmlkjhgfdcb")) (gName 3))
    (tSeq (tIfS (tTest (tOp rEq (tVar 2) (tC (.int 6))))
      (tAsg (tC (.str "zyxwvutsrqponmlkjihgfedcba")) (gName 3))
      tNext)
    (rd__law_names_3 K t))))
def rd__law_number (K : PySem.W.Frag) (t : Adr) : TS := (tSeq (tIfS (tTest (tOp rEq (tOp (rI (fun _ j => 0 < j) fun i j => .int (i % j)) (tCall sp__law_draw [] E0 (tCons (tVar 0) (tCons (tVar 1) tNil))) (tC (.int 3))) (tC (.int 0))))
      (tRet (tOp (rI0 fun i j => .int (i - j)) (tOp (rI (fun _ j => 0 < j) fun i j => .int (i % j)) (tOp (rI0 fun i j => .int (i + j)) (tOp (rI CMulB fun i j => .int (i * j)) (tOp (rI CMulB fun i j => .int (i * j)) (tOp (rI (fun _ j => 0 < j) fun i j => .int (i % j)) (tVar 0) (tOp (rI CPow fun i j => .int (i ^ j.toNat)) (tC (.int 10)) (tC (.int 40)))) (tOp (rI0 fun i j => .int (i + j)) (tVar 1) (tC (.int 2)))) (tC (.int 1000003))) (tVar 1)) (tOp (rI0 fun i j => .int (i + j)) (tOp (rI CMulB fun i j => .int (i * j)) (tC (.int 2)) (tOp (rI CPow fun i j => .int (i ^ j.toNat)) (tC (.int 10)) (tC (.int 30)))) (tC (.int 1)))) (tOp (rI CPow fun i j => .int (i ^ j.toNat)) (tC (.int 10)) (tC (.int 30)))))
      tNext)
    (tRet (tOp (rI0 fun i j => .int (i - j)) (tOp (rI (fun _ j => 0 < j) fun i j => .int (i % j)) (tCall sp__law_draw [] E0 (tCons (tVar 0) (tCons (tOp (rI0 fun i j => .int (i + j)) (tVar 1) (tC (.int 1))) tNil))) (tC (.int 5))) (tC (.int 2)))))
def rd__law_table (K : PySem.W.Frag) (t : Adr) : TS := (tSeq (tAsg tDNewT (gName 2))
    (tSeq (tFor (iRng1 (tCons (tOp (rI (fun _ j => 0 < j) fun i j => .int (i % j)) (tCall sp__law_draw [] E0 (tCons (tVar 0) (tCons (tC (.int 20)) tNil))) (tC (.int 7))) tNil)) (gName 3)
      (tSeq (tAsg (tCall sp__law_number [] E0 (tCons (tVar 0) (tCons (tOp (rI0 fun i j => .int (i + j)) (tC (.int 30)) (tOp (rI CMulB fun i j => .int (i * j)) (tC (.int 3)) (tVar 3))) tNil))) (gName 4))
    (tIfS (tTest (tOp rNe (tVar 4) (tC (.int 0))))
      (sDPut (tVar 2) (tTup (tCons (tOp (rIxL K) (tVar 1) (tOp (rI (fun _ j => 0 < j) fun i j => .int (i % j)) (tCall sp__law_draw [] E0 (tCons (tVar 0) (tCons (tOp (rI0 fun i j => .int (i + j)) (tC (.int 50)) (tVar 3)) tNil))) (tC (.int 2)))) (tCons (tOp (rI0 fun i j => .int (i - j)) (tOp (rI (fun _ j => 0 < j) fun i j => .int (i % j)) (tCall sp__law_draw [] E0 (tCons (tVar 0) (tCons (tOp (rI0 fun i j => .int (i + j)) (tC (.int 60)) (tVar 3)) tNil))) (tC (.int 4))) (tC (.int 1))) tNil))) (tVar 4))
      tNext)))
    (tRet (tCB cSrtI (tCons (tItems (tVar 2)) tNil)))))
def rd__law_part (K : PySem.W.Frag) (t : Adr) : TS := (tSeq (tIfS (tTest (tOp rEq (tOp (rI (fun _ j => 0 < j) fun i j => .int (i % j)) (tCall sp__law_draw [] E0 (tCons (tVar 0) (tCons (tOp (rI0 fun i j => .int (i + j)) (tVar 1) (tC (.int 5))) tNil))) (tC (.int 2))) (tC (.int 0))))
      (tRet (tTup (tCons (tOp (rIxL K) (tVar 2) (tOp (rI (fun _ j => 0 < j) fun i j => .int (i % j)) (tCall sp__law_draw [] E0 (tCons (tVar 0) (tCons (tOp (rI0 fun i j => .int (i + j)) (tVar 1) (tC (.int 6))) tNil))) (tC (.int 2)))) tNil)))
      tNext)
    (tRet (tTup (tCons (tCall sp__law_number [] E0 (tCons (tVar 0) (tCons (tVar 1) tNil))) tNil))))
def rd__law_nought (K : PySem.W.Frag) (t : Adr) : TS := (tSeq (tAsg (tLst (tCons (tTup (tCons (tC (.int 0)) tNil)) (tCons (tTup (tCons (tOp (rIxL K) (tVar 1) (tC (.int 2))) tNil)) (tCons (tTup (tCons (tOp (rIxL K) (tVar 1) (tC (.int 0))) (tCons (tOp (rIxL K) (tVar 1) (tC (.int 0))) (tCons (tC (.str "minus")) tNil)))) (tCons (tTup (tCons (tOp (rIxL K) (tVar 1) (tC (.int 2))) (tCons (tC (.int 0)) (tCons (tC (.str "times")) tNil)))) (tCons (tTup (tCons (tC (.int 3)) (tCons (tC (.int 2)) (tCons (tC (.str "under")) tNil)))) tNil)))))) (gName 2))
    (tSeq (tAsg (tOp (rIxL K) (tLst (tCons (tC (.str "over")) (tCons (tC (.str "rest")) tNil))) (tOp (rI (fun _ j => 0 < j) fun i j => .int (i % j)) (tCall sp__law_draw [] E0 (tCons (tVar 0) (tCons (tC (.int 71)) tNil))) (tC (.int 2)))) (gName 3))
    (tRet (tOp (rCatT K) (tOp (rCatT K) (tCall sp__law_part [] E0 (tCons (tVar 0) (tCons (tC (.int 73)) (tCons (tVar 1) tNil)))) (tOp (rIxL K) (tVar 2) (tOp (rI (fun _ j => 0 < j) fun i j => .int (i % j)) (tCall sp__law_draw [] E0 (tCons (tVar 0) (tCons (tC (.int 72)) tNil))) (tC (.int 5))))) (tTup (tCons (tVar 3) tNil))))))
def rd__law_great_2 (K : PySem.W.Frag) (t : Adr) : TS := (tSeq (tAsg (tOp rCat (tVar 2) (tLst (tCons (tTup (tCons (tOp (rI CPow fun i j => .int (i ^ j.toNat)) (tC (.int 10)) (tC (.int 15))) (tCons (tOp (rI0 fun i j => .int (i + j)) (tOp (rI CPow fun i j => .int (i ^ j.toNat)) (tC (.int 10)) (tC (.int 15))) (tC (.int 1))) (tCons (tC (.str "times")) tNil)))) (tCons (tTup (tCons (tVar 1) (tCons (tVar 1) (tCons (tC (.str "times")) tNil)))) (tCons (tTup (tCons (tUn (rU fun i => .int (-i)) (tVar 1)) (tCons (tC (.int 2)) (tCons (tC (.str "times")) tNil)))) tNil))))) (gName 2))
    (tRet (tOp (rIxL K) (tVar 2) (tOp (rI (fun _ j => 0 < j) fun i j => .int (i % j)) (tCall sp__law_draw [] E0 (tCons (tVar 0) (tCons (tC (.int 81)) tNil))) (tC (.int 7))))))
def rd__law_great (K : PySem.W.Frag) (t : Adr) : TS := (tSeq (tAsg (tOp (rI CPow fun i j => .int (i ^ j.toNat)) (tC (.int 10)) (tC (.int 30))) (gName 1))
    (tSeq (tAsg (tLst (tCons (tTup (tCons (tVar 1) (tCons (tC (.int 1)) (tCons (tC (.str "plus")) tNil)))) (tCons (tTup (tCons (tUn (rU fun i => .int (-i)) (tC (.int 1))) (tCons (tUn (rU fun i => .int (-i)) (tVar 1)) (tCons (tC (.str "plus")) tNil)))) (tCons (tTup (tCons (tUn (rU fun i => .int (-i)) (tVar 1)) (tCons (tC (.int 1)) (tCons (tC (.str "minus")) tNil)))) (tCons (tTup (tCons (tC (.int 1)) (tCons (tUn (rU fun i => .int (-i)) (tVar 1)) (tCons (tC (.str "minus")) tNil)))) tNil))))) (gName 2))
    (rd__law_great_2 K t)))
def rd__law_bad (K : PySem.W.Frag) (t : Adr) : TS := (tSeq (tAsg (tOp (rI (fun _ j => 0 < j) fun i j => .int (i % j)) (tCall sp__law_draw [] E0 (tCons (tVar 0) (tCons (tC (.int 90)) tNil))) (tC (.int 6))) (gName 2))
    (tSeq (tIfS (tTest (tOp (rI0 fun i j => .bl (decide (i < j))) (tVar 2) (tC (.int 2))))
      (tRet (tTup (tCons (tC (.str "nought")) (tCons (tCall sp__law_nought [] E0 (tCons (tVar 0) (tCons (tVar 1) tNil))) tNil))))
      tNext)
    (tSeq (tIfS (tTest (tOp (rI0 fun i j => .bl (decide (i < j))) (tVar 2) (tC (.int 4))))
      (tRet (tTup (tCons (tC (.str "great")) (tCons (tCall sp__law_great [] E0 (tCons (tVar 0) tNil)) tNil))))
      tNext)
    (tSeq (tIfS (tTest (tOp rEq (tVar 2) (tC (.int 4))))
      (tRet (tTup (tCons (tC (.str "great")) (tCons (tOp (rCatT K) (tOp (rCatT K) (tCall sp__law_great [] E0 (tCons (tVar 0) tNil)) (tCall sp__law_nought [] E0 (tCons (tVar 0) (tCons (tVar 1) tNil)))) (tTup (tCons (tC (.str "plus")) tNil))) tNil))))
      tNext)
    (tRet (tTup (tCons (tC (.str "nought")) (tCons (tOp (rCatT K) (tOp (rCatT K) (tCall sp__law_nought [] E0 (tCons (tVar 0) (tCons (tVar 1) tNil))) (tCall sp__law_great [] E0 (tCons (tVar 0) tNil))) (tTup (tCons (tC (.str "same")) tNil))) tNil))))))))
def rd__law_breaker_10 (K : PySem.W.Frag) (t : Adr) : TS := (tSeq (tAsg (tLst (tCons (tTup (tCons (tOp (rI0 fun i j => .int (i + j)) (tC (.int 1)) (tOp (rI (fun _ j => 0 < j) fun i j => .int (i % j)) (tCall sp__law_draw [] E0 (tCons (tVar 0) (tCons (tC (.int 92)) tNil))) (tOp (rI CPow fun i j => .int (i ^ j.toNat)) (tC (.int 10)) (tC (.int 8))))) tNil)) (tCons (tTup (tCons (tUn (rU fun i => .int (-i)) (tOp (rI CPow fun i j => .int (i ^ j.toNat)) (tC (.int 10)) (tC (.int 30)))) tNil)) (tCons (tTup (tCons (tOp (rIxL K) (tVar 1) (tC (.int 0))) (tCons (tOp (rIxL K) (tVar 1) (tC (.int 0))) (tCons (tC (.str "same")) tNil)))) tNil)))) (gName 8))
    (tSeq (tDrop (tBM K "list" r_mt_append (tVar 8) (tCons (tTup (tCons (tOp (rIxL K) (tVar 1) (tC (.int 1))) (tCons (tOp (rI CPow fun i j => .int (i ^ j.toNat)) (tC (.int 10)) (tC (.int 30))) (tCons (tC (.str "under")) (tCons (tC (.int 2)) (tCons (tC (.str "plus")) tNil)))))) tNil)))
    (tRet (tTup (tCons (tC (.str "told")) (tCons (tTup (tCons (tC (.str "off")) (tCons (tOp (rIxL K) (tVar 8) (tOp (rI (fun _ j => 0 < j) fun i j => .int (i % j)) (tCall sp__law_draw [] E0 (tCons (tVar 0) (tCons (tC (.int 93)) tNil))) (tC (.int 4)))) tNil))) tNil))))))
def rd__law_breaker_3 (K : PySem.W.Frag) (t : Adr) : TS := (tSeq (tIfS (tTest (tOp rEq (tVar 7) (tC (.int 0))))
      (tRet (tTup (tCons (tVar 3) (tCons (tTup (tCons (tC (.str "take")) (tCons (tOp (rIxL K) (tVar 2) (tC (.int 0))) (tCons (tVar 4) (tCons (tOp (rIxL K) (tVar 1) (tC (.int 0))) tNil))))) tNil))))
      tNext)
    (tSeq (tIfS (tTest (tOp rEq (tVar 7) (tC (.int 1))))
      (tRet (tTup (tCons (tVar 3) (tCons (tTup (tCons (tC (.str "give")) (tCons (tOp (rIxL K) (tVar 2) (tC (.int 1))) (tCons (tVar 4) (tCons (tVar 6) tNil))))) tNil))))
      tNext)
    (tSeq (tIfS (tTest (tOp rEq (tVar 7) (tC (.int 2))))
      (tRet (tTup (tCons (tVar 5) (tCons (tTup (tCons (tC (.str "give")) (tCons (tOp (rIxL K) (tVar 2) (tC (.int 0))) (tCons (tTup (tCons (tOp (rIxL K) (tVar 1) (tC (.int 1))) tNil)) (tCons (tVar 6) tNil))))) tNil))))
      tNext)
    (tSeq (tIfS (tTest (tOp rEq (tVar 7) (tC (.int 3))))
      (tRet (tTup (tCons (tVar 3) (tCons (tTup (tCons (tC (.str "let")) (tCons (tOp (rIxL K) (tVar 1) (tC (.int 1))) (tCons (tVar 4) tNil)))) tNil))))
      tNext)
    (tSeq (tIfS (tTest (tOp rEq (tVar 7) (tC (.int 4))))
      (tRet (tTup (tCons (tVar 3) (tCons (tTup (tCons (tC (.str "say")) (tCons (tVar 4) tNil))) tNil))))
      tNext)
    (tSeq (tIfS (tTest (tOp rEq (tVar 7) (tC (.int 5))))
      (tRet (tTup (tCons (tVar 3) (tCons (tTup (tCons (tC (.str "off")) (tCons (tVar 4) tNil))) tNil))))
      tNext)
    (tSeq (tIfS (tTest (tOp rEq (tVar 7) (tC (.int 6))))
      (tRet (tTup (tCons (tVar 3) (tCons (tTup (tCons (tC (.str "if")) (tCons (tVar 4) (tCons (tLst (tCons (tTup (tCons (tC (.str "off")) (tCons (tTup (tCons (tC (.int 1)) tNil)) tNil))) tNil)) (tCons (tLst (tCons (tTup (tCons (tC (.str "say")) (tCons (tTup (tCons (tC (.int 2)) tNil)) tNil))) tNil)) tNil))))) tNil))))
      tNext)
    (rd__law_breaker_10 K t))))))))
def rd__law_breaker (K : PySem.W.Frag) (t : Adr) : TS := (tSeq (tAsg (tCall sp__law_bad [] E0 (tCons (tVar 0) (tCons (tVar 1) tNil))) (gTup K 2 (gCons (gName 3) (gCons (gName 4) gNil))))
    (tSeq (tAsg (tCall sp__law_bad [] E0 (tCons (tOp (rI0 fun i j => .int (i + j)) (tOp (rI (fun _ j => 0 < j) fun i j => .int (i % j)) (tOp (rI CDivB fun i j => .int (i / j)) (tVar 0) (tC (.int 3))) (tOp (rI CPow fun i j => .int (i ^ j.toNat)) (tC (.int 10)) (tC (.int 9)))) (tC (.int 7))) (tCons (tVar 1) tNil))) (gTup K 2 (gCons (gName 5) (gCons (gName 6) gNil))))
    (tSeq (tAsg (tOp (rI (fun _ j => 0 < j) fun i j => .int (i % j)) (tCall sp__law_draw [] E0 (tCons (tVar 0) (tCons (tC (.int 91)) tNil))) (tC (.int 8))) (gName 7))
    (rd__law_breaker_3 K t))))
def rd__law_copied (K : PySem.W.Frag) (t : Adr) (n : Nat) : TS := (tSeq (tAsg (tLst tNil) (gName 1))
    (tSeq (tFor (iList K (tVar 0)) (gName 2)
      (tIfS (tTest (tOp rEq (tOp (rIxT K) (tVar 2) (tC (.int 0))) (tC (.str "if"))))
      (tDrop (tBM K "list" r_mt_append (tVar 1) (tCons (tTup (tCons (tC (.str "if")) (tCons (tOp (rIxT K) (tVar 2) (tC (.int 1))) (tCons (tCall (sp__law_copied  n) [] E0 (tCons (tOp (rIxT K) (tVar 2) (tC (.int 2))) tNil)) (tCons (tCall (sp__law_copied  n) [] E0 (tCons (tOp (rIxT K) (tVar 2) (tC (.int 3))) tNil)) tNil))))) tNil)))
      (tDrop (tBM K "list" r_mt_append (tVar 1) (tCons (tVar 2) tNil)))))
    (tRet (tVar 1))))
def rd_Doing_init (K : PySem.W.Frag) (t : Adr) : TS := (tSeq (sFld K (tVar 0) tDNewK "slots")
    (tSeq (sFld K (tVar 0) (tCB cDctP (tCons (tVar 1) tNil)) "worths")
    (sFld K (tVar 0) (tLst tNil) "sayings")))
def rd_divided (K : PySem.W.Frag) (t : Adr) (E : XK) : TS := (tSeq (tIfS (tTest (tOp rEq (tVar 2) (tC (.int 0))))
      (tRaise t.c_Nought (tCons (tMsgS (tVar 0)) tNil) E)
      tNext)
    (tRet (tIf (tTest (tOp rEq (tVar 0) (tC (.str "over")))) (tOp (rI CDivS fun i j => .int (i.fdiv j)) (tVar 1) (tVar 2)) (tOp (rI (fun _ j => j ≠ 0) fun i j => .int (i.fmod j)) (tVar 1) (tVar 2)))))
def rd_come_to (K : PySem.W.Frag) (t : Adr) (E : XK) : TS := (tSeq (tIfS (tTest (tOp rEq (tVar 0) (tC (.str "plus"))))
      (tRet (tOp (rI0 fun i j => .int (i + j)) (tVar 1) (tVar 2)))
      tNext)
    (tSeq (tIfS (tTest (tOp rEq (tVar 0) (tC (.str "minus"))))
      (tRet (tOp (rI0 fun i j => .int (i - j)) (tVar 1) (tVar 2)))
      tNext)
    (tSeq (tIfS (tTest (tOp rEq (tVar 0) (tC (.str "times"))))
      (tRet (tOp (rI CMulB fun i j => .int (i * j)) (tVar 1) (tVar 2)))
      tNext)
    (tSeq (tIfS (tTest (tOp rEq (tVar 0) (tC (.str "under"))))
      (tRet (tIf (tTest (tOp (rI0 fun i j => .bl (decide (i < j))) (tVar 1) (tVar 2))) (tC (.int 1)) (tC (.int 0))))
      tNext)
    (tSeq (tIfS (tTest (tOp rEq (tVar 0) (tC (.str "same"))))
      (tRet (tIf (tTest (tOp rEq (tVar 1) (tVar 2))) (tC (.int 1)) (tC (.int 0))))
      tNext)
    (tRet (tCall (sp_divided t) [] E (tCons (tVar 0) (tCons (tVar 1) (tCons (tVar 2) tNil))))))))))
def rd_is_worth (K : PySem.W.Frag) (t : Adr) : TS := (tSeq (tIfS (tOr (tNot (tB (tCB (cIsi K) (tCons (tVar 0) (tCons (tC (.ty "int")) tNil))))) (tB (tCB (cIsi K) (tCons (tVar 0) (tCons (tC (.ty "bool")) tNil)))))
      (tRet (tC (.bl false)))
      tNext)
    (tRet (tChain (rI0 fun i j => .bl (decide (i ≤ j))) (rI0 fun i j => .bl (decide (i ≤ j))) (tUn (rU fun i => .int (-i)) (tOp (rI CPow fun i j => .int (i ^ j.toNat)) (tC (.int 10)) (tC (.int 30)))) (tVar 0) (tOp (rI CPow fun i j => .int (i ^ j.toNat)) (tC (.int 10)) (tC (.int 30))))))
def rd_joined (K : PySem.W.Frag) (t : Adr) (E : XK) : TS := (tSeq (tAsg (tCall (sp_come_to t) [] E (tCons (tVar 0) (tCons (tVar 1) (tCons (tVar 2) tNil)))) (gName 3))
    (tSeq (tIfS (tNot (tB (tCall sp_is_worth [] E (tCons (tVar 3) tNil))))
      (tRaise t.c_Great (tCons (tMsgS (tVar 0)) tNil) E)
      tNext)
    (tRet (tVar 3))))
def rd_reckoned (K : PySem.W.Frag) (t : Adr) (E : XK) : TS := (tSeq (tAsg (tLst tNil) (gName 2))
    (tSeq (tFor (iTup K (tVar 0)) (gName 3)
      (tIfS (tTest (tOp (rIn K false) (tVar 3) (tC (.ref t.c_JOINING))))
      (tSeq (tAsg (tBM0 K "list" r_mt_pop (tVar 2)) (gName 4))
    (tSeq (tAsg (tBM0 K "list" r_mt_pop (tVar 2)) (gName 5))
    (tDrop (tBM K "list" r_mt_append (tVar 2) (tCons (tCall (sp_joined t) [] E (tCons (tVar 3) (tCons (tVar 5) (tCons (tVar 4) tNil)))) tNil)))))
      (tDrop (tBM K "list" r_mt_append (tVar 2) (tCons (tIf (tB (tCB (cIsi K) (tCons (tVar 3) (tCons (tC (.ty "str")) tNil)))) (tDGet2 (tVar 1) (tVar 3) (tC (.int 0))) (tVar 3)) tNil)))))
    (tRet (tBM0 K "list" r_mt_pop (tVar 2)))))
def rd_Doing_worth_of (K : PySem.W.Frag) (t : Adr) (E : XK) : TS := (tRet (tCall (sp_reckoned t) [] E (tCons (tVar 1) (tCons (tFld K (tVar 0) "slots") tNil))))
def rd_Doing_does (K : PySem.W.Frag) (t : Adr) (E : XK) : TS := (tIfS (tTest (tOp rEq (tOp (rIxT K) (tVar 1) (tC (.int 0))) (tC (.str "take"))))
      (sDPut (tFld K (tVar 0) "slots") (tOp (rIxT K) (tVar 1) (tC (.int 3))) (tDGet2 (tFld K (tVar 0) "worths") (tTup (tCons (tOp (rIxT K) (tVar 1) (tC (.int 1))) (tCons (tMeth t.c_Doing "worth_of" (sp_Doing_worth_of t) [] E (tVar 0) (tCons (tOp (rIxT K) (tVar 1) (tC (.int 2))) tNil)) tNil))) (tC (.int 0))))
      (tIfS (tTest (tOp rEq (tOp (rIxT K) (tVar 1) (tC (.int 0))) (tC (.str "give"))))
      (tSeq (tAsg (tTup (tCons (tOp (rIxT K) (tVar 1) (tC (.int 1))) (tCons (tMeth t.c_Doing "worth_of" (sp_Doing_worth_of t) [] E (tVar 0) (tCons (tOp (rIxT K) (tVar 1) (tC (.int 2))) tNil)) tNil))) (gName 2))
    (sDPut (tFld K (tVar 0) "worths") (tVar 2) (tMeth t.c_Doing "worth_of" (sp_Doing_worth_of t) [] E (tVar 0) (tCons (tOp (rIxT K) (tVar 1) (tC (.int 3))) tNil))))
      (tIfS (tTest (tOp rEq (tOp (rIxT K) (tVar 1) (tC (.int 0))) (tC (.str "let"))))
      (sDPut (tFld K (tVar 0) "slots") (tOp (rIxT K) (tVar 1) (tC (.int 1))) (tMeth t.c_Doing "worth_of" (sp_Doing_worth_of t) [] E (tVar 0) (tCons (tOp (rIxT K) (tVar 1) (tC (.int 2))) tNil)))
      (tDrop (tBM K "list" r_mt_append (tFld K (tVar 0) "sayings") (tCons (tMeth t.c_Doing "worth_of" (sp_Doing_worth_of t) [] E (tVar 0) (tCons (tOp (rIxT K) (tVar 1) (tC (.int 1))) tNil)) tNil))))))
def rd_Doing_goes_through (K : PySem.W.Frag) (t : Adr) (n : Nat) (E : XK) : TS := (tSeq (tFor (iList K (tVar 1)) (gName 2)
      (tIfS (tTest (tOp rEq (tOp (rIxT K) (tVar 2) (tC (.int 0))) (tC (.str "off"))))
      (tIfS (tTest (tOp rNe (tMeth t.c_Doing "worth_of" (sp_Doing_worth_of t) [] E (tVar 0) (tCons (tOp (rIxT K) (tVar 2) (tC (.int 1))) tNil)) (tC (.int 0))))
      (tRet (tC (.bl false)))
      tNext)
      (tIfS (tTest (tOp rEq (tOp (rIxT K) (tVar 2) (tC (.int 0))) (tC (.str "if"))))
      (tIfS (tNot (tB (tMeth t.c_Doing "goes_through" (sp_Doing_goes_through t n) [] E (tVar 0) (tCons (tIf (tTest (tOp rNe (tMeth t.c_Doing "worth_of" (sp_Doing_worth_of t) [] E (tVar 0) (tCons (tOp (rIxT K) (tVar 2) (tC (.int 1))) tNil)) (tC (.int 0)))) (tOp (rIxT K) (tVar 2) (tC (.int 2))) (tOp (rIxT K) (tVar 2) (tC (.int 3)))) tNil))))
      (tRet (tC (.bl false)))
      tNext)
      (tDrop (tMeth t.c_Doing "does" (sp_Doing_does t) [] E (tVar 0) (tCons (tVar 2) tNil))))))
    (tRet (tC (.bl true))))
def rd_broken_off (K : PySem.W.Frag) (t : Adr) : TS := (tRet (tTup (tCons (tTup (tCons (tC (.str "off")) (tCons (tVar 0) tNil))) (tCons (tCB (cLst K) (tCons (tVar 1) tNil)) tNil))))
def rd_table_of (K : PySem.W.Frag) (t : Adr) : TS := (tSeq (tAsg (tCB cDctP (tCons (tVar 0) tNil)) (gName 1))
    (tRet (tComp (iList K (tCB cSrtD (tCons (tVar 1) tNil))) (gName 0) (tTest (tOp rNe (tDGet (tVar 1) (tVar 0)) (tC (.int 0)))) (tTup (tCons (tVar 0) (tCons (tDGet (tVar 1) (tVar 0)) tNil))) 1 [1])))
def rd_alone_2 (K : PySem.W.Frag) (t : Adr) : TS := (tSeq (tIfS (tNot (tB (tVar 3)))
      (tRet (tCall sp_broken_off [] E0 (tCons (tC (.str "told")) (tCons (tVar 1) tNil))))
      tNext)
    (tRet (tTup (tCons (tTup (tCons (tC (.str "done")) (tCons (tCB (cTup K) (tCons (tFld K (tVar 2) "sayings") tNil)) tNil))) (tCons (tCall sp_table_of [] E0 (tCons (tCB cLstI (tCons (tItems (tFld K (tVar 2) "worths")) tNil)) tNil)) tNil)))))
def rd_alone_1 (K : PySem.W.Frag) (t : Adr) : TS := (tSeq (tTryNN K (tAsgX (tMethX t.c_Doing "goes_through" (sp_Doing_goes_through t 6) (tVar 2) (tCons (tVar 0) tNil)) 3) t.c_Great (tRet (tCall sp_broken_off [] E0 (tCons (tC (.str "great")) (tCons (tVar 1) tNil)))) t.c_Nought (tRet (tCall sp_broken_off [] E0 (tCons (tC (.str "nought")) (tCons (tVar 1) tNil)))))
    (rd_alone_2 K t))
def rd_alone (K : PySem.W.Frag) (t : Adr) : TS := (tSeq (tAsg (tMake t.c_Doing (sp_Doing_init t) [] E0 (tCons (tVar 1) tNil)) (gName 2))
    (rd_alone_1 K t))
def rd_one_by_one (K : PySem.W.Frag) (t : Adr) : TS := (tSeq (tAsg (tLst tNil) (gName 2))
    (tSeq (tAsg (tCB (cLst K) (tCons (tVar 1) tNil)) (gName 3))
    (tSeq (tFor (iList K (tVar 0)) (gName 4)
      (tSeq (tAsg (tCall sp_alone [] E0 (tCons (tVar 4) (tCons (tVar 3) tNil))) (gName 5))
    (tSeq (tDrop (tBM K "list" r_mt_append (tVar 2) (tCons (tOp (rIxT K) (tVar 5) (tC (.int 0))) tNil)))
    (tAsg (tOp (rIxT K) (tVar 5) (tC (.int 1))) (gName 3)))))
    (tRet (tTup (tCons (tVar 2) (tCons (tVar 3) tNil)))))))
def rd__law_cell_at (K : PySem.W.Frag) (t : Adr) : TS := (tSeq (tIfS (tTest (tOp (rI0 fun i j => .bl (decide (i < j))) (tVar 1) (tCB (cLen K) (tCons (tVar 0) tNil))))
      (tRet (tOp (rIxL K) (tVar 0) (tVar 1)))
      tNext)
    (tRet (tC (.int 0))))
def rd__law_row_3 (K : PySem.W.Frag) (t : Adr) : TS := (tSeq (tIfS (tTest (tOp rEq (tVar 3) (tC (.int 0))))
      (tRet (tTup (tCons (tC (.str "take")) (tCons (tVar 4) (tCons (tCall sp__law_part [] E0 (tCons (tVar 0) (tCons (tC (.int 20)) (tCons (tVar 1) tNil)))) (tCons (tVar 5) tNil))))))
      tNext)
    (tSeq (tIfS (tTest (tOp rEq (tVar 3) (tC (.int 1))))
      (tRet (tTup (tCons (tC (.str "give")) (tCons (tVar 4) (tCons (tCall sp__law_part [] E0 (tCons (tVar 0) (tCons (tC (.int 20)) (tCons (tVar 1) tNil)))) (tCons (tCall sp__law_part [] E0 (tCons (tVar 0) (tCons (tC (.int 40)) (tCons (tVar 1) tNil)))) tNil))))))
      tNext)
    (tSeq (tIfS (tTest (tOp rEq (tVar 3) (tC (.int 2))))
      (tRet (tTup (tCons (tC (.str "let")) (tCons (tVar 5) (tCons (tCall sp__law_part [] E0 (tCons (tVar 0) (tCons (tC (.int 40)) (tCons (tVar 1) tNil)))) tNil)))))
      tNext)
    (tRet (tTup (tCons (tC (.str "say")) (tCons (tCall sp__law_part [] E0 (tCons (tVar 0) (tCons (tC (.int 40)) (tCons (tVar 1) tNil)))) tNil)))))))
def rd__law_row (K : PySem.W.Frag) (t : Adr) : TS := (tSeq (tAsg (tOp (rI (fun _ j => 0 < j) fun i j => .int (i % j)) (tCall sp__law_draw [] E0 (tCons (tVar 0) (tCons (tC (.int 0)) tNil))) (tC (.int 4))) (gName 3))
    (tSeq (tAsg (tOp (rIxL K) (tVar 2) (tOp (rI (fun _ j => 0 < j) fun i j => .int (i % j)) (tCall sp__law_draw [] E0 (tCons (tVar 0) (tCons (tC (.int 1)) tNil))) (tC (.int 2)))) (gName 4))
    (tSeq (tAsg (tOp (rIxL K) (tVar 1) (tOp (rI (fun _ j => 0 < j) fun i j => .int (i % j)) (tCall sp__law_draw [] E0 (tCons (tVar 0) (tCons (tC (.int 2)) tNil))) (tC (.int 2)))) (gName 5))
    (rd__law_row_3 K t))))
def rd__law_within_1 (K : PySem.W.Frag) (t : Adr) : TS := (tSeq (tFor (iRng1 (tCons (tCB cMin (tCons (tOp (rI (fun _ j => 0 < j) fun i j => .int (i % j)) (tCall sp__law_draw [] E0 (tCons (tVar 1) (tCons (tC (.int 94)) tNil))) (tC (.int 6))) (tCons (tOp (rI0 fun i j => .int (i - j)) (tC (.int 5)) (tCB cIntB (tCons (tOp rEq (tOp (rIxT K) (tVar 0) (tC (.int 0))) (tC (.str "if"))) tNil))) tNil))) tNil)) (gName 4)
      (tIfS (tTest (tOp rEq (tOp (rI (fun _ j => 0 < j) fun i j => .int (i % j)) (tCall sp__law_draw [] E0 (tCons (tVar 1) (tCons (tOp (rI0 fun i j => .int (i + j)) (tC (.int 95)) (tVar 4)) tNil))) (tC (.int 2))) (tC (.int 0))))
      (tAsg (tOp rCat (tLst (tCons (tTup (tCons (tC (.str "if")) (tCons (tTup (tCons (tOp (rI0 fun i j => .int (i - j)) (tUn (rU fun i => .int (-i)) (tC (.int 1))) (tVar 4)) tNil)) (tCons (tVar 3) (tCons (tLst (tCons (tTup (tCons (tC (.str "say")) (tCons (tTup (tCons (tVar 4) tNil)) tNil))) tNil)) tNil))))) tNil)) (tSl (rSlL K) (tVar 2) tNoPart (tPart (tOp (rI (fun _ j => 0 < j) fun i j => .int (i % j)) (tVar 4) (tC (.int 2)))))) (gName 3))
      (tAsg (tOp rCat (tLst (tCons (tTup (tCons (tC (.str "if")) (tCons (tTup (tCons (tC (.int 0)) tNil)) (tCons (tLst (tCons (tTup (tCons (tC (.str "off")) (tCons (tTup (tCons (tVar 4) tNil)) tNil))) tNil)) (tCons (tVar 3) tNil))))) tNil)) (tSl (rSlL K) (tVar 2) tNoPart (tPart (tOp (rI (fun _ j => 0 < j) fun i j => .int (i % j)) (tVar 4) (tC (.int 2)))))) (gName 3))))
    (tRet (tVar 3)))
def rd__law_within (K : PySem.W.Frag) (t : Adr) : TS := (tSeq (tAsg (tOp rCat (tLst (tCons (tVar 0) tNil)) (tVar 2)) (gName 3))
    (rd__law_within_1 K t))
def rd__law_outcome (K : PySem.W.Frag) (t : Adr) : TS := (tSeq (tIfS (tOr (tNot (tB (tCB (cIsi K) (tCons (tVar 0) (tCons (tC (.ty "tuple")) tNil))))) (tOr (tTest (tOp rNe (tCB (cLen K) (tCons (tVar 0) tNil)) (tC (.int 2)))) (tNot (tB (tCB (cIsi K) (tCons (tOp (rIxT K) (tVar 0) (tC (.int 0))) (tCons (tC (.ty "str")) tNil)))))))
      (tRet (tC (.bl false)))
      tNext)
    (tRet (tAndV (tCB (cIsi K) (tCons (tOp (rIxT K) (tVar 0) (tC (.int 1))) (tCons (tC (.ty "str")) tNil))) (tOp (rEqD K false) (tVar 0) (tTup (tCons (tC (.str "off")) (tCons (tVar 1) tNil)))))))
def rd_law_14 (K : PySem.W.Frag) (t : Adr) : TS := (tSeq (tIfS (tTest (tOp (rEqD K true) (tVar 12) (tLst (tCons (tTup (tCons (tC (.str "off")) (tCons (tVar 4) tNil))) (tCons (tTup (tCons (tC (.str "done")) (tCons (tTup (tCons (tC (.int 0)) tNil)) tNil))) (tCons (tTup (tCons (tC (.str "off")) (tCons (tVar 4) tNil))) tNil))))))
      (tRet (tC (.bl false)))
      tNext)
    (tRet (tAndV (tOp (rEqD K false) (tVar 13) (tVar 3)) (tAndV (tOp (rEqD K false) (tVar 8) (tVar 7)) (tOp (rEqD K false) (tVar 9) (tVar 3))))))
def rd_law_13 (K : PySem.W.Frag) (t : Adr) : TS := (tSeq (tAsg (tCall sp_one_by_one [] E0 (tCons (tLst (tCons (tVar 8) (tCons (tLst (tCons (tTup (tCons (tC (.str "say")) (tCons (tTup (tCons (tOp (rIxL K) (tVar 1) (tC (.int 0))) tNil)) tNil))) tNil)) (tCons (tVar 8) tNil)))) (tCons (tVar 9) tNil))) (gTup K 2 (gCons (gName 12) (gCons (gName 13) gNil))))
    (rd_law_14 K t))
def rd_law_12 (K : PySem.W.Frag) (t : Adr) : TS := (tSeq (tIfS (tOr (tTest (tOp (rEqD K true) (tVar 8) (tVar 7))) (tTest (tOp (rEqD K true) (tVar 9) (tVar 3))))
      (tRet (tC (.bl false)))
      tNext)
    (rd_law_13 K t))
def rd_law_11 (K : PySem.W.Frag) (t : Adr) : TS := (tSeq (tDrop (tBM K "list" r_mt_append (tVar 11) (tCons (tTup (tCons (tTup (tCons (tC (.str "z")) (tCons (tC (.int 1)) tNil))) (tCons (tC (.int 5)) tNil))) tNil)))
    (rd_law_12 K t))
def rd_law_10 (K : PySem.W.Frag) (t : Adr) : TS := (tSeq (tIfS (tOr (tNot (tB (tCall sp__law_outcome [] E0 (tCons (tVar 10) (tCons (tVar 4) tNil))))) (tOr (tNot (tB (tCB (cIsi K) (tCons (tVar 11) (tCons (tC (.ty "list")) tNil))))) (tTest (tOp (rEqD K true) (tVar 11) (tVar 3)))))
      (tRet (tC (.bl false)))
      tNext)
    (rd_law_11 K t))
def rd_law_9 (K : PySem.W.Frag) (t : Adr) : TS := (tSeq (tAsg (tCall sp_alone [] E0 (tCons (tVar 8) (tCons (tVar 9) tNil))) (gTup K 2 (gCons (gName 10) (gCons (gName 11) gNil))))
    (rd_law_10 K t))
def rd_law_8 (K : PySem.W.Frag) (t : Adr) : TS := (tSeq (tAsg (tCB (cLst K) (tCons (tVar 3) tNil)) (gName 9))
    (rd_law_9 K t))
def rd_law_7 (K : PySem.W.Frag) (t : Adr) : TS := (tSeq (tAsg (tCall (sp__law_copied  6) [] E0 (tCons (tVar 7) tNil)) (gName 8))
    (rd_law_8 K t))
def rd_law_6 (K : PySem.W.Frag) (t : Adr) : TS := (tSeq (tAsg (tOp rCat (tOp rCat (tVar 7) (tCall sp__law_within [] E0 (tCons (tVar 5) (tCons (tCall (sp__law_cell_at K) [] E0 (tCons (tVar 0) (tCons (tC (.int 4)) tNil))) (tCons (tVar 6) tNil))))) (tVar 6)) (gName 7))
    (rd_law_7 K t))
def rd_law_5 (K : PySem.W.Frag) (t : Adr) : TS := (tSeq (tAsg (tComp (iList K (tSl (rSlL K) (tVar 0) (tPart (tC (.int 5))) (tPart (tC (.int 13))))) (gName 0) tYes (tCall sp__law_row [] E0 (tCons (tVar 0) (tCons (tVar 1) (tCons (tVar 2) tNil)))) 1 [1, 2]) (gName 7))
    (rd_law_6 K t))
def rd_law_4 (K : PySem.W.Frag) (t : Adr) : TS := (tSeq (tAsg (tLst (tCons (tTup (tCons (tC (.str "give")) (tCons (tOp (rIxL K) (tVar 2) (tC (.int 0))) (tCons (tTup (tCons (tC (.int 1)) tNil)) (tCons (tTup (tCons (tC (.int 77)) tNil)) tNil))))) (tCons (tTup (tCons (tC (.str "say")) (tCons (tTup (tCons (tC (.int 5)) tNil)) tNil))) tNil))) (gName 6))
    (rd_law_5 K t))
def rd_law (K : PySem.W.Frag) (t : Adr) : TS := (tSeq (tAsg (tCall sp__law_names [] E0 (tCons (tCall (sp__law_cell_at K) [] E0 (tCons (tVar 0) (tCons (tC (.int 0)) tNil))) (tCons (tC (.int 3)) tNil))) (gName 1))
    (tSeq (tAsg (tCall sp__law_names [] E0 (tCons (tCall (sp__law_cell_at K) [] E0 (tCons (tVar 0) (tCons (tC (.int 1)) tNil))) (tCons (tC (.int 2)) tNil))) (gName 2))
    (tSeq (tAsg (tCall sp__law_table [] E0 (tCons (tCall (sp__law_cell_at K) [] E0 (tCons (tVar 0) (tCons (tC (.int 2)) tNil))) (tCons (tVar 2) tNil))) (gName 3))
    (tSeq (tAsg (tCall sp__law_breaker [] E0 (tCons (tCall (sp__law_cell_at K) [] E0 (tCons (tVar 0) (tCons (tC (.int 3)) tNil))) (tCons (tVar 1) (tCons (tVar 2) tNil)))) (gTup K 2 (gCons (gName 4) (gCons (gName 5) gNil))))
    (rd_law_4 K t)))))
section
variable {K : PySem.W.Frag} {t : Adr} {H : Hp} {Q : VK}
theorem pow10 {j : Int} (h0 : 0 ≤ j) (h1 : j ≤ 100) : CPow 10 j := ⟨h0, by omega, by decide⟩
theorem small_size {n : Nat} (h : n ≤ 100000) : n ≤ sizeLine := Nat.le_trans h (by decide)
theorem kit_same (T : String) : PySem.W.kitOne K (.type T) (.type T) = some true := by
  unfold PySem.W.kitOne
  rw [if_pos (by simp)]
theorem kf (K : PySem.W.Frag) : KF K := ⟨by with_unfolding_all rfl, by with_unfolding_all rfl⟩
theorem dB {i j : Int} (h0 : 0 < j := by decide) (h1 : j < 10000000000000000000000000000000000000000000000 := by decide) : CDivB i j := by
  have hb : (10000000000000000000000000000000000000000000000 : Int) < big := by decide +kernel
  exact ⟨h0, by omega⟩
theorem at_lt {α : Type} {xs : List α} {i : Int} (h0 : 0 ≤ i) (h1 : i < xs.length) : ∃ x, atI xs i = some x ∧ x ∈ xs := by
  obtain ⟨n, rfl⟩ : ∃ n : Nat, i = (n : Int) := ⟨i.toNat, by omega⟩
  have hn : n < xs.length := by omega
  refine ⟨xs[n], ?_, List.getElem_mem hn⟩
  unfold atI ixN
  rw [if_pos h0, if_pos h1]
  simp [hn]
theorem at_mod {α : Type} {xs : List α} (e : Int) (n : Nat) (hl : xs.length = n) (hn : 0 < (n : Int)) : ∃ x, atI xs (e % n) = some x ∧ x ∈ xs :=
  at_lt (Int.emod_nonneg _ (by omega)) (by rw [hl]; exact Int.emod_lt_of_pos _ hn)
theorem rdp_is_worth {i : Int} (hK : IntFact K) (q : ∀ H', Same H H' → Q (.bl (inW i)) H') :
    rd_is_worth K t { nx := fun _ H' => Q .non H', rt := Q } (L2.start ["thing"] [.int i]) H := by
  simp only [rd_is_worth, L2.start, tSeq, tRet, tNext, tOp, tUn, tVar, tC, tCons, tNil, tIfS, tOr, tNot, tB, tCB, tChain, rI, rI0, rU, cIsi, List.map, List.replicate, List.length, List.append, List.cons_append, List.nil_append, List.append_nil, List.getElem?_cons_zero, List.getElem?_cons_succ, Option.some.injEq, exists_eq_left', exists_eq_left, V.int.injEq, V.ref.injEq, V.str.injEq, V.bl.injEq, V.ty.injEq, List.cons.injEq, and_true, true_and, and_assoc, exists_and_left, List.set_cons_zero, List.set_cons_succ, Nat.reduceSub, Nat.reduceAdd, decide_eq_true_eq, Bool.not_eq_true', decide_eq_false_iff_not, Int.reduceToNat, Int.reducePow, Int.reduceNeg, Int.reduceMul, Int.reduceAdd, if_true, ite_true, Bool.false_eq_true, ite_false, if_false]
  have q := q H (Same.refl H)
  refine ⟨_, .int i, true, kit_same _, ?_⟩
  rw [if_neg (by decide)]
  refine ⟨_, .int i, false, hK, ?_⟩
  rw [if_neg (by decide)]
  refine ⟨pow10 (by decide) (by decide), ite2 (fun c => ⟨pow10 (by decide) (by decide), ?_⟩) fun c => ?_⟩
  · have e : inW i = decide (i ≤ 1000000000000000000000000000000) := by
      unfold inW
      by_cases h : i ≤ 1000000000000000000000000000000
      · rw [decide_eq_true h, decide_eq_true ⟨c, h⟩]
      · rw [decide_eq_false h, decide_eq_false fun z => h z.2]
    rw [e] at q
    exact q
  · have e : inW i = false := decide_eq_false fun z => c z.1
    rw [e] at q
    exact q
theorem rdp_divided {E : XK} {w : Str} {a b : Int} (hw : w.length ≤ 1000) (ha : inW a = true) (hb : inW b = true) (q : ∀ H', Same H H' → if b = 0 then E (.ref t.c_Nought) none H' else Q (.int (if w = "over" then a.fdiv b else a.fmod b)) H') :
    rd_divided K t E { nx := fun _ H' => Q .non H', rt := Q } (L2.start ["word", "first", "second"] [.str w, .int a, .int b]) H := by
  simp only [rd_divided, L2.start, tRaise, tMsgS, tSeq, tRet, tNext, tOp, tVar, tC, tCons, tNil, tIfS, tTest, tIf, rEq, rI, scal, List.map, List.replicate, List.length, List.append, List.cons_append, List.nil_append, List.append_nil, List.getElem?_cons_zero, List.getElem?_cons_succ, Option.some.injEq, exists_eq_left', exists_eq_left, V.int.injEq, V.ref.injEq, V.str.injEq, V.bl.injEq, V.ty.injEq, List.cons.injEq, and_true, true_and, and_assoc, exists_and_left, List.set_cons_zero, List.set_cons_succ, Nat.reduceSub, Nat.reduceAdd, decide_eq_true_eq, Bool.not_eq_true', decide_eq_false_iff_not, Int.reduceToNat, Int.reducePow, Int.reduceNeg, Int.reduceMul, Int.reduceAdd, if_true, ite_true, Bool.false_eq_true, ite_false, if_false]
  have q := q H (Same.refl H)
  have B := inW_big hb
  refine ite2 (fun c => ?_) fun c => ?_
  · rw [if_pos c] at q
    exact ⟨by omega, fun y => ⟨by decide, q⟩⟩
  · rw [if_neg c] at q
    refine ite2 (fun e => ?_) fun e => ?_
    · rw [if_pos e] at q
      exact ⟨⟨c, B⟩, q⟩
    · rw [if_neg e] at q
      exact ⟨c, q⟩
theorem rdp_come_to {E : XK} {w : Str} {a b : Int} (hw : w.length ≤ 1000) (ha : inW a = true) (hb : inW b = true) (q : ∀ H', Same H H' → if isDiv w ∧ b = 0 then E (.ref t.c_Nought) none H' else Q (.int (comeV w a b)) H') :
    rd_come_to K t E { nx := fun _ H' => Q .non H', rt := Q } (L2.start ["word", "first", "second"] [.str w, .int a, .int b]) H := by
  simp only [rd_come_to, sp_divided, L2.start, tSeq, tRet, tNext, tOp, tVar, tC, tCons, tNil, tIfS, tTest, tIf, tCall, rEq, rI, rI0, scal, List.map, List.replicate, List.length, List.append, List.cons_append, List.nil_append, List.append_nil, List.getElem?_cons_zero, List.getElem?_cons_succ, Option.some.injEq, exists_eq_left', exists_eq_left, V.int.injEq, V.ref.injEq, V.str.injEq, V.bl.injEq, V.ty.injEq, List.cons.injEq, and_true, true_and, and_assoc, exists_and_left, List.set_cons_zero, List.set_cons_succ, Nat.reduceSub, Nat.reduceAdd, decide_eq_true_eq, Bool.not_eq_true', decide_eq_false_iff_not, Int.reduceToNat, Int.reducePow, Int.reduceNeg, Int.reduceMul, Int.reduceAdd, if_true, ite_true, Bool.false_eq_true, ite_false, if_false]
  have A := inW_big ha
  have B := inW_big hb
  have nd : ¬ isDiv w → Q (.int (comeV w a b)) H := fun h => by
    have q := q H (Same.refl H)
    rw [if_neg fun z => h z.1] at q
    exact q
  refine ite2 (fun c => ?_) fun c1 => ite2 (fun c => ?_) fun c2 => ite2 (fun c => ⟨⟨A, B⟩, ?_⟩) fun c3 => ite2 (fun c => ?_) fun c4 => ite2 (fun c => ?_) fun c5 => ⟨hw, ha, hb, fun H' s => ?_⟩
  · subst c
    have q := nd fun z => z.1 rfl
    exact q
  · subst c
    have q := nd fun z => z.2.1 rfl
    rw [show comeV "minus" a b = a - b by unfold comeV; rw [if_neg c1, if_pos rfl]] at q
    exact q
  · subst c
    have q := nd fun z => z.2.2.1 rfl
    rw [show comeV "times" a b = a * b by unfold comeV; rw [if_neg c1, if_neg c2, if_pos rfl]] at q
    exact q
  · subst c
    have q := nd fun z => z.2.2.2.1 rfl
    rw [show comeV "under" a b = if a < b then 1 else 0 by unfold comeV; rw [if_neg c1, if_neg c2, if_neg c3, if_pos rfl]] at q
    refine ite2 (fun d => ?_) fun d => ?_
    · rw [if_pos d] at q; exact q
    · rw [if_neg d] at q; exact q
  · subst c
    have q := nd fun z => z.2.2.2.2 rfl
    rw [show comeV "same" a b = if a = b then 1 else 0 by unfold comeV; rw [if_neg c1, if_neg c2, if_neg c3, if_neg c4, if_pos rfl]] at q
    refine ite2 (fun d => ?_) fun d => ?_
    · rw [if_pos d] at q; exact q
    · rw [if_neg d] at q; exact q
  · have q := q H' s
    have hd : isDiv w := ⟨c1, c2, c3, c4, c5⟩
    refine ite2 (fun d => ?_) fun d => ?_
    · rw [if_pos ⟨hd, d⟩] at q; exact q
    · rw [if_neg fun z => d z.2] at q
      unfold comeV at q
      rw [if_neg c1, if_neg c2, if_neg c3, if_neg c4, if_neg c5] at q
      exact q
theorem rdp_joined {E : XK} {w : Str} {a b : Int} (hw : w.length ≤ 1000) (ha : inW a = true) (hb : inW b = true) (q : ∀ H', Same H H' → fin t (joinE w a b) Q E H') :
    rd_joined K t E { nx := fun _ H' => Q .non H', rt := Q } (L2.start ["word", "first", "second", "worth"] [.str w, .int a, .int b]) H := by
  simp only [rd_joined, sp_come_to, sp_is_worth, L2.start, tRaise, tMsgS, tSeq, tAsg, gName, tRet, tNext, tVar, tCons, tNil, tIfS, tNot, tB, tCall, List.map, List.replicate, List.length, List.append, List.cons_append, List.nil_append, List.append_nil, List.getElem?_cons_zero, List.getElem?_cons_succ, Option.some.injEq, exists_eq_left', exists_eq_left, V.int.injEq, V.ref.injEq, V.str.injEq, V.bl.injEq, V.ty.injEq, List.cons.injEq, and_true, true_and, and_assoc, exists_and_left, List.set_cons_zero, List.set_cons_succ, Nat.reduceSub, Nat.reduceAdd, decide_eq_true_eq, Bool.not_eq_true', decide_eq_false_iff_not, Int.reduceToNat, Int.reducePow, Int.reduceNeg, Int.reduceMul, Int.reduceAdd, if_true, ite_true, Bool.false_eq_true, ite_false, if_false]
  refine ⟨hw, ha, hb, fun H1 s1 => ite2 (fun c => ?_) fun c H2 s2 => ite2 (fun d => ?_) fun d => ?_⟩
  · have q := q H1 s1
    unfold joinE at q
    rw [if_pos c] at q
    exact q
  · have q := q H2 (s1.trans s2)
    unfold joinE at q
    rw [if_neg c, if_neg (by rw [d]; decide)] at q
    exact ⟨by omega, fun y => ⟨by decide, q⟩⟩
  · have q := q H2 (s1.trans s2)
    unfold joinE at q
    rw [if_neg c, if_pos (by simpa using d)] at q
    exact q
theorem last_get {xs : List V} {y : V} : (xs ++ [y])[(xs ++ [y]).length - 1]? = some y := by simp
theorem drop_last {xs : List V} {y : V} : (xs ++ [y]).dropLast = xs := by simp
theorem same_upd {H H' : Hp} {w : Addr} {o : HO} (s : Same H H') (hw : H w = none) : Same H (upd H' w o) := fun b u e => by rw [upd_ne (ne_of_none e hw)]; exact s b u e
theorem two_or (st : List Int) : (∃ l a b, st = l ++ [a, b]) ∨ ∀ kvs v, isJ v = true → stepE kvs st v = .error .stuck := by
  cases h : st.reverse with
  | nil =>
    refine .inr fun kvs v hv => ?_
    unfold stepE
    rw [hv, if_pos rfl, h]
    split <;> rename_i e1 e2 <;> first | rfl | cases e2
  | cons b r =>
    cases r with
    | nil =>
      refine .inr fun kvs v hv => ?_
      unfold stepE
      rw [hv, if_pos rfl, h]
      split <;> rename_i e1 e2 <;> first | rfl | cases e2
    | cons a r =>
      refine .inl ⟨r.reverse, a, b, ?_⟩
      have := congrArg List.reverse h
      rw [List.reverse_reverse] at this
      rw [this]; simp
theorem step_two {kvs : List (Key × V)} {l : List Int} {a b : Int} {w : Str} (hw : isJ (.str w) = true) : stepE kvs (l ++ [a, b]) (.str w) = match joinE w a b with | .ok c => .ok (l ++ [c]) | .error e => .error e := by
  unfold stepE
  rw [hw, if_pos rfl]
  simp only [List.reverse_append, List.reverse_cons, List.reverse_nil, List.nil_append, List.cons_append]
  cases joinE w a b with
  | error e => rfl
  | ok c => simp
def rkI (kvs : List (Key × V)) (ps : List V) (tm sl w : Addr) (H : Hp) (i : Nat) (σ : St) (H' : Hp) : Prop := ∃ st, (∃ o3 o4 o5, σ = [some (.ref tm), some (.ref sl), some (.ref w), o3, o4, o5]) ∧ runE kvs (ps.take i) [] = .ok st ∧ (∀ x ∈ st, inW x = true) ∧ st.length ≤ i ∧ H' w = some (.lst (st.map V.int)) ∧ Same H H'
theorem rdp_reckoned {E : XK} {kvs : List (Key × V)} {tm sl : Addr} {ps : List V} {r : Except Er Int} (hK : PySem.W.kitOne K (.type "int") (.type "str") = some false) (hJ : ∀ H : Hp, SqT K H t.c_JOINING jw) (h1 : H tm = some (.tup ps)) (h2 : H sl = some (.dK kvs)) (h3 : Good kvs ps r) (h4 : ∀ v ∈ ps, okPart v) (h5 : ps.length ≤ 1000) (h6 : SlotsOk kvs)
    (q : ∀ H', Same H H' → fin t r Q E H') : rd_reckoned K t E { nx := fun _ H' => Q .non H', rt := Q } (L2.start ["term", "slots", "worths", "part", "second", "first"] [.ref tm, .ref sl]) H := by
  simp only [rd_reckoned, sp_joined, tDGet2, L2.start, tDGet2, r_mt_append, r_mt_pop, rAppend, rPop, tSeq, tAsg, gName, tRet, tDrop, tOp, tVar, tC, tLst, tCons, tNil, tFor, tIfS, tTest, tB, tIf, tCB, tBM, tBM0, tyV, tCall, iTup, rIn, cIsi, List.map, List.replicate, List.length, List.append, List.cons_append, List.nil_append, List.append_nil, List.getElem?_cons_zero, List.getElem?_cons_succ, Option.some.injEq, exists_eq_left', exists_eq_left, V.int.injEq, V.ref.injEq, V.str.injEq, V.bl.injEq, V.ty.injEq, List.cons.injEq, and_true, true_and, and_assoc, exists_and_left, List.set_cons_zero, List.set_cons_succ, Nat.reduceSub, Nat.reduceAdd, decide_eq_true_eq, Bool.not_eq_true', decide_eq_false_iff_not, Int.reduceToNat, Int.reducePow, Int.reduceNeg, Int.reduceMul, Int.reduceAdd, if_true, ite_true, Bool.false_eq_true, ite_false, if_false]
  refine ⟨by decide, fun w hw => ⟨⟨_, SqT.of ((isV w hw) _ _ h1)⟩, ?_⟩⟩
  have run0 := h3.1 []
  have fe : ∀ {e : Er} {H' : Hp}, runE kvs ps [] = .error e → Same H H' → fin t (.error e) Q E H' := fun {e H'} z s => by
    rw [z] at run0
    cases r with
    | ok i => cases run0
    | error e' =>
      cases run0
      exact q _ s
  have ns : runE kvs ps [] ≠ .error .stuck := fun z => by
    rw [z] at run0
    cases r with
    | ok i => cases run0
    | error e' =>
      cases run0
      exact h3.2 rfl
  refine loop_tup ps (rkI kvs ps tm sl w H) ⟨[], ⟨_, _, _, rfl⟩, rfl, (fun x z => nomatch z), Nat.le_refl _, upd_same, isV w hw⟩ (fun i σ H' ⟨st, a, b, c, d, e, s⟩ => SqT.of (s _ _ h1)) ?_ ?_
  · rintro i v σ H' hv ⟨st, ⟨o3, o4, o5, rfl⟩, hr, hW, hl, hst, hS⟩
    have hi : i < ps.length := (List.getElem?_eq_some_iff.mp hv).1
    have one := run_one hr hv
    have ok := h4 v (List.mem_of_getElem? hv)
    have fl : flatV v = true := by rcases ok with ⟨j, rfl, _⟩ | ⟨x, rfl, _⟩ <;> rfl
    simp only [tDGet2, L2.start, tDGet2, r_mt_append, r_mt_pop, rAppend, rPop, tSeq, tAsg, gName, tRet, tDrop, tOp, tVar, tC, tLst, tCons, tNil, tFor, tIfS, tTest, tB, tIf, tCB, tBM, tBM0, tyV, tCall, iTup, rIn, cIsi, List.map, List.replicate, List.length, List.append, List.cons_append, List.nil_append, List.append_nil, List.getElem?_cons_zero, List.getElem?_cons_succ, Option.some.injEq, exists_eq_left', exists_eq_left, V.int.injEq, V.ref.injEq, V.str.injEq, V.bl.injEq, V.ty.injEq, List.cons.injEq, and_true, true_and, and_assoc, exists_and_left, List.set_cons_zero, List.set_cons_succ, Nat.reduceSub, Nat.reduceAdd, decide_eq_true_eq, Bool.not_eq_true', decide_eq_false_iff_not, Int.reduceToNat, Int.reducePow, Int.reduceNeg, Int.reduceMul, Int.reduceAdd, if_true, ite_true, Bool.false_eq_true, ite_false, if_false]
    refine ⟨jw, .inr (hJ H'), fl, rfl, ite2 (fun c => ?_) fun c => ?_⟩
    · rcases two_or st with ⟨l, a, b, rfl⟩ | z
      · obtain ⟨x, rfl, hx⟩ : ∃ x : Str, v = .str x ∧ x.length ≤ 1000 := by
          rcases ok with ⟨j, rfl, _⟩ | h
          · exact absurd c (by rw [show inV (V.int j) jw = false from rfl]; decide)
          · exact h
        have e1 : List.map V.int (l ++ [a, b]) = (l.map V.int ++ [.int a]) ++ [.int b] := by simp
        rw [e1] at hst
        have one' := one.trans (step_two c)
        have wa := hW a (by simp)
        have wb := hW b (by simp)
        refine ⟨.inl ⟨_, SqL.of hst⟩, _, hst, _, last_get, .inl ⟨_, SqL.of upd_same⟩, _, by rw [drop_last]; exact upd_same, _, last_get, .inl ⟨_, SqL.of upd_same⟩, x, rfl, a, rfl, b, rfl, hx, wa, wb, fun H2 s2 => ?_⟩
        rw [drop_last, drop_last] at s2
        have S2 : Same H H2 := (same_upd (same_upd hS hw) hw).trans s2
        cases e : joinE x a b with
        | ok d =>
          rw [e] at one'
          have hd : inW d = true := by
            unfold joinE at e
            split at e
            · cases e
            · split at e
              · rename_i z; cases e; exact z
              · cases e
          refine ⟨_, s2 _ _ upd_same, ?_, l ++ [d], ⟨_, _, _, rfl⟩, one', ?_, ?_, ?_, same_upd S2 hw⟩
          · rw [List.length_map]
            have : (l ++ [a, b]).length = l.length + 2 := by simp
            exact Nat.lt_of_le_of_lt (by omega : l.length ≤ 1000) (by decide)
          · intro y hy
            rcases List.mem_append.mp hy with h | h
            · exact hW y (List.mem_append_left _ h)
            · have : y = d := by simpa using h
              rw [this]; exact hd
          · have : (l ++ [a, b]).length = l.length + 2 := by simp
            rw [List.length_append]; show l.length + 1 ≤ i + 1
            omega
          · rw [List.map_append]; exact upd_same
        | error er =>
          rw [e] at one'
          have := fe (run_err one') S2
          cases er with
          | nought => exact this
          | great => exact this
          | stuck => trivial
      · exact absurd (run_err (one.trans (z kvs v c))) ns
    · have st1 : stepE kvs st v = .ok (st ++ [wrth kvs v]) := by
        unfold stepE
        rw [if_neg (by unfold isJ; exact c)]
      have one' := one.trans st1
      have hwv := wrth_inW h6 ok
      have fin1 : ∀ u, u = V.int (wrth kvs v) → rkI kvs ps tm sl w H (i + 1) [some (V.ref tm), some (V.ref sl), some (V.ref w), some v, o4, o5] (upd H' w (HO.lst (List.map V.int st ++ [u]))) := fun u hu => by
        subst hu
        refine ⟨st ++ [wrth kvs v], ⟨_, _, _, rfl⟩, one', ?_, ?_, ?_, same_upd hS hw⟩
        · intro y hy
          rcases List.mem_append.mp hy with h | h
          · exact hW y h
          · have : y = wrth kvs v := by simpa using h
            rw [this]; exact hwv
        · rw [List.length_append]; show st.length + 1 ≤ i + 1
          omega
        · rw [List.map_append]; exact upd_same
      have sz : (List.map V.int st).length < sizeLine := by
        rw [List.length_map]
        exact Nat.lt_of_le_of_lt (by omega : st.length ≤ 1000) (by decide)
      refine ⟨.inl ⟨_, SqL.of hst⟩, ?_⟩
      rcases ok with ⟨j, rfl, hj⟩ | ⟨x, rfl, hx⟩
      · refine ⟨_, .int j, false, hK, ?_⟩
        rw [if_neg (by decide)]
        exact ⟨_, hst, sz, fin1 _ rfl⟩
      · refine ⟨_, .str x, true, kit_same _, ?_⟩
        rw [if_pos rfl]
        refine ⟨.inl ⟨kvs, .inl (hS _ _ h2)⟩, _, DGet.k (k := .inr x) (hS _ _ h2), _, hst, sz, fin1 _ ?_⟩
        show (valV kvs (.inr x)).getD (V.int 0) = V.int (match valV kvs (.inr x) with | some (.int i) => i | _ => 0)
        cases e : valV kvs (.inr x) with
        | none => rfl
        | some u =>
          obtain ⟨i, rfl, _⟩ := h6 _ _ e
          rfl
  · rintro σ H' ⟨st, ⟨o3, o4, o5, rfl⟩, hr, hW, hl, hst, hS⟩
    rw [List.take_length] at hr
    simp only [tDGet2, L2.start, tDGet2, r_mt_append, r_mt_pop, rAppend, rPop, tSeq, tAsg, gName, tRet, tDrop, tOp, tVar, tC, tLst, tCons, tNil, tFor, tIfS, tTest, tB, tIf, tCB, tBM, tBM0, tyV, tCall, iTup, rIn, cIsi, List.map, List.replicate, List.length, List.append, List.cons_append, List.nil_append, List.append_nil, List.getElem?_cons_zero, List.getElem?_cons_succ, Option.some.injEq, exists_eq_left', exists_eq_left, V.int.injEq, V.ref.injEq, V.str.injEq, V.bl.injEq, V.ty.injEq, List.cons.injEq, and_true, true_and, and_assoc, exists_and_left, List.set_cons_zero, List.set_cons_succ, Nat.reduceSub, Nat.reduceAdd, decide_eq_true_eq, Bool.not_eq_true', decide_eq_false_iff_not, Int.reduceToNat, Int.reducePow, Int.reduceNeg, Int.reduceMul, Int.reduceAdd, if_true, ite_true, Bool.false_eq_true, ite_false, if_false]
    rw [hr] at run0
    cases r with
    | error e => cases run0
    | ok i =>
      have e : st = [i] := by injection run0
      subst e
      exact ⟨.inl ⟨_, SqL.of hst⟩, _, hst, _, rfl, q _ (same_upd hS hw)⟩
theorem rdp__law_cell_at {a : Addr} {ns : List Int} {k : Nat} (hS : SqL K H a (ns.map V.int)) (hl : ns.length ≤ 63) (q : ∀ c H', Same H H' → Q (.int c) H') :
    rd__law_cell_at K t { nx := fun _ H' => Q .non H', rt := Q } (L2.start ["script", "k"] [.ref a, .int k]) H := by
  simp only [rd__law_cell_at, L2.start, tSeq, tRet, tNext, tOp, tVar, tC, tCons, tNil, tIfS, tTest, tCB, LenV, rIxL, rI0, cLen, List.map, List.replicate, List.length, List.append, List.cons_append, List.nil_append, List.append_nil, List.getElem?_cons_zero, List.getElem?_cons_succ, Option.some.injEq, exists_eq_left', exists_eq_left, V.int.injEq, V.ref.injEq, V.str.injEq, V.bl.injEq, V.ty.injEq, List.cons.injEq, and_true, true_and, and_assoc, exists_and_left, List.set_cons_zero, List.set_cons_succ, Nat.reduceSub, Nat.reduceAdd, decide_eq_true_eq, Bool.not_eq_true', decide_eq_false_iff_not, Int.reduceToNat, Int.reducePow, Int.reduceNeg, Int.reduceMul, Int.reduceAdd, if_true, ite_true, Bool.false_eq_true, ite_false, if_false]
  refine ⟨_, .inl ⟨_, hS, rfl⟩, ite2 (fun c => ?_) fun _ => q _ _ (Same.refl H)⟩
  obtain ⟨v, hv, hm⟩ := at_lt (xs := ns.map V.int) (i := (k : Int)) (by omega) c
  obtain ⟨i, _, rfl⟩ := List.mem_map.mp hm
  exact ⟨_, hS, _, hv, q _ _ (Same.refl H)⟩
theorem one_len (c : Nat) : ({ cps := #[c] } : Str).length = 1 := rfl
theorem RowAt.same {H H' : Hp} {v : V} {q : Row} (h : RowAt H v q) (s : Same H H') : RowAt H' v q := by
  obtain ⟨r, p, e, h1, h2⟩ := h
  exact ⟨r, p, e, s _ _ h1, s _ _ h2⟩
/-- tuples stay -/
def TSame (H H' : Hp) : Prop := ∀ b ys, H b = some (.tup ys) → H' b = some (.tup ys)
theorem RowAt.tsame {H H' : Hp} {v : V} {q : Row} (h : RowAt H v q) (s : TSame H H') : RowAt H' v q := by
  obtain ⟨r, p, e, h1, h2⟩ := h
  exact ⟨r, p, e, s _ _ h1, s _ _ h2⟩
theorem rows_tmono {H H' : Hp} (s : TSame H H') : ∀ {vs : List V} {rows : List Row}, RowsAt H vs rows → RowsAt H' vs rows
  | _, _, .nil => .nil
  | _, _, .cons h r => .cons (h.tsame s) (rows_tmono s r)
theorem Same.ts {H H' : Hp} (s : Same H H') : TSame H H' := fun b ys e => s _ _ e
theorem comp_inv {J : It} {D : Addr} {τ₀ : St} {H1 : Hp} {Q : Hp → Prop} {B : V → St → Hp → (V → St → Hp → Prop) → (St → Hp → Prop) → Prop} (n : Nat) (hn : n ≤ 1000000) (C : St → Prop) (R : Nat → List V → Hp → Prop) (hm : ∀ i ys H H', TSame H H' → R i ys H → R i ys H') (hC : C τ₀) (h0 : R 0 [] H1)
    (go : ∀ i H, Same H1 H → i < n → J.go i H) (stop : ∀ H, Same H1 H → J.stop n H) (hD : H1 D = none)
    (hs : ∀ i x τ ys H H', C τ → Same H1 H → i < n → R i ys H → J.yld i H x H' → B x τ H' (fun v τ' H4 => C τ' ∧ R (i + 1) (ys ++ [v]) H4 ∧ Same H H4) (fun τ' H4 => C τ' ∧ R (i + 1) ys H4 ∧ Same H H4))
    (hd : ∀ ys H, ys.length ≤ n → R n ys H → Same H1 H → H D = some (.lst ys) → Q H) :
    ∃ W : Nat → Nat → List V → St → Hp → Prop, (∃ m, W 0 m [] τ₀ (upd H1 D (.lst []))) ∧ ∀ i m ys τ H, W i m ys τ H → H D = some (.lst ys) ∧
    ((J.stop i H ∧ Q H) ∨ (J.go i H ∧ ys.length < sizeLine ∧ ∃ N : V → St → Hp → Prop,
      (∀ v τ' H', N v τ' H' → H' D = some (.lst ys) ∧ ∃ m', m' < m ∧ W (i + 1) m' (ys ++ [v]) τ' (upd H' D (.lst (ys ++ [v])))) ∧ ∃ Nf : St → Hp → Prop, (∀ τ' H', Nf τ' H' → ∃ m', m' < m ∧ W (i + 1) m' ys τ' H') ∧
      ∀ x H', J.yld i H x H' → B x τ H' N Nf)) := by
  have ext : ∀ {H : Hp} {o : HO}, Same H1 H → Same H1 (upd H D o) := fun {H o} h b u e => by
    rw [upd_ne (ne_of_none e hD)]; exact h b u e
  refine ⟨fun i m ys τ H => m = n - i ∧ i ≤ n ∧ ys.length ≤ i ∧ R i ys H ∧ Same H1 H ∧ H D = some (.lst ys) ∧ C τ, ⟨n, by simp, Nat.zero_le _, Nat.le_refl _, hm _ _ _ _ (Same.ts (ext (Same.refl _))) h0, ext (Same.refl _), upd_same, hC⟩, ?_⟩
  rintro i m ys τ H ⟨rfl, hi, hl, hR, hS, hy, hc⟩
  refine ⟨hy, ?_⟩
  by_cases hlt : i < n
  · refine .inr ⟨go i H hS hlt, Nat.lt_of_le_of_lt (by omega : ys.length ≤ 1000000) (by decide), _, ?_, _, ?_, fun x H' y => hs i x τ ys H H' hc hS hlt hR y⟩
    · rintro v τ' H4 ⟨c4, r4, s4⟩
      have y4 := s4 _ _ hy
      exact ⟨y4, n - (i + 1), by omega, rfl, hlt, by simp; omega, hm _ _ _ _ (fun b zs e => by rw [upd_ne (ne_of e y4 (by simp))]; exact e) r4, ext (hS.trans s4), upd_same, c4⟩
    · rintro τ' H4 ⟨c4, r4, s4⟩
      exact ⟨n - (i + 1), by omega, rfl, hlt, by omega, r4, hS.trans s4, s4 _ _ hy, c4⟩
  · obtain rfl : i = n := by omega
    exact .inl ⟨stop H hS, hd ys H hl hR hS hy⟩
theorem rows_mono {H H' : Hp} (s : Same H H') : ∀ {vs : List V} {rows : List Row}, RowsAt H vs rows → RowsAt H' vs rows
  | _, _, .nil => .nil
  | _, _, .cons h r => .cons (h.same s) (rows_mono s r)
theorem rows_len {vs : List V} {rows : List Row} (h : RowsAt H vs rows) : vs.length = rows.length := Paired.length h
def rowD (q : Row) : PyData := .tuple [.tuple [.str q.1.1, .int q.1.2], .int q.2]
theorem row_dat {v : V} {q : Row} (h : RowAt H v q) : Dat K H v (rowD q) := by
  obtain ⟨r, p, rfl, h1, h2⟩ := h
  exact .tup (SqT.of h1) (.cons (.tup (SqT.of h2) (.cons (.str _) (.cons (.int _) .nil))) (.cons (.int _) .nil))
theorem rows_dat : ∀ {vs : List V} {rows : List Row}, RowsAt H vs rows → DatAll K H vs (rows.map rowD)
  | _, _, .nil => .nil
  | _, _, .cons h r => .cons (row_dat h) (rows_dat r)
theorem name_ok {x : Str} (h : isName x = true) : PyData.strOk x = true := (name_asc h).flat
theorem plain_rows : ∀ {rows : List Row}, (∀ q ∈ rows, okRow q) → plainDs (rows.map rowD) = true
  | [], _ => by simp [plainDs]
  | q :: r, h => by
    rw [List.map_cons, plainDs, plain_rows fun q hq => h q (List.mem_cons_of_mem _ hq)]
    have := name_ok (h q List.mem_cons_self)
    simp [rowD, plainD, plainDs, this]
theorem deep_rows : ∀ (rows : List Row), PyData.depthAll (rows.map rowD) ≤ 2
  | [] => by simp [PyData.depthAll]
  | q :: r => by
    have := deep_rows r
    rw [List.map_cons, PyData.depthAll]
    simp [rowD, PyData.depth, PyData.depthAll]
    omega
theorem rows_snoc {H : Hp} {v : V} {q : Row} : ∀ {ys : List V} {rows : List Row}, RowsAt H ys rows → RowAt H v q → RowsAt H (ys ++ [v]) (rows ++ [q])
  | _, _, .nil, h => .cons h .nil
  | _, _, .cons a r, h => .cons a (rows_snoc r h)
/-- the places of the dict -/
theorem keys_dOf (rows : List Row) : ∃ qs : List Pl, (dOf rows).map (·.1) = qs.map plKey ∧ qs.Nodup ∧ ∀ p, p ∈ qs ↔ (lastW rows p).isSome = true := by
  have h := okKv_dOf rows
  have : ∀ (kvs : List (List Key × V)), (∀ kv ∈ kvs, ∃ (p : Pl) (w : Int), kv = (plKey p, .int w)) → ∃ qs : List Pl, kvs.map (·.1) = qs.map plKey := fun kvs => by
    induction kvs with
    | nil => exact fun _ => ⟨[], rfl⟩
    | cons kv r ih =>
      intro hk
      obtain ⟨qs, e⟩ := ih fun z hz => hk z (List.mem_cons_of_mem _ hz)
      obtain ⟨p, w, e2⟩ := hk kv List.mem_cons_self
      exact ⟨p :: qs, by rw [List.map_cons, List.map_cons, e, e2]⟩
  obtain ⟨qs, e⟩ := this _ h.2
  refine ⟨qs, e, nodup_map_inj (f := plKey) (by rw [← e]; exact h.1), fun p => ?_⟩
  constructor
  · intro hp
    have : plKey p ∈ (dOf rows).map (·.1) := by rw [e]; exact List.mem_map_of_mem hp
    obtain ⟨kv, hk, e1⟩ := List.mem_map.mp this
    obtain ⟨p', w, rfl, hw⟩ := mem_dOf.mp hk
    have := plKey_inj e1
    subst this
    rw [hw]; rfl
  · intro hp
    obtain ⟨w, hw⟩ := Option.isSome_iff_exists.mp hp
    have : plKey p ∈ qs.map plKey := by rw [← e]; exact List.mem_map_of_mem (f := (·.1)) (mem_dOf.mpr ⟨p, w, rfl, hw⟩)
    obtain ⟨p', hp', e1⟩ := List.mem_map.mp this
    rw [← plKey_inj e1]; exact hp'
def toRow (rows : List Row) (p : Pl) : Option Row := match lastW rows p with
  | some w => if w = 0 then none else some (p, w)
  | none => none
def cTab (rows : List Row) (qs : List Pl) (i : Nat) (ys : List V) (H : Hp) : Prop := ∃ out : List Row, RowsAt H ys out ∧ out = (qs.take i).filterMap (toRow rows)
theorem cTab_ts {rows : List Row} {qs : List Pl} {i : Nat} {ys : List V} {H H' : Hp} (s : TSame H H') (h : cTab rows qs i ys H) : cTab rows qs i ys H' := by
  obtain ⟨out, h1, h2⟩ := h
  exact ⟨out, rows_tmono s h1, h2⟩
theorem toRow_iff {rows : List Row} {p : Pl} {b : Row} : toRow rows p = some b ↔ b.1 = p ∧ lastW rows p = some b.2 ∧ b.2 ≠ 0 := by
  unfold toRow
  obtain ⟨p', w'⟩ := b
  cases e : lastW rows p with
  | none => simp
  | some w =>
    by_cases h : w = 0
    · subst h
      simp only [if_true]
      constructor
      · intro z; cases z
      · rintro ⟨_, z, h2⟩
        exact absurd (Option.some.inj z).symm h2
    · simp only [if_neg h, Option.some.injEq, Prod.mk.injEq]
      constructor
      · rintro ⟨rfl, rfl⟩; exact ⟨rfl, rfl, h⟩
      · rintro ⟨rfl, rfl, _⟩; exact ⟨rfl, rfl⟩
theorem tab_of {rows : List Row} {ps : List Pl} (hw : ps.Pairwise fun a b => placeLt a b = true) (hm : ∀ p, p ∈ ps ↔ (lastW rows p).isSome = true) : IsTab rows (ps.filterMap (toRow rows)) := by
  constructor
  · unfold Rising
    rw [List.pairwise_filterMap]
    refine hw.imp fun {a a'} h b hb b' hb' => ?_
    rw [(toRow_iff.mp hb).1, (toRow_iff.mp hb').1]; exact h
  · intro p w
    rw [List.mem_filterMap]
    constructor
    · rintro ⟨a, _, h⟩
      obtain ⟨h1, h2, h3⟩ := toRow_iff.mp h
      cases h1
      exact ⟨h2, h3⟩
    · rintro ⟨h1, h2⟩
      exact ⟨p, (hm p).mpr (by rw [h1]; rfl), toRow_iff.mpr ⟨rfl, h1, h2⟩⟩
theorem fresh_of {H H' : Hp} {D : Addr} (s : Same H H') (h : H' D = none) : H D = none := by
  cases e : H D with
  | none => rfl
  | some o => rw [s _ _ e] at h; cases h
theorem rdp_table_gen {a : Addr} {xs : List V} {rows : List Row} (h1 : H a = some (.lst xs)) (h2 : RowsAt H xs rows) (h4 : (dOf rows).length ≤ 63) (h5 : rows.length ≤ 1000) (q : ∀ l ys out H', Same H H' → H l = none → H' l = some (.lst ys) → RowsAt H' ys out → IsTab rows out → Q (.ref l) H') :
    rd_table_of K t { nx := fun _ H' => Q .non H', rt := Q } (L2.start ["rows", "worths"] [.ref a]) H := by
  simp only [rd_table_of, tDGet, cSrtD, cDctP, L2.start, tSeq, tAsg, gName, tRet, tOp, tVar, tC, tTup, tCons, tNil, tTest, tCB, tComp, capV, iList, rNe, scal, List.map, List.replicate, List.length, List.append, List.cons_append, List.nil_append, List.append_nil, List.getElem?_cons_zero, List.getElem?_cons_succ, Option.some.injEq, exists_eq_left', exists_eq_left, V.int.injEq, V.ref.injEq, V.str.injEq, V.bl.injEq, V.ty.injEq, List.cons.injEq, and_true, true_and, and_assoc, exists_and_left, List.set_cons_zero, List.set_cons_succ, Nat.reduceSub, Nat.reduceAdd, decide_eq_true_eq, Bool.not_eq_true', decide_eq_false_iff_not, Int.reduceToNat, Int.reducePow, Int.reduceNeg, Int.reduceMul, Int.reduceAdd, if_true, ite_true, Bool.false_eq_true, ite_false, if_false]
  refine ⟨xs, h1, rows, h2, h5, fun d hd => ?_⟩
  have S : ∀ u : HO, Same H (upd H d u) := fun u => isV (o := u) d hd
  obtain ⟨qs, hqs, nqs, mqs⟩ := keys_dOf rows
  have ld := len_dOf rows
  generalize hH0 : upd H d (.dT (dOf rows)) = H0
  have S0 : Same H H0 := by rw [← hH0]; exact S _
  have d0 : H0 d = some (.dT (dOf rows)) := by rw [← hH0]; exact upd_same
  refine ⟨dOf rows, d0, qs, hqs, by omega, fun l ps hl0 hperm hpw hps => ?_⟩
  obtain ⟨H1, eH, s1, q1⟩ := new_obj (o := HO.lst (ps.map fun n => V.ref n.1)) hl0
  rw [← eH]
  clear eH
  refine ⟨⟨_, SqL.of q1⟩, fun D hD => ?_⟩
  refine comp_inv (J := Itl K l) ps.length (by have := hperm.length_eq; have := congrArg List.length hqs; simp at *; omega) (fun τ => ∃ o, τ = [o, some (.ref d)]) (cTab rows (ps.map (·.2))) (fun i ys H H' s h => cTab_ts s h) ⟨_, rfl⟩ ⟨[], .nil, rfl⟩ (fun i H s h => ⟨_, _, SqL.of (s _ _ q1), List.getElem?_eq_getElem (by rw [List.length_map]; exact h)⟩) (fun H s => ⟨_, SqL.of (s _ _ q1), by rw [List.length_map]; exact Nat.le_refl _⟩) hD ?_ ?_
  · rintro i v τ ys H4 H5 ⟨o, rfl⟩ s4 hi hR ⟨rfl, hv⟩
    have hv := hv _ (SqL.of (s4 _ _ q1))
    rw [List.getElem?_map] at hv
    obtain ⟨n, hn, rfl⟩ := Option.map_eq_some_iff.mp hv
    have hp := s4 _ _ (s1 _ _ (hps n (List.mem_of_getElem? hn)))
    simp only [tDGet, cSrtD, cDctP, L2.start, tSeq, tAsg, gName, tRet, tOp, tVar, tC, tTup, tCons, tNil, tTest, tCB, tComp, capV, iList, rNe, scal, List.map, List.replicate, List.length, List.append, List.cons_append, List.nil_append, List.append_nil, List.getElem?_cons_zero, List.getElem?_cons_succ, Option.some.injEq, exists_eq_left', exists_eq_left, V.int.injEq, V.ref.injEq, V.str.injEq, V.bl.injEq, V.ty.injEq, List.cons.injEq, and_true, true_and, and_assoc, exists_and_left, List.set_cons_zero, List.set_cons_succ, Nat.reduceSub, Nat.reduceAdd, decide_eq_true_eq, Bool.not_eq_true', decide_eq_false_iff_not, Int.reduceToNat, Int.reducePow, Int.reduceNeg, Int.reduceMul, Int.reduceAdd, if_true, ite_true, Bool.false_eq_true, ite_false, if_false]
    have hm : n.2 ∈ qs := hperm.mem_iff.mp (List.mem_map_of_mem (List.mem_of_getElem? hn))
    obtain ⟨w, hw⟩ := Option.isSome_iff_exists.mp ((mqs n.2).mp hm)
    have g : DGet H5 d (.ref n.1) ((lastW rows n.2).map V.int) := .inr ⟨dOf rows, plKey n.2, n.1, .inl (s4 _ _ (s1 _ _ d0)), rfl, hp, (val_dOf rows n.2).symm⟩
    rw [hw] at g
    have tk : (ps.map (·.2)).take (i + 1) = (ps.map (·.2)).take i ++ [n.2] := by rw [List.take_add_one, List.getElem?_map, hn]; rfl
    obtain ⟨out, hr, ho⟩ := hR
    refine ⟨_, g, rfl, ite2 (fun c => ⟨_, g, by decide, fun p hp2 => ⟨⟨_, rfl⟩, ?_, isV p hp2⟩⟩) fun c => ⟨⟨_, rfl⟩, ?_, Same.refl _⟩⟩
    · refine ⟨out ++ [(n.2, w)], rows_snoc (rows_mono (isV p hp2) hr) ⟨p, n.1, rfl, upd_same, isV p hp2 _ _ hp⟩, ?_⟩
      have hw0 : w ≠ 0 := fun z => c (by rw [z])
      rw [tk, List.filterMap_append, ← ho]
      simp [toRow, hw, hw0]
    · refine ⟨out, hr, ?_⟩
      have hw0 : w = 0 := by simpa using c
      rw [tk, List.filterMap_append, ← ho]
      simp [toRow, hw, hw0]
  · rintro ys H4 hly ⟨out, hr, ho⟩ s4 hq
    refine q D ys out H4 (S0.trans (s1.trans s4)) (fresh_of (S0.trans s1) hD) hq hr ?_
    rw [List.take_of_length_le (by rw [List.length_map]; exact Nat.le_refl _)] at ho
    subst ho
    exact tab_of hpw fun p => (hperm.mem_iff.trans (mqs p))
theorem last_mem {p : Pl} {w : Int} : ∀ {l : List Row}, lastW l p = some w → (p, w) ∈ l
  | [], h => by cases h
  | r :: t, h => by
    rw [lastW] at h
    cases e : lastW t p with
    | some w' =>
      rw [e] at h
      have : w' = w := by simpa using h
      subst this
      exact List.mem_cons_of_mem _ (last_mem e)
    | none =>
      rw [e] at h
      by_cases c : r.1 = p
      · rw [if_pos c] at h
        have : r.2 = w := by simpa using h
        rw [← c, ← this]; exact List.mem_cons_self
      · rw [if_neg c] at h; cases h
theorem LsAt.same {H H' : Hp} {a : Addr} {rows : List Row} (h : LsAt H a rows) (s : Same H H') : LsAt H' a rows := by
  obtain ⟨xs, h1, h2⟩ := h
  exact ⟨xs, s _ _ h1, rows_mono s h2⟩
theorem cutV_to (xs : List V) (k : Nat) (hk : k ≤ xs.length) : cutV xs none (some (k : Int)) = xs.take k := by
  unfold cutV
  rw [HT.sIx_none, HT.sIx_nat, Nat.min_eq_left hk]
  simp
theorem fresh_ne {H1 : Hp} {R b : Addr} {o : HO} (h : H1 R = some o) (hb : H1 b = none) : b ≠ R := fun z => by rw [z, h] at hb; cases hb
theorem fin_err {t : Adr} {e : Er} {Q : VK} {E : XK} {H : Hp} : fin t (.error e) Q E H ↔ errE t e E H := by cases e <;> rfl
theorem fin_ok {t : Adr} {i : Int} {Q : VK} {E : XK} {H : Hp} : fin t (.ok i) Q E H ↔ Q (.int i) H := Iff.rfl
theorem does_ref {F : Addr → Prop} {v : V} {r : Rw} (h : RwAt F H v r) (d : isDoes r) : ∃ p xs hd, v = .ref p ∧ H p = some (.tup xs) ∧ atI xs 0 = some (.str hd) ∧ hd ≠ "off" ∧ hd ≠ "if" := by
  cases r with
  | take sh e sl =>
    unfold RwAt at h
    obtain ⟨r, te, rfl, _, _, e2, e3⟩ := h
    exact ⟨r, _, _, rfl, e2, rfl, by decide +kernel, by decide +kernel⟩
  | give sh e f =>
    unfold RwAt at h
    obtain ⟨r, te, tf, rfl, _, _, _, e2, e3⟩ := h
    exact ⟨r, _, _, rfl, e2, rfl, by decide +kernel, by decide +kernel⟩
  | lt sl e =>
    unfold RwAt at h
    obtain ⟨r, te, rfl, _, _, e2, e3⟩ := h
    exact ⟨r, _, _, rfl, e2, rfl, by decide +kernel, by decide +kernel⟩
  | say e =>
    unfold RwAt at h
    obtain ⟨r, te, rfl, _, _, e2, e3⟩ := h
    exact ⟨r, _, _, rfl, e2, rfl, by decide +kernel, by decide +kernel⟩
  | off e => exact d.elim
  | iff e a b => exact d.elim
theorem doF {P : Str → Option Value} (T : Txt K P t) : DoF K t := ⟨T.cl_Doing, T.na_Doing_slots, T.na_Doing_worths, T.na_Doing_sayings⟩
theorem DoAt.same {H0 H H' : Hp} {x dx sl wo sa : Addr} {s : Sta} (D : DoAt t H0 H x dx sl wo sa s) (k : Same H H') : DoAt t H0 H' x dx sl wo sa s :=
  ⟨D.sm.trans k, D.f1, D.f2, D.f3, k _ _ D.ix, k _ _ D.hs, k _ _ D.hw, k _ _ D.ha⟩
theorem DoAt.putS {H0 H : Hp} {x dx sl wo sa : Addr} {s : Sta} (D : DoAt t H0 H x dx sl wo sa s) (kvs : List (Key × V)) : DoAt t H0 (upd H sl (.dK kvs)) x dx sl wo sa { s with sl := kvs } :=
  ⟨same_upd D.sm D.f1, D.f1, D.f2, D.f3, by rw [upd_ne (ne_of D.ix D.hs (fun z => nomatch z))]; exact D.ix, upd_same, by rw [upd_ne (ne_of D.hw D.hs (fun z => nomatch z))]; exact D.hw, by rw [upd_ne (ne_of D.ha D.hs (fun z => nomatch z))]; exact D.ha⟩
theorem DoAt.putW {H0 H : Hp} {x dx sl wo sa : Addr} {s : Sta} (D : DoAt t H0 H x dx sl wo sa s) (rows : List Row) : DoAt t H0 (upd H wo (.dT (dOf rows))) x dx sl wo sa { s with wo := rows } :=
  ⟨same_upd D.sm D.f2, D.f1, D.f2, D.f3, by rw [upd_ne (ne_of D.ix D.hw (fun z => nomatch z))]; exact D.ix, by rw [upd_ne (ne_of D.hs D.hw (fun z => nomatch z))]; exact D.hs, upd_same, by rw [upd_ne (ne_of D.ha D.hw (fun z => nomatch z))]; exact D.ha⟩
theorem DoAt.putA {H0 H : Hp} {x dx sl wo sa : Addr} {s : Sta} (D : DoAt t H0 H x dx sl wo sa s) (is : List Int) : DoAt t H0 (upd H sa (.lst (is.map V.int))) x dx sl wo sa { s with sa := is } :=
  ⟨same_upd D.sm D.f3, D.f1, D.f2, D.f3, by rw [upd_ne (ne_of D.ix D.ha (fun z => nomatch z))]; exact D.ix, by rw [upd_ne (ne_of D.hs D.ha (fun z => nomatch z))]; exact D.hs, by rw [upd_ne (ne_of D.hw D.ha (fun z => nomatch z))]; exact D.hw, upd_same⟩
theorem rdp_Doing_init {x a : Addr} {tab : List Row} {H0 : Hp} {dx : Addr} (F : DoF K t) (h1 : Same H0 H) (h2 : H0 x = none) (h3 : H x = some (.ins t.c_Doing dx [])) (h4 : LsAt H0 a tab) (h5 : tab.length ≤ 500)
    (q : ∀ H' sl wo sa, DoAt t H0 H' x dx sl wo sa ⟨[], tab, []⟩ → Q .non H') :
    rd_Doing_init K t { nx := fun _ H' => Q .non H', rt := Q } (L2.start ["self", "table"] [.ref x, .ref a]) H := by
  simp only [rd_Doing_init, cDctP, sFld, putF, L2.start, tSeq, tVar, tLst, tCons, tNil, tCB, tDNewK, List.map, List.replicate, List.length, List.append, List.cons_append, List.nil_append, List.append_nil, List.getElem?_cons_zero, List.getElem?_cons_succ, Option.some.injEq, exists_eq_left', exists_eq_left, V.int.injEq, V.ref.injEq, V.str.injEq, V.bl.injEq, V.ty.injEq, List.cons.injEq, and_true, true_and, and_assoc, exists_and_left, List.set_cons_zero, List.set_cons_succ, Nat.reduceSub, Nat.reduceAdd, decide_eq_true_eq, Bool.not_eq_true', decide_eq_false_iff_not, Int.reduceToNat, Int.reducePow, Int.reduceNeg, Int.reduceMul, Int.reduceAdd, if_true, ite_true, Bool.false_eq_true, ite_false, if_false]
  intro sl hsl
  obtain ⟨xs, hx, rx⟩ := h4
  have nsl : x ≠ sl := ne_of_none h3 hsl
  have fsl : H0 sl = none := fresh_of h1 hsl
  refine ⟨_, _, _, (by rw [upd_ne nsl]; exact h3), F.cl, F.n1, by decide, ?_⟩
  have S2 : Same H0 (upd (upd H sl (.dK [])) x (.ins t.c_Doing dx (putF "slots" (.ref sl) []))) := same_upd (same_upd h1 fsl) h2
  have x2 : upd (upd H sl (.dK [])) x (.ins t.c_Doing dx (putF "slots" (.ref sl) [])) x = some (.ins t.c_Doing dx (putF "slots" (.ref sl) [])) := upd_same
  have l2 : upd (upd H sl (.dK [])) x (.ins t.c_Doing dx (putF "slots" (.ref sl) [])) sl = some (.dK []) := by rw [upd_ne (Ne.symm nsl), upd_same]
  generalize upd (upd H sl (.dK [])) x (.ins t.c_Doing dx (putF "slots" (.ref sl) [])) = H2 at *
  refine ⟨xs, S2 _ _ hx, tab, rows_mono S2 rx, by omega, fun wo hwo => ?_⟩
  have nwo : x ≠ wo := ne_of_none x2 hwo
  have fwo : H0 wo = none := fresh_of S2 hwo
  refine ⟨_, _, _, (by rw [upd_ne nwo]; exact x2), F.cl, F.n2, (by simp [putF]), Nat.zero_le _, ?_⟩
  have S3 : Same H0 (upd (upd H2 wo (.dT (dOf tab))) x (.ins t.c_Doing dx (putF "worths" (.ref wo) (putF "slots" (.ref sl) [])))) := same_upd (same_upd S2 fwo) h2
  have x3 : upd (upd H2 wo (.dT (dOf tab))) x (.ins t.c_Doing dx (putF "worths" (.ref wo) (putF "slots" (.ref sl) []))) x = some (.ins t.c_Doing dx (putF "worths" (.ref wo) (putF "slots" (.ref sl) []))) := upd_same
  have l3 : upd (upd H2 wo (.dT (dOf tab))) x (.ins t.c_Doing dx (putF "worths" (.ref wo) (putF "slots" (.ref sl) []))) sl = some (.dK []) := by rw [upd_ne (Ne.symm nsl), upd_ne (ne_of_none l2 hwo)]; exact l2
  have w3 : upd (upd H2 wo (.dT (dOf tab))) x (.ins t.c_Doing dx (putF "worths" (.ref wo) (putF "slots" (.ref sl) []))) wo = some (.dT (dOf tab)) := by rw [upd_ne (Ne.symm nwo), upd_same]
  generalize upd (upd H2 wo (.dT (dOf tab))) x (.ins t.c_Doing dx (putF "worths" (.ref wo) (putF "slots" (.ref sl) []))) = H3 at *
  intro sa hsa
  have nsa : x ≠ sa := ne_of_none x3 hsa
  refine ⟨_, _, _, (by rw [upd_ne nsa]; exact x3), F.cl, F.n3, (by simp [putF]; split <;> simp), q _ sl wo sa ⟨same_upd (same_upd S3 (fresh_of S3 hsa)) h2, fsl, fwo, fresh_of S3 hsa, upd_same, ?_, ?_, ?_⟩⟩
  · rw [upd_ne (Ne.symm nsl), upd_ne (ne_of_none l3 hsa)]; exact l3
  · rw [upd_ne (Ne.symm nwo), upd_ne (ne_of_none w3 hsa)]; exact w3
  · rw [upd_ne (Ne.symm nsa), upd_same]; rfl
theorem rdp_Doing_worth_of {x tm : Addr} {e : List V} {H0 : Hp} {dx sl wo sa : Addr} {s : Sta} {E : XK} (F : DoF K t) (D : DoAt t H0 H x dx sl wo sa s) (h2 : SlotsOk s.sl) (h3 : H tm = some (.tup e)) (h4 : TermOk e)
    (q : ∀ H', Same H H' → fin t (rk s.sl e) Q E H') : rd_Doing_worth_of K t E { nx := fun _ H' => Q .non H', rt := Q } (L2.start ["self", "term"] [.ref x, .ref tm]) H := by
  simp only [rd_Doing_worth_of, sp_reckoned, tFld, L2.start, tRet, tVar, tCons, tNil, tCall, List.map, List.replicate, List.length, List.append, List.cons_append, List.nil_append, List.append_nil, List.getElem?_cons_zero, List.getElem?_cons_succ, Option.some.injEq, exists_eq_left', exists_eq_left, V.int.injEq, V.ref.injEq, V.str.injEq, V.bl.injEq, V.ty.injEq, List.cons.injEq, and_true, true_and, and_assoc, exists_and_left, List.set_cons_zero, List.set_cons_succ, Nat.reduceSub, Nat.reduceAdd, decide_eq_true_eq, Bool.not_eq_true', decide_eq_false_iff_not, Int.reduceToNat, Int.reducePow, Int.reduceNeg, Int.reduceMul, Int.reduceAdd, if_true, ite_true, Bool.false_eq_true, ite_false, if_false]
  exact ⟨_, _, _, D.ix, F.cl, F.n1, _, rfl, s.sl, _, rfl, e, h3, D.hs, _, h4.good s.sl, h4.2.1, h4.2.2, h2, q⟩
theorem rdp_Doing_does {x : Addr} {v : V} {r : Rw} {m : Nat} {H0 : Hp} {dx sl wo sa : Addr} {s : Sta} {E : XK} (F : DoF K t) (D : DoAt t H0 H x dx sl wo sa s) (h1 : RwAt anyA H0 v r) (h2 : isDoes r) (h3 : RwOk r) (h4 : StOk m s) (h5 : m ≤ 900)
    (q1 : ∀ H' s', goR r s = .go s' → DoAt t H0 H' x dx sl wo sa s' → Q .non H') (q2 : ∀ H' e, goR r s = .er e → Same H0 H' → errE t e E H') :
    rd_Doing_does K t E { nx := fun _ H' => Q .non H', rt := Q } (L2.start ["self", "row", "place"] [.ref x, v]) H := by
  cases r with
  | take sh e sl' =>
    unfold RwAt at h1
    unfold RwOk at h3
    obtain ⟨r, te, rfl, _, _, e2, e3⟩ := h1
    have e2 := D.sm _ _ e2
    have e3 := D.sm _ _ e3
    simp only [rd_Doing_does, sp_Doing_worth_of, sDPut, tDGet2, tFld, tMeth, L2.start, tDGet2, r_mt_append, rAppend, rIxT, tSeq, tAsg, gName, tDrop, tOp, tVar, tC, tTup, tCons, tNil, tIfS, tTest, tBM, tyV, rIxT, rEq, scal, List.map, List.replicate, List.length, List.append, List.cons_append, List.nil_append, List.append_nil, List.getElem?_cons_zero, List.getElem?_cons_succ, Option.some.injEq, exists_eq_left', exists_eq_left, V.int.injEq, V.ref.injEq, V.str.injEq, V.bl.injEq, V.ty.injEq, List.cons.injEq, and_true, true_and, and_assoc, exists_and_left, List.set_cons_zero, List.set_cons_succ, Nat.reduceSub, Nat.reduceAdd, decide_eq_true_eq, Bool.not_eq_true', decide_eq_false_iff_not, Int.reduceToNat, Int.reducePow, Int.reduceNeg, Int.reduceMul, Int.reduceAdd, if_true, ite_true, Bool.false_eq_true, ite_false, if_false]
    refine ⟨_, SqT.of e2, _, rfl, rfl, ?_⟩
    rw [if_pos rfl]
    refine ⟨_, _, _, D.ix, F.cl, F.n2, _, rfl, _, rfl, .inr ⟨_, .inl D.hw⟩, _, SqT.of e2, _, rfl, ?_⟩
    refine ⟨_, _, D.ix, rfl, _, SqT.of e2, _, rfl, _, rfl, e, H0, dx, sl, wo, sa, s, D, h4.so, e3, h3, fun H1 s1 => ?_⟩
    cases hk : rk s.sl e with
    | error er => exact fin_err.mpr (q2 H1 er (by unfold goR; rw [hk]) (D.sm.trans s1))
    | ok n =>
      refine fin_ok.mpr ⟨by decide, fun p hp => ?_⟩
      have s2 := isV (o := HO.tup [V.str sh, V.int n]) p hp
      have D2 := D.same (s1.trans s2)
      refine ⟨(lastW s.wo (sh, n)).map V.int, .inr ⟨dOf s.wo, plKey (sh, n), p, .inl D2.hw, rfl, upd_same, (val_dOf _ _).symm⟩, ?_⟩
      have hv : (Option.map V.int (lastW s.wo (sh, n))).getD (V.int 0) = V.int ((lastW s.wo (sh, n)).getD 0) := by cases lastW s.wo (sh, n) <;> rfl
      rw [hv]
      have l1 := h4.l1
      exact ⟨_, _, _, D2.ix, F.cl, F.n1, _, rfl, _, SqT.of ((s1.trans s2) _ _ e2), _, rfl, _, rfl, _, DPut.k (k := .inr sl') D2.hs (Nat.lt_of_le_of_lt (by omega : _ ≤ 900) (by decide)), q1 _ _ (by unfold goR; rw [hk]) (D2.putS _)⟩
  | give sh e f =>
    unfold RwAt at h1
    unfold RwOk at h3
    obtain ⟨r, te, tf, rfl, _, _, _, e2, e3, e4⟩ := h1
    have e2 := D.sm _ _ e2
    have e3 := D.sm _ _ e3
    have e4 := D.sm _ _ e4
    simp only [rd_Doing_does, sp_Doing_worth_of, sDPut, tDGet2, tFld, tMeth, L2.start, tDGet2, r_mt_append, rAppend, rIxT, tSeq, tAsg, gName, tDrop, tOp, tVar, tC, tTup, tCons, tNil, tIfS, tTest, tBM, tyV, rIxT, rEq, scal, List.map, List.replicate, List.length, List.append, List.cons_append, List.nil_append, List.append_nil, List.getElem?_cons_zero, List.getElem?_cons_succ, Option.some.injEq, exists_eq_left', exists_eq_left, V.int.injEq, V.ref.injEq, V.str.injEq, V.bl.injEq, V.ty.injEq, List.cons.injEq, and_true, true_and, and_assoc, exists_and_left, List.set_cons_zero, List.set_cons_succ, Nat.reduceSub, Nat.reduceAdd, decide_eq_true_eq, Bool.not_eq_true', decide_eq_false_iff_not, Int.reduceToNat, Int.reducePow, Int.reduceNeg, Int.reduceMul, Int.reduceAdd, if_true, ite_true, Bool.false_eq_true, ite_false, if_false]
    refine ⟨_, SqT.of e2, _, rfl, rfl, ?_⟩
    rw [if_neg (by decide)]
    refine ⟨_, SqT.of e2, _, rfl, rfl, ?_⟩
    rw [if_pos rfl]
    refine ⟨_, SqT.of e2, _, rfl, _, _, D.ix, rfl, _, SqT.of e2, _, rfl, _, rfl, e, H0, dx, sl, wo, sa, s, D, h4.so, e3, h3.1, fun H1 s1 => ?_⟩
    cases hk : rk s.sl e with
    | error er => exact fin_err.mpr (q2 H1 er (by unfold goR; rw [hk]) (D.sm.trans s1))
    | ok n =>
      refine fin_ok.mpr ⟨by decide, fun p hp => ?_⟩
      have s2 := isV (o := HO.tup [V.str sh, V.int n]) p hp
      have D2 := D.same (s1.trans s2)
      have S2 := s1.trans s2
      refine ⟨_, _, D2.ix, rfl, _, SqT.of (S2 _ _ e2), _, rfl, _, rfl, f, H0, dx, sl, wo, sa, s, D2, h4.so, S2 _ _ e4, h3.2, fun H3 s3 => ?_⟩
      cases hk2 : rk s.sl f with
      | error er => exact fin_err.mpr (q2 H3 er (by unfold goR; rw [hk]; simp only [hk2]) (D2.sm.trans s3))
      | ok w =>
        have D3 := D2.same s3
        have l2 := h4.l2
        have ld := len_dOf s.wo
        refine fin_ok.mpr ⟨_, _, _, D3.ix, F.cl, F.n2, _, rfl, _, rfl, _, DPut.t (k := plKey (sh, n)) D3.hw (s3 _ _ upd_same) (Nat.lt_of_le_of_lt (by omega : _ ≤ 900) (by decide)), ?_⟩
        rw [show putK (dOf s.wo) (plKey (sh, n)) (V.int w) = dOf (s.wo ++ [((sh, n), w)]) from (dOf_snoc s.wo ((sh, n), w)).symm]
        exact q1 _ _ (by unfold goR; rw [hk]; simp only [hk2]) (D3.putW _)
  | lt sl' e =>
    unfold RwAt at h1
    unfold RwOk at h3
    obtain ⟨r, te, rfl, _, _, e2, e3⟩ := h1
    have e2 := D.sm _ _ e2
    have e3 := D.sm _ _ e3
    simp only [rd_Doing_does, sp_Doing_worth_of, sDPut, tDGet2, tFld, tMeth, L2.start, tDGet2, r_mt_append, rAppend, rIxT, tSeq, tAsg, gName, tDrop, tOp, tVar, tC, tTup, tCons, tNil, tIfS, tTest, tBM, tyV, rIxT, rEq, scal, List.map, List.replicate, List.length, List.append, List.cons_append, List.nil_append, List.append_nil, List.getElem?_cons_zero, List.getElem?_cons_succ, Option.some.injEq, exists_eq_left', exists_eq_left, V.int.injEq, V.ref.injEq, V.str.injEq, V.bl.injEq, V.ty.injEq, List.cons.injEq, and_true, true_and, and_assoc, exists_and_left, List.set_cons_zero, List.set_cons_succ, Nat.reduceSub, Nat.reduceAdd, decide_eq_true_eq, Bool.not_eq_true', decide_eq_false_iff_not, Int.reduceToNat, Int.reducePow, Int.reduceNeg, Int.reduceMul, Int.reduceAdd, if_true, ite_true, Bool.false_eq_true, ite_false, if_false]
    refine ⟨_, SqT.of e2, _, rfl, rfl, ?_⟩
    rw [if_neg (by decide)]
    refine ⟨_, SqT.of e2, _, rfl, rfl, ?_⟩
    rw [if_neg (by decide)]
    refine ⟨_, SqT.of e2, _, rfl, rfl, ?_⟩
    rw [if_pos rfl]
    refine ⟨_, _, D.ix, rfl, _, SqT.of e2, _, rfl, _, rfl, e, H0, dx, sl, wo, sa, s, D, h4.so, e3, h3, fun H1 s1 => ?_⟩
    cases hk : rk s.sl e with
    | error er => exact fin_err.mpr (q2 H1 er (by unfold goR; rw [hk]) (D.sm.trans s1))
    | ok n =>
      have D2 := D.same s1
      have l1 := h4.l1
      exact fin_ok.mpr ⟨_, _, _, D2.ix, F.cl, F.n1, _, rfl, _, SqT.of (s1 _ _ e2), _, rfl, _, rfl, _, DPut.k (k := .inr sl') D2.hs (Nat.lt_of_le_of_lt (by omega : _ ≤ 900) (by decide)), q1 _ _ (by unfold goR; rw [hk]) (D2.putS _)⟩
  | say e =>
    unfold RwAt at h1
    unfold RwOk at h3
    obtain ⟨r, te, rfl, _, _, e2, e3⟩ := h1
    have e2 := D.sm _ _ e2
    have e3 := D.sm _ _ e3
    simp only [rd_Doing_does, sp_Doing_worth_of, sDPut, tDGet2, tFld, tMeth, L2.start, tDGet2, r_mt_append, rAppend, rIxT, tSeq, tAsg, gName, tDrop, tOp, tVar, tC, tTup, tCons, tNil, tIfS, tTest, tBM, tyV, rIxT, rEq, scal, List.map, List.replicate, List.length, List.append, List.cons_append, List.nil_append, List.append_nil, List.getElem?_cons_zero, List.getElem?_cons_succ, Option.some.injEq, exists_eq_left', exists_eq_left, V.int.injEq, V.ref.injEq, V.str.injEq, V.bl.injEq, V.ty.injEq, List.cons.injEq, and_true, true_and, and_assoc, exists_and_left, List.set_cons_zero, List.set_cons_succ, Nat.reduceSub, Nat.reduceAdd, decide_eq_true_eq, Bool.not_eq_true', decide_eq_false_iff_not, Int.reduceToNat, Int.reducePow, Int.reduceNeg, Int.reduceMul, Int.reduceAdd, if_true, ite_true, Bool.false_eq_true, ite_false, if_false]
    refine ⟨_, SqT.of e2, _, rfl, rfl, ?_⟩
    rw [if_neg (by decide)]
    refine ⟨_, SqT.of e2, _, rfl, rfl, ?_⟩
    rw [if_neg (by decide)]
    refine ⟨_, SqT.of e2, _, rfl, rfl, ?_⟩
    rw [if_neg (by decide)]
    refine ⟨_, _, _, D.ix, F.cl, F.n3, _, rfl, .inl ⟨_, SqL.of D.ha⟩, _, _, D.ix, rfl, _, SqT.of e2, _, rfl, _, rfl, e, H0, dx, sl, wo, sa, s, D, h4.so, e3, h3, fun H1 s1 => ?_⟩
    cases hk : rk s.sl e with
    | error er => exact fin_err.mpr (q2 H1 er (by unfold goR; rw [hk]) (D.sm.trans s1))
    | ok n =>
      have D2 := D.same s1
      have l3 := h4.l3
      have e : s.sa.map V.int ++ [V.int n] = (s.sa ++ [n]).map V.int := by simp
      refine fin_ok.mpr ⟨_, rfl, _, D2.ha, Nat.lt_of_le_of_lt (by rw [List.length_map]; omega : _ ≤ 900) (by decide), ?_⟩
      rw [e]
      exact q1 _ _ (by unfold goR; rw [hk]) (D2.putA _)
  | off e => exact h2.elim
  | iff e a b => exact h2.elim
theorem nil_Doing_goes_through {vs : List V} {H : Hp} {Q : VK} {E : XK} (h : sp_Doing_goes_through t 0 vs H Q E) : False := by
  obtain ⟨_, _, _, _, _, _, _, _, _, _, _, _, _, _, _, _, h, _⟩ := h
  exact Nat.not_lt_zero _ h
def goI (t : Adr) (x l dx sl wo sa : Addr) (xs : List V) (rws : Rws) (s : Sta) (n : Nat) (H0 : Hp) (i : Nat) (σ : St) (H' : Hp) : Prop := ∃ (s' : Sta) (rest : Rws) (m : Nat), (∃ o, σ = [some (.ref x), some (.ref l), o]) ∧ DoAt t H0 H' x dx sl wo sa s' ∧ RwsAt anyA H0 (xs.drop i) rest ∧ RwsOk rest ∧ rest.deep < n + 1 ∧ StOk m s' ∧ m + rest.cnt ≤ 900 ∧ goRs rws s = goRs rest s'
theorem deep2 {a b c n : Nat} (h : max (max a b + 1) c < n + 1) : a < n ∧ b < n := by omega
theorem cnt2 {m a b c : Nat} (h : m + (max a b + 1 + c) ≤ 900) : m + a ≤ 900 ∧ m + b ≤ 900 := by omega
theorem rdp_Doing_goes_through {x l : Addr} {xs : List V} {rws : Rws} {m n : Nat} {H0 : Hp} {dx sl wo sa : Addr} {s : Sta} {E : XK} (F : DoF K t) (D : DoAt t H0 H x dx sl wo sa s) (h1 : H0 l = some (.lst xs)) (h2 : RwsAt anyA H0 xs rws) (h3 : RwsOk rws) (h4 : rws.deep < n + 1) (h5 : StOk m s) (h6 : m + rws.cnt ≤ 900)
    (q1 : ∀ H' s', goRs rws s = .go s' → DoAt t H0 H' x dx sl wo sa s' → Q (.bl true) H') (q2 : ∀ H', goRs rws s = .off → Same H0 H' → Q (.bl false) H') (q3 : ∀ H' e, goRs rws s = .er e → Same H0 H' → errE t e E H') :
    rd_Doing_goes_through K t n E { nx := fun _ H' => Q .non H', rt := Q } (L2.start ["self", "rows", "row"] [.ref x, .ref l]) H := by
  simp only [rd_Doing_goes_through, sp_Doing_worth_of, sp_Doing_does, sp_Doing_goes_through, tMeth, L2.start, rIxT, tSeq, gName, tRet, tDrop, tNext, tOp, tVar, tC, tCons, tNil, tFor, tIfS, tNot, tTest, tB, tIf, iList, rIxT, rEq, rNe, scal, List.map, List.replicate, List.length, List.append, List.cons_append, List.nil_append, List.append_nil, List.getElem?_cons_zero, List.getElem?_cons_succ, Option.some.injEq, exists_eq_left', exists_eq_left, V.int.injEq, V.ref.injEq, V.str.injEq, V.bl.injEq, V.ty.injEq, List.cons.injEq, and_true, true_and, and_assoc, exists_and_left, List.set_cons_zero, List.set_cons_succ, Nat.reduceSub, Nat.reduceAdd, decide_eq_true_eq, Bool.not_eq_true', decide_eq_false_iff_not, Int.reduceToNat, Int.reducePow, Int.reduceNeg, Int.reduceMul, Int.reduceAdd, if_true, ite_true, Bool.false_eq_true, ite_false, if_false]
  refine ⟨⟨_, SqL.of (D.sm _ _ h1)⟩, loop_list xs (goI t x l dx sl wo sa xs rws s n H0) ⟨s, rws, m, ⟨_, rfl⟩, D, by rw [List.drop_zero]; exact h2, h3, h4, h5, h6, rfl⟩ (fun i σ H' ⟨s', rest, m, _, D', _⟩ => SqL.of (D'.sm _ _ h1)) ?_ ?_⟩
  · rintro i v σ H' hv ⟨s', rest, m, ⟨o, rfl⟩, D', hr, ok, dp, st, ct, ge⟩
    obtain ⟨r, rs, rfl, rx, rr⟩ := hr.get hv
    unfold RwsOk at ok
    have c1 : (Rws.cons r rs).deep = max r.deep rs.deep := by rw [Rws.deep]
    have c2 : (Rws.cons r rs).cnt = r.cnt + rs.cnt := by rw [Rws.cnt]
    rw [c1] at dp
    rw [c2] at ct
    have go : ∀ s'', goR r s' = .go s'' → goRs rws s = goRs rs s'' := fun s'' z => by rw [ge, goRs, z]
    have nx : ∀ (s'' : Sta) (H'' : Hp) (o' : Option V), goR r s' = .go s'' → DoAt t H0 H'' x dx sl wo sa s'' → goI t x l dx sl wo sa xs rws s n H0 (i + 1) [some (.ref x), some (.ref l), o'] H'' := fun s'' H'' o' z D'' => ⟨s'', rs, m + r.cnt, ⟨_, rfl⟩, D'', rr, ok.2, by omega, goR_ok r st ok.1 z, by omega, go s'' z⟩
    have er : ∀ e, goR r s' = .er e → goRs rws s = .er e := fun e z => by rw [ge, goRs, z]
    have of : goR r s' = .off → goRs rws s = .off := fun z => by rw [ge, goRs, z]
    rcases Classical.em (isDoes r) with hD | hD
    · obtain ⟨p, ws, hd, rfl, e2, e3, n1, n2⟩ := does_ref rx hD
      have e2 := D'.sm _ _ e2
      simp only [tMeth, L2.start, rIxT, tSeq, gName, tRet, tDrop, tNext, tOp, tVar, tC, tCons, tNil, tFor, tIfS, tNot, tTest, tB, tIf, iList, rIxT, rEq, rNe, scal, List.map, List.replicate, List.length, List.append, List.cons_append, List.nil_append, List.append_nil, List.getElem?_cons_zero, List.getElem?_cons_succ, Option.some.injEq, exists_eq_left', exists_eq_left, V.int.injEq, V.ref.injEq, V.str.injEq, V.bl.injEq, V.ty.injEq, List.cons.injEq, and_true, true_and, and_assoc, exists_and_left, List.set_cons_zero, List.set_cons_succ, Nat.reduceSub, Nat.reduceAdd, decide_eq_true_eq, Bool.not_eq_true', decide_eq_false_iff_not, Int.reduceToNat, Int.reducePow, Int.reduceNeg, Int.reduceMul, Int.reduceAdd, if_true, ite_true, Bool.false_eq_true, ite_false, if_false]
      refine ⟨_, SqT.of e2, _, e3, rfl, ?_⟩
      rw [if_neg (fun z => n1 (V.str.inj z))]
      refine ⟨_, SqT.of e2, _, e3, rfl, ?_⟩
      rw [if_neg (fun z => n2 (V.str.inj z))]
      exact ⟨_, _, D'.ix, rfl, r, m, H0, dx, sl, wo, sa, s', D', rx, hD, ok.1, st, by omega, fun H1 s1 z D1 => nx s1 H1 _ z D1, fun H1 e z sm => q3 H1 e (er e z) sm⟩
    cases r with
    | take sh e sl' => exact (hD trivial).elim
    | give sh e f => exact (hD trivial).elim
    | lt sl' e => exact (hD trivial).elim
    | say e => exact (hD trivial).elim
    | off e =>
      unfold RwAt at rx
      have ok1 := ok.1
      unfold RwOk at ok1
      obtain ⟨r, te, rfl, _, _, e2, e3⟩ := rx
      have e2 := D'.sm _ _ e2
      have e3 := D'.sm _ _ e3
      simp only [tMeth, L2.start, rIxT, tSeq, gName, tRet, tDrop, tNext, tOp, tVar, tC, tCons, tNil, tFor, tIfS, tNot, tTest, tB, tIf, iList, rIxT, rEq, rNe, scal, List.map, List.replicate, List.length, List.append, List.cons_append, List.nil_append, List.append_nil, List.getElem?_cons_zero, List.getElem?_cons_succ, Option.some.injEq, exists_eq_left', exists_eq_left, V.int.injEq, V.ref.injEq, V.str.injEq, V.bl.injEq, V.ty.injEq, List.cons.injEq, and_true, true_and, and_assoc, exists_and_left, List.set_cons_zero, List.set_cons_succ, Nat.reduceSub, Nat.reduceAdd, decide_eq_true_eq, Bool.not_eq_true', decide_eq_false_iff_not, Int.reduceToNat, Int.reducePow, Int.reduceNeg, Int.reduceMul, Int.reduceAdd, if_true, ite_true, Bool.false_eq_true, ite_false, if_false]
      refine ⟨_, SqT.of e2, _, rfl, rfl, ?_⟩
      rw [if_pos rfl]
      refine ⟨_, _, D'.ix, rfl, _, SqT.of e2, _, rfl, _, rfl, e, H0, dx, sl, wo, sa, s', D', st.so, e3, ok1, fun H1 s1 => ?_⟩
      cases hk : rk s'.sl e with
      | error x => exact fin_err.mpr (q3 H1 x (er x (by unfold goR; rw [hk])) (D'.sm.trans s1))
      | ok k =>
        refine fin_ok.mpr ⟨rfl, ?_⟩
        by_cases h0 : k = 0
        · rw [if_neg (by rw [h0]; simp)]
          exact nx s' H1 _ (by unfold goR; rw [hk]; simp only [if_pos h0]) (D'.same s1)
        · rw [if_pos (by simpa using h0)]
          exact q2 H1 (of (by unfold goR; rw [hk]; simp only [if_neg h0])) (D'.sm.trans s1)
    | iff e a b =>
      unfold RwAt at rx
      have ok1 := ok.1
      unfold RwOk at ok1
      obtain ⟨r, te, la, lb, as, bs, rfl, _, _, _, _, e2, e3, e4, e5, e6, e7⟩ := rx
      have e2 := D'.sm _ _ e2
      have e3 := D'.sm _ _ e3
      have c3 : (Rw.iff e a b).deep = max a.deep b.deep + 1 := by rw [Rw.deep]
      have c4 : (Rw.iff e a b).cnt = max a.cnt b.cnt + 1 := by rw [Rw.cnt]
      rw [c3] at dp
      rw [c4] at ct
      simp only [tMeth, L2.start, rIxT, tSeq, gName, tRet, tDrop, tNext, tOp, tVar, tC, tCons, tNil, tFor, tIfS, tNot, tTest, tB, tIf, iList, rIxT, rEq, rNe, scal, List.map, List.replicate, List.length, List.append, List.cons_append, List.nil_append, List.append_nil, List.getElem?_cons_zero, List.getElem?_cons_succ, Option.some.injEq, exists_eq_left', exists_eq_left, V.int.injEq, V.ref.injEq, V.str.injEq, V.bl.injEq, V.ty.injEq, List.cons.injEq, and_true, true_and, and_assoc, exists_and_left, List.set_cons_zero, List.set_cons_succ, Nat.reduceSub, Nat.reduceAdd, decide_eq_true_eq, Bool.not_eq_true', decide_eq_false_iff_not, Int.reduceToNat, Int.reducePow, Int.reduceNeg, Int.reduceMul, Int.reduceAdd, if_true, ite_true, Bool.false_eq_true, ite_false, if_false]
      refine ⟨_, SqT.of e2, _, rfl, rfl, ?_⟩
      rw [if_neg (by decide)]
      refine ⟨_, SqT.of e2, _, rfl, rfl, ?_⟩
      rw [if_pos rfl]
      refine ⟨_, _, D'.ix, rfl, _, _, D'.ix, rfl, _, SqT.of e2, _, rfl, _, rfl, e, H0, dx, sl, wo, sa, s', D', st.so, e3, ok1.1, fun H1 s1 => ?_⟩
      cases hk : rk s'.sl e with
      | error x => exact fin_err.mpr (q3 H1 x (er x (by unfold goR; rw [hk])) (D'.sm.trans s1))
      | ok k =>
        refine fin_ok.mpr ⟨rfl, ?_⟩
        by_cases h0 : k = 0
        · have gb : goR (.iff e a b) s' = goRs b s' := by rw [goR, hk]; simp only [if_pos h0]
          rw [if_neg (by rw [h0]; simp)]
          refine ⟨_, SqT.of (s1 _ _ e2), _, rfl, _, rfl, bs, b, m, H0, dx, sl, wo, sa, s', D'.same s1, e6, e7, ok1.2.2, (deep2 dp).2, st, (cnt2 ct).2, fun H2 s2 g D2 => ?_, fun H2 g sm => ?_, fun H2 x g sm => q3 H2 x (er x (gb.trans g)) sm⟩
          · rw [if_neg (by decide)]
            exact nx s2 H2 _ (gb.trans g) D2
          · exact q2 H2 (of (gb.trans g)) sm
        · have gb : goR (.iff e a b) s' = goRs a s' := by rw [goR, hk]; simp only [if_neg h0]
          rw [if_pos (by simpa using h0)]
          refine ⟨_, SqT.of (s1 _ _ e2), _, rfl, _, rfl, as, a, m, H0, dx, sl, wo, sa, s', D'.same s1, e4, e5, ok1.2.1, (deep2 dp).1, st, (cnt2 ct).1, fun H2 s2 g D2 => ?_, fun H2 g sm => ?_, fun H2 x g sm => q3 H2 x (er x (gb.trans g)) sm⟩
          · rw [if_neg (by decide)]
            exact nx s2 H2 _ (gb.trans g) D2
          · exact q2 H2 (of (gb.trans g)) sm
  · rintro σ H' ⟨s', rest, m, ⟨o, rfl⟩, D', hr, ok, dp, st, ct, ge⟩
    have e := hr.none
    subst e
    exact q1 H' s' (by rw [ge]; unfold goRs; rfl) D'
theorem rdp__law_draw {c j : Int} (h1 : 0 ≤ j) (h2 : j ≤ 1000) (q : ∀ r H', 0 ≤ r → r < 2147483648 → Same H H' → Q (.int r) H') :
    rd__law_draw K t { nx := fun _ H' => Q .non H', rt := Q } (L2.start ["cell", "j", "far"] [.int c, .int j]) H := by
  simp only [rd__law_draw, L2.start, tSeq, tAsg, gName, tRet, tOp, tVar, tC, rI, rI0, List.map, List.replicate, List.length, List.append, List.cons_append, List.nil_append, List.append_nil, List.getElem?_cons_zero, List.getElem?_cons_succ, Option.some.injEq, exists_eq_left', exists_eq_left, V.int.injEq, V.ref.injEq, V.str.injEq, V.bl.injEq, V.ty.injEq, List.cons.injEq, and_true, true_and, and_assoc, exists_and_left, List.set_cons_zero, List.set_cons_succ, Nat.reduceSub, Nat.reduceAdd, decide_eq_true_eq, Bool.not_eq_true', decide_eq_false_iff_not, Int.reduceToNat, Int.reducePow, Int.reduceNeg, Int.reduceMul, Int.reduceAdd, if_true, ite_true, Bool.false_eq_true, ite_false, if_false]
  have hb : (10000000000000000000000000000000000000000000000 : Int) < big := by decide +kernel
  have g1 := Int.emod_nonneg c (b := 1000000007) (by decide)
  have g2 := Int.emod_lt_of_pos c (b := 1000000007) (by decide)
  generalize c % 1000000007 = a at *
  have g3 := Int.emod_nonneg (a * 6700417 + (j + 1) * 104729 * 65537) (b := 1000000009) (by decide)
  have g4 := Int.emod_lt_of_pos (a * 6700417 + (j + 1) * 104729 * 65537) (b := 1000000009) (by decide)
  generalize hf : (a * 6700417 + (j + 1) * 104729 * 65537) % 1000000009 = f at *
  have g5 := Int.emod_nonneg (f * f) (b := 1000000009) (by decide)
  have g6 := Int.emod_lt_of_pos (f * f) (b := 1000000009) (by decide)
  generalize hg : f * f % 1000000009 = g at *
  have g7 := Int.emod_nonneg (g * f) (b := 1000000009) (by decide)
  have g8 := Int.emod_lt_of_pos (g * f) (b := 1000000009) (by decide)
  refine ⟨by decide, ⟨⟨by omega, by omega⟩, by omega, by omega⟩, ⟨⟨by omega, by omega⟩, by omega, by omega⟩, ⟨⟨by omega, by omega⟩, by omega, by omega⟩, by decide, ?_⟩
  refine ⟨⟨⟨by omega, by omega⟩, by omega, by omega⟩, by decide, ⟨⟨by omega, by omega⟩, by omega, by omega⟩, by decide, dB, q _ _ ?_ ?_ (Same.refl H)⟩
  · exact Int.ediv_nonneg g7 (by decide)
  · omega
/-- letters of a kind -/
def allP (P : Nat → Bool) (x : Str) : Prop := x.cps.toList.all P = true
theorem allP_app {P : Nat → Bool} {x y : Str} (h : allP P x) (h' : allP P y) : allP P (x ++ y) := by
  unfold allP at *
  rw [cps_app, List.all_append, h, h']; rfl
theorem allP_one {P : Nat → Bool} {c : Nat} (h : P c = true) : allP P ⟨#[c]⟩ := by
  show [c].all P = true
  rw [List.all_cons, h]; rfl
theorem allP_to {P : Nat → Bool} {x : Str} (h : allP P x) (k : Nat) : allP P (Txt.slice x none (some (k : Int))) := by
  unfold allP at *
  rw [slice_to]
  rw [List.all_eq_true] at *
  exact fun c hc => h c (List.mem_of_mem_take hc)
theorem allP_from {P : Nat → Bool} {x : Str} (h : allP P x) (k : Nat) : allP P (Txt.slice x (some (k : Int)) none) := by
  unfold allP at *
  rw [slice_from]
  rw [List.all_eq_true] at *
  exact fun c hc => h c (List.mem_of_mem_drop hc)
theorem len_to (x : Str) (k : Nat) (h : k ≤ x.length) : (Txt.slice x none (some (k : Int))).length = k := by
  rw [len_cps] at *
  rw [slice_to, List.length_take]; omega
theorem len_from (x : Str) (k : Nat) : (Txt.slice x (some (k : Int)) none).length = x.length - k := by
  rw [len_cps, len_cps, slice_from, List.length_drop]
def inC (c : Nat) : Bool := (Str.ofString "zyxwvtsrqpnmlkjhgfdcb").cps.toList.contains c
theorem inC_L : ∀ c ∈ (Str.ofString "zyxwvtsrqpnmlkjhgfdcb").cps.toList, inL c = true := by decide +kernel
theorem c_in : ∀ c ∈ (Str.ofString "zyxwvtsrqpnmlkjhgfdcb").cps.toList, inC c = true := fun c hc => by unfold inC; exact List.contains_iff_mem.mpr hc
theorem z_in : ∀ c ∈ (Str.ofString "zyxwvutsrqponmlkjihgfedcba").cps.toList, inL c = true := by decide +kernel
theorem words_six : ∀ v ∈ jw ++ wl, (match v with | .str w => decide (w.length ≠ 6) && !(w.cps.toList.all inC) | _ => true) = true := by decide +kernel
theorem no_word {x : Str} (h : x.length = 6 ∨ allP inC x) : (inV (.str x) jw || inV (.str x) wl) = false := by
  have key : ∀ v ∈ jw ++ wl, eqV v (.str x) = false := fun v hv => by
    have w := words_six v hv
    cases e : eqV v (.str x) with
    | false => rfl
    | true =>
      cases v <;> simp only [eqV, Bool.false_eq_true] at e
      rename_i y
      have e' : y = x := by simpa using e
      subst e'
      simp only [Bool.and_eq_true, decide_eq_true_eq, Bool.not_eq_true'] at w
      rcases h with h | h
      · exact absurd h w.1
      · unfold allP at h; rw [h] at w; exact absurd w.2 (by decide)
  rw [Bool.or_eq_false_iff]
  unfold inV
  constructor
  · rw [List.any_eq_false]
    exact fun v hv => by rw [key v (List.mem_append_left _ hv)]; decide
  · rw [List.any_eq_false]
    exact fun v hv => by rw [key v (List.mem_append_right _ hv)]; decide
theorem name_of {x : Str} (h1 : 1 ≤ x.length) (h2 : x.length ≤ 6) (h3 : (x.length = 6 ∧ allP inL x) ∨ allP inC x) : isName x = true := by
  have nw : (inV (.str x) jw || inV (.str x) wl) = false := no_word (h3.imp (·.1) id)
  have al : x.cps.toList.all inL = true := by
    rcases h3 with h | h
    · exact h.2
    · unfold allP at h
      rw [List.all_eq_true] at *
      exact fun c hc => inC_L c (List.contains_iff_mem.mp (h c hc))
  have ne : decide (x = "") = false := decide_eq_false fun z => by rw [z] at h1; exact absurd h1 (by decide)
  have nl : decide (6 < x.length) = false := decide_eq_false (by omega)
  unfold isName
  rw [nw, al, ne, nl]; rfl
/-- the letters of which names are made -/
structure Sgn (P : Nat → Bool) (sz : Nat) (sg : Str) : Prop where
  al : allP P sg
  lo : 21 ≤ sg.length
  hi : sg.length ≤ 26
  s1 : 1 ≤ sz
  s6 : sz ≤ 6
  nm : ∀ x : Str, x.length = sz → allP P x → isName x = true
  nd : sg.cps.toList.Nodup
theorem sgn_at {P : Nat → Bool} {sz : Nat} {sg : Str} (S : Sgn P sz sg) {i : Int} (h0 : 0 ≤ i) (h1 : i < sg.length) : ∃ c, atI sg.cps.toList i = some c ∧ P c = true := by
  obtain ⟨c, hc, hm⟩ := at_lt (xs := sg.cps.toList) (i := i) h0 (by rw [← len_cps]; exact h1)
  exact ⟨c, hc, List.all_eq_true.mp S.al c hm⟩
theorem strs_of {P : Str → Prop} : ∀ {ys : List V}, (∀ v ∈ ys, ∃ x, v = .str x ∧ P x) → ∃ ls : List Str, ys = ls.map V.str ∧ ∀ x ∈ ls, P x
  | [], _ => ⟨[], rfl, fun _ z => nomatch z⟩
  | v :: r, h => by
    obtain ⟨x, rfl, px⟩ := h v List.mem_cons_self
    obtain ⟨ls, rfl, pl⟩ := strs_of (ys := r) fun u hu => h u (List.mem_cons_of_mem _ hu)
    exact ⟨x :: ls, rfl, fun y hy => by
      rcases List.mem_cons.mp hy with rfl | hy
      · exact px
      · exact pl y hy⟩
def nmV (A B sg : Str) (i : Nat) (v : V) : Prop := ∃ d, atI sg.cps.toList (i : Int) = some d ∧ v = .str (A ++ ⟨#[d]⟩ ++ B) ∧ isName (A ++ ⟨#[d]⟩ ++ B) = true
theorem at_nat {α : Type} {xs : List α} {k : Nat} {v : α} (h : atI xs (k : Int) = some v) : xs[k]? = some v := by
  unfold atI ixN at h
  rw [if_pos (by omega)] at h
  by_cases c : (k : Int) < xs.length
  · rw [if_pos c] at h; simpa using h
  · rw [if_neg c] at h; cases h
theorem names_nd {A B sg : Str} (nd : sg.cps.toList.Nodup) {ls : List Str} (h : ∀ i v, (ls.map V.str)[i]? = some v → nmV A B sg i v) : ls.Nodup := by
  unfold List.Nodup
  rw [List.pairwise_iff_getElem]
  intro i j hi hj hij e
  obtain ⟨d, h1, e1, _⟩ := h i (.str ls[i]) (by rw [List.getElem?_map, List.getElem?_eq_getElem hi]; rfl)
  obtain ⟨d', h2, e2, _⟩ := h j (.str ls[j]) (by rw [List.getElem?_map, List.getElem?_eq_getElem hj]; rfl)
  have e3 : A ++ ⟨#[d]⟩ ++ B = A ++ ⟨#[d']⟩ ++ B := by rw [← V.str.inj e1, ← V.str.inj e2, e]
  have e4 := congrArg (fun x : Str => x.cps.toList) e3
  simp only [cps_app] at e4
  have e5 : [d] = [d'] := List.append_cancel_left (List.append_cancel_right e4)
  have e6 : d = d' := by simpa using e5
  subst e6
  have a1 := at_nat h1
  have := (List.getElem?_inj (List.getElem?_eq_some_iff.mp a1).1 nd).mp (a1.trans (at_nat h2).symm)
  omega
theorem rdp_nm8 {P : Nat → Bool} {sz : Nat} {sg stem : Str} {c m tn : Int} {o5 : Option V} {at_ : Nat} (S : Sgn P sz sg) (hs : stem.length = sz) (hp : allP P stem) (ha : at_ < sz) (h1 : 0 ≤ m) (h2 : m ≤ 6) (q : ∀ nm ws H', Same H H' → NamesAt H' nm ws → (ws.length : Int) = m → ws.Nodup → Q (.ref nm) H') :
    rd__law_names_8 K t { nx := fun _ H' => Q .non H', rt := Q } [some (.int c), some (.int m), some (.int sz), some (.str sg), some (.str stem), o5, some (.int at_), some (.int tn)] H := by
  simp only [rd__law_names_8, L2.start, gName, tRet, tOp, tVar, tC, tCons, tNil, tSl, tPart, tNoPart, tComp, tYes, capV, iRng1, rIxS, rI0, rSlS, rAddS, List.map, List.replicate, List.length, List.append, List.cons_append, List.nil_append, List.append_nil, List.getElem?_cons_zero, List.getElem?_cons_succ, Option.some.injEq, exists_eq_left', exists_eq_left, V.int.injEq, V.ref.injEq, V.str.injEq, V.bl.injEq, V.ty.injEq, List.cons.injEq, and_true, true_and, and_assoc, exists_and_left, List.set_cons_zero, List.set_cons_succ, Nat.reduceSub, Nat.reduceAdd, decide_eq_true_eq, Bool.not_eq_true', decide_eq_false_iff_not, Int.reduceToNat, Int.reducePow, Int.reduceNeg, Int.reduceMul, Int.reduceAdd, if_true, ite_true, Bool.false_eq_true, ite_false, if_false]
  have lo := S.lo
  have hi := S.hi
  have s6 := S.s6
  refine ⟨by omega, by omega, fun D hD => ?_⟩
  refine comp_gen (J := Itr 0 m.toNat) m.toNat (by omega) (fun τ => ∃ o, τ = [o, some (.str stem), some (.int (at_ : Int)), some (.str sg)]) (nmV (Txt.slice stem none (some (at_ : Int))) (Txt.slice stem (some ((at_ : Int) + 1)) none) sg) ⟨_, rfl⟩ (fun i H _ h => h) (fun H _ => Nat.le_refl _) hD ?_ ?_
  · rintro i v τ H2 H' ⟨o, rfl⟩ s hi ⟨rfl, rfl⟩
    simp only [L2.start, gName, tRet, tOp, tVar, tC, tCons, tNil, tSl, tPart, tNoPart, tComp, tYes, capV, iRng1, rIxS, rI0, rSlS, rAddS, List.map, List.replicate, List.length, List.append, List.cons_append, List.nil_append, List.append_nil, List.getElem?_cons_zero, List.getElem?_cons_succ, Option.some.injEq, exists_eq_left', exists_eq_left, V.int.injEq, V.ref.injEq, V.str.injEq, V.bl.injEq, V.ty.injEq, List.cons.injEq, and_true, true_and, and_assoc, exists_and_left, List.set_cons_zero, List.set_cons_succ, Nat.reduceSub, Nat.reduceAdd, decide_eq_true_eq, Bool.not_eq_true', decide_eq_false_iff_not, Int.reduceToNat, Int.reducePow, Int.reduceNeg, Int.reduceMul, Int.reduceAdd, if_true, ite_true, Bool.false_eq_true, ite_false, if_false]
    obtain ⟨d, hd, hP⟩ := sgn_at S (i := 0 + (i : Int)) (by omega) (by omega)
    have l1 := len_to stem at_ (by omega)
    have l2 := len_from stem (at_ + 1)
    have p1 := allP_to hp at_
    have p2 := allP_from hp (at_ + 1)
    rw [show ((at_ + 1 : Nat) : Int) = (at_ : Int) + 1 by omega] at l2 p2
    exact ⟨small_size (by omega), small_size (by omega), d, hd, small_size (by rw [one_len]; omega), small_size (by omega), small_size (by rw [len_app, one_len]; omega), ⟨_, rfl⟩, ⟨d, by rw [Int.zero_add] at hd; exact hd, rfl, S.nm _ (by rw [len_app, len_app, one_len]; omega) (allP_app (allP_app p1 (allP_one hP)) p2)⟩, Same.refl _⟩
  · intro ys H' hly hv s hq
    obtain ⟨ls, rfl, hp⟩ := strs_of (P := fun x => isName x = true) (ys := ys) fun v hv2 => by
      obtain ⟨i, hi⟩ := List.getElem?_of_mem hv2
      obtain ⟨d, _, e, hn⟩ := hv i v hi
      exact ⟨_, e, hn⟩
    rw [List.length_map] at hly
    exact q D ls H' s ⟨hq, hp⟩ (by omega) (names_nd S.nd hv)
theorem rdp_nm5 {P : Nat → Bool} {sz : Nat} {sg stem : Str} {c m : Int} {o5 : Option V} (S : Sgn P sz sg) (hs : stem.length = sz) (hp : allP P stem) (h1 : 0 ≤ m) (h2 : m ≤ 6) (q : ∀ nm ws H', Same H H' → NamesAt H' nm ws → (ws.length : Int) = m → ws.Nodup → Q (.ref nm) H') :
    rd__law_names_5 K t { nx := fun _ H' => Q .non H', rt := Q } [some (.int c), some (.int m), some (.int sz), some (.str sg), some (.str stem), o5, none, none] H := by
  simp only [rd__law_names_5, sp__law_draw, L2.start, tSeq, tAsg, gName, tRet, tOp, tVar, tC, tCons, tNil, tCB, tSl, tPart, tNoPart, tCall, tComp, tYes, capV, LenV, iRng1, rIxS, rI, rI0, rSlS, rAddS, cLen, List.map, List.replicate, List.length, List.append, List.cons_append, List.nil_append, List.append_nil, List.getElem?_cons_zero, List.getElem?_cons_succ, Option.some.injEq, exists_eq_left', exists_eq_left, V.int.injEq, V.ref.injEq, V.str.injEq, V.bl.injEq, V.ty.injEq, List.cons.injEq, and_true, true_and, and_assoc, exists_and_left, List.set_cons_zero, List.set_cons_succ, Nat.reduceSub, Nat.reduceAdd, decide_eq_true_eq, Bool.not_eq_true', decide_eq_false_iff_not, Int.reduceToNat, Int.reducePow, Int.reduceNeg, Int.reduceMul, Int.reduceAdd, if_true, ite_true, Bool.false_eq_true, ite_false, if_false]
  have lo := S.lo
  have hi := S.hi
  have s1 := S.s1
  have s6 := S.s6
  refine ⟨by decide, by decide, fun r1 H1 a1 b1 s1' => ⟨by omega, by decide, by decide, fun r2 H2 a2 b2 s2' => ⟨small_size (by omega), by omega, ?_⟩⟩⟩
  obtain ⟨k, ek⟩ : ∃ k : Nat, r1 % (sz : Int) = k := ⟨_, (Int.toNat_of_nonneg (Int.emod_nonneg _ (by omega))).symm⟩
  have hk : (k : Int) < sz := by rw [← ek]; exact Int.emod_lt_of_pos _ (by omega)
  obtain ⟨u, eu⟩ : ∃ u : Nat, r2 % (sg.length : Int) = u := ⟨_, (Int.toNat_of_nonneg (Int.emod_nonneg _ (by omega))).symm⟩
  have hu : (u : Int) < sg.length := by rw [← eu]; exact Int.emod_lt_of_pos _ (by omega)
  rw [ek, eu]
  have l1 := len_to sg u (by omega)
  have l2 := len_from sg u
  refine ⟨small_size (by omega), small_size (by omega), small_size (by omega), ?_⟩
  have S' : Sgn P sz (Txt.slice sg (some (u : Int)) none ++ Txt.slice sg none (some (u : Int))) := ⟨allP_app (allP_from S.al u) (allP_to S.al u), by rw [len_app]; omega, by rw [len_app]; omega, S.s1, S.s6, S.nm, by rw [cps_app, slice_from, slice_to]; exact (List.perm_append_comm.trans (by rw [List.take_append_drop])).nodup_iff.mpr S.nd⟩
  exact rdp_nm8 S' hs hp (by omega) h1 h2 fun nm ws H' s hn hl => q nm ws H' (s1'.trans (s2'.trans s)) hn hl
def nmI (P : Nat → Bool) (c m : Int) (sz : Nat) (sg : Str) (H : Hp) (i : Nat) (σ : St) (H' : Hp) : Prop := (∃ (x : Str) (o : Option V), σ = [some (.int c), some (.int m), some (.int sz), some (.str sg), some (.str x), o, none, none] ∧ x.length = i ∧ allP P x) ∧ Same H H'
theorem rdp_nm3 {P : Nat → Bool} {sz : Nat} {sg : Str} {c m : Int} (S : Sgn P sz sg) (h1 : 0 ≤ m) (h2 : m ≤ 6) (q : ∀ nm ws H', Same H H' → NamesAt H' nm ws → (ws.length : Int) = m → ws.Nodup → Q (.ref nm) H') :
    rd__law_names_3 K t { nx := fun _ H' => Q .non H', rt := Q } [some (.int c), some (.int m), some (.int sz), some (.str sg), none, none, none, none] H := by
  simp only [rd__law_names_3, sp__law_draw, L2.start, tSeq, tAsg, gName, tRet, tOp, tVar, tC, tCons, tNil, tFor, tCB, tSl, tPart, tNoPart, tCall, tComp, tYes, capV, LenV, iRng1, rIxS, rI, rI0, rSlS, rAddS, cLen, List.map, List.replicate, List.length, List.append, List.cons_append, List.nil_append, List.append_nil, List.getElem?_cons_zero, List.getElem?_cons_succ, Option.some.injEq, exists_eq_left', exists_eq_left, V.int.injEq, V.ref.injEq, V.str.injEq, V.bl.injEq, V.ty.injEq, List.cons.injEq, and_true, true_and, and_assoc, exists_and_left, List.set_cons_zero, List.set_cons_succ, Nat.reduceSub, Nat.reduceAdd, decide_eq_true_eq, Bool.not_eq_true', decide_eq_false_iff_not, Int.reduceToNat, Int.reducePow, Int.reduceNeg, Int.reduceMul, Int.reduceAdd, if_true, ite_true, Bool.false_eq_true, ite_false, if_false]
  have lo := S.lo
  have hi := S.hi
  have s1 := S.s1
  have s6 := S.s6
  refine ⟨by omega, by omega, loop_range (nmI P c m sz sg H) ⟨⟨_, none, rfl, by decide +kernel, by show [].all P = true; rfl⟩, Same.refl H⟩ ?_ ?_⟩
  · rintro i σ H' hi ⟨⟨x, o, rfl, hx, hp⟩, s⟩
    simp only [L2.start, tSeq, tAsg, gName, tRet, tOp, tVar, tC, tCons, tNil, tFor, tCB, tSl, tPart, tNoPart, tCall, tComp, tYes, capV, LenV, iRng1, rIxS, rI, rI0, rSlS, rAddS, cLen, List.map, List.replicate, List.length, List.append, List.cons_append, List.nil_append, List.append_nil, List.getElem?_cons_zero, List.getElem?_cons_succ, Option.some.injEq, exists_eq_left', exists_eq_left, V.int.injEq, V.ref.injEq, V.str.injEq, V.bl.injEq, V.ty.injEq, List.cons.injEq, and_true, true_and, and_assoc, exists_and_left, List.set_cons_zero, List.set_cons_succ, Nat.reduceSub, Nat.reduceAdd, decide_eq_true_eq, Bool.not_eq_true', decide_eq_false_iff_not, Int.reduceToNat, Int.reducePow, Int.reduceNeg, Int.reduceMul, Int.reduceAdd, if_true, ite_true, Bool.false_eq_true, ite_false, if_false]
    refine ⟨by omega, by omega, fun r1 H1 a1 b1 s1' => ⟨small_size (by omega), by omega, ?_⟩⟩
    obtain ⟨d, hd, hP⟩ := sgn_at S (i := r1 % (sg.length : Int)) (Int.emod_nonneg _ (by omega)) (Int.emod_lt_of_pos _ (by omega))
    exact ⟨small_size (by omega), d, hd, small_size (by rw [one_len]; omega), ⟨_, _, rfl, by rw [len_app, one_len]; omega, allP_app hp (allP_one hP)⟩, s.trans s1'⟩
  · rintro σ H' ⟨⟨x, o, rfl, hx, hp⟩, s⟩
    exact rdp_nm5 S (by omega) hp h1 h2 fun nm ws H2 s2 hn hl => q nm ws H2 (s.trans s2) hn hl
theorem rdp__law_names {c m : Int} (h1 : 0 ≤ m) (h2 : m ≤ 6) (q : ∀ nm ws H', Same H H' → NamesAt H' nm ws → (ws.length : Int) = m → ws.Nodup → Q (.ref nm) H') :
    rd__law_names K t { nx := fun _ H' => Q .non H', rt := Q } (L2.start ["cell", "many", "size", "signs", "stem", "k", "at", "turn"] [.int c, .int m]) H := by
  simp only [rd__law_names, sp__law_draw, L2.start, tSeq, tAsg, gName, tRet, tNext, tOp, tVar, tC, tCons, tNil, tFor, tIfS, tTest, tCB, tSl, tPart, tNoPart, tCall, tComp, tYes, capV, LenV, iRng1, rIxS, rEq, rI, rI0, rSlS, rAddS, cLen, scal, List.map, List.replicate, List.length, List.append, List.cons_append, List.nil_append, List.append_nil, List.getElem?_cons_zero, List.getElem?_cons_succ, Option.some.injEq, exists_eq_left', exists_eq_left, V.int.injEq, V.ref.injEq, V.str.injEq, V.bl.injEq, V.ty.injEq, List.cons.injEq, and_true, true_and, and_assoc, exists_and_left, List.set_cons_zero, List.set_cons_succ, Nat.reduceSub, Nat.reduceAdd, decide_eq_true_eq, Bool.not_eq_true', decide_eq_false_iff_not, Int.reduceToNat, Int.reducePow, Int.reduceNeg, Int.reduceMul, Int.reduceAdd, if_true, ite_true, Bool.false_eq_true, ite_false, if_false]
  refine ⟨by decide, by decide, fun r1 H1 a1 b1 s1' => ⟨by decide, ?_⟩⟩
  obtain ⟨k, ek⟩ : ∃ k : Nat, 1 + r1 % 6 = k := ⟨(1 + r1 % 6).toNat, by omega⟩
  rw [ek]
  have lc : (Str.ofString "zyxwvtsrqpnmlkjhgfdcb").length = 21 := by decide +kernel
  have lz : (Str.ofString "zyxwvutsrqponmlkjihgfedcba").length = 26 := by decide +kernel
  refine ite2 (fun e => ?_) fun e => ?_
  · have e6 : k = 6 := by have : (k : Int) = 6 := by simpa using e
                          omega
    exact rdp_nm3 (P := inL) (sg := "zyxwvutsrqponmlkjihgfedcba") ⟨List.all_eq_true.mpr z_in, by rw [lz]; omega, by rw [lz]; omega, by omega, by omega, fun x hx hp => name_of (by omega) (by omega) (.inl ⟨by omega, hp⟩), by decide +kernel⟩ h1 h2 fun nm ws H2 s2 hn hl => q nm ws H2 (s1'.trans s2) hn hl
  · exact rdp_nm3 (P := inC) (sg := "zyxwvtsrqpnmlkjhgfdcb") ⟨List.all_eq_true.mpr c_in, by rw [lc]; omega, by rw [lc]; omega, by omega, by omega, fun x hx hp => name_of (by omega) (by omega) (.inr hp), by decide +kernel⟩ h1 h2 fun nm ws H2 s2 hn hl => q nm ws H2 (s1'.trans s2) hn hl
theorem OcAt.ts {H H' : Hp} {v : V} {oc : Oc} (s : TSame H H') (h : OcAt H v oc) : OcAt H' v oc := by
  cases oc with
  | done sa =>
    obtain ⟨o, y, e, h1, h2⟩ := h
    exact ⟨o, y, e, s _ _ h1, s _ _ h2⟩
  | off w =>
    obtain ⟨o, e, h1⟩ := h
    exact ⟨o, e, s _ _ h1⟩
theorem ocs_ts {H H' : Hp} (s : TSame H H') : ∀ {vs : List V} {ocs : List Oc}, Paired (OcAt H) vs ocs → Paired (OcAt H') vs ocs
  | _, _, .nil => .nil
  | _, _, .cons h r => .cons (h.ts s) (ocs_ts s r)
theorem ts_upd {H : Hp} {R : Addr} {xs ys : List V} (h : H R = some (.lst xs)) : TSame H (upd H R (.lst ys)) := fun b zs e => by
  rw [upd_ne (ne_of e h (fun z => nomatch z))]; exact e
theorem LsAt.up {H : Hp} {R l : Addr} {xs ys : List V} {rows : List Row} (h : LsAt H l rows) (hR : H R = some (.lst xs)) (n : l ≠ R) : LsAt (upd H R (.lst ys)) l rows := by
  obtain ⟨zs, h1, h2⟩ := h
  exact ⟨zs, by rw [upd_ne n]; exact h1, rows_tmono (ts_upd hR) h2⟩
theorem rdp_broken_off {w : Str} {a : Addr} {tab : List Row} (h1 : LsAt H a tab) (q : ∀ r o l H', Same H H' → H l = none → H' r = some (.tup [o, .ref l]) → OcAt H' o (.off w) → LsAt H' l tab → Q (.ref r) H') :
    rd_broken_off K t { nx := fun _ H' => Q .non H', rt := Q } (L2.start ["why", "table"] [.str w, .ref a]) H := by
  simp only [rd_broken_off, L2.start, cLst, tRet, tVar, tC, tTup, tCons, tNil, tCB, List.map, List.replicate, List.length, List.append, List.cons_append, List.nil_append, List.append_nil, List.getElem?_cons_zero, List.getElem?_cons_succ, Option.some.injEq, exists_eq_left', exists_eq_left, V.int.injEq, V.ref.injEq, V.str.injEq, V.bl.injEq, V.ty.injEq, List.cons.injEq, and_true, true_and, and_assoc, exists_and_left, List.set_cons_zero, List.set_cons_succ, Nat.reduceSub, Nat.reduceAdd, decide_eq_true_eq, Bool.not_eq_true', decide_eq_false_iff_not, Int.reduceToNat, Int.reducePow, Int.reduceNeg, Int.reduceMul, Int.reduceAdd, if_true, ite_true, Bool.false_eq_true, ite_false, if_false]
  obtain ⟨xs, hx, rx⟩ := h1
  refine ⟨by decide, fun o ho => ?_⟩
  have s1 := isV (o := HO.tup [V.str (Str.ofString "off"), V.str w]) o ho
  refine ⟨xs, .inl (SqL.of (s1 _ _ hx)), fun l hl => ⟨by decide, fun r hr => ?_⟩⟩
  have s2 := isV (o := HO.lst xs) l hl
  have s3 := isV (o := HO.tup [V.ref o, V.ref l]) r hr
  have S := s1.trans (s2.trans s3)
  exact q r (.ref o) l _ S (fresh_of s1 hl) upd_same ⟨o, rfl, s3 _ _ (s2 _ _ upd_same)⟩ ⟨xs, s3 _ _ upd_same, rows_mono S rx⟩
theorem rdp_table_of {a : Addr} {rows : List Row} (h1 : LsAt H a rows) (h2 : (dOf rows).length ≤ 63) (h3 : rows.length ≤ 1000) (q : ∀ l out H', Same H H' → H l = none → LsAt H' l out → IsTab rows out → Q (.ref l) H') :
    rd_table_of K t { nx := fun _ H' => Q .non H', rt := Q } (L2.start ["rows", "worths"] [.ref a]) H := by
  obtain ⟨xs, hx, rx⟩ := h1
  exact rdp_table_gen hx rx h2 h3 fun l ys out H' s fr hy ry ti => q l out H' s fr ⟨ys, hy, ry⟩ ti
theorem rdp_alone2 {v : V} {a x dx sl wo sa : Addr} {rws : Rws} {tab : List Row} {H0 : Hp} {s : Sta} {b : Bool} (F : DoF K t) (h2 : LsAt H0 a tab) (h3 : AlPre rws tab) (sm : Same H0 H)
    (hb : (b = true ∧ goRs rws ⟨[], tab, []⟩ = .go s ∧ DoAt t H0 H x dx sl wo sa s) ∨ (b = false ∧ goRs rws ⟨[], tab, []⟩ = .off))
    (q : ∀ r o l oc out H', Same H0 H' → H0 l = none → H' r = some (.tup [o, .ref l]) → OcAt H' o oc → LsAt H' l out → AloneR rws tab oc out → Q (.ref r) H') :
    rd_alone_2 K t { nx := fun _ H' => Q .non H', rt := Q } [some v, some (.ref a), some (.ref x), some (.bl b)] H := by
  simp only [rd_alone_2, sp_broken_off, sp_table_of, cTup, tFld, tItems, cLstI, L2.start, tSeq, tRet, tNext, tVar, tC, tTup, tCons, tNil, tIfS, tNot, tB, tCB, tCall, List.map, List.replicate, List.length, List.append, List.cons_append, List.nil_append, List.append_nil, List.getElem?_cons_zero, List.getElem?_cons_succ, Option.some.injEq, exists_eq_left', exists_eq_left, V.int.injEq, V.ref.injEq, V.str.injEq, V.bl.injEq, V.ty.injEq, List.cons.injEq, and_true, true_and, and_assoc, exists_and_left, List.set_cons_zero, List.set_cons_succ, Nat.reduceSub, Nat.reduceAdd, decide_eq_true_eq, Bool.not_eq_true', decide_eq_false_iff_not, Int.reduceToNat, Int.reducePow, Int.reduceNeg, Int.reduceMul, Int.reduceAdd, if_true, ite_true, Bool.false_eq_true, ite_false, if_false]
  rcases hb with ⟨rfl, hg, D⟩ | ⟨rfl, hg⟩
  · rw [if_neg (by decide)]
    refine ⟨_, _, _, D.ix, F.cl, F.n3, _, rfl, _, rfl, _, .inl ⟨SqL.of D.ha, fun y hy => ⟨by decide, fun o ho => ?_⟩⟩⟩
    have s1 := isV (o := HO.tup (s.sa.map V.int)) y hy
    have s2 := isV (o := HO.tup [V.str (Str.ofString "done"), V.ref y]) o ho
    have y2 := s2 _ _ (show upd H y (HO.tup (s.sa.map V.int)) y = some (.tup (s.sa.map V.int)) from upd_same)
    have o2 : upd (upd H y (HO.tup (s.sa.map V.int))) o (HO.tup [V.str (Str.ofString "done"), V.ref y]) o = some (.tup [V.str (Str.ofString "done"), V.ref y]) := upd_same
    have D2 := D.same (s1.trans s2)
    have S2 := sm.trans (s1.trans s2)
    generalize upd (upd H y (HO.tup (s.sa.map V.int))) o (HO.tup [V.str (Str.ofString "done"), V.ref y]) = H2 at *
    refine ⟨_, _, _, D2.ix, F.cl, F.n2, _, rfl, _, rfl, _, D2.hw, fun r hr => ?_⟩
    have s3 := isV (o := viewO r wo) r hr
    have ok := goRs_ok rws (n := tab.length) ⟨(fun k v e => by rw [valV_nil] at e; cases e), h3.iw, Nat.zero_le _, Nat.le_refl _, Nat.zero_le _⟩ h3.ok hg
    have few := h3.fw s hg
    obtain ⟨its, ei, nd, mi⟩ := its_of s.wo
    have li : its.length = (dOf s.wo).length := by rw [ei, List.length_map]
    have ld := len_dOf its
    refine ⟨wo, upd_same, _, s3 _ _ D2.hw, by omega, fun l ys H4 s4 fl hl pr => ?_⟩
    rw [ei] at pr
    have S4 := S2.trans (s3.trans s4)
    refine ⟨its, ⟨ys, hl, kv_pr pr⟩, by omega, by omega, fun l2 out H5 s5 fl2 la ti => ⟨by decide, fun rr hrr => ?_⟩⟩
    have s6 := isV (o := HO.tup [V.ref o, V.ref l2]) rr hrr
    have k6 := s3.trans (s4.trans (s5.trans s6))
    exact q rr (.ref o) l2 (.done s.sa) out _ (S4.trans (s5.trans s6)) (fresh_of S4 fl2) upd_same ⟨o, y, rfl, k6 _ _ o2, k6 _ _ y2⟩ (la.same s6) (by unfold AloneR; rw [hg]; exact ⟨rfl, tab_its nd mi ti⟩)
  · rw [if_pos rfl]
    exact ⟨tab, h2.same sm, fun r o l H' s' fl hr oa la => q r o l (.off "told") tab H' (sm.trans s') (fresh_of sm fl) hr oa la (by unfold AloneR; rw [hg]; exact ⟨rfl, rfl⟩)⟩
theorem rdp_alone1 {P : Str → Option Value} {v : V} {a x dx sl wo sa : Addr} {rws : Rws} {tab : List Row} {H0 : Hp} (T : Txt K P t) (D : DoAt t H0 H x dx sl wo sa ⟨[], tab, []⟩) (h1 : RlAt anyA H0 v rws) (h2 : LsAt H0 a tab) (h3 : AlPre rws tab)
    (q : ∀ r o l oc out H', Same H0 H' → H0 l = none → H' r = some (.tup [o, .ref l]) → OcAt H' o oc → LsAt H' l out → AloneR rws tab oc out → Q (.ref r) H') :
    rd_alone_1 K t { nx := fun _ H' => Q .non H', rt := Q } [some v, some (.ref a), some (.ref x), none] H := by
  have F := doF T
  obtain ⟨ra, xs, rfl, _, ha, hx⟩ := h1
  simp only [rd_alone_1, sp_Doing_goes_through, sp_broken_off, cTup, tFld, tMethX, tTryNN, tItems, cLstI, L2.start, tAsgX, tSeq, tRet, tNext, tVar, tC, tTup, tCons, tNil, tIfS, tNot, tB, tCB, tCall, List.map, List.replicate, List.length, List.append, List.cons_append, List.nil_append, List.append_nil, List.getElem?_cons_zero, List.getElem?_cons_succ, Option.some.injEq, exists_eq_left', exists_eq_left, V.int.injEq, V.ref.injEq, V.str.injEq, V.bl.injEq, V.ty.injEq, List.cons.injEq, and_true, true_and, and_assoc, exists_and_left, List.set_cons_zero, List.set_cons_succ, Nat.reduceSub, Nat.reduceAdd, decide_eq_true_eq, Bool.not_eq_true', decide_eq_false_iff_not, Int.reduceToNat, Int.reducePow, Int.reduceNeg, Int.reduceMul, Int.reduceAdd, if_true, ite_true, Bool.false_eq_true, ite_false, if_false]
  refine ⟨dx, _, D.ix, rfl, xs, rws, tab.length, H0, dx, sl, wo, sa, ⟨[], tab, []⟩, D, ha, hx, h3.ok, h3.dp, ⟨(fun k v e => by rw [valV_nil] at e; cases e), h3.iw, Nat.zero_le _, Nat.le_refl _, Nat.zero_le _⟩, by have := h3.ln; omega, fun H' s' g D' => rdp_alone2 F h2 h3 D'.sm (.inl ⟨rfl, g, D'⟩) q, fun H' g sm => rdp_alone2 (s := ⟨[], [], []⟩) (dx := dx) (sl := sl) (wo := wo) (sa := sa) F h2 h3 sm (.inr ⟨rfl, g⟩) q, fun H' e g sm => ?_⟩
  cases e with
  | nought => exact ⟨t.c_Nought, rfl, .inr ⟨T.e_Nought_Great, T.e_Nought_Nought, tab, h2.same sm, fun r o l H'' s hl hr oa la => q r o l (.off "nought") tab H'' (sm.trans s) (fresh_of sm hl) hr oa la (by unfold AloneR; rw [g]; exact ⟨rfl, rfl⟩)⟩⟩
  | great => exact ⟨t.c_Great, rfl, .inl ⟨T.e_Great_Great, tab, h2.same sm, fun r o l H'' s hl hr oa la => q r o l (.off "great") tab H'' (sm.trans s) (fresh_of sm hl) hr oa la (by unfold AloneR; rw [g]; exact ⟨rfl, rfl⟩)⟩⟩
  | stuck => trivial
theorem rdp_alone {P : Str → Option Value} {v : V} {a : Addr} {rws : Rws} {tab : List Row} (T : Txt K P t) (h1 : RlAt anyA H v rws) (h2 : LsAt H a tab) (h3 : AlPre rws tab)
    (q : ∀ r o l oc out H', Same H H' → H l = none → H' r = some (.tup [o, .ref l]) → OcAt H' o oc → LsAt H' l out → AloneR rws tab oc out → Q (.ref r) H') :
    rd_alone K t { nx := fun _ H' => Q .non H', rt := Q } (L2.start ["rows", "table", "doing", "came_through"] [v, .ref a]) H := by
  simp only [rd_alone, sp_Doing_init, cTup, tFld, tMethX, tMake, tTryNN, tItems, cLstI, L2.start, tAsgX, tSeq, tAsg, gName, tRet, tNext, tVar, tC, tTup, tCons, tNil, tIfS, tNot, tB, tCB, tCall, List.map, List.replicate, List.length, List.append, List.cons_append, List.nil_append, List.append_nil, List.getElem?_cons_zero, List.getElem?_cons_succ, Option.some.injEq, exists_eq_left', exists_eq_left, V.int.injEq, V.ref.injEq, V.str.injEq, V.bl.injEq, V.ty.injEq, List.cons.injEq, and_true, true_and, and_assoc, exists_and_left, List.set_cons_zero, List.set_cons_succ, Nat.reduceSub, Nat.reduceAdd, decide_eq_true_eq, Bool.not_eq_true', decide_eq_false_iff_not, Int.reduceToNat, Int.reducePow, Int.reduceNeg, Int.reduceMul, Int.reduceAdd, if_true, ite_true, Bool.false_eq_true, ite_false, if_false]
  intro x dx hx hd n
  have s1 := isV (o := HO.own x) dx hd
  have hx1 : upd H dx (HO.own x) x = none := by rw [upd_ne (Ne.symm n)]; exact hx
  have s2 := isV (o := HO.ins t.c_Doing dx []) x hx1
  have ln := h3.ln
  exact ⟨tab, H, s1.trans s2, hx, dx, upd_same, h2, by omega, fun H' sl wo sa D => rdp_alone1 T D h1 h2 h3 q⟩
def obI (a b ol : Addr) (ds : List Rws) (tab : List Row) (I : List Row → Prop) (H : Hp) (i : Nat) (σ : St) (H' : Hp) : Prop := ∃ (l : Addr) (ys : List V) (ocs : List Oc) (mid : List Row), (∃ o4 o5, σ = [some (.ref a), some (.ref b), some (.ref ol), some (.ref l), o4, o5]) ∧
  Same H H' ∧ H l = none ∧ l ≠ ol ∧ H' ol = some (.lst ys) ∧ ys.length = i ∧ Paired (OcAt H') ys ocs ∧ LsAt H' l mid ∧ I mid ∧ SeqR (ds.take i) tab ocs mid
theorem rdp_one_by_one {a b : Addr} {xs : List V} {ds : List Rws} {tab : List Row} {I : List Row → Prop} (h1 : H a = some (.lst xs)) (h2 : Paired (RlAt anyA H) xs ds) (h3 : LsAt H b tab) (h4 : I tab) (h5 : ds.length ≤ 500) (h6 : ∀ d ∈ ds, ∀ tab, I tab → AlPre d tab ∧ ∀ oc out, AloneR d tab oc out → I out)
    (q : ∀ r ol l ys ocs out H', Same H H' → H l = none → H ol = none → H' r = some (.tup [.ref ol, .ref l]) → H' ol = some (.lst ys) → Paired (OcAt H') ys ocs → LsAt H' l out → SeqR ds tab ocs out → Q (.ref r) H') :
    rd_one_by_one K t { nx := fun _ H' => Q .non H', rt := Q } (L2.start ["dealings", "table", "outcomes", "behind", "rows", "done"] [.ref a, .ref b]) H := by
  simp only [rd_one_by_one, sp_alone, L2.start, cLst, r_mt_append, rAppend, rIxT, tSeq, tAsg, gName, tRet, tDrop, tOp, tVar, tC, tLst, tTup, tCons, tNil, tFor, tCB, tBM, tyV, tCall, iList, rIxT, List.map, List.replicate, List.length, List.append, List.cons_append, List.nil_append, List.append_nil, List.getElem?_cons_zero, List.getElem?_cons_succ, Option.some.injEq, exists_eq_left', exists_eq_left, V.int.injEq, V.ref.injEq, V.str.injEq, V.bl.injEq, V.ty.injEq, List.cons.injEq, and_true, true_and, and_assoc, exists_and_left, List.set_cons_zero, List.set_cons_succ, Nat.reduceSub, Nat.reduceAdd, decide_eq_true_eq, Bool.not_eq_true', decide_eq_false_iff_not, Int.reduceToNat, Int.reducePow, Int.reduceNeg, Int.reduceMul, Int.reduceAdd, if_true, ite_true, Bool.false_eq_true, ite_false, if_false]
  refine ⟨by decide, fun ol hol => ?_⟩
  have s1 := isV (o := HO.lst []) ol hol
  obtain ⟨ts, ht, rt⟩ := h3
  refine ⟨ts, .inl (SqL.of (s1 _ _ ht)), fun l hl => ?_⟩
  have s2 := isV (o := HO.lst ts) l hl
  have S := s1.trans s2
  have lx := Paired.length h2
  refine ⟨⟨_, SqL.of (S _ _ h1)⟩, loop_list xs (obI a b ol ds tab I H) ⟨l, [], [], tab, ⟨_, _, rfl⟩, S, fresh_of s1 hl, fresh_ne upd_same hl, s2 _ _ upd_same, rfl, .nil, ⟨ts, upd_same, rows_mono S rt⟩, h4, .nil⟩ (fun i σ H' ⟨l, ys, ocs, mid, _, s, _⟩ => SqL.of (s _ _ h1)) ?_ ?_⟩
  · rintro i v σ H' hv ⟨l, ys, ocs, mid, ⟨o4, o5, rfl⟩, s, fl, nl, ho, ly, po, hm, im, sq⟩
    obtain ⟨d, hd, rd⟩ := Paired.getP h2 hv
    have hi := (List.getElem?_eq_some_iff.mp hv).1
    obtain ⟨pre, nxt⟩ := h6 d (List.mem_of_getElem? hd) mid im
    simp only [L2.start, cLst, r_mt_append, rAppend, rIxT, tSeq, tAsg, gName, tRet, tDrop, tOp, tVar, tC, tLst, tTup, tCons, tNil, tFor, tCB, tBM, tyV, tCall, iList, rIxT, List.map, List.replicate, List.length, List.append, List.cons_append, List.nil_append, List.append_nil, List.getElem?_cons_zero, List.getElem?_cons_succ, Option.some.injEq, exists_eq_left', exists_eq_left, V.int.injEq, V.ref.injEq, V.str.injEq, V.bl.injEq, V.ty.injEq, List.cons.injEq, and_true, true_and, and_assoc, exists_and_left, List.set_cons_zero, List.set_cons_succ, Nat.reduceSub, Nat.reduceAdd, decide_eq_true_eq, Bool.not_eq_true', decide_eq_false_iff_not, Int.reduceToNat, Int.reducePow, Int.reduceNeg, Int.reduceMul, Int.reduceAdd, if_true, ite_true, Bool.false_eq_true, ite_false, if_false]
    refine ⟨d, rd.mono s, mid, hm, pre, fun r o l' oc out H1 s1' fr hr oa la ar => ?_⟩
    refine ⟨.inl ⟨_, SqL.of (s1' _ _ ho)⟩, _, SqT.of hr, _, rfl, ys, s1' _ _ ho, Nat.lt_of_le_of_lt (by omega : ys.length ≤ 500) (by decide), _, SqT.of (ts_upd (s1' _ _ ho) _ _ hr), _, rfl, ?_⟩
    have ts1 := ts_upd (ys := ys ++ [o]) (s1' _ _ ho)
    refine ⟨l', ys ++ [o], ocs ++ [oc], out, ⟨_, _, rfl⟩, same_upd (s.trans s1') hol, fresh_of s fr, fresh_ne ho fr, upd_same, by simp [ly], Paired.snocP (ocs_ts ts1 (ocs_ts (Same.ts s1') po)) (oa.ts ts1), la.up (s1' _ _ ho) (fresh_ne ho fr), nxt oc out ar, ?_⟩
    rw [List.take_add_one, hd]
    exact sq.snoc ar
  · rintro σ H' ⟨l, ys, ocs, mid, ⟨o4, o5, rfl⟩, s, fl, nl, ho, ly, po, hm, im, sq⟩
    simp only [L2.start, cLst, r_mt_append, rAppend, rIxT, tSeq, tAsg, gName, tRet, tDrop, tOp, tVar, tC, tLst, tTup, tCons, tNil, tFor, tCB, tBM, tyV, tCall, iList, rIxT, List.map, List.replicate, List.length, List.append, List.cons_append, List.nil_append, List.append_nil, List.getElem?_cons_zero, List.getElem?_cons_succ, Option.some.injEq, exists_eq_left', exists_eq_left, V.int.injEq, V.ref.injEq, V.str.injEq, V.bl.injEq, V.ty.injEq, List.cons.injEq, and_true, true_and, and_assoc, exists_and_left, List.set_cons_zero, List.set_cons_succ, Nat.reduceSub, Nat.reduceAdd, decide_eq_true_eq, Bool.not_eq_true', decide_eq_false_iff_not, Int.reduceToNat, Int.reducePow, Int.reduceNeg, Int.reduceMul, Int.reduceAdd, if_true, ite_true, Bool.false_eq_true, ite_false, if_false]
    refine ⟨by decide, fun r hr => ?_⟩
    have s3 := isV (o := HO.tup [V.ref ol, V.ref l]) r hr
    rw [List.take_of_length_le (by omega)] at sq
    exact q r ol l ys ocs mid _ (s.trans s3) fl hol upd_same (s3 _ _ ho) (ocs_ts (Same.ts s3) po) (hm.same s3) sq
theorem lf_ok {v : V} (h : lfV v) : okPart v ∧ isJ v = false ∧ plV v := by
  rcases h with ⟨i, rfl, hi⟩ | ⟨x, rfl, hx⟩
  · exact ⟨.inl ⟨i, rfl, hi⟩, rfl, .inl ⟨i, rfl⟩⟩
  · have := isName_parts hx
    exact ⟨.inr ⟨x, rfl, by omega⟩, this.2.2.1, .inr ⟨x, rfl, name_ok hx⟩⟩
theorem NamesAt.same {H H' : Hp} {nm : Addr} {ws : List Str} (h : NamesAt H nm ws) (s : Same H H') : NamesAt H' nm ws := ⟨s _ _ h.1, h.2⟩
theorem names_at {nm : Addr} {ws : List Str} (h : NamesAt H nm ws) (n : Nat) (hl : ws.length = n) (hn : 0 < (n : Int)) (e : Int) : ∃ x, atI (ws.map V.str) (e % n) = some (.str x) ∧ x ∈ ws ∧ isName x = true := by
  obtain ⟨v, hv, hm⟩ := at_mod e n (xs := ws.map V.str) (by rw [List.length_map, hl]) hn
  obtain ⟨x, hx, rfl⟩ := List.mem_map.mp hm
  exact ⟨x, hv, hx, h.2 x hx⟩
theorem rdp__law_number {c j : Int} (h1 : 0 ≤ j) (h2 : j ≤ 900) (q : ∀ w H', inW w = true → Same H H' → Q (.int w) H') :
    rd__law_number K t { nx := fun _ H' => Q .non H', rt := Q } (L2.start ["cell", "j"] [.int c, .int j]) H := by
  simp only [rd__law_number, sp__law_draw, L2.start, tSeq, tRet, tNext, tOp, tVar, tC, tCons, tNil, tIfS, tTest, tCall, rEq, rI, rI0, scal, List.map, List.replicate, List.length, List.append, List.cons_append, List.nil_append, List.append_nil, List.getElem?_cons_zero, List.getElem?_cons_succ, Option.some.injEq, exists_eq_left', exists_eq_left, V.int.injEq, V.ref.injEq, V.str.injEq, V.bl.injEq, V.ty.injEq, List.cons.injEq, and_true, true_and, and_assoc, exists_and_left, List.set_cons_zero, List.set_cons_succ, Nat.reduceSub, Nat.reduceAdd, decide_eq_true_eq, Bool.not_eq_true', decide_eq_false_iff_not, Int.reduceToNat, Int.reducePow, Int.reduceNeg, Int.reduceMul, Int.reduceAdd, if_true, ite_true, Bool.false_eq_true, ite_false, if_false]
  have P30 := pow10 (j := 30) (by decide) (by decide)
  have P40 := pow10 (j := 40) (by decide) (by decide)
  have hb : (1000000000000000000000000000000000000000000000000000000000000 : Int) < big := by decide +kernel
  refine ⟨h1, by omega, fun r1 H1 a1 b1 s1 => ⟨by decide, ite2 (fun _ => ?_) fun _ => ⟨by omega, by omega, fun r2 H2 a2 b2 s2 => ⟨by decide, q _ _ (inW_iff.mpr ?_) (s1.trans s2)⟩⟩⟩⟩
  · have g1 := Int.emod_nonneg c (b := 10000000000000000000000000000000000000000) (by decide)
    have g2 := Int.emod_lt_of_pos c (b := 10000000000000000000000000000000000000000) (by decide)
    generalize c % 10000000000000000000000000000000000000000 = d at *
    have m1 : 0 ≤ d * (j + 2) := Int.mul_nonneg g1 (by omega)
    have m2 : d * (j + 2) ≤ 10000000000000000000000000000000000000000 * 1000 := Int.mul_le_mul (by omega) (by omega) (by omega) (by decide)
    generalize d * (j + 2) = f at *
    have g3 := Int.emod_nonneg (f * 1000003 + j) (b := 2000000000000000000000000000001) (by decide)
    have g4 := Int.emod_lt_of_pos (f * 1000003 + j) (b := 2000000000000000000000000000001) (by decide)
    exact ⟨P40, by decide, ⟨by omega, by omega⟩, ⟨by omega, by omega⟩, P30, ⟨by omega, by omega⟩, by decide, P30, q _ _ (inW_iff.mpr (by omega)) s1⟩
  · omega
theorem row_ref {F : Addr → Prop} {v : V} {r : Rw} (h : RwAt F H v r) (d : ¬ ∃ e a b, r = .iff e a b) : ∃ p xs hd, v = .ref p ∧ H p = some (.tup xs) ∧ atI xs 0 = some (.str hd) ∧ hd ≠ "if" := by
  rcases Classical.em (isDoes r) with hD | hD
  · obtain ⟨p, xs, hd, e1, e2, e3, _, e4⟩ := does_ref h hD
    exact ⟨p, xs, hd, e1, e2, e3, e4⟩
  · cases r with
    | off e =>
      unfold RwAt at h
      obtain ⟨r, te, rfl, _, _, e2, e3⟩ := h
      exact ⟨r, _, _, rfl, e2, rfl, by decide +kernel⟩
    | iff e a b => exact (d ⟨e, a, b, rfl⟩).elim
    | _ => exact (hD trivial).elim
theorem LsAt.dat {H : Hp} {a : Addr} {rows : List Row} (h : LsAt H a rows) : Dat K H (.ref a) (.list (rows.map rowD)) := by
  obtain ⟨xs, h1, h2⟩ := h
  exact .lst (SqL.of h1) (rows_dat h2)
theorem comp_inv2 {J : It} {D : Addr} {τ₀ : St} {H1 : Hp} {Q : Hp → Prop} {B : V → St → Hp → (V → St → Hp → Prop) → (St → Hp → Prop) → Prop} (n : Nat) (hn : n ≤ 1000000) (C : St → Prop) (R : Nat → List V → Hp → Prop) (hm : ∀ i ys H H', (∀ b o, b ≠ D → H b = some o → H' b = some o) → R i ys H → R i ys H') (hC : C τ₀) (h0 : R 0 [] H1)
    (go : ∀ i H, Same H1 H → i < n → J.go i H) (stop : ∀ H, Same H1 H → J.stop n H) (hD : H1 D = none)
    (hs : ∀ i x τ ys H H', C τ → Same H1 H → i < n → R i ys H → H D = some (.lst ys) → J.yld i H x H' → B x τ H' (fun v τ' H4 => C τ' ∧ R (i + 1) (ys ++ [v]) H4 ∧ Same H H4) (fun τ' H4 => C τ' ∧ R (i + 1) ys H4 ∧ Same H H4))
    (hd : ∀ ys H, ys.length ≤ n → R n ys H → Same H1 H → H D = some (.lst ys) → Q H) :
    ∃ W : Nat → Nat → List V → St → Hp → Prop, (∃ m, W 0 m [] τ₀ (upd H1 D (.lst []))) ∧ ∀ i m ys τ H, W i m ys τ H → H D = some (.lst ys) ∧
    ((J.stop i H ∧ Q H) ∨ (J.go i H ∧ ys.length < sizeLine ∧ ∃ N : V → St → Hp → Prop,
      (∀ v τ' H', N v τ' H' → H' D = some (.lst ys) ∧ ∃ m', m' < m ∧ W (i + 1) m' (ys ++ [v]) τ' (upd H' D (.lst (ys ++ [v])))) ∧ ∃ Nf : St → Hp → Prop, (∀ τ' H', Nf τ' H' → ∃ m', m' < m ∧ W (i + 1) m' ys τ' H') ∧
      ∀ x H', J.yld i H x H' → B x τ H' N Nf)) := by
  have ext : ∀ {H : Hp} {o : HO}, Same H1 H → Same H1 (upd H D o) := fun {H o} h b u e => by
    rw [upd_ne (ne_of_none e hD)]; exact h b u e
  refine ⟨fun i m ys τ H => m = n - i ∧ i ≤ n ∧ ys.length ≤ i ∧ R i ys H ∧ Same H1 H ∧ H D = some (.lst ys) ∧ C τ, ⟨n, by simp, Nat.zero_le _, Nat.le_refl _, hm _ _ _ _ (fun b o hb e => by rw [upd_ne hb]; exact e) h0, ext (Same.refl _), upd_same, hC⟩, ?_⟩
  rintro i m ys τ H ⟨rfl, hi, hl, hR, hS, hy, hc⟩
  refine ⟨hy, ?_⟩
  by_cases hlt : i < n
  · refine .inr ⟨go i H hS hlt, Nat.lt_of_le_of_lt (by omega : ys.length ≤ 1000000) (by decide), _, ?_, _, ?_, fun x H' y => hs i x τ ys H H' hc hS hlt hR hy y⟩
    · rintro v τ' H4 ⟨c4, r4, s4⟩
      have y4 := s4 _ _ hy
      exact ⟨y4, n - (i + 1), by omega, rfl, hlt, by simp; omega, hm _ _ _ _ (fun b o hb e => by rw [upd_ne hb]; exact e) r4, ext (hS.trans s4), upd_same, c4⟩
    · rintro τ' H4 ⟨c4, r4, s4⟩
      exact ⟨n - (i + 1), by omega, rfl, hlt, by omega, r4, hS.trans s4, s4 _ _ hy, c4⟩
  · obtain rfl : i = n := by omega
    exact .inl ⟨stop H hS, hd ys H hl hR hS hy⟩
/-! terms: leaves, joins -/
theorem rk_leaf {kvs : List (Key × V)} {v : V} (h : isJ v = false) : rk kvs [v] = .ok (wrth kvs v) := (good_leaf h).rk
theorem tm_leaf {v : V} (h : lfV v) : TmV [v] := by
  obtain ⟨o, j, p⟩ := lf_ok h
  exact ⟨term_one o j, fun z hz => by rw [List.mem_singleton.mp hz]; exact p, by simp⟩
theorem tm_join {p r : List V} {w : Str} (hp : TmV p) (hr : TmV r) (hw : isJ (.str w) = true) (lw : w.length ≤ 1000) (sw : PyData.strOk w = true) (hl : p.length + r.length + 1 ≤ 20) : TmV (p ++ r ++ [.str w]) := by
  refine ⟨⟨fun kvs => ?_, fun v hv => ?_, by simp; omega⟩, fun v hv => ?_, by simp; omega⟩
  · obtain ⟨r1, g1⟩ := hp.1.1 kvs
    obtain ⟨r2, g2⟩ := hr.1.1 kvs
    exact ⟨_, good_join hw g1 g2⟩
  · rcases List.mem_append.mp hv with hv | hv
    · rcases List.mem_append.mp hv with hv | hv
      · exact hp.1.2.1 v hv
      · exact hr.1.2.1 v hv
    · rw [List.mem_singleton.mp hv]; exact .inr ⟨w, rfl, lw⟩
  · rcases List.mem_append.mp hv with hv | hv
    · rcases List.mem_append.mp hv with hv | hv
      · exact hp.2.1 v hv
      · exact hr.2.1 v hv
    · rw [List.mem_singleton.mp hv]; exact .inr ⟨w, rfl, sw⟩
theorem lf_int {i : Int} (h : inW i = true) : lfV (.int i) := .inl ⟨i, rfl, h⟩
theorem lf_str {x : Str} (h : isName x = true) : lfV (.str x) := .inr ⟨x, rfl, h⟩
theorem tm_tri {u v : V} {w : Str} (hu : lfV u) (hv : lfV v) (hw : isJ (.str w) = true) (lw : w.length ≤ 1000) (sw : PyData.strOk w = true) : TmV [u, v, .str w] := tm_join (tm_leaf hu) (tm_leaf hv) hw lw sw (by simp)
theorem good_tri {kvs : List (Key × V)} {u v : V} {w : Str} (hu : lfV u) (hv : lfV v) (hw : isJ (.str w) = true) : Good kvs [u, v, .str w] (joinE w (wrth kvs u) (wrth kvs v)) := good_join (p1 := [u]) (p2 := [v]) hw (good_leaf (lf_ok hu).2.1) (good_leaf (lf_ok hv).2.1)
structure JW (w : Str) : Prop where
  j : isJ (.str w) = true
  l : w.length ≤ 1000
  s : PyData.strOk w = true
theorem jw_plus : JW "plus" := ⟨by decide +kernel, by decide +kernel, by decide +kernel⟩
theorem jw_minus : JW "minus" := ⟨by decide +kernel, by decide +kernel, by decide +kernel⟩
theorem jw_times : JW "times" := ⟨by decide +kernel, by decide +kernel, by decide +kernel⟩
theorem jw_over : JW "over" := ⟨by decide +kernel, by decide +kernel, by decide +kernel⟩
theorem jw_rest : JW "rest" := ⟨by decide +kernel, by decide +kernel, by decide +kernel⟩
theorem jw_under : JW "under" := ⟨by decide +kernel, by decide +kernel, by decide +kernel⟩
theorem jw_same : JW "same" := ⟨by decide +kernel, by decide +kernel, by decide +kernel⟩
theorem wrth_none {kvs : List (Key × V)} {z : Str} (h : valV kvs (.inr z) = none) : wrth kvs (.str z) = 0 := by
  show (match valV kvs (.inr z) with | some (.int i) => i | _ => 0) = 0
  rw [h]
theorem wrth_inW {kvs : List (Key × V)} (hs : SlotsOk kvs) {v : V} (h : lfV v) : inW (wrth kvs v) = true :=
  rk_inW hs (ps := [v]) (fun u hu => by rw [List.mem_singleton.mp hu]; exact (lf_ok h).1) (rk_leaf (lf_ok h).2.1)
/-- a term that is worth 0 -/
def TZ (z : Str) (e : List V) : Prop := ∀ kvs, Fr z kvs → Good kvs e (.ok 0)
theorem je_minus (a : Int) : joinE "minus" a a = .ok 0 := by
  unfold joinE
  rw [if_neg (fun h => absurd h.1 (by decide +kernel))]
  have e : comeV "minus" a a = 0 := by
    unfold comeV
    rw [if_neg (by decide +kernel), if_pos rfl]; omega
  rw [e]; rfl
theorem je_times0 (a : Int) : joinE "times" a 0 = .ok 0 := by
  unfold joinE
  rw [if_neg (fun h => absurd h.1 (by decide +kernel))]
  have e : comeV "times" a 0 = 0 := by
    unfold comeV
    rw [if_neg (by decide +kernel), if_neg (by decide +kernel), if_pos rfl, Int.mul_zero]
  rw [e]; rfl
theorem je_under32 : joinE "under" 3 2 = .ok 0 := by
  unfold joinE
  rw [if_neg (fun h => absurd h.1 (by decide +kernel)), show comeV "under" 3 2 = 0 by decide +kernel]; rfl
theorem je_great {w : Str} {a b : Int} (d : ¬ isDiv w) (h : inW (comeV w a b) = false) : joinE w a b = .error .great := by
  unfold joinE
  rw [if_neg (fun h => d h.1), h]; rfl
theorem je_div {w : Str} (h : isDiv w) (a : Int) : joinE w a 0 = .error .nought := by
  unfold joinE
  rw [if_pos ⟨h, rfl⟩]
theorem tz_int (z : Str) : TZ z [.int 0] := fun kvs _ => good_leaf (isJ_int 0)
theorem tz_z {z : Str} (h : isName z = true) : TZ z [.str z] := fun kvs f => by
  have := good_leaf (kvs := kvs) (lf_ok (lf_str h)).2.1
  rw [wrth_none f.2] at this; exact this
theorem tz_minus {x z : Str} (h : isName x = true) : TZ z [.str x, .str x, .str "minus"] := fun kvs _ => by
  have := good_tri (kvs := kvs) (lf_str h) (lf_str h) jw_minus.j
  rw [je_minus] at this; exact this
theorem tz_times {z : Str} (h : isName z = true) : TZ z [.str z, .int 0, .str "times"] := fun kvs _ => by
  have := good_tri (kvs := kvs) (lf_str h) (lf_int (i := 0) rfl) jw_times.j
  rw [show wrth kvs (.int 0) = 0 from rfl, je_times0] at this; exact this
theorem tz_under (z : Str) : TZ z [.int 3, .int 2, .str "under"] := fun kvs _ => by
  have := good_tri (kvs := kvs) (lf_int (i := 3) (by decide +kernel)) (lf_int (i := 2) (by decide +kernel)) jw_under.j
  rw [show wrth kvs (.int 3) = 3 from rfl, show wrth kvs (.int 2) = 2 from rfl, je_under32] at this; exact this
theorem tb_nought {z w : Str} {v : V} {e : List V} (hv : lfV v) (he : TZ z e) (jw : isJ (.str w) = true) (d : isDiv w) : TB z .nought ([v] ++ e ++ [.str w]) := fun kvs f => by
  have := good_join jw (good_leaf (kvs := kvs) (lf_ok hv).2.1) (he kvs f)
  rw [show joinR w (.ok (wrth kvs v)) (.ok 0) = joinE w (wrth kvs v) 0 from rfl, je_div d] at this; exact this
theorem tb_first {z w : Str} {x : Er} {p r : List V} (jw : isJ (.str w) = true) (h : TB z x p) (hr : TmV r) : TB z x (p ++ r ++ [.str w]) := fun kvs f => by
  obtain ⟨r2, g2⟩ := hr.1.1 kvs
  exact good_join jw (h kvs f) g2
theorem tb_tri {a b : Int} {w : Str} (ha : inW a = true) (hb : inW b = true) (jw : isJ (.str w) = true) (e : joinE w a b = .error .great) (z : Str) : TB z .great [.int a, .int b, .str w] := fun kvs _ => by
  have := good_tri (kvs := kvs) (lf_int ha) (lf_int hb) jw
  rw [show wrth kvs (.int a) = a from rfl, show wrth kvs (.int b) = b from rfl, e] at this; exact this
/-! rows that go through -/
theorem sf_put {z x : Str} {s : Sta} (h : SF z s) (n : x ≠ z) {i : Int} (hi : inW i = true) : SF z { s with sl := putK s.sl (.inr x) (.int i) } :=
  ⟨⟨slots_put h.1.1 _ hi, by show valV (putK s.sl (.inr x) (.int i)) (.inr z) = none; rw [valV_put, if_neg (fun e => n (Sum.inr.inj e).symm)]; exact h.1.2⟩, h.2⟩
theorem rn_take {z x sh : Str} {v : V} (hv : lfV v) (n : x ≠ z) (s : Sta) (h : SF z s) : ∃ s', goR (.take sh [v] x) s = .go s' ∧ SF z s' := by
  refine ⟨_, by unfold goR; rw [rk_leaf (lf_ok hv).2.1], sf_put h n (last_inW h.2 _)⟩
theorem rn_give {z sh : Str} {u v : V} (hu : lfV u) (hv : lfV v) (s : Sta) (h : SF z s) : ∃ s', goR (.give sh [u] [v]) s = .go s' ∧ SF z s' := by
  refine ⟨{ s with wo := s.wo ++ [((sh, wrth s.sl u), wrth s.sl v)] }, by unfold goR; rw [rk_leaf (lf_ok hu).2.1]; simp only []; rw [rk_leaf (lf_ok hv).2.1], h.1, fun q hq => ?_⟩
  rcases List.mem_append.mp hq with hq | hq
  · exact h.2 q hq
  · rw [List.mem_singleton.mp hq]; exact wrth_inW h.1.1 hv
theorem rn_let {z x : Str} {v : V} (hv : lfV v) (n : x ≠ z) (s : Sta) (h : SF z s) : ∃ s', goR (.lt x [v]) s = .go s' ∧ SF z s' := by
  refine ⟨_, by unfold goR; rw [rk_leaf (lf_ok hv).2.1], sf_put h n (wrth_inW h.1.1 hv)⟩
theorem rn_say {z : Str} {v : V} (hv : lfV v) (s : Sta) (h : SF z s) : ∃ s', goR (.say [v]) s = .go s' ∧ SF z s' := by
  refine ⟨{ s with sa := s.sa ++ [wrth s.sl v] }, by unfold goR; rw [rk_leaf (lf_ok hv).2.1], h⟩
/-! rows that break off -/
theorem bad_rk {z w : Str} {e : List V} (h : bad z w e) {kvs : List (Key × V)} (f : Fr z kvs) : ∃ x, rk kvs e = .error x ∧ resW w (.er x) := by
  rcases h with ⟨rfl, h⟩ | ⟨rfl, h⟩
  · exact ⟨_, (h kvs f).rk, .inr (.inl ⟨rfl, rfl⟩)⟩
  · exact ⟨_, (h kvs f).rk, .inr (.inr ⟨rfl, rfl⟩)⟩
theorem bk_take {z w sh x : Str} {e : List V} (h : bad z w e) (s : Sta) (f : SF z s) : resW w (goR (.take sh e x) s) := by
  obtain ⟨x, e1, e2⟩ := bad_rk h f.1
  unfold goR; rw [e1]; exact e2
theorem bk_give {z w sh : Str} {e g : List V} (h : bad z w e) (s : Sta) (f : SF z s) : resW w (goR (.give sh e g) s) := by
  obtain ⟨x, e1, e2⟩ := bad_rk h f.1
  unfold goR; rw [e1]; exact e2
theorem bk_give2 {z w sh : Str} {v : V} {g : List V} (hv : lfV v) (h : bad z w g) (s : Sta) (f : SF z s) : resW w (goR (.give sh [v] g) s) := by
  obtain ⟨x, e1, e2⟩ := bad_rk h f.1
  unfold goR; rw [rk_leaf (lf_ok hv).2.1]; simp only []; rw [e1]; exact e2
theorem bk_let {z w x : Str} {e : List V} (h : bad z w e) (s : Sta) (f : SF z s) : resW w (goR (.lt x e) s) := by
  obtain ⟨x, e1, e2⟩ := bad_rk h f.1
  unfold goR; rw [e1]; exact e2
theorem bk_say {z w : Str} {e : List V} (h : bad z w e) (s : Sta) (f : SF z s) : resW w (goR (.say e) s) := by
  obtain ⟨x, e1, e2⟩ := bad_rk h f.1
  unfold goR; rw [e1]; exact e2
theorem bk_off {z w : Str} {e : List V} (h : bad z w e) (s : Sta) (f : SF z s) : resW w (goR (.off e) s) := by
  obtain ⟨x, e1, e2⟩ := bad_rk h f.1
  unfold goR; rw [e1]; exact e2
theorem bk_iff {z w : Str} {e : List V} {a b : Rws} (h : bad z w e) (s : Sta) (f : SF z s) : resW w (goR (.iff e a b) s) := by
  obtain ⟨x, e1, e2⟩ := bad_rk h f.1
  unfold goR; rw [e1]; exact e2
/-- a term that is not worth 0 -/
def TN (z : Str) (e : List V) : Prop := ∀ kvs, Fr z kvs → ∃ i, i ≠ 0 ∧ rk kvs e = .ok i
theorem bk_told {z : Str} {e : List V} (h : TN z e) (s : Sta) (f : SF z s) : resW "told" (goR (.off e) s) := by
  obtain ⟨i, n, e1⟩ := h s.sl f.1
  unfold goR; rw [e1]; simp only [if_neg n]; exact .inl ⟨rfl, rfl⟩
theorem tn_int {i : Int} (n : i ≠ 0) (z : Str) : TN z [.int i] := fun kvs _ => ⟨i, n, rk_int kvs i⟩
theorem tn_same {x z : Str} (h : isName x = true) : TN z [.str x, .str x, .str "same"] := fun kvs _ => by
  refine ⟨1, by decide, ?_⟩
  have := (good_tri (kvs := kvs) (lf_str h) (lf_str h) jw_same.j).rk
  rw [this]
  unfold joinE
  rw [if_neg (fun h => absurd h.1 (by decide +kernel))]
  have e : ∀ a : Int, comeV "same" a a = 1 := fun a => by
    unfold comeV
    rw [if_neg (by decide +kernel), if_neg (by decide +kernel), if_neg (by decide +kernel), if_neg (by decide +kernel), if_pos rfl, if_pos rfl]
  rw [e]; rfl
theorem je_under (a b : Int) : ∃ c, (c = 0 ∨ c = 1) ∧ joinE "under" a b = .ok c := by
  have e : comeV "under" a b = if a < b then 1 else 0 := by
    unfold comeV
    rw [if_neg (by decide +kernel), if_neg (by decide +kernel), if_neg (by decide +kernel), if_pos rfl]
  unfold joinE
  rw [if_neg (fun h => absurd h.1 (by decide +kernel)), e]
  by_cases c : a < b
  · rw [if_pos c]; exact ⟨1, .inr rfl, rfl⟩
  · rw [if_neg c]; exact ⟨0, .inl rfl, rfl⟩
theorem tn_five {x z : Str} (h : isName x = true) : TN z [.str x, .int 1000000000000000000000000000000, .str "under", .int 2, .str "plus"] := fun kvs _ => by
  have g1 := good_tri (kvs := kvs) (lf_str h) (lf_int (i := 1000000000000000000000000000000) (by decide +kernel)) jw_under.j
  obtain ⟨c, hc, e⟩ := je_under (wrth kvs (.str x)) (wrth kvs (.int 1000000000000000000000000000000))
  rw [e] at g1
  have g2 := (good_join jw_plus.j g1 (good_leaf (kvs := kvs) (isJ_int 2))).rk
  rcases hc with rfl | rfl
  · exact ⟨2, by decide, g2⟩
  · exact ⟨3, by decide, g2⟩
theorem tm_five {x : Str} (h : isName x = true) : TmV [.str x, .int 1000000000000000000000000000000, .str "under", .int 2, .str "plus"] :=
  tm_join (p := [.str x, .int 1000000000000000000000000000000, .str "under"]) (r := [.int 2]) (tm_tri (lf_str h) (lf_int (by decide +kernel)) jw_under.j jw_under.l jw_under.s) (tm_leaf (lf_int (by decide +kernel))) jw_plus.j jw_plus.l jw_plus.s (by simp)
/-! lists of rows -/
theorem res_stop {w : Str} {r : Res} (h : resW w r) : ∀ s, r ≠ .go s := fun s z => by
  subst z
  rcases h with h | h | h <;> cases h.2
theorem bk_cons {z w : Str} {r : Rw} {rs : Rws} (h : ∀ s, SF z s → resW w (goR r s)) (s : Sta) (f : SF z s) : resW w (goRs (.cons r rs) s) := by
  have k := h s f
  unfold goRs
  split
  · rename_i s' e
    exact absurd e (res_stop k s')
  · exact k
theorem bk_app {w : Str} {b : Rws} : ∀ (a : Rws) (s : Sta), resW w (goRs a s) → resW w (goRs (a.app b) s)
  | .nil, s, k => absurd rfl (res_stop k s)
  | .cons r a, s, k => by
    show resW w (goRs (.cons r (a.app b)) s)
    unfold goRs at k ⊢
    split at k
    · rename_i s' e
      exact bk_app a s' k
    · exact k
theorem go_app {b : Rws} {s' : Sta} : ∀ (a : Rws) (s : Sta), goRs a s = .go s' → goRs (a.app b) s = goRs b s'
  | .nil, s, k => by
    unfold goRs at k
    cases k
    rfl
  | .cons r a, s, k => by
    show goRs (.cons r (a.app b)) s = _
    unfold goRs at k
    rw [goRs]
    split at k
    · rename_i s1 e
      exact go_app a s1 k
    · rename_i n
      exact absurd k (n s')
theorem bk_true {z w : Str} {i : Int} {a b : Rws} (n : i ≠ 0) (h : ∀ s, SF z s → resW w (goRs a s)) (s : Sta) (f : SF z s) : resW w (goR (.iff [.int i] a b) s) := by
  unfold goR; rw [rk_int]; simp only [if_neg n]; exact h s f
theorem bk_false {z w : Str} {a b : Rws} (h : ∀ s, SF z s → resW w (goRs b s)) (s : Sta) (f : SF z s) : resW w (goR (.iff [.int 0] a b) s) := by
  unfold goR; rw [rk_int]; simp only [if_true]; exact h s f
theorem app_ok : ∀ (a : Rws) {b : Rws}, RwsOk a → RwsOk b → RwsOk (a.app b)
  | .nil, _, _, h => h
  | .cons r a, b, h, h' => by
    unfold RwsOk at h
    show RwsOk (.cons r (a.app b))
    unfold RwsOk
    exact ⟨h.1, app_ok a h.2 h'⟩
theorem app_pl : ∀ (a : Rws) {b : Rws}, RwsPl a → RwsPl b → RwsPl (a.app b)
  | .nil, _, _, h => h
  | .cons r a, b, h, h' => by
    unfold RwsPl at h
    show RwsPl (.cons r (a.app b))
    unfold RwsPl
    exact ⟨h.1, app_pl a h.2 h'⟩
theorem app_cnt : ∀ (a b : Rws), (a.app b).cnt = a.cnt + b.cnt
  | .nil, b => by show b.cnt = _; rw [Rws.cnt, Nat.zero_add]
  | .cons r a, b => by
    show (Rws.cons r (a.app b)).cnt = _
    rw [Rws.cnt, Rws.cnt, app_cnt a b]; omega
theorem app_deep : ∀ (a b : Rws), (a.app b).deep = max a.deep b.deep
  | .nil, b => by show b.deep = _; rw [Rws.deep]; omega
  | .cons r a, b => by
    show (Rws.cons r (a.app b)).deep = _
    rw [Rws.deep, Rws.deep, app_deep a b]; omega
theorem RwsAt.app {F : Addr → Prop} {H : Hp} {b : Rws} {ys : List V} (hb : RwsAt F H ys b) : ∀ (a : Rws) {xs : List V}, RwsAt F H xs a → RwsAt F H (xs ++ ys) (a.app b)
  | .nil, xs, h => by
    unfold RwsAt at h
    subst h
    exact hb
  | .cons r a, xs, h => by
    unfold RwsAt at h
    obtain ⟨v, ws, rfl, e2, e3⟩ := h
    show RwsAt F H (v :: (ws ++ ys)) (.cons r (a.app b))
    unfold RwsAt
    exact ⟨v, ws ++ ys, rfl, e2, RwsAt.app hb a e3⟩
theorem two_at {a : Addr} {x y z : Str} (h : NamesAt H a [x, y, z]) (r : Int) : ∃ v, atI ([x, y, z].map V.str) (r % 2) = some (.str v) ∧ (v = x ∨ v = y) ∧ isName v = true := by
  have g1 := Int.emod_nonneg r (b := 2) (by decide)
  have g2 := Int.emod_lt_of_pos r (b := 2) (by decide)
  have : r % 2 = 0 ∨ r % 2 = 1 := by omega
  rcases this with e | e <;> rw [e]
  · exact ⟨x, rfl, .inl rfl, h.2 x (by simp)⟩
  · exact ⟨y, rfl, .inr rfl, h.2 y (by simp)⟩
theorem rdp__law_part {c j : Int} {a : Addr} {x y z : Str} (h1 : 0 ≤ j) (h2 : j ≤ 800) (h3 : NamesAt H a [x, y, z]) (q : ∀ p v H', lfV v → Same H H' → H p = none → H' p = some (.tup [v]) → Q (.ref p) H') :
    rd__law_part K t { nx := fun _ H' => Q .non H', rt := Q } (L2.start ["cell", "j", "slots"] [.int c, .int j, .ref a]) H := by
  simp only [rd__law_part, sp__law_draw, sp__law_number, L2.start, tSeq, tRet, tNext, tOp, tVar, tC, tTup, tCons, tNil, tIfS, tTest, tCall, rIxL, rEq, rI, rI0, scal, List.map, List.replicate, List.length, List.append, List.cons_append, List.nil_append, List.append_nil, List.getElem?_cons_zero, List.getElem?_cons_succ, Option.some.injEq, exists_eq_left', exists_eq_left, V.int.injEq, V.ref.injEq, V.str.injEq, V.bl.injEq, V.ty.injEq, List.cons.injEq, and_true, true_and, and_assoc, exists_and_left, List.set_cons_zero, List.set_cons_succ, Nat.reduceSub, Nat.reduceAdd, decide_eq_true_eq, Bool.not_eq_true', decide_eq_false_iff_not, Int.reduceToNat, Int.reducePow, Int.reduceNeg, Int.reduceMul, Int.reduceAdd, if_true, ite_true, Bool.false_eq_true, ite_false, if_false]
  refine ⟨by omega, by omega, fun r1 H1 a1 b1 s1 => ⟨by decide, ite2 (fun _ => ⟨by omega, by omega, fun r2 H2 a2 b2 s2 => ⟨by decide, ?_⟩⟩) fun _ => ⟨by omega, by omega, fun w H2 hw s2 => ⟨by decide, fun p hp => q p _ _ (.inl ⟨w, rfl, hw⟩) ((s1.trans s2).trans (isV p hp)) (fresh_of (s1.trans s2) hp) upd_same⟩⟩⟩⟩
  obtain ⟨v, hv, _, hn⟩ := two_at h3 r2
  exact ⟨_, SqL.of ((s1.trans s2) _ _ h3.1), _, hv, by decide, fun p hp => q p _ _ (.inr ⟨v, rfl, hn⟩) ((s1.trans s2).trans (isV p hp)) (fresh_of (s1.trans s2) hp) upd_same⟩
theorem rdp_row3 {c k : Int} {a b : Addr} {x y z : Str} {sh sl : Str} {Hb : Hp} (h1 : NamesAt H a [x, y, z]) (nsl : isName sl = true) (nsh : isName sh = true) (nz : sl ≠ z) (sb : Same Hb H) (q : ∀ v r H', Same Hb H' → RwAt (fun b => Hb b = none) H' v r → rwV z r → Q v H') :
    rd__law_row_3 K t { nx := fun _ H' => Q .non H', rt := Q } [some (.int c), some (.ref a), some (.ref b), some (.int k), some (.str sh), some (.str sl)] H := by
  simp only [rd__law_row_3, sp__law_part, L2.start, tSeq, tRet, tNext, tOp, tVar, tC, tTup, tCons, tNil, tIfS, tTest, tCall, rEq, scal, List.map, List.replicate, List.length, List.append, List.cons_append, List.nil_append, List.append_nil, List.getElem?_cons_zero, List.getElem?_cons_succ, Option.some.injEq, exists_eq_left', exists_eq_left, V.int.injEq, V.ref.injEq, V.str.injEq, V.bl.injEq, V.ty.injEq, List.cons.injEq, and_true, true_and, and_assoc, exists_and_left, List.set_cons_zero, List.set_cons_succ, Nat.reduceSub, Nat.reduceAdd, decide_eq_true_eq, Bool.not_eq_true', decide_eq_false_iff_not, Int.reduceToNat, Int.reducePow, Int.reduceNeg, Int.reduceMul, Int.reduceAdd, if_true, ite_true, Bool.false_eq_true, ite_false, if_false]
  refine ite2 (fun _ => ⟨by decide, by decide, x, y, z, h1, fun p v H4 lv s4 fp hp => ⟨by decide, fun r hr => ?_⟩⟩) fun _ => ite2 (fun _ => ⟨by decide, by decide, x, y, z, h1, fun p v H4 lv s4 fp hp => ⟨by decide, by decide, x, y, z, h1.same s4, fun p2 v2 H5 lv2 s5 fp2 hp2 => ⟨by decide, fun r hr => ?_⟩⟩⟩) fun _ => ite2 (fun _ => ⟨by decide, by decide, x, y, z, h1, fun p v H4 lv s4 fp hp => ⟨by decide, fun r hr => ?_⟩⟩) fun _ => ⟨by decide, by decide, x, y, z, h1, fun p v H4 lv s4 fp hp => ⟨by decide, fun r hr => ?_⟩⟩
  · obtain ⟨t1, p1, _⟩ := tm_leaf lv
    refine q (.ref r) (.take sh [v] sl) _ (sb.trans (s4.trans (isV r hr))) ?_ ⟨t1, rfl, rfl, ⟨name_ok nsh, p1, name_ok nsl⟩, rn_take lv nz⟩
    exact ⟨r, p, rfl, fresh_of (sb.trans s4) hr, fresh_of sb fp, upd_same, isV r hr _ _ hp⟩
  · obtain ⟨t1, p1, _⟩ := tm_leaf lv
    obtain ⟨t2, p2', _⟩ := tm_leaf lv2
    refine q (.ref r) (.give sh [v] [v2]) _ (sb.trans (s4.trans (s5.trans (isV r hr)))) ?_ ⟨⟨t1, t2⟩, rfl, rfl, ⟨name_ok nsh, p1, p2'⟩, rn_give lv lv2⟩
    exact ⟨r, p, p2, rfl, fresh_of (sb.trans (s4.trans s5)) hr, fresh_of sb fp, fresh_of (sb.trans s4) fp2, upd_same, isV r hr _ _ (s5 _ _ hp), isV r hr _ _ hp2⟩
  · obtain ⟨t1, p1, _⟩ := tm_leaf lv
    refine q (.ref r) (.lt sl [v]) _ (sb.trans (s4.trans (isV r hr))) ?_ ⟨t1, rfl, rfl, ⟨name_ok nsl, p1⟩, rn_let lv nz⟩
    exact ⟨r, p, rfl, fresh_of (sb.trans s4) hr, fresh_of sb fp, upd_same, isV r hr _ _ hp⟩
  · obtain ⟨t1, p1, _⟩ := tm_leaf lv
    refine q (.ref r) (.say [v]) _ (sb.trans (s4.trans (isV r hr))) ?_ ⟨t1, rfl, rfl, p1, rn_say lv⟩
    exact ⟨r, p, rfl, fresh_of (sb.trans s4) hr, fresh_of sb fp, upd_same, isV r hr _ _ hp⟩
theorem rdp__law_row {c : Int} {a b : Addr} {x y z : Str} {us : List Str} (h1 : NamesAt H a [x, y, z]) (nz : x ≠ z ∧ y ≠ z) (h2 : NamesAt H b us) (h3 : us.length = 2) (q : ∀ v r H', Same H H' → RwAt (fun b => H b = none) H' v r → rwV z r → Q v H') :
    rd__law_row K t { nx := fun _ H' => Q .non H', rt := Q } (L2.start ["cell", "slots", "shelves", "kind", "shelf", "slot"] [.int c, .ref a, .ref b]) H := by
  simp only [rd__law_row, sp__law_draw, L2.start, tSeq, tAsg, gName, tRet, tNext, tOp, tVar, tC, tTup, tCons, tNil, tIfS, tTest, tCall, rIxL, rEq, rI, scal, List.map, List.replicate, List.length, List.append, List.cons_append, List.nil_append, List.append_nil, List.getElem?_cons_zero, List.getElem?_cons_succ, Option.some.injEq, exists_eq_left', exists_eq_left, V.int.injEq, V.ref.injEq, V.str.injEq, V.bl.injEq, V.ty.injEq, List.cons.injEq, and_true, true_and, and_assoc, exists_and_left, List.set_cons_zero, List.set_cons_succ, Nat.reduceSub, Nat.reduceAdd, decide_eq_true_eq, Bool.not_eq_true', decide_eq_false_iff_not, Int.reduceToNat, Int.reducePow, Int.reduceNeg, Int.reduceMul, Int.reduceAdd, if_true, ite_true, Bool.false_eq_true, ite_false, if_false]
  refine ⟨by decide, by decide, fun r1 H1 a1 b1 s1 => ⟨by decide, by decide, by decide, fun r2 H2 a2 b2 s2 => ⟨by decide, ?_⟩⟩⟩
  obtain ⟨sh, hsh, hus, nsh⟩ := names_at h2 2 h3 (by decide) r2
  refine ⟨_, SqL.of ((s1.trans s2) _ _ h2.1), _, hsh, by decide, by decide, fun r3 H3 a3 b3 s3 => ⟨by decide, ?_⟩⟩
  have S3 := s1.trans (s2.trans s3)
  obtain ⟨sl, hsl, e12, nsl⟩ := two_at h1 r3
  exact ⟨_, SqL.of (S3 _ _ h1.1), _, hsl, rdp_row3 (h1.same S3) nsl nsh (e12.elim (fun e => by rw [e]; exact nz.1) fun e => by rw [e]; exact nz.2) S3 q⟩
def tbI (c : Int) (b d : Addr) (H : Hp) (i : Nat) (σ : St) (H' : Hp) : Prop := ∃ rows : List Row, (∃ o1 o2, σ = [some (.int c), some (.ref b), some (.ref d), o1, o2]) ∧ Same H H' ∧ H' d = some (.dT (dOf rows)) ∧ rows.length ≤ i ∧ ∀ r ∈ rows, isName r.1.1 = true ∧ inW r.2 = true ∧ r.2 ≠ 0
theorem rdp__law_table {c : Int} {b : Addr} {us : List Str} (h1 : NamesAt H b us) (h2 : us.length = 2) (q : ∀ l tab H', Same H H' → LsAt H' l tab → TabI tab → Q (.ref l) H') :
    rd__law_table K t { nx := fun _ H' => Q .non H', rt := Q } (L2.start ["cell", "shelves", "worths", "k", "worth"] [.int c, .ref b]) H := by
  simp only [rd__law_table, sp__law_draw, sp__law_number, sDPut, tDNewT, tItems, cSrtI, L2.start, tSeq, tAsg, gName, tRet, tNext, tOp, tVar, tC, tTup, tCons, tNil, tFor, tIfS, tTest, tCB, tCall, iRng1, rIxL, rNe, rI, rI0, scal, List.map, List.replicate, List.length, List.append, List.cons_append, List.nil_append, List.append_nil, List.getElem?_cons_zero, List.getElem?_cons_succ, Option.some.injEq, exists_eq_left', exists_eq_left, V.int.injEq, V.ref.injEq, V.str.injEq, V.bl.injEq, V.ty.injEq, List.cons.injEq, and_true, true_and, and_assoc, exists_and_left, List.set_cons_zero, List.set_cons_succ, Nat.reduceSub, Nat.reduceAdd, decide_eq_true_eq, Bool.not_eq_true', decide_eq_false_iff_not, Int.reduceToNat, Int.reducePow, Int.reduceNeg, Int.reduceMul, Int.reduceAdd, if_true, ite_true, Bool.false_eq_true, ite_false, if_false]
  intro d hd
  have s0 := isV (o := HO.dT []) d hd
  refine ⟨by decide, by decide, fun r1 H1 a1 b1 s1 => ⟨by decide, by omega, by omega, loop_range (tbI c b d H) ⟨[], ⟨_, _, rfl⟩, s0.trans s1, s1 _ _ upd_same, Nat.le_refl _, fun _ z => nomatch z⟩ ?_ ?_⟩⟩
  · rintro i σ H' hi ⟨rows, ⟨o1, o2, rfl⟩, s, hD, hl, hr⟩
    simp only [sDPut, tDNewT, tItems, cSrtI, L2.start, tSeq, tAsg, gName, tRet, tNext, tOp, tVar, tC, tTup, tCons, tNil, tFor, tIfS, tTest, tCB, tCall, iRng1, rIxL, rNe, rI, rI0, scal, List.map, List.replicate, List.length, List.append, List.cons_append, List.nil_append, List.append_nil, List.getElem?_cons_zero, List.getElem?_cons_succ, Option.some.injEq, exists_eq_left', exists_eq_left, V.int.injEq, V.ref.injEq, V.str.injEq, V.bl.injEq, V.ty.injEq, List.cons.injEq, and_true, true_and, and_assoc, exists_and_left, List.set_cons_zero, List.set_cons_succ, Nat.reduceSub, Nat.reduceAdd, decide_eq_true_eq, Bool.not_eq_true', decide_eq_false_iff_not, Int.reduceToNat, Int.reducePow, Int.reduceNeg, Int.reduceMul, Int.reduceAdd, if_true, ite_true, Bool.false_eq_true, ite_false, if_false]
    have hb : (10000000000000000000000000000000000000000000000 : Int) < big := by decide +kernel
    have i6 : i < 7 := by omega
    refine ⟨⟨by omega, by omega⟩, by omega, by omega, fun w H2 hw s2 => ?_⟩
    refine ite2 (fun h0 => ?_) fun h0 => ⟨rows, ⟨_, _, rfl⟩, s.trans s2, s2 _ _ hD, by omega, hr⟩
    refine ⟨by omega, by omega, fun r2 H3 a2 b2 s3 => ⟨by decide, ?_⟩⟩
    obtain ⟨sh, hsh, hus, nsh⟩ := names_at h1 2 h2 (by decide) r2
    refine ⟨_, SqL.of ((s.trans (s2.trans s3)) _ _ h1.1), _, hsh, by omega, by omega, fun r3 H4 a3 b3 s4 => ⟨by decide, by decide, fun p hp => ?_⟩⟩
    have s5 := isV (o := HO.tup [V.str sh, V.int (r3 % 4 - 1)]) p hp
    have S5 := s2.trans (s3.trans (s4.trans s5))
    have ld := len_dOf rows
    refine ⟨_, DPut.t (k := plKey (sh, r3 % 4 - 1)) (S5 _ _ hD) upd_same (Nat.lt_of_le_of_lt (by omega : _ ≤ 900) (by decide)), rows ++ [((sh, r3 % 4 - 1), w)], ⟨_, _, rfl⟩, same_upd (s.trans S5) hd, ?_, by simp; omega, ?_⟩
    · rw [upd_same, dOf_snoc]
    · intro z hz
      rcases List.mem_append.mp hz with hz | hz
      · exact hr z hz
      · rw [List.mem_singleton.mp hz]
        exact ⟨nsh, hw, by simpa using h0⟩
  · rintro σ H' ⟨rows, ⟨o1, o2, rfl⟩, s, hD, hl, hr⟩
    simp only [sDPut, tDNewT, tItems, cSrtI, L2.start, tSeq, tAsg, gName, tRet, tNext, tOp, tVar, tC, tTup, tCons, tNil, tFor, tIfS, tTest, tCB, tCall, iRng1, rIxL, rNe, rI, rI0, scal, List.map, List.replicate, List.length, List.append, List.cons_append, List.nil_append, List.append_nil, List.getElem?_cons_zero, List.getElem?_cons_succ, Option.some.injEq, exists_eq_left', exists_eq_left, V.int.injEq, V.ref.injEq, V.str.injEq, V.bl.injEq, V.ty.injEq, List.cons.injEq, and_true, true_and, and_assoc, exists_and_left, List.set_cons_zero, List.set_cons_succ, Nat.reduceSub, Nat.reduceAdd, decide_eq_true_eq, Bool.not_eq_true', decide_eq_false_iff_not, Int.reduceToNat, Int.reducePow, Int.reduceNeg, Int.reduceMul, Int.reduceAdd, if_true, ite_true, Bool.false_eq_true, ite_false, if_false]
    refine ⟨_, hD, fun r hr' => ?_⟩
    have s3 := isV (o := viewO r d) r hr'
    have ld := len_dOf rows
    refine ⟨d, upd_same, rows, s3 _ _ hD, by omega, fun l ys srt H2 s4 fl hl pr ri mi => q l srt H2 (s.trans (s3.trans s4)) ⟨ys, hl, pr⟩ ⟨ri, fun z hz => hr z (last_mem ((mi z.1 z.2).mp hz)), ?_⟩⟩
    have := nd_len_le (a := srt.map (·.1)) (b := rows.map (·.1)) ri.nd fun p hp => by
      obtain ⟨z, hz, rfl⟩ := List.mem_map.mp hp
      exact List.mem_map.mpr ⟨_, last_mem ((mi z.1 z.2).mp hz), rfl⟩
    rw [List.length_map, List.length_map] at this
    omega
theorem cat_le {n : Nat} (h : n ≤ 900) : n ≤ sizeLine := Nat.le_trans h (by decide)
theorem tm_ne {e : List V} (h : TmV e) : e ≠ [] := fun z => by
  subst z
  obtain ⟨r, g⟩ := h.1.1 []
  have := g.1 []
  cases r with
  | ok i => exact absurd (Except.ok.inj this) (by simp)
  | error x => cases this
def zrV (z : Str) (H : Hp) (v : V) : Prop := ∃ p e, v = .ref p ∧ H p = some (.tup e) ∧ TmV e ∧ e.length ≤ 3 ∧ TZ z e
theorem rdp__law_nought {c : Int} {a : Addr} {x y z : Str} (h1 : NamesAt H a [x, y, z]) (q : ∀ p e H', Same H H' → H' p = some (.tup e) → TmV e → e.length ≤ 5 → TB z .nought e → Q (.ref p) H') :
    rd__law_nought K t { nx := fun _ H' => Q .non H', rt := Q } (L2.start ["cell", "slots", "some", "word"] [.int c, .ref a]) H := by
  simp only [rd__law_nought, sp__law_draw, sp__law_part, L2.start, rCatT, tSeq, tAsg, gName, tRet, tOp, tVar, tC, tLst, tTup, tCons, tNil, tCall, rIxL, rI, List.map, List.replicate, List.length, List.append, List.cons_append, List.nil_append, List.append_nil, List.getElem?_cons_zero, List.getElem?_cons_succ, Option.some.injEq, exists_eq_left', exists_eq_left, V.int.injEq, V.ref.injEq, V.str.injEq, V.bl.injEq, V.ty.injEq, List.cons.injEq, and_true, true_and, and_assoc, exists_and_left, List.set_cons_zero, List.set_cons_succ, Nat.reduceSub, Nat.reduceAdd, decide_eq_true_eq, Bool.not_eq_true', decide_eq_false_iff_not, Int.reduceToNat, Int.reducePow, Int.reduceNeg, Int.reduceMul, Int.reduceAdd, if_true, ite_true, Bool.false_eq_true, ite_false, if_false]
  have nx : isName x = true := h1.2 x (by simp)
  have nz : isName z = true := h1.2 z (by simp)
  refine ⟨by decide, fun p1 g1 => ?_⟩
  obtain ⟨H1, e1, s1, q1⟩ := new_obj (o := HO.tup [V.int 0]) g1
  rw [← e1]; clear e1 g1
  refine ⟨_, SqL.of (s1 _ _ h1.1), _, rfl, by decide, fun p2 g2 => ?_⟩
  obtain ⟨H2, e2, s2, q2⟩ := new_obj (o := HO.tup [V.str z]) g2
  rw [← e2]; clear e2 g2
  have S2 := s1.trans s2
  refine ⟨_, SqL.of (S2 _ _ h1.1), _, rfl, _, SqL.of (S2 _ _ h1.1), _, rfl, by decide, fun p3 g3 => ?_⟩
  obtain ⟨H3, e3, s3, q3⟩ := new_obj (o := HO.tup [V.str x, V.str x, V.str (Str.ofString "minus")]) g3
  rw [← e3]; clear e3 g3
  have S3 := S2.trans s3
  refine ⟨_, SqL.of (S3 _ _ h1.1), _, rfl, by decide, fun p4 g4 => ?_⟩
  obtain ⟨H4, e4, s4, q4⟩ := new_obj (o := HO.tup [V.str z, V.int 0, V.str (Str.ofString "times")]) g4
  rw [← e4]; clear e4 g4
  refine ⟨by decide, fun p5 g5 => ?_⟩
  obtain ⟨H5, e5, s5, q5⟩ := new_obj (o := HO.tup [V.int 3, V.int 2, V.str (Str.ofString "under")]) g5
  rw [← e5]; clear e5 g5
  refine ⟨by decide, fun l g6 => ?_⟩
  obtain ⟨H6, e6, s6, q6⟩ := new_obj (o := HO.lst [V.ref p1, V.ref p2, V.ref p3, V.ref p4, V.ref p5]) g6
  rw [← e6]; clear e6 g6
  have S6 := S3.trans (s4.trans (s5.trans s6))
  have all : ∀ v ∈ [V.ref p1, V.ref p2, V.ref p3, V.ref p4, V.ref p5], zrV z H6 v := fun v hv => by
    simp only [List.mem_cons, List.not_mem_nil, or_false] at hv
    rcases hv with rfl | rfl | rfl | rfl | rfl
    · exact ⟨p1, _, rfl, s6 _ _ (s5 _ _ (s4 _ _ (s3 _ _ (s2 _ _ q1)))), tm_leaf (lf_int rfl), by simp, tz_int z⟩
    · exact ⟨p2, _, rfl, s6 _ _ (s5 _ _ (s4 _ _ (s3 _ _ q2))), tm_leaf (lf_str nz), by simp, tz_z nz⟩
    · exact ⟨p3, _, rfl, s6 _ _ (s5 _ _ (s4 _ _ q3)), tm_tri (lf_str nx) (lf_str nx) jw_minus.j jw_minus.l jw_minus.s, by simp, tz_minus nx⟩
    · exact ⟨p4, _, rfl, s6 _ _ (s5 _ _ q4), tm_tri (lf_str nz) (lf_int rfl) jw_times.j jw_times.l jw_times.s, by simp, tz_times nz⟩
    · exact ⟨p5, _, rfl, s6 _ _ q5, tm_tri (lf_int (by decide +kernel)) (lf_int (by decide +kernel)) jw_under.j jw_under.l jw_under.s, by simp, tz_under z⟩
  clear q1 q2 q3 q4 q5 s1 s2 s3 s4 s5 s6
  refine ⟨by decide, fun l2 g7 => ?_⟩
  obtain ⟨H7, e7, s7, q7⟩ := new_obj (o := HO.lst [V.str (Str.ofString "over"), V.str (Str.ofString "rest")]) g7
  rw [← e7]; clear e7 g7
  refine ⟨by decide, by decide, fun r1 H8 a1 b1 s8 => ⟨by decide, ?_⟩⟩
  obtain ⟨u, hu, hm⟩ := at_mod r1 2 (xs := [V.str (Str.ofString "over"), V.str (Str.ofString "rest")]) rfl (by decide)
  obtain ⟨w, rfl, jw, dw⟩ : ∃ w : Str, u = .str w ∧ JW w ∧ isDiv w := by
    simp only [List.mem_cons, List.not_mem_nil, or_false] at hm
    rcases hm with rfl | rfl
    · exact ⟨_, rfl, jw_over, by decide +kernel⟩
    · exact ⟨_, rfl, jw_rest, by decide +kernel⟩
  have S8 := S6.trans (s7.trans s8)
  refine ⟨_, SqL.of (s8 _ _ q7), _, hu, by decide, by decide, x, y, z, h1.same S8, fun p v H9 lv s9 fp hp => ⟨by decide, by decide, fun r2 H10 a2 b2 s10 => ⟨by decide, ?_⟩⟩⟩
  obtain ⟨v5, hv5, hm5⟩ := at_mod r2 5 (xs := [V.ref p1, V.ref p2, V.ref p3, V.ref p4, V.ref p5]) rfl (by decide)
  obtain ⟨p6, e, rfl, he, te, le, tz⟩ := all v5 hm5
  have T := s7.trans (s8.trans (s9.trans s10))
  refine ⟨_, SqL.of (T _ _ q6), _, hv5, _, rfl, _, SqT.of (s10 _ _ hp), _, SqT.of (T _ _ he), by simp, cat_le (by simp; omega), fun n => absurd n (tm_ne te), fun _ p7 g7 => ?_⟩
  obtain ⟨H11, e11, s11, q11⟩ := new_obj (o := HO.tup ([v] ++ e)) g7
  rw [← e11]; clear e11 g7
  refine ⟨by decide, fun p8 g8 => ?_⟩
  have s12 := isV (o := HO.tup [V.str w]) p8 g8
  refine ⟨_, SqT.of (s12 _ _ q11), _, SqT.of upd_same, by simp, cat_le (by simp; omega), fun n => absurd n (by simp), fun _ p9 g9 => ?_⟩
  exact q p9 ([v] ++ e ++ [.str w]) _ (S6.trans (T.trans (s11.trans (s12.trans (isV p9 g9))))) upd_same (tm_join (tm_leaf lv) te jw.j jw.l jw.s (by simp; omega)) (by simp; omega) (tb_nought lv tz jw.j dw)
def grV (H : Hp) (v : V) : Prop := ∃ p e, v = .ref p ∧ H p = some (.tup e) ∧ TmV e ∧ e.length ≤ 3 ∧ ∀ z, TB z .great e
theorem gr_of {H : Hp} {p : Addr} {a b : Int} {w : Str} (h : H p = some (.tup [.int a, .int b, .str w])) (ha : inW a = true) (hb : inW b = true) (jw : JW w) (e : joinE w a b = .error .great) : grV H (.ref p) :=
  ⟨p, _, rfl, h, tm_tri (lf_int ha) (lf_int hb) jw.j jw.l jw.s, by simp, fun z => tb_tri ha hb jw.j e z⟩
theorem grV.same {H H' : Hp} {v : V} (h : grV H v) (s : Same H H') : grV H' v := by
  obtain ⟨p, e, h1, h2, h3⟩ := h
  exact ⟨p, e, h1, s _ _ h2, h3⟩
theorem rdp_great2 {c hg : Int} {l : Addr} {xs : List V} {Hb : Hp} (hl : H l = some (.lst xs)) (lx : xs.length = 4) (hx : ∀ v ∈ xs, grV H v) (sb : Same Hb H) (eh : hg = 1000000000000000000000000000000) (q : ∀ p e H', Same Hb H' → H' p = some (.tup e) → TmV e → e.length ≤ 3 → (∀ z, TB z .great e) → Q (.ref p) H') :
    rd__law_great_2 K t { nx := fun _ H' => Q .non H', rt := Q } [some (.int c), some (.int hg), some (.ref l)] H := by
  subst eh
  simp only [rd__law_great_2, sp__law_draw, rCat, L2.start, tSeq, tAsg, gName, tRet, tOp, tUn, tVar, tC, tLst, tTup, tCons, tNil, tCall, rCat, rIxL, rI, rI0, rU, List.map, List.replicate, List.length, List.append, List.cons_append, List.nil_append, List.append_nil, List.getElem?_cons_zero, List.getElem?_cons_succ, Option.some.injEq, exists_eq_left', exists_eq_left, V.int.injEq, V.ref.injEq, V.str.injEq, V.bl.injEq, V.ty.injEq, List.cons.injEq, and_true, true_and, and_assoc, exists_and_left, List.set_cons_zero, List.set_cons_succ, Nat.reduceSub, Nat.reduceAdd, decide_eq_true_eq, Bool.not_eq_true', decide_eq_false_iff_not, Int.reduceToNat, Int.reducePow, Int.reduceNeg, Int.reduceMul, Int.reduceAdd, if_true, ite_true, Bool.false_eq_true, ite_false, if_false]
  have P15 := pow10 (j := 15) (by decide) (by decide)
  refine ⟨P15, P15, by decide, fun p1 g1 => ?_⟩
  obtain ⟨H1, e1, s1, q1⟩ := new_obj (o := HO.tup [V.int 1000000000000000, V.int 1000000000000001, V.str (Str.ofString "times")]) g1
  rw [← e1]; clear e1 g1
  refine ⟨by decide, fun p2 g2 => ?_⟩
  obtain ⟨H2, e2, s2, q2⟩ := new_obj (o := HO.tup [V.int 1000000000000000000000000000000, V.int 1000000000000000000000000000000, V.str (Str.ofString "times")]) g2
  rw [← e2]; clear e2 g2
  refine ⟨by decide, fun p3 g3 => ?_⟩
  obtain ⟨H3, e3, s3, q3⟩ := new_obj (o := HO.tup [V.int (-1000000000000000000000000000000), V.int 2, V.str (Str.ofString "times")]) g3
  rw [← e3]; clear e3 g3
  refine ⟨by decide, fun m g4 => ?_⟩
  obtain ⟨H4, e4, s4, q4⟩ := new_obj (o := HO.lst [V.ref p1, V.ref p2, V.ref p3]) g4
  rw [← e4]; clear e4 g4
  have S4 := s1.trans (s2.trans (s3.trans s4))
  refine ⟨_, S4 _ _ hl, _, q4, cat_le (by simp [lx]), fun l2 g5 => ?_⟩
  have s5 := isV (o := HO.lst (xs ++ [V.ref p1, V.ref p2, V.ref p3])) l2 g5
  have all : ∀ v ∈ xs ++ [V.ref p1, V.ref p2, V.ref p3], grV H4 v := fun v hv => by
    rcases List.mem_append.mp hv with hv | hv
    · exact (hx v hv).same S4
    · simp only [List.mem_cons, List.not_mem_nil, or_false] at hv
      rcases hv with rfl | rfl | rfl
      · exact gr_of (s4 _ _ (s3 _ _ (s2 _ _ q1))) (by decide +kernel) (by decide +kernel) jw_times (je_great (by decide +kernel) (by decide +kernel))
      · exact gr_of (s4 _ _ (s3 _ _ q2)) (by decide +kernel) (by decide +kernel) jw_times (je_great (by decide +kernel) (by decide +kernel))
      · exact gr_of (s4 _ _ q3) (by decide +kernel) (by decide +kernel) jw_times (je_great (by decide +kernel) (by decide +kernel))
  refine ⟨by decide, by decide, fun r1 H6 a1 b1 s6 => ⟨by decide, ?_⟩⟩
  obtain ⟨v, hv, hm⟩ := at_mod r1 7 (xs := xs ++ [V.ref p1, V.ref p2, V.ref p3]) (by simp [lx]) (by decide)
  obtain ⟨p, e, rfl, he, te, le, tb⟩ := all v hm
  exact ⟨_, SqL.of (s6 _ _ upd_same), _, hv, q p e H6 (sb.trans (S4.trans (s5.trans s6))) (s6 _ _ (s5 _ _ he)) te le tb⟩
theorem rdp__law_great {c : Int} (q : ∀ p e H', Same H H' → H' p = some (.tup e) → TmV e → e.length ≤ 3 → (∀ z, TB z .great e) → Q (.ref p) H') :
    rd__law_great K t { nx := fun _ H' => Q .non H', rt := Q } (L2.start ["cell", "high", "some"] [.int c]) H := by
  simp only [rd__law_great, rCat, L2.start, tSeq, tAsg, gName, tRet, tOp, tUn, tVar, tC, tLst, tTup, tCons, tNil, tCall, rCat, rIxL, rI, rI0, rU, List.map, List.replicate, List.length, List.append, List.cons_append, List.nil_append, List.append_nil, List.getElem?_cons_zero, List.getElem?_cons_succ, Option.some.injEq, exists_eq_left', exists_eq_left, V.int.injEq, V.ref.injEq, V.str.injEq, V.bl.injEq, V.ty.injEq, List.cons.injEq, and_true, true_and, and_assoc, exists_and_left, List.set_cons_zero, List.set_cons_succ, Nat.reduceSub, Nat.reduceAdd, decide_eq_true_eq, Bool.not_eq_true', decide_eq_false_iff_not, Int.reduceToNat, Int.reducePow, Int.reduceNeg, Int.reduceMul, Int.reduceAdd, if_true, ite_true, Bool.false_eq_true, ite_false, if_false]
  refine ⟨pow10 (by decide) (by decide), by decide, fun p1 g1 => ?_⟩
  obtain ⟨H1, e1, s1, q1⟩ := new_obj (o := HO.tup [V.int 1000000000000000000000000000000, V.int 1, V.str (Str.ofString "plus")]) g1
  rw [← e1]; clear e1 g1
  refine ⟨by decide, fun p2 g2 => ?_⟩
  obtain ⟨H2, e2, s2, q2⟩ := new_obj (o := HO.tup [V.int (-1), V.int (-1000000000000000000000000000000), V.str (Str.ofString "plus")]) g2
  rw [← e2]; clear e2 g2
  refine ⟨by decide, fun p3 g3 => ?_⟩
  obtain ⟨H3, e3, s3, q3⟩ := new_obj (o := HO.tup [V.int (-1000000000000000000000000000000), V.int 1, V.str (Str.ofString "minus")]) g3
  rw [← e3]; clear e3 g3
  refine ⟨by decide, fun p4 g4 => ?_⟩
  obtain ⟨H4, e4, s4, q4⟩ := new_obj (o := HO.tup [V.int 1, V.int (-1000000000000000000000000000000), V.str (Str.ofString "minus")]) g4
  rw [← e4]; clear e4 g4
  refine ⟨by decide, fun l g5 => ?_⟩
  have s5 := isV (o := HO.lst [V.ref p1, V.ref p2, V.ref p3, V.ref p4]) l g5
  refine rdp_great2 upd_same rfl (fun v hv => ?_) (s1.trans (s2.trans (s3.trans (s4.trans s5)))) rfl q
  simp only [List.mem_cons, List.not_mem_nil, or_false] at hv
  rcases hv with rfl | rfl | rfl | rfl
  · exact gr_of (s5 _ _ (s4 _ _ (s3 _ _ (s2 _ _ q1)))) (by decide +kernel) (by decide +kernel) jw_plus (je_great (by decide +kernel) (by decide +kernel))
  · exact gr_of (s5 _ _ (s4 _ _ (s3 _ _ q2))) (by decide +kernel) (by decide +kernel) jw_plus (je_great (by decide +kernel) (by decide +kernel))
  · exact gr_of (s5 _ _ (s4 _ _ q3)) (by decide +kernel) (by decide +kernel) jw_minus (je_great (by decide +kernel) (by decide +kernel))
  · exact gr_of (s5 _ _ q4) (by decide +kernel) (by decide +kernel) jw_minus (je_great (by decide +kernel) (by decide +kernel))
theorem rdp__law_bad {c : Int} {a : Addr} {x y z : Str} (h1 : NamesAt H a [x, y, z]) (q : ∀ r w p e H', Same H H' → H' r = some (.tup [.str w, .ref p]) → H' p = some (.tup e) → TmV e → bad z w e → Q (.ref r) H') :
    rd__law_bad K t { nx := fun _ H' => Q .non H', rt := Q } (L2.start ["cell", "slots", "way"] [.int c, .ref a]) H := by
  simp only [rd__law_bad, sp__law_draw, sp__law_nought, sp__law_great, L2.start, rCatT, tSeq, tAsg, gName, tRet, tNext, tOp, tVar, tC, tTup, tCons, tNil, tIfS, tTest, tCall, rEq, rI, rI0, scal, List.map, List.replicate, List.length, List.append, List.cons_append, List.nil_append, List.append_nil, List.getElem?_cons_zero, List.getElem?_cons_succ, Option.some.injEq, exists_eq_left', exists_eq_left, V.int.injEq, V.ref.injEq, V.str.injEq, V.bl.injEq, V.ty.injEq, List.cons.injEq, and_true, true_and, and_assoc, exists_and_left, List.set_cons_zero, List.set_cons_succ, Nat.reduceSub, Nat.reduceAdd, decide_eq_true_eq, Bool.not_eq_true', decide_eq_false_iff_not, Int.reduceToNat, Int.reducePow, Int.reduceNeg, Int.reduceMul, Int.reduceAdd, if_true, ite_true, Bool.false_eq_true, ite_false, if_false]
  refine ⟨by decide, by decide, fun r1 H1 a1 b1 s1 => ⟨by decide, ?_⟩⟩
  refine ite2 (fun _ => ⟨x, y, z, h1.same s1, fun p e H2 s2 hp te le tb => ⟨by decide, fun r hr => ?_⟩⟩) fun _ => ite2 (fun _ => fun p e H2 s2 hp te le tb => ⟨by decide, fun r hr => ?_⟩) fun _ => ite2 (fun _ => ?_) fun _ => ?_
  · exact q r "nought" p e _ (s1.trans (s2.trans (isV r hr))) upd_same (isV r hr _ _ hp) te (.inr ⟨rfl, tb⟩)
  · exact q r "great" p e _ (s1.trans (s2.trans (isV r hr))) upd_same (isV r hr _ _ hp) te (.inl ⟨rfl, tb z⟩)
  · intro p e H2 s2 hp te le tb
    refine ⟨x, y, z, h1.same (s1.trans s2), fun p2 e2 H3 s3 hp2 te2 le2 tb2 => ?_⟩
    refine ⟨_, SqT.of (s3 _ _ hp), _, SqT.of hp2, tm_ne te, cat_le (by omega), fun n => absurd n (tm_ne te2), fun _ p3 g3 => ?_⟩
    have s4 := isV (o := HO.tup (e ++ e2)) p3 g3
    refine ⟨by decide, fun p4 g4 => ?_⟩
    have s5 := isV (o := HO.tup [V.str (Str.ofString "plus")]) p4 g4
    refine ⟨_, SqT.of (s5 _ _ upd_same), _, SqT.of upd_same, by simp [tm_ne te], cat_le (by simp; omega), fun n => absurd n (by simp), fun _ p5 g5 => ⟨by decide, fun r hr => ?_⟩⟩
    have s6 := isV (o := HO.tup (e ++ e2 ++ [V.str (Str.ofString "plus")])) p5 g5
    exact q r "great" p5 (e ++ e2 ++ [.str "plus"]) _ (s1.trans (s2.trans (s3.trans (s4.trans (s5.trans (s6.trans (isV r hr))))))) upd_same (isV r hr _ _ upd_same) (tm_join te te2 jw_plus.j jw_plus.l jw_plus.s (by omega)) (.inl ⟨rfl, tb_first jw_plus.j (tb z) te2⟩)
  · refine ⟨x, y, z, h1.same s1, fun p e H2 s2 hp te le tb p2 e2 H3 s3 hp2 te2 le2 tb2 => ?_⟩
    refine ⟨_, SqT.of (s3 _ _ hp), _, SqT.of hp2, tm_ne te, cat_le (by omega), fun n => absurd n (tm_ne te2), fun _ p3 g3 => ?_⟩
    have s4 := isV (o := HO.tup (e ++ e2)) p3 g3
    refine ⟨by decide, fun p4 g4 => ?_⟩
    have s5 := isV (o := HO.tup [V.str (Str.ofString "same")]) p4 g4
    refine ⟨_, SqT.of (s5 _ _ upd_same), _, SqT.of upd_same, by simp [tm_ne te], cat_le (by simp; omega), fun n => absurd n (by simp), fun _ p5 g5 => ⟨by decide, fun r hr => ?_⟩⟩
    have s6 := isV (o := HO.tup (e ++ e2 ++ [V.str (Str.ofString "same")])) p5 g5
    exact q r "nought" p5 (e ++ e2 ++ [.str "same"]) _ (s1.trans (s2.trans (s3.trans (s4.trans (s5.trans (s6.trans (isV r hr))))))) upd_same (isV r hr _ _ upd_same) (tm_join te te2 jw_same.j jw_same.l jw_same.s (by omega)) (.inr ⟨rfl, tb_first jw_same.j tb te2⟩)
theorem bad_w {z w : Str} {e : List V} (h : bad z w e) : wOk w := by
  rcases h with ⟨rfl, _⟩ | ⟨rfl, _⟩
  · exact .inr (.inl rfl)
  · exact .inr (.inr rfl)
theorem in_int {i : Int} (h : -1000000000000000000000000000000 ≤ i ∧ i ≤ 1000000000000000000000000000000) : lfV (.int i) := lf_int (inW_iff.mpr h)
theorem rws1_ok {r : Rw} (h : RwOk r) : RwsOk (.cons r .nil) := by unfold RwsOk; exact ⟨h, by unfold RwsOk; trivial⟩
theorem rws1_pl {r : Rw} (h : RwPl r) : RwsPl (.cons r .nil) := by unfold RwsPl; exact ⟨h, by unfold RwsPl; trivial⟩
theorem rws1_at {F : Addr → Prop} {v : V} {r : Rw} (h : RwAt F H v r) : RwsAt F H [v] (.cons r .nil) := by unfold RwsAt; exact ⟨v, [], rfl, h, by unfold RwsAt; rfl⟩
def tnV (z : Str) (H : Hp) (v : V) : Prop := ∃ p e, v = .ref p ∧ H p = some (.tup e) ∧ TmV e ∧ TN z e
theorem rdp_brk10 {c k : Int} {a b p2 p3 : Addr} {w w2 : Str} {x y z : Str} {Hb : Hp} (h1 : NamesAt H a [x, y, z]) (sb : Same Hb H) (q : ∀ r w v rw H', Same Hb H' → H' r = some (.tup [.str w, v]) → RwAt anyA H' v rw → brV z w rw → wOk w → Q (.ref r) H') :
    rd__law_breaker_10 K t { nx := fun _ H' => Q .non H', rt := Q } [some (.int c), some (.ref a), some (.ref b), some (.str w), some (.ref p2), some (.str w2), some (.ref p3), some (.int k), none] H := by
  simp only [rd__law_breaker_10, sp__law_draw, L2.start, r_mt_append, rAppend, tSeq, tAsg, gName, tRet, tDrop, tOp, tUn, tVar, tC, tLst, tTup, tCons, tNil, tBM, tyV, tCall, rIxL, rI, rI0, rU, List.map, List.replicate, List.length, List.append, List.cons_append, List.nil_append, List.append_nil, List.getElem?_cons_zero, List.getElem?_cons_succ, Option.some.injEq, exists_eq_left', exists_eq_left, V.int.injEq, V.ref.injEq, V.str.injEq, V.bl.injEq, V.ty.injEq, List.cons.injEq, and_true, true_and, and_assoc, exists_and_left, List.set_cons_zero, List.set_cons_succ, Nat.reduceSub, Nat.reduceAdd, decide_eq_true_eq, Bool.not_eq_true', decide_eq_false_iff_not, Int.reduceToNat, Int.reducePow, Int.reduceNeg, Int.reduceMul, Int.reduceAdd, if_true, ite_true, Bool.false_eq_true, ite_false, if_false]
  have nx : isName x = true := h1.2 x (by simp)
  have ny : isName y = true := h1.2 y (by simp)
  refine ⟨by decide, by decide, fun r1 H1 a1 b1 s1 => ⟨pow10 (by decide) (by decide), by decide, by decide, fun p1 g1 => ?_⟩⟩
  have m1 := Int.emod_nonneg r1 (b := 100000000) (by decide)
  have m2 := Int.emod_lt_of_pos r1 (b := 100000000) (by decide)
  obtain ⟨H2, e2, s2, q2⟩ := new_obj (o := HO.tup [V.int (1 + r1 % 100000000)]) g1
  rw [← e2]; clear e2 g1
  refine ⟨pow10 (by decide) (by decide), by decide, fun p4 g2 => ?_⟩
  obtain ⟨H3, e3, s3, q3⟩ := new_obj (o := HO.tup [V.int (-1000000000000000000000000000000)]) g2
  rw [← e3]; clear e3 g2
  have S3 := s1.trans (s2.trans s3)
  refine ⟨_, SqL.of (S3 _ _ h1.1), _, rfl, _, SqL.of (S3 _ _ h1.1), _, rfl, by decide, fun p5 g3 => ?_⟩
  obtain ⟨H4, e4, s4, q4⟩ := new_obj (o := HO.tup [V.str x, V.str x, V.str (Str.ofString "same")]) g3
  rw [← e4]; clear e4 g3
  refine ⟨by decide, fun l g4 => ?_⟩
  obtain ⟨H5, e5, s5, q5⟩ := new_obj (o := HO.lst [V.ref p1, V.ref p4, V.ref p5]) g4
  have fl : H l = none := fresh_of (S3.trans s4) g4
  rw [← e5]; clear e5 g4
  have S5 := S3.trans (s4.trans s5)
  refine ⟨.inl ⟨_, SqL.of q5⟩, _, SqL.of (S5 _ _ h1.1), _, rfl, pow10 (by decide) (by decide), by decide, fun p6 g5 => ?_⟩
  obtain ⟨H6, e6, s6, q6⟩ := new_obj (o := HO.tup [V.str y, V.int 1000000000000000000000000000000, V.str (Str.ofString "under"), V.int 2, V.str (Str.ofString "plus")]) g5
  rw [← e6]; clear e6 g5
  refine ⟨_, s6 _ _ q5, (by show 3 < sizeLine; decide), ?_⟩
  have ts := ts_upd (ys := ([V.ref p1, V.ref p4, V.ref p5] ++ [V.ref p6])) (s6 _ _ q5)
  have S7 : Same H (upd H6 l (.lst ([V.ref p1, V.ref p4, V.ref p5] ++ [V.ref p6]))) := same_upd (S5.trans s6) fl
  have hl : upd H6 l (.lst ([V.ref p1, V.ref p4, V.ref p5] ++ [V.ref p6])) l = some (.lst ([V.ref p1, V.ref p4, V.ref p5] ++ [V.ref p6])) := upd_same
  have all : ∀ v ∈ ([V.ref p1, V.ref p4, V.ref p5] ++ [V.ref p6]), tnV z (upd H6 l (.lst ([V.ref p1, V.ref p4, V.ref p5] ++ [V.ref p6]))) v := fun v hv => by
    simp only [List.cons_append, List.nil_append, List.mem_cons, List.not_mem_nil, or_false] at hv
    rcases hv with rfl | rfl | rfl | rfl
    · exact ⟨p1, _, rfl, ts _ _ (s6 _ _ (s5 _ _ (s4 _ _ (s3 _ _ q2)))), tm_leaf (in_int (by omega)), tn_int (by omega) z⟩
    · exact ⟨p4, _, rfl, ts _ _ (s6 _ _ (s5 _ _ (s4 _ _ q3))), tm_leaf (in_int (by omega)), tn_int (by decide) z⟩
    · exact ⟨p5, _, rfl, ts _ _ (s6 _ _ (s5 _ _ q4)), tm_tri (lf_str nx) (lf_str nx) jw_same.j jw_same.l jw_same.s, tn_same nx⟩
    · exact ⟨p6, _, rfl, ts _ _ q6, tm_five ny, tn_five ny⟩
  generalize upd H6 l (.lst ([V.ref p1, V.ref p4, V.ref p5] ++ [V.ref p6])) = H7 at *
  refine ⟨by decide, by decide, fun r2 H8 a2 b2 s8 => ⟨by decide, ?_⟩⟩
  obtain ⟨v, hv, hm⟩ := at_mod r2 4 (xs := ([V.ref p1, V.ref p4, V.ref p5] ++ [V.ref p6])) rfl (by decide)
  obtain ⟨p, e, rfl, he, te, tn⟩ := all v hm
  refine ⟨_, SqL.of (s8 _ _ hl), _, hv, by decide, fun r hr => ⟨by decide, fun r2 hr2 => ?_⟩⟩
  have s9 := isV (o := HO.tup [V.str (Str.ofString "off"), V.ref p]) r hr
  have s10 := isV (o := HO.tup [V.str (Str.ofString "told"), V.ref r]) r2 hr2
  refine q r2 "told" (.ref r) (.off e) _ (sb.trans (S7.trans (s8.trans (s9.trans s10)))) upd_same ?_ ⟨te.1, by simp [Rw.deep], by simp [Rw.cnt], te.2.1, bk_told tn⟩ (.inl rfl)
  exact ⟨r, p, rfl, trivial, trivial, s10 _ _ upd_same, s10 _ _ (s9 _ _ (s8 _ _ he))⟩
theorem rdp_brk3 {c k : Int} {a b p2 p3 : Addr} {w w2 : Str} {x y z u0 u1 : Str} {e f : List V} {Hb : Hp} (h1 : NamesAt H a [x, y, z]) (h2 : NamesAt H b [u0, u1]) (hp : H p2 = some (.tup e)) (te : TmV e) (be : bad z w e) (hf : H p3 = some (.tup f)) (tf : TmV f) (bf : bad z w2 f) (sb : Same Hb H) (q : ∀ r w v rw H', Same Hb H' → H' r = some (.tup [.str w, v]) → RwAt anyA H' v rw → brV z w rw → wOk w → Q (.ref r) H') :
    rd__law_breaker_3 K t { nx := fun _ H' => Q .non H', rt := Q } [some (.int c), some (.ref a), some (.ref b), some (.str w), some (.ref p2), some (.str w2), some (.ref p3), some (.int k), none] H := by
  simp only [rd__law_breaker_3, L2.start, r_mt_append, rAppend, tSeq, tAsg, gName, tRet, tDrop, tNext, tOp, tUn, tVar, tC, tLst, tTup, tCons, tNil, tIfS, tTest, tBM, tyV, tCall, rIxL, rEq, rI, rI0, rU, scal, List.map, List.replicate, List.length, List.append, List.cons_append, List.nil_append, List.append_nil, List.getElem?_cons_zero, List.getElem?_cons_succ, Option.some.injEq, exists_eq_left', exists_eq_left, V.int.injEq, V.ref.injEq, V.str.injEq, V.bl.injEq, V.ty.injEq, List.cons.injEq, and_true, true_and, and_assoc, exists_and_left, List.set_cons_zero, List.set_cons_succ, Nat.reduceSub, Nat.reduceAdd, decide_eq_true_eq, Bool.not_eq_true', decide_eq_false_iff_not, Int.reduceToNat, Int.reducePow, Int.reduceNeg, Int.reduceMul, Int.reduceAdd, if_true, ite_true, Bool.false_eq_true, ite_false, if_false]
  have nx : isName x = true := h1.2 x (by simp)
  have ny : isName y = true := h1.2 y (by simp)
  have n0 : isName u0 = true := h2.2 u0 (by simp)
  have n1 : isName u1 = true := h2.2 u1 (by simp)
  refine ite2 (fun _ => ?_) fun _ => ite2 (fun _ => ?_) fun _ => ite2 (fun _ => ?_) fun _ => ite2 (fun _ => ?_) fun _ => ite2 (fun _ => ?_) fun _ => ite2 (fun _ => ?_) fun _ => ite2 (fun _ => ?_) fun _ => rdp_brk10 h1 sb q
  · refine ⟨_, SqL.of h2.1, _, rfl, _, SqL.of h1.1, _, rfl, by decide, fun r hr => ⟨by decide, fun r2 hr2 => ?_⟩⟩
    have s1 := isV (o := HO.tup [V.str (Str.ofString "take"), V.str u0, V.ref p2, V.str x]) r hr
    have s2 := isV (o := HO.tup [V.str w, V.ref r]) r2 hr2
    refine q r2 w (.ref r) (.take u0 e x) _ (sb.trans (s1.trans s2)) upd_same ?_ ⟨te.1, by simp [Rw.deep], by simp [Rw.cnt], ⟨name_ok n0, te.2.1, name_ok nx⟩, bk_take be⟩ (bad_w be)
    exact ⟨r, p2, rfl, trivial, trivial, s2 _ _ upd_same, s2 _ _ (s1 _ _ hp)⟩
  · refine ⟨_, SqL.of h2.1, _, rfl, by decide, fun r hr => ⟨by decide, fun r2 hr2 => ?_⟩⟩
    have s1 := isV (o := HO.tup [V.str (Str.ofString "give"), V.str u1, V.ref p2, V.ref p3]) r hr
    have s2 := isV (o := HO.tup [V.str w, V.ref r]) r2 hr2
    refine q r2 w (.ref r) (.give u1 e f) _ (sb.trans (s1.trans s2)) upd_same ?_ ⟨⟨te.1, tf.1⟩, by simp [Rw.deep], by simp [Rw.cnt], ⟨name_ok n1, te.2.1, tf.2.1⟩, bk_give be⟩ (bad_w be)
    exact ⟨r, p2, p3, rfl, trivial, trivial, trivial, s2 _ _ upd_same, s2 _ _ (s1 _ _ hp), s2 _ _ (s1 _ _ hf)⟩
  · refine ⟨_, SqL.of h2.1, _, rfl, _, SqL.of h1.1, _, rfl, by decide, fun p4 g4 => ⟨by decide, fun r hr => ⟨by decide, fun r2 hr2 => ?_⟩⟩⟩
    have s0 := isV (o := HO.tup [V.str y]) p4 g4
    have s1 := isV (o := HO.tup [V.str (Str.ofString "give"), V.str u0, V.ref p4, V.ref p3]) r hr
    have s2 := isV (o := HO.tup [V.str w2, V.ref r]) r2 hr2
    have ty := tm_leaf (lf_str ny)
    refine q r2 w2 (.ref r) (.give u0 [.str y] f) _ (sb.trans (s0.trans (s1.trans s2))) upd_same ?_ ⟨⟨ty.1, tf.1⟩, by simp [Rw.deep], by simp [Rw.cnt], ⟨name_ok n0, ty.2.1, tf.2.1⟩, bk_give2 (lf_str ny) bf⟩ (bad_w bf)
    exact ⟨r, p4, p3, rfl, trivial, trivial, trivial, s2 _ _ upd_same, s2 _ _ (s1 _ _ upd_same), s2 _ _ (s1 _ _ (s0 _ _ hf))⟩
  · refine ⟨_, SqL.of h1.1, _, rfl, by decide, fun r hr => ⟨by decide, fun r2 hr2 => ?_⟩⟩
    have s1 := isV (o := HO.tup [V.str (Str.ofString "let"), V.str y, V.ref p2]) r hr
    have s2 := isV (o := HO.tup [V.str w, V.ref r]) r2 hr2
    refine q r2 w (.ref r) (.lt y e) _ (sb.trans (s1.trans s2)) upd_same ?_ ⟨te.1, by simp [Rw.deep], by simp [Rw.cnt], ⟨name_ok ny, te.2.1⟩, bk_let be⟩ (bad_w be)
    exact ⟨r, p2, rfl, trivial, trivial, s2 _ _ upd_same, s2 _ _ (s1 _ _ hp)⟩
  · refine ⟨by decide, fun r hr => ⟨by decide, fun r2 hr2 => ?_⟩⟩
    have s1 := isV (o := HO.tup [V.str (Str.ofString "say"), V.ref p2]) r hr
    have s2 := isV (o := HO.tup [V.str w, V.ref r]) r2 hr2
    refine q r2 w (.ref r) (.say e) _ (sb.trans (s1.trans s2)) upd_same ?_ ⟨te.1, by simp [Rw.deep], by simp [Rw.cnt], te.2.1, bk_say be⟩ (bad_w be)
    exact ⟨r, p2, rfl, trivial, trivial, s2 _ _ upd_same, s2 _ _ (s1 _ _ hp)⟩
  · refine ⟨by decide, fun r hr => ⟨by decide, fun r2 hr2 => ?_⟩⟩
    have s1 := isV (o := HO.tup [V.str (Str.ofString "off"), V.ref p2]) r hr
    have s2 := isV (o := HO.tup [V.str w, V.ref r]) r2 hr2
    refine q r2 w (.ref r) (.off e) _ (sb.trans (s1.trans s2)) upd_same ?_ ⟨te.1, by simp [Rw.deep], by simp [Rw.cnt], te.2.1, bk_off be⟩ (bad_w be)
    exact ⟨r, p2, rfl, trivial, trivial, s2 _ _ upd_same, s2 _ _ (s1 _ _ hp)⟩
  · refine ⟨by decide, fun p4 g4 => ?_⟩
    obtain ⟨H1, e1, s1, q1⟩ := new_obj (o := HO.tup [V.int 1]) g4
    rw [← e1]; clear e1 g4
    refine ⟨by decide, fun p5 g5 => ?_⟩
    obtain ⟨H2, e2, s2, q2⟩ := new_obj (o := HO.tup [V.str (Str.ofString "off"), V.ref p4]) g5
    rw [← e2]; clear e2 g5
    refine ⟨by decide, fun p6 g6 => ?_⟩
    obtain ⟨H3, e3, s3, q3⟩ := new_obj (o := HO.lst [V.ref p5]) g6
    rw [← e3]; clear e3 g6
    refine ⟨by decide, fun p7 g7 => ?_⟩
    obtain ⟨H4, e4, s4, q4⟩ := new_obj (o := HO.tup [V.int 2]) g7
    rw [← e4]; clear e4 g7
    refine ⟨by decide, fun p8 g8 => ?_⟩
    obtain ⟨H5, e5, s5, q5⟩ := new_obj (o := HO.tup [V.str (Str.ofString "say"), V.ref p7]) g8
    rw [← e5]; clear e5 g8
    refine ⟨by decide, fun p9 g9 => ?_⟩
    obtain ⟨H6, e6, s6, q6⟩ := new_obj (o := HO.lst [V.ref p8]) g9
    rw [← e6]; clear e6 g9
    refine ⟨by decide, fun r hr => ⟨by decide, fun r2 hr2 => ?_⟩⟩
    have s7 := isV (o := HO.tup [V.str (Str.ofString "if"), V.ref p2, V.ref p6, V.ref p9]) r hr
    have s8 := isV (o := HO.tup [V.str w, V.ref r]) r2 hr2
    have t1 := tm_leaf (in_int (i := 1) (by omega))
    have t2 := tm_leaf (in_int (i := 2) (by omega))
    have T := s7.trans s8
    refine q r2 w (.ref r) (.iff e (.cons (.off [.int 1]) .nil) (.cons (.say [.int 2]) .nil)) _ (sb.trans (s1.trans (s2.trans (s3.trans (s4.trans (s5.trans (s6.trans T))))))) upd_same ?_ ⟨⟨te.1, rws1_ok t1.1, rws1_ok t2.1⟩, by simp [Rw.deep, Rws.deep], by simp [Rw.cnt, Rws.cnt], ⟨te.2.1, rws1_pl t1.2.1, rws1_pl t2.2.1⟩, bk_iff be⟩ (bad_w be)
    have T3 := s3.trans (s4.trans (s5.trans (s6.trans T)))
    refine ⟨r, p2, p6, p9, _, _, rfl, trivial, trivial, trivial, trivial, s8 _ _ upd_same, (s1.trans (s2.trans T3)) _ _ hp, (s4.trans (s5.trans (s6.trans T))) _ _ q3, rws1_at ?_, T _ _ q6, rws1_at ?_⟩
    · exact ⟨p5, p4, rfl, trivial, trivial, T3 _ _ q2, (s2.trans T3) _ _ q1⟩
    · exact ⟨p8, p7, rfl, trivial, trivial, (s6.trans T) _ _ q5, (s5.trans (s6.trans T)) _ _ q4⟩
theorem rdp__law_breaker {c : Int} {a b : Addr} {x y z u0 u1 : Str} (h1 : NamesAt H a [x, y, z]) (h2 : NamesAt H b [u0, u1]) (q : ∀ r w v rw H', Same H H' → H' r = some (.tup [.str w, v]) → RwAt anyA H' v rw → brV z w rw → wOk w → Q (.ref r) H') :
    rd__law_breaker K t { nx := fun _ H' => Q .non H', rt := Q } (L2.start ["cell", "slots", "shelves", "why", "term", "other_why", "other", "kind", "some"] [.int c, .ref a, .ref b]) H := by
  simp only [rd__law_breaker, sp__law_draw, sp__law_bad, L2.start, r_mt_append, rAppend, tSeq, tAsg, gName, gTup, gCons, gNil, tRet, tDrop, tNext, tOp, tUn, tVar, tC, tLst, tTup, tCons, tNil, tIfS, tTest, tBM, tyV, tCall, rIxL, rEq, rI, rI0, rU, scal, List.map, List.replicate, List.length, List.append, List.cons_append, List.nil_append, List.append_nil, List.getElem?_cons_zero, List.getElem?_cons_succ, Option.some.injEq, exists_eq_left', exists_eq_left, V.int.injEq, V.ref.injEq, V.str.injEq, V.bl.injEq, V.ty.injEq, List.cons.injEq, and_true, true_and, and_assoc, exists_and_left, List.set_cons_zero, List.set_cons_succ, Nat.reduceSub, Nat.reduceAdd, decide_eq_true_eq, Bool.not_eq_true', decide_eq_false_iff_not, Int.reduceToNat, Int.reducePow, Int.reduceNeg, Int.reduceMul, Int.reduceAdd, if_true, ite_true, Bool.false_eq_true, ite_false, if_false]
  refine ⟨x, y, z, h1, fun r1 w p2 e H1 s1 hr1 hp te be => ⟨_, SqT.of hr1, rfl, _, _, rfl, _, _, rfl, rfl, ?_⟩⟩
  refine ⟨dB, pow10 (by decide) (by decide), by decide, x, y, z, h1.same s1, fun r2 w2 p3 f H2 s2 hr2 hf tf bf => ⟨_, SqT.of hr2, rfl, _, _, rfl, _, _, rfl, rfl, ?_⟩⟩
  refine ⟨by decide, by decide, fun r3 H3 a3 b3 s3 => ⟨by decide, ?_⟩⟩
  have S := s1.trans (s2.trans s3)
  exact rdp_brk3 (h1.same S) (h2.same S) ((s2.trans s3) _ _ hp) te be (s3 _ _ hf) tf bf S q
theorem row_hd {F : Addr → Prop} {v : V} {r : Rw} (h : RwAt F H v r) : ∃ p xs hd, v = .ref p ∧ H p = some (.tup xs) ∧ atI xs 0 = some (.str hd) ∧ (hd = "if" ∨ (hd ≠ "if" ∧ r.deep = 0)) := by
  cases r with
  | take sh e sl =>
    unfold RwAt at h
    obtain ⟨r, te, rfl, _, _, e2, e3⟩ := h
    exact ⟨r, _, _, rfl, e2, rfl, .inr ⟨by decide +kernel, by simp [Rw.deep]⟩⟩
  | give sh e f =>
    unfold RwAt at h
    obtain ⟨r, te, tf, rfl, _, _, _, e2, e3⟩ := h
    exact ⟨r, _, _, rfl, e2, rfl, .inr ⟨by decide +kernel, by simp [Rw.deep]⟩⟩
  | lt sl e =>
    unfold RwAt at h
    obtain ⟨r, te, rfl, _, _, e2, e3⟩ := h
    exact ⟨r, _, _, rfl, e2, rfl, .inr ⟨by decide +kernel, by simp [Rw.deep]⟩⟩
  | say e =>
    unfold RwAt at h
    obtain ⟨r, te, rfl, _, _, e2, e3⟩ := h
    exact ⟨r, _, _, rfl, e2, rfl, .inr ⟨by decide +kernel, by simp [Rw.deep]⟩⟩
  | off e =>
    unfold RwAt at h
    obtain ⟨r, te, rfl, _, _, e2, e3⟩ := h
    exact ⟨r, _, _, rfl, e2, rfl, .inr ⟨by decide +kernel, by simp [Rw.deep]⟩⟩
  | iff e a b =>
    unfold RwAt at h
    obtain ⟨r, te, la, lb, xs, ys, rfl, f1, f2, f3, f4, e2, e3⟩ := h
    exact ⟨r, _, _, rfl, e2, rfl, .inl rfl⟩
/-- the rows behind, none or one of them -/
structure Bh (H : Hp) (bs : List V) (beh : Rws) : Prop where
  at_ : RwsAt anyA H bs beh
  ok : RwsOk beh
  pl : RwsPl beh
  dp : beh.deep = 0
  ct : beh.cnt ≤ 1
theorem beh_cut {b : Addr} {bs : List V} {beh : Rws} (h : RwsAt anyA H bs beh) (ok : RwsOk beh) (pl : RwsPl beh) (dp : beh.deep = 0) (ct : beh.cnt = 2) (lb : bs.length = 2) (k : Nat) : ∃ cs b2, cutV bs none (some ((k : Int) % 2)) = cs ∧ cs.length ≤ 1 ∧ Bh H cs b2 := by
  have : ((k : Int) % 2 = (0 : Nat)) ∨ ((k : Int) % 2 = (1 : Nat)) := by omega
  rcases this with e | e <;> rw [e]
  · rw [cutV_to _ _ (by omega)]
    exact ⟨_, .nil, rfl, by simp, by unfold RwsAt; simp, by unfold RwsOk; trivial, by unfold RwsPl; trivial, by simp [Rws.deep], by simp [Rws.cnt]⟩
  · rw [cutV_to _ _ (by omega)]
    cases beh with
    | nil => simp [Rws.cnt] at ct
    | cons r rs =>
      unfold RwsAt at h
      obtain ⟨v, ws, rfl, e2, e3⟩ := h
      unfold RwsOk at ok
      unfold RwsPl at pl
      have d : (Rws.cons r rs).deep = max r.deep rs.deep := by rw [Rws.deep]
      rw [d] at dp
      have c : (Rws.cons r rs).cnt = r.cnt + rs.cnt := by rw [Rws.cnt]
      rw [c] at ct
      have l1 := RwsAt.len rs e3
      simp at lb
      have l2 : 1 ≤ rs.cnt := by omega
      refine ⟨[v], .cons r .nil, by simp, by simp, rws1_at e2, rws1_ok ok.1, rws1_pl pl.1, ?_, ?_⟩
      · simp [Rws.deep]; omega
      · simp [Rws.cnt]; omega
theorem Bh.same {H H' : Hp} {bs : List V} {beh : Rws} (h : Bh H bs beh) (s : Same H H') : Bh H' bs beh := ⟨h.at_.mono s, h.ok, h.pl, h.dp, h.ct⟩
def wiI (v : V) (c : Int) (b : Addr) (z w : Str) (d0 : Nat) (H : Hp) (i : Nat) (σ : St) (H' : Hp) : Prop := ∃ (p : Addr) (xs : List V) (rws : Rws), (∃ o, σ = [some v, some (.int c), some (.ref b), some (.ref p), o]) ∧ Same H H' ∧ H' p = some (.lst xs) ∧ xs.length ≤ 3 ∧ RwsAt anyA H' xs rws ∧ brsV z w (d0 + i) (4 + 2 * i) rws
theorem cons_brs {z w : Str} {d m : Nat} {r : Rw} {rs : Rws} (ok : RwOk r) (dp : r.deep ≤ d) (ct : r.cnt ≤ m) (pl : RwPl r) (bk : ∀ s, SF z s → resW w (goR r s)) (ok2 : RwsOk rs) (pl2 : RwsPl rs) (d2 : rs.deep = 0) (c2 : rs.cnt ≤ 1) : brsV z w d (m + 1) (.cons r rs) :=
  ⟨by unfold RwsOk; exact ⟨ok, ok2⟩, by rw [Rws.deep, d2]; omega, by rw [Rws.cnt]; omega, by unfold RwsPl; exact ⟨pl, pl2⟩, bk_cons bk⟩
theorem rdp_wi1 {pr b l : Addr} {c : Int} {fs bs xs : List V} {hd : Str} {rw : Rw} {R beh : Rws} {z w : Str} {Hb : Hp} (sb : Same Hb H) (e2 : Hb pr = some (.tup fs)) (e3 : atI fs 0 = some (.str hd)) (e4 : hd = "if" ∨ (hd ≠ "if" ∧ rw.deep = 0)) (h2 : brV z w rw) (h3 : Hb b = some (.lst bs)) (h4 : RwsAt anyA Hb bs beh) (h5 : RwsOk beh ∧ RwsPl beh ∧ beh.deep = 0 ∧ beh.cnt = 2 ∧ bs.length = 2)
    (hl : H l = some (.lst xs)) (lx : xs.length ≤ 3) (hx : RwsAt anyA H xs R) (hR : brsV z w rw.deep 4 R)
    (q : ∀ p xs rws H', Same Hb H' → H' p = some (.lst xs) → RwsAt anyA H' xs rws → brsV z w 5 14 rws → Q (.ref p) H') :
    rd__law_within_1 K t { nx := fun _ H' => Q .non H', rt := Q } [some (.ref pr), some (.int c), some (.ref b), some (.ref l), none] H := by
  obtain ⟨o2, p2, d2, c2, l2⟩ := h5
  simp only [rd__law_within_1, sp__law_draw, rCat, L2.start, cMin, cIntB, rIxT, tSeq, tAsg, gName, tRet, tOp, tUn, tVar, tC, tLst, tTup, tCons, tNil, tFor, tIfS, tTest, tCB, tSl, tPart, tNoPart, tCall, iRng1, rCat, rIxT, rEq, rI, rI0, rU, rSlL, scal, List.map, List.replicate, List.length, List.append, List.cons_append, List.nil_append, List.append_nil, List.getElem?_cons_zero, List.getElem?_cons_succ, Option.some.injEq, exists_eq_left', exists_eq_left, V.int.injEq, V.ref.injEq, V.str.injEq, V.bl.injEq, V.ty.injEq, List.cons.injEq, and_true, true_and, and_assoc, exists_and_left, List.set_cons_zero, List.set_cons_succ, Nat.reduceSub, Nat.reduceAdd, decide_eq_true_eq, Bool.not_eq_true', decide_eq_false_iff_not, Int.reduceToNat, Int.reducePow, Int.reduceNeg, Int.reduceMul, Int.reduceAdd, if_true, ite_true, Bool.false_eq_true, ite_false, if_false]
  refine ⟨by decide, by decide, fun r1 H3 a1 b1 s3 => ⟨by decide, _, SqT.of ((sb.trans s3) _ _ e2), _, e3, rfl, ?_⟩⟩
  have g1 := Int.emod_nonneg r1 (b := 6) (by decide)
  have g2 := Int.emod_lt_of_pos r1 (b := 6) (by decide)
  generalize hk : (if (5 - if V.str hd = V.str (Str.ofString "if") then (1 : Int) else 0) < r1 % 6 then (5 - if V.str hd = V.str (Str.ofString "if") then (1 : Int) else 0) else r1 % 6) = n
  have hn : 0 ≤ n ∧ n + rw.deep ≤ 5 := by
    have := h2.dp
    rcases e4 with e | ⟨n1, dp⟩
    · rw [if_pos (congrArg V.str e)] at hk
      split at hk <;> omega
    · rw [if_neg (fun z => n1 (V.str.inj z))] at hk
      split at hk <;> omega
  refine ⟨by omega, by omega, loop_range (wiI (.ref pr) c b z w rw.deep Hb) ⟨l, xs, R, ⟨_, rfl⟩, sb.trans s3, s3 _ _ hl, lx, hx.mono s3, by simpa using hR⟩ ?_ ?_⟩
  · rintro i σ H' hi ⟨p, ys, W, ⟨o, rfl⟩, s, hp, ly, hw, bw⟩
    simp only [rCat, L2.start, cMin, cIntB, rIxT, tSeq, tAsg, gName, tRet, tOp, tUn, tVar, tC, tLst, tTup, tCons, tNil, tFor, tIfS, tTest, tCB, tSl, tPart, tNoPart, tCall, iRng1, rCat, rIxT, rEq, rI, rI0, rU, rSlL, scal, List.map, List.replicate, List.length, List.append, List.cons_append, List.nil_append, List.append_nil, List.getElem?_cons_zero, List.getElem?_cons_succ, Option.some.injEq, exists_eq_left', exists_eq_left, V.int.injEq, V.ref.injEq, V.str.injEq, V.bl.injEq, V.ty.injEq, List.cons.injEq, and_true, true_and, and_assoc, exists_and_left, List.set_cons_zero, List.set_cons_succ, Nat.reduceSub, Nat.reduceAdd, decide_eq_true_eq, Bool.not_eq_true', decide_eq_false_iff_not, Int.reduceToNat, Int.reducePow, Int.reduceNeg, Int.reduceMul, Int.reduceAdd, if_true, ite_true, Bool.false_eq_true, ite_false, if_false, Int.zero_add]
    have i5 : i < 5 := by omega
    obtain ⟨cs, b2, ec, lc, B⟩ := beh_cut (b := b) h4 o2 p2 d2 c2 l2 i
    have ti : TmV [.int (i : Int)] := tm_leaf (in_int (by omega))
    refine ⟨by omega, by omega, fun r2 H4 a2 b2' s4 => ⟨by decide, ite2 (fun _ => ?_) fun _ => ?_⟩⟩
    · refine ⟨by decide, fun t1 g1 => ?_⟩
      obtain ⟨H5, e5, s5, q5⟩ := new_obj (o := HO.tup [V.int (-1 - (i : Int))]) g1
      rw [← e5]; clear e5 g1
      refine ⟨by decide, fun t2 g2 => ?_⟩
      obtain ⟨H6, e6, s6, q6⟩ := new_obj (o := HO.tup [V.int (i : Int)]) g2
      rw [← e6]; clear e6 g2
      refine ⟨by decide, fun t3 g3 => ?_⟩
      obtain ⟨H7, e7, s7, q7⟩ := new_obj (o := HO.tup [V.str (Str.ofString "say"), V.ref t2]) g3
      rw [← e7]; clear e7 g3
      refine ⟨by decide, fun t4 g4 => ?_⟩
      obtain ⟨H8, e8, s8, q8⟩ := new_obj (o := HO.lst [V.ref t3]) g4
      rw [← e8]; clear e8 g4
      refine ⟨by decide, fun t5 g5 => ?_⟩
      obtain ⟨H9, e9, s9, q9⟩ := new_obj (o := HO.tup [V.str (Str.ofString "if"), V.ref t1, V.ref p, V.ref t4]) g5
      rw [← e9]; clear e9 g5
      refine ⟨by decide, fun t6 g6 => ?_⟩
      obtain ⟨H10, e10, s10, q10⟩ := new_obj (o := HO.lst [V.ref t5]) g6
      rw [← e10]; clear e10 g6
      have T9 := s9.trans s10
      have T8 := s8.trans T9
      have T7 := s7.trans T8
      have T := s4.trans (s5.trans (s6.trans T7))
      have ST := s.trans T
      refine ⟨by decide, _, SqL.of (ST _ _ h3), fun t7 g7 => ?_⟩
      rw [ec]
      have s11 := isV (o := HO.lst cs) t7 g7
      refine ⟨_, s11 _ _ q10, _, upd_same, cat_le (by simp; omega), fun t8 g8 => ?_⟩
      have s12 := isV (o := HO.lst ([V.ref t5] ++ cs)) t8 g8
      have U := s11.trans s12
      have tm : TmV [.int (-1 - (i : Int))] := tm_leaf (in_int (by omega))
      refine ⟨t8, [V.ref t5] ++ cs, .cons (.iff [.int (-1 - (i : Int))] W (.cons (.say [.int (i : Int)]) .nil)) b2, ⟨_, rfl⟩, ST.trans U, upd_same, by simp; omega, ?_, ?_⟩
      · unfold RwsAt
        refine ⟨V.ref t5, cs, rfl, ?_, (B.same (ST.trans U)).at_⟩
        refine ⟨t5, t1, p, t4, ys, [V.ref t3], rfl, trivial, trivial, trivial, trivial, (s10.trans U) _ _ q9, (s6.trans (T7.trans U)) _ _ q5, (T.trans U) _ _ hp, hw.mono (T.trans U), (T9.trans U) _ _ q8, rws1_at ⟨t3, t2, rfl, trivial, trivial, (T8.trans U) _ _ q7, (T7.trans U) _ _ q6⟩⟩
      · have k := cons_brs (z := z) (w := w) (d := rw.deep + (i + 1)) (m := 5 + 2 * i) (r := .iff [.int (-1 - (i : Int))] W (.cons (.say [.int (i : Int)]) .nil)) (rs := b2) ⟨tm.1, bw.ok, rws1_ok ti.1⟩ ?_ ?_ ⟨tm.2.1, bw.pl, rws1_pl ti.2.1⟩ (bk_true (by omega) bw.bk) B.ok B.pl B.dp B.ct
        · rw [show 4 + 2 * (i + 1) = 5 + 2 * i + 1 by omega]; exact k
        · have := bw.dp; simp only [Rw.deep, Rws.deep]; omega
        · have := bw.ct; simp only [Rw.cnt, Rws.cnt]; omega
    · refine ⟨by decide, fun t1 g1 => ?_⟩
      obtain ⟨H5, e5, s5, q5⟩ := new_obj (o := HO.tup [V.int 0]) g1
      rw [← e5]; clear e5 g1
      refine ⟨by decide, fun t2 g2 => ?_⟩
      obtain ⟨H6, e6, s6, q6⟩ := new_obj (o := HO.tup [V.int (i : Int)]) g2
      rw [← e6]; clear e6 g2
      refine ⟨by decide, fun t3 g3 => ?_⟩
      obtain ⟨H7, e7, s7, q7⟩ := new_obj (o := HO.tup [V.str (Str.ofString "off"), V.ref t2]) g3
      rw [← e7]; clear e7 g3
      refine ⟨by decide, fun t4 g4 => ?_⟩
      obtain ⟨H8, e8, s8, q8⟩ := new_obj (o := HO.lst [V.ref t3]) g4
      rw [← e8]; clear e8 g4
      refine ⟨by decide, fun t5 g5 => ?_⟩
      obtain ⟨H9, e9, s9, q9⟩ := new_obj (o := HO.tup [V.str (Str.ofString "if"), V.ref t1, V.ref t4, V.ref p]) g5
      rw [← e9]; clear e9 g5
      refine ⟨by decide, fun t6 g6 => ?_⟩
      obtain ⟨H10, e10, s10, q10⟩ := new_obj (o := HO.lst [V.ref t5]) g6
      rw [← e10]; clear e10 g6
      have T9 := s9.trans s10
      have T8 := s8.trans T9
      have T7 := s7.trans T8
      have T := s4.trans (s5.trans (s6.trans T7))
      have ST := s.trans T
      refine ⟨by decide, _, SqL.of (ST _ _ h3), fun t7 g7 => ?_⟩
      rw [ec]
      have s11 := isV (o := HO.lst cs) t7 g7
      refine ⟨_, s11 _ _ q10, _, upd_same, cat_le (by simp; omega), fun t8 g8 => ?_⟩
      have s12 := isV (o := HO.lst ([V.ref t5] ++ cs)) t8 g8
      have U := s11.trans s12
      have tm : TmV [.int 0] := tm_leaf (in_int (by omega))
      refine ⟨t8, [V.ref t5] ++ cs, .cons (.iff [.int 0] (.cons (.off [.int (i : Int)]) .nil) W) b2, ⟨_, rfl⟩, ST.trans U, upd_same, by simp; omega, ?_, ?_⟩
      · unfold RwsAt
        refine ⟨V.ref t5, cs, rfl, ?_, (B.same (ST.trans U)).at_⟩
        refine ⟨t5, t1, t4, p, [V.ref t3], ys, rfl, trivial, trivial, trivial, trivial, (s10.trans U) _ _ q9, (s6.trans (T7.trans U)) _ _ q5, (T9.trans U) _ _ q8, rws1_at ⟨t3, t2, rfl, trivial, trivial, (T8.trans U) _ _ q7, (T7.trans U) _ _ q6⟩, (T.trans U) _ _ hp, hw.mono (T.trans U)⟩
      · have k := cons_brs (z := z) (w := w) (d := rw.deep + (i + 1)) (m := 5 + 2 * i) (r := .iff [.int 0] (.cons (.off [.int (i : Int)]) .nil) W) (rs := b2) ⟨tm.1, rws1_ok ti.1, bw.ok⟩ ?_ ?_ ⟨tm.2.1, rws1_pl ti.2.1, bw.pl⟩ (bk_false bw.bk) B.ok B.pl B.dp B.ct
        · rw [show 4 + 2 * (i + 1) = 5 + 2 * i + 1 by omega]; exact k
        · have := bw.dp; simp only [Rw.deep, Rws.deep]; omega
        · have := bw.ct; simp only [Rw.cnt, Rws.cnt]; omega
  · rintro σ H' ⟨p, ys, W, ⟨o, rfl⟩, s, hp, ly, hw, bw⟩
    refine ⟨_, rfl, q p ys W H' s hp hw ⟨bw.ok, ?_, ?_, bw.pl, bw.bk⟩⟩
    · have := bw.dp; omega
    · have := bw.ct; have := h2.dp; omega
theorem rdp__law_within {v : V} {c : Int} {b : Addr} {rw : Rw} {bs : List V} {beh : Rws} {z w : Str} (h1 : RwAt anyA H v rw) (h2 : brV z w rw) (h3 : H b = some (.lst bs)) (h4 : RwsAt anyA H bs beh) (h5 : RwsOk beh ∧ RwsPl beh ∧ beh.deep = 0 ∧ beh.cnt = 2 ∧ bs.length = 2)
    (q : ∀ p xs rws H', Same H H' → H' p = some (.lst xs) → RwsAt anyA H' xs rws → brsV z w 5 14 rws → Q (.ref p) H') :
    rd__law_within K t { nx := fun _ H' => Q .non H', rt := Q } (L2.start ["row", "cell", "behind", "rows", "k"] [v, .int c, .ref b]) H := by
  obtain ⟨pr, fs, hd, rfl, e2, e3, e4⟩ := row_hd h1
  simp only [rd__law_within, rCat, L2.start, cMin, cIntB, rIxT, tSeq, tAsg, gName, tRet, tOp, tUn, tVar, tC, tLst, tTup, tCons, tNil, tFor, tIfS, tTest, tCB, tSl, tPart, tNoPart, tCall, iRng1, rCat, rIxT, rEq, rI, rI0, rU, rSlL, scal, List.map, List.replicate, List.length, List.append, List.cons_append, List.nil_append, List.append_nil, List.getElem?_cons_zero, List.getElem?_cons_succ, Option.some.injEq, exists_eq_left', exists_eq_left, V.int.injEq, V.ref.injEq, V.str.injEq, V.bl.injEq, V.ty.injEq, List.cons.injEq, and_true, true_and, and_assoc, exists_and_left, List.set_cons_zero, List.set_cons_succ, Nat.reduceSub, Nat.reduceAdd, decide_eq_true_eq, Bool.not_eq_true', decide_eq_false_iff_not, Int.reduceToNat, Int.reducePow, Int.reduceNeg, Int.reduceMul, Int.reduceAdd, if_true, ite_true, Bool.false_eq_true, ite_false, if_false]
  refine ⟨by decide, fun l1 g1 => ?_⟩
  obtain ⟨H1, e1, s1, q1⟩ := new_obj (o := HO.lst [V.ref pr]) g1
  rw [← e1]; clear e1 g1
  refine ⟨_, q1, _, s1 _ _ h3, cat_le (by simp [h5.2.2.2.2]), fun l g2 => ?_⟩
  have s2 := isV (o := HO.lst ([V.ref pr] ++ bs)) l g2
  refine rdp_wi1 (rw := rw) (R := .cons rw beh) (s1.trans s2) e2 e3 e4 h2 h3 h4 h5 upd_same (by simp [h5.2.2.2.2]) ?_ ⟨?_, ?_, ?_, ?_, bk_cons h2.bk⟩ q
  · unfold RwsAt
    exact ⟨_, _, rfl, h1.mono (s1.trans s2), h4.mono (s1.trans s2)⟩
  · unfold RwsOk; exact ⟨h2.ok, h5.1⟩
  · rw [Rws.deep, h5.2.2.1]; omega
  · rw [Rws.cnt, h5.2.2.2.1]; have := h2.ct; omega
  · unfold RwsPl; exact ⟨h2.pl, h5.2.1⟩
theorem nil__law_copied {vs : List V} {H : Hp} {Q : VK} {E : XK} (h : sp__law_copied 0 vs H Q E) : False := by
  obtain ⟨F, v, rws, _, _, _, h, _⟩ := h
  exact Nat.not_lt_zero _ h
def cpI (a R : Addr) (F : Addr → Prop) (rws : Rws) (xs : List V) (n : Nat) (H : Hp) (i : Nat) (σ : St) (H' : Hp) : Prop := ∃ (ys : List V) (d rest : Rws), (∃ o, σ = [some (.ref a), some (.ref R), o]) ∧ Same H H' ∧ H' R = some (.lst ys) ∧ ys.length ≤ i ∧ RwsAt (fun b => F b ∧ b ≠ R) H' ys d ∧ RwsAt (fun b => F b ∧ b ≠ R) H (xs.drop i) rest ∧ d.app rest = rws ∧ rest.deep < n + 1 ∧ rest.cnt ≤ 500
theorem rdp__law_copied {F : Addr → Prop} {v : V} {rws : Rws} {n : Nat} (h1 : RlAt F H v rws) (h2 : ∀ b, H b = none → F b) (h3 : rws.deep < n + 1) (h4 : rws.cnt ≤ 500) (q : ∀ v' H', Same H H' → RlAt F H' v' rws → Q v' H') :
    rd__law_copied K t n { nx := fun _ H' => Q .non H', rt := Q } (L2.start ["rows", "found", "row"] [v]) H := by
  obtain ⟨a, xs, rfl, fa, ha, hx⟩ := h1
  have lx := RwsAt.len rws hx
  simp only [rd__law_copied, sp__law_copied, L2.start, r_mt_append, rAppend, rIxT, tSeq, tAsg, gName, tRet, tDrop, tOp, tVar, tC, tLst, tTup, tCons, tNil, tFor, tIfS, tTest, tBM, tyV, tCall, iList, rIxT, rEq, scal, List.map, List.replicate, List.length, List.append, List.cons_append, List.nil_append, List.append_nil, List.getElem?_cons_zero, List.getElem?_cons_succ, Option.some.injEq, exists_eq_left', exists_eq_left, V.int.injEq, V.ref.injEq, V.str.injEq, V.bl.injEq, V.ty.injEq, List.cons.injEq, and_true, true_and, and_assoc, exists_and_left, List.set_cons_zero, List.set_cons_succ, Nat.reduceSub, Nat.reduceAdd, decide_eq_true_eq, Bool.not_eq_true', decide_eq_false_iff_not, Int.reduceToNat, Int.reducePow, Int.reduceNeg, Int.reduceMul, Int.reduceAdd, if_true, ite_true, Bool.false_eq_true, ite_false, if_false]
  refine ⟨by decide, fun R hR => ?_⟩
  have s0 := isV (o := HO.lst []) R hR
  have hx' : RwsAt (fun b => F b ∧ b ≠ R) H xs rws := hx.to rws (fun b o f e => ⟨f, ne_of_none e hR⟩) fun b o _ e => e
  refine ⟨⟨_, SqL.of (s0 _ _ ha)⟩, loop_list xs (cpI a R F rws xs n H) ⟨[], .nil, rws, ⟨_, rfl⟩, s0, upd_same, Nat.le_refl _, by unfold RwsAt; rfl, by rw [List.drop_zero]; exact hx', rfl, h3, h4⟩ (fun i σ H' ⟨ys, d, rest, _, s, _⟩ => SqL.of (s _ _ ha)) ?_ ?_⟩
  · rintro i v σ H' hv ⟨ys, d, rest, ⟨o, rfl⟩, s, hy, ly, hd, hr, ha2, dp, ct⟩
    have hi := (List.getElem?_eq_some_iff.mp hv).1
    obtain ⟨x, rs, rfl, rx, rr⟩ := hr.get hv
    have c1 : (Rws.cons x rs).deep = max x.deep rs.deep := by rw [Rws.deep]
    have c2 : (Rws.cons x rs).cnt = x.cnt + rs.cnt := by rw [Rws.cnt]
    rw [c1] at dp
    rw [c2] at ct
    have sl : ys.length < sizeLine := Nat.lt_of_le_of_lt (by omega : ys.length ≤ 500) (by decide)
    have fin : ∀ (H2 : Hp) (u : V), Same H' H2 → RwAt (fun b => F b ∧ b ≠ R) H2 u x → cpI a R F rws xs n H (i + 1) [some (.ref a), some (.ref R), some v] (upd H2 R (.lst (ys ++ [u]))) := fun H2 u s2 hu =>
      ⟨ys ++ [u], d.snoc x, rs, ⟨_, rfl⟩, same_upd (s.trans s2) hR, upd_same, by rw [List.length_append, List.length_singleton]; omega, RwsAt.snoc (hu.up fun b f => f.2) d ((hd.mono s2).up fun b f => f.2), rr, by rw [Rws.snoc_app]; exact ha2, by omega, by omega⟩
    by_cases hI : ∃ e a b, x = .iff e a b
    · obtain ⟨e, a', b', rfl⟩ := hI
      have k1 : (Rw.iff e a' b').deep = max a'.deep b'.deep + 1 := by rw [Rw.deep]
      have k2 : (Rw.iff e a' b').cnt = max a'.cnt b'.cnt + 1 := by rw [Rw.cnt]
      rw [k1] at dp
      rw [k2] at ct
      unfold RwAt at rx
      obtain ⟨r, te, la, lb, as, bs, rfl, f1, f2, f3, f4, e2, e3, e4, e5, e6, e7⟩ := rx
      simp only [L2.start, r_mt_append, rAppend, rIxT, tSeq, tAsg, gName, tRet, tDrop, tOp, tVar, tC, tLst, tTup, tCons, tNil, tFor, tIfS, tTest, tBM, tyV, tCall, iList, rIxT, rEq, scal, List.map, List.replicate, List.length, List.append, List.cons_append, List.nil_append, List.append_nil, List.getElem?_cons_zero, List.getElem?_cons_succ, Option.some.injEq, exists_eq_left', exists_eq_left, V.int.injEq, V.ref.injEq, V.str.injEq, V.bl.injEq, V.ty.injEq, List.cons.injEq, and_true, true_and, and_assoc, exists_and_left, List.set_cons_zero, List.set_cons_succ, Nat.reduceSub, Nat.reduceAdd, decide_eq_true_eq, Bool.not_eq_true', decide_eq_false_iff_not, Int.reduceToNat, Int.reducePow, Int.reduceNeg, Int.reduceMul, Int.reduceAdd, if_true, ite_true, Bool.false_eq_true, ite_false, if_false]
      refine ⟨_, SqT.of (s _ _ e2), _, rfl, rfl, ?_⟩
      rw [if_pos rfl]
      have fr : ∀ {H2 : Hp}, Same H' H2 → ∀ b, H2 b = none → F b ∧ b ≠ R := fun s2 b hb => ⟨h2 _ (fresh_of (s.trans s2) hb), fresh_ne (s2 _ _ hy) hb⟩
      refine ⟨.inl ⟨_, SqL.of hy⟩, _, SqT.of (s _ _ e2), _, rfl, _, SqT.of (s _ _ e2), _, rfl, fun b => F b ∧ b ≠ R, a', ⟨la, as, rfl, f3, s _ _ e4, e5.mono s⟩, fr (Same.refl _), by omega, by omega, fun v1 H2 t1 hv1 => ?_⟩
      obtain ⟨l1, as1, rfl, g1, hl1, r1⟩ := hv1
      have T1 := s.trans t1
      refine ⟨_, SqT.of (T1 _ _ e2), _, rfl, fun b => F b ∧ b ≠ R, b', ⟨lb, bs, rfl, f4, T1 _ _ e6, e7.mono T1⟩, fr t1, by omega, by omega, fun v2 H3 t2 hv2 => ⟨by decide, fun r2 hr2 => ?_⟩⟩
      obtain ⟨l2, bs1, rfl, g2, hl2, r2'⟩ := hv2
      have t3 := isV (o := HO.tup [V.str (Str.ofString "if"), V.ref te, V.ref l1, V.ref l2]) r2 hr2
      have T := t1.trans (t2.trans t3)
      refine ⟨ys, T _ _ hy, sl, fin _ (.ref r2) T ?_⟩
      unfold RwAt
      exact ⟨r2, te, l1, l2, as1, bs1, rfl, fr (t1.trans t2) r2 hr2, f2, g1, g2, upd_same, (s.trans T) _ _ e3, (t2.trans t3) _ _ hl1, r1.mono (t2.trans t3), t3 _ _ hl2, r2'.mono t3⟩
    · obtain ⟨p, ws, hd', rfl, e2, e3, n1⟩ := row_ref rx hI
      simp only [L2.start, r_mt_append, rAppend, rIxT, tSeq, tAsg, gName, tRet, tDrop, tOp, tVar, tC, tLst, tTup, tCons, tNil, tFor, tIfS, tTest, tBM, tyV, tCall, iList, rIxT, rEq, scal, List.map, List.replicate, List.length, List.append, List.cons_append, List.nil_append, List.append_nil, List.getElem?_cons_zero, List.getElem?_cons_succ, Option.some.injEq, exists_eq_left', exists_eq_left, V.int.injEq, V.ref.injEq, V.str.injEq, V.bl.injEq, V.ty.injEq, List.cons.injEq, and_true, true_and, and_assoc, exists_and_left, List.set_cons_zero, List.set_cons_succ, Nat.reduceSub, Nat.reduceAdd, decide_eq_true_eq, Bool.not_eq_true', decide_eq_false_iff_not, Int.reduceToNat, Int.reducePow, Int.reduceNeg, Int.reduceMul, Int.reduceAdd, if_true, ite_true, Bool.false_eq_true, ite_false, if_false]
      refine ⟨_, SqT.of (s _ _ e2), _, e3, rfl, ?_⟩
      rw [if_neg (fun z => n1 (V.str.inj z))]
      exact ⟨.inl ⟨_, SqL.of hy⟩, ys, hy, sl, fin _ _ (Same.refl _) (rx.mono s)⟩
  · rintro σ H' ⟨ys, d, rest, ⟨o, rfl⟩, s, hy, ly, hd, hr, ha2, _⟩
    have e := hr.none
    subst e
    rw [Rws.app_nil] at ha2
    subst ha2
    exact ⟨_, rfl, q (.ref R) H' s ⟨R, ys, rfl, h2 R hR, hy, hd.to d (fun b o f _ => f.1) fun b o _ e => e⟩⟩
theorem wok_ok {w : Str} (h : wOk w) : PyData.strOk w = true := by
  rcases h with rfl | rfl | rfl <;> decide +kernel
theorem off_dat {o : Addr} {w : Str} (h : H o = some (.tup [.str "off", .str w])) : Dat K H (.ref o) (.tuple [.str "off", .str w]) := .tup (SqT.of h) (.cons (.str _) (.cons (.str _) .nil))
theorem off_plain {w : Str} (h : wOk w) : plainD (.tuple [.str "off", .str w]) = true := by simp [plainD, plainDs, sok_off, wok_ok h]
theorem rdp__law_outcome {o : Addr} {w : Str} (h1 : H o = some (.tup [.str "off", .str w])) (h2 : wOk w) (q : ∀ H', Same H H' → Q (.bl true) H') :
    rd__law_outcome K t { nx := fun _ H' => Q .non H', rt := Q } (L2.start ["found", "why"] [.ref o, .str w]) H := by
  simp only [rd__law_outcome, rEqD, L2.start, rIxT, tSeq, tRet, tNext, tOp, tVar, tC, tTup, tCons, tNil, tIfS, tOr, tNot, tTest, tB, tAndV, tCB, LenV, rIxT, rNe, cLen, cIsi, scal, List.map, List.replicate, List.length, List.append, List.cons_append, List.nil_append, List.append_nil, List.getElem?_cons_zero, List.getElem?_cons_succ, Option.some.injEq, exists_eq_left', exists_eq_left, V.int.injEq, V.ref.injEq, V.str.injEq, V.bl.injEq, V.ty.injEq, List.cons.injEq, and_true, true_and, and_assoc, exists_and_left, List.set_cons_zero, List.set_cons_succ, Nat.reduceSub, Nat.reduceAdd, decide_eq_true_eq, Bool.not_eq_true', decide_eq_false_iff_not, Int.reduceToNat, Int.reducePow, Int.reduceNeg, Int.reduceMul, Int.reduceAdd, if_true, ite_true, Bool.false_eq_true, ite_false, if_false]
  refine ⟨_, .tup h1, true, kit_same _, ?_⟩
  rw [if_neg (by decide)]
  refine ⟨2, .inr ⟨_, SqT.of h1, rfl⟩, ?_⟩
  rw [if_neg (by decide)]
  refine ⟨_, SqT.of h1, _, rfl, _, .str _, true, kit_same _, ?_⟩
  rw [if_neg (by decide)]
  refine ⟨_, SqT.of h1, _, rfl, _, .str _, true, kit_same _, ?_⟩
  rw [if_pos rfl]
  refine ⟨by decide, fun p hp => ?_⟩
  have s1 := isV (o := HO.tup [V.str (Str.ofString "off"), V.str w]) p hp
  refine ⟨_, off_dat (s1 _ _ h1), _, off_dat upd_same, off_plain h2, off_plain h2, by simp [PyData.depth, PyData.depthAll], by simp [PyData.depth, PyData.depthAll], fun b hb => ?_⟩
  rw [hb.mpr rfl]
  exact q _ s1
/-! the law itself -/
theorem alone_w {rws : Rws} {tab out : List Row} {oc : Oc} {w : Str} (h : resW w (goRs rws ⟨[], tab, []⟩)) (a : AloneR rws tab oc out) : oc = .off w ∧ out = tab := by
  unfold AloneR at a
  rcases h with ⟨rfl, h⟩ | ⟨rfl, h⟩ | ⟨rfl, h⟩ <;> rw [h] at a <;> exact a
structure Lw (H : Hp) (tb ra hv gv : Addr) (tab : List Row) (rws : Rws) (w : Str) : Prop where
  ht : LsAt H tb tab
  hg : LsAt H gv tab
  ti : TabI tab
  rr : RlAt anyA H (.ref ra) rws
  rh : RlAt anyA H (.ref hv) rws
  ok : RwsOk rws
  dp : rws.deep ≤ 5
  ct : rws.cnt ≤ 40
  pl : RwsPl rws
  bk : resW w (goRs rws ⟨[], tab, []⟩)
  wo : wOk w
theorem Lw.same {H H' : Hp} {tb ra hv gv : Addr} {tab : List Row} {rws : Rws} {w : Str} (A : Lw H tb ra hv gv tab rws w) (s : Same H H') : Lw H' tb ra hv gv tab rws w :=
  ⟨A.ht.same s, A.hg.same s, A.ti, A.rr.mono s, A.rh.mono s, A.ok, A.dp, A.ct, A.pl, A.bk, A.wo⟩
theorem TabI.ok {tab : List Row} (h : TabI tab) : ∀ q ∈ tab, okRow q := fun q hq => (h.ps q hq).1
theorem tab_pd {tab : List Row} (h : TabI tab) : plainD (.list (tab.map rowD)) = true ∧ (PyData.list (tab.map rowD)).depth ≤ 64 :=
  ⟨by rw [plainD]; exact plain_rows h.ok, by have := deep_rows tab; rw [PyData.depth]; omega⟩
theorem rws_pd {rws : Rws} (h : RwsPl rws) (d : rws.deep ≤ 5) : plainD (.list (rwsD rws)) = true ∧ (PyData.list (rwsD rws)).depth ≤ 64 :=
  ⟨by rw [plainD]; exact rws_plain rws h, by have := rws_deep rws; rw [PyData.depth]; omega⟩
theorem al_pre {rws : Rws} {tab : List Row} {w : Str} (ok : RwsOk rws) (dp : rws.deep ≤ 5) (ct : rws.cnt ≤ 40) (ti : TabI tab) (bk : resW w (goRs rws ⟨[], tab, []⟩)) : AlPre rws tab :=
  ⟨ok, by omega, fun r hr => (ti.ps r hr).2.1, by have := ti.ln; omega, fun s g => absurd g (res_stop bk s)⟩
theorem tab_tab {tab : List Row} (h : TabI tab) : IsTab tab tab := by
  refine ⟨h.ri, fun p w => ?_⟩
  rw [last_nd h.ri.nd]
  exact ⟨fun m => ⟨m, (h.ps _ m).2.2⟩, fun m => m.1⟩
def sayR (x : Str) : Rws := .cons (.say [.str x]) .nil
theorem say_go {x : Str} (h : isName x = true) (tab : List Row) : goRs (sayR x) ⟨[], tab, []⟩ = .go ⟨[], tab, [0]⟩ := by
  unfold sayR goRs goR
  rw [rk_leaf (lf_ok (lf_str h)).2.1]
  simp only [goRs]
  rfl
theorem say_pre {x : Str} (h : isName x = true) {tab : List Row} (ti : TabI tab) : AlPre (sayR x) tab := by
  have t1 := tm_leaf (lf_str h)
  refine ⟨rws1_ok t1.1, by simp [sayR, Rws.deep, Rw.deep], fun r hr => (ti.ps r hr).2.1, by have := ti.ln; simp [sayR, Rws.cnt, Rw.cnt]; omega, fun s g => ?_⟩
  rw [say_go h] at g
  cases g
  have := len_dOf tab
  have := ti.ln
  show (dOf tab).length ≤ 63
  omega
theorem say_alone {x : Str} (h : isName x = true) {tab out : List Row} {oc : Oc} (ti : TabI tab) (a : AloneR (sayR x) tab oc out) : oc = .done [0] ∧ out = tab := by
  unfold AloneR at a
  rw [say_go h] at a
  exact ⟨a.1, tab_uniq a.2 (tab_tab ti)⟩
def ocsD (w : Str) : PyData := .list [.tuple [.str "off", .str w], .tuple [.str "done", .tuple [.int 0]], .tuple [.str "off", .str w]]
theorem ocs_pd {w : Str} (h : wOk w) : plainD (ocsD w) = true ∧ (ocsD w).depth ≤ 64 :=
  ⟨by simp [ocsD, plainD, plainDs, sok_off, wok_ok h, (by decide +kernel : PyData.strOk "done" = true)], by simp [ocsD, PyData.depth, PyData.depthAll]⟩
theorem rdp_law15 {a sl sh tb ra hv gv my la' : Addr} {w : Str} {rv oc tl : V} {tab : List Row} {rws : Rws} {bh : Addr} (A : Lw H tb ra hv gv tab rws w) (hm : Dat K H (.ref my) (ocsD w)) (hl : LsAt H la' tab) (q : ∀ H', Q (.bl true) H') :
    rd_law_14 K t { nx := fun _ H' => Q .non H', rt := Q } [some (.ref a), some (.ref sl), some (.ref sh), some (.ref tb), some (.str w), some rv, some (.ref bh), some (.ref ra), some (.ref hv), some (.ref gv), some oc, some tl, some (.ref my), some (.ref la')] H := by
  simp only [rd_law_14, rEqD, L2.start, tSeq, tRet, tNext, tOp, tVar, tC, tLst, tTup, tCons, tNil, tIfS, tTest, tAndV, List.map, List.replicate, List.length, List.append, List.cons_append, List.nil_append, List.append_nil, List.getElem?_cons_zero, List.getElem?_cons_succ, Option.some.injEq, exists_eq_left', exists_eq_left, V.int.injEq, V.ref.injEq, V.str.injEq, V.bl.injEq, V.ty.injEq, List.cons.injEq, and_true, true_and, and_assoc, exists_and_left, List.set_cons_zero, List.set_cons_succ, Nat.reduceSub, Nat.reduceAdd, decide_eq_true_eq, Bool.not_eq_true', decide_eq_false_iff_not, Int.reduceToNat, Int.reducePow, Int.reduceNeg, Int.reduceMul, Int.reduceAdd, if_true, ite_true, Bool.false_eq_true, ite_false, if_false]
  obtain ⟨po, do_⟩ := ocs_pd A.wo
  obtain ⟨pt, dt⟩ := tab_pd A.ti
  obtain ⟨pr, dr⟩ := rws_pd A.pl A.dp
  refine ⟨by decide, fun p1 g1 => ?_⟩
  obtain ⟨H1, e1, s1, q1⟩ := new_obj (o := HO.tup [V.str (Str.ofString "off"), V.str w]) g1
  rw [← e1]; clear e1 g1
  refine ⟨by decide, fun p2 g2 => ?_⟩
  obtain ⟨H2, e2, s2, q2⟩ := new_obj (o := HO.tup [V.int 0]) g2
  rw [← e2]; clear e2 g2
  refine ⟨by decide, fun p3 g3 => ?_⟩
  obtain ⟨H3, e3, s3, q3⟩ := new_obj (o := HO.tup [V.str (Str.ofString "done"), V.ref p2]) g3
  rw [← e3]; clear e3 g3
  refine ⟨by decide, fun p4 g4 => ?_⟩
  obtain ⟨H4, e4, s4, q4⟩ := new_obj (o := HO.tup [V.str (Str.ofString "off"), V.str w]) g4
  rw [← e4]; clear e4 g4
  refine ⟨by decide, fun p5 g5 => ?_⟩
  obtain ⟨H5, e5, s5, q5⟩ := new_obj (o := HO.lst [V.ref p1, V.ref p3, V.ref p4]) g5
  rw [← e5]; clear e5 g5
  have S5 := s1.trans (s2.trans (s3.trans (s4.trans s5)))
  have A5 := A.same S5
  have D : Dat K H5 (.ref p5) (ocsD w) := .lst (SqL.of q5) (.cons (off_dat ((s2.trans (s3.trans (s4.trans s5))) _ _ q1)) (.cons (.tup (SqT.of ((s4.trans s5) _ _ q3)) (.cons (.str _) (.cons (.tup (SqT.of ((s3.trans (s4.trans s5)) _ _ q2)) (.cons (.int _) .nil)) .nil))) (.cons (off_dat (s5 _ _ q4)) .nil)))
  refine ⟨_, hm.mono S5, _, D, po, po, do_, do_, fun b hb => ?_⟩
  rw [if_neg (by rw [hb.mpr rfl]; decide)]
  refine ⟨_, (hl.same S5).dat, _, A5.ht.dat, pt, pt, dt, dt, fun b hb => ?_⟩
  rw [if_pos (hb.mpr rfl)]
  refine ⟨_, A5.rh.dat A.pl, _, A5.rr.dat A.pl, pr, pr, dr, dr, fun b hb => ?_⟩
  rw [if_pos (hb.mpr rfl)]
  exact ⟨_, A5.hg.dat, _, A5.ht.dat, pt, pt, dt, dt, fun b hb => by rw [hb.mpr rfl]; exact q H5⟩
theorem rdp_law13 {a sl sh tb ra hv gv : Addr} {w : Str} {rv oc tl : V} {tab : List Row} {rws : Rws} {bh : Addr} {x y z : Str} (A : Lw H tb ra hv gv tab rws w) (hn : NamesAt H sl [x, y, z]) (q : ∀ H', Q (.bl true) H') :
    rd_law_13 K t { nx := fun _ H' => Q .non H', rt := Q } [some (.ref a), some (.ref sl), some (.ref sh), some (.ref tb), some (.str w), some rv, some (.ref bh), some (.ref ra), some (.ref hv), some (.ref gv), some oc, some tl, none, none] H := by
  simp only [rd_law_13, sp_one_by_one, rEqD, L2.start, tSeq, tAsg, gName, gTup, gCons, gNil, tRet, tNext, tOp, tVar, tC, tLst, tTup, tCons, tNil, tIfS, tTest, tAndV, tCall, rIxL, List.map, List.replicate, List.length, List.append, List.cons_append, List.nil_append, List.append_nil, List.getElem?_cons_zero, List.getElem?_cons_succ, Option.some.injEq, exists_eq_left', exists_eq_left, V.int.injEq, V.ref.injEq, V.str.injEq, V.bl.injEq, V.ty.injEq, List.cons.injEq, and_true, true_and, and_assoc, exists_and_left, List.set_cons_zero, List.set_cons_succ, Nat.reduceSub, Nat.reduceAdd, decide_eq_true_eq, Bool.not_eq_true', decide_eq_false_iff_not, Int.reduceToNat, Int.reducePow, Int.reduceNeg, Int.reduceMul, Int.reduceAdd, if_true, ite_true, Bool.false_eq_true, ite_false, if_false]
  have nx : isName x = true := hn.2 x (by simp)
  refine ⟨_, SqL.of hn.1, _, rfl, by decide, fun p1 g1 => ?_⟩
  obtain ⟨H1, e1, s1, q1⟩ := new_obj (o := HO.tup [V.str x]) g1
  rw [← e1]; clear e1 g1
  refine ⟨by decide, fun p2 g2 => ?_⟩
  obtain ⟨H2, e2, s2, q2⟩ := new_obj (o := HO.tup [V.str (Str.ofString "say"), V.ref p1]) g2
  rw [← e2]; clear e2 g2
  refine ⟨by decide, fun p3 g3 => ?_⟩
  obtain ⟨H3, e3, s3, q3⟩ := new_obj (o := HO.lst [V.ref p2]) g3
  rw [← e3]; clear e3 g3
  refine ⟨by decide, fun p4 g4 => ?_⟩
  obtain ⟨H4, e4, s4, q4⟩ := new_obj (o := HO.lst [V.ref hv, V.ref p3, V.ref hv]) g4
  rw [← e4]; clear e4 g4
  have S4 := s1.trans (s2.trans (s3.trans s4))
  have A4 := A.same S4
  have rs : RlAt anyA H4 (.ref p3) (sayR x) := ⟨p3, [.ref p2], rfl, trivial, s4 _ _ q3, rws1_at ⟨p2, p1, rfl, trivial, trivial, (s3.trans s4) _ _ q2, (s2.trans (s3.trans s4)) _ _ q1⟩⟩
  refine ⟨_, q4, [rws, sayR x, rws], .cons A4.rh (.cons rs (.cons A4.rh .nil)), tab, A4.hg, fun tb => tb = tab, rfl, by simp, fun d hd tb e => ?_, fun r ol l ys ocs out H5 s5 fl fo hr ho po la sq => ?_⟩
  · subst e
    simp only [List.mem_cons, List.not_mem_nil, or_false] at hd
    rcases hd with rfl | rfl | rfl
    · exact ⟨al_pre A.ok A.dp A.ct A.ti A.bk, fun oc out ar => (alone_w A.bk ar).2⟩
    · exact ⟨say_pre nx A.ti, fun oc out ar => (say_alone nx A.ti ar).2⟩
    · exact ⟨al_pre A.ok A.dp A.ct A.ti A.bk, fun oc out ar => (alone_w A.bk ar).2⟩
  · cases sq with
    | cons a1 sq =>
    cases sq with
    | cons a2 sq =>
    cases sq with
    | cons a3 sq =>
    cases sq
    obtain ⟨rfl, rfl⟩ := alone_w A.bk a1
    obtain ⟨rfl, rfl⟩ := say_alone nx A.ti a2
    obtain ⟨rfl, rfl⟩ := alone_w A.bk a3
    refine ⟨_, SqT.of hr, rfl, _, _, rfl, _, _, rfl, rfl, ?_⟩
    cases po with
    | cons o1 po =>
    cases po with
    | cons o2 po =>
    cases po with
    | cons o3 po =>
    cases po
    obtain ⟨b1, rfl, o1⟩ := o1
    obtain ⟨b2, y2, rfl, o2, o2'⟩ := o2
    obtain ⟨b3, rfl, o3⟩ := o3
    refine rdp_law15 (A4.same s5) ?_ la q
    exact .lst (SqL.of ho) (.cons (off_dat o1) (.cons (.tup (SqT.of o2) (.cons (.str _) (.cons (.tup (SqT.of o2') (.cons (.int _) .nil)) .nil))) (.cons (off_dat o3) .nil)))
theorem rdp_law10 {a sl sh tb ra hv gv o1 tl : Addr} {w : Str} {rv : V} {tab : List Row} {rws : Rws} {bh : Addr} {x y z : Str} {Hb : Hp} (A : Lw Hb tb ra hv gv tab rws w) (hn : NamesAt Hb sl [x, y, z]) (sb : Same Hb H) (ho : H o1 = some (.tup [.str "off", .str w])) (hl : LsAt H tl tab) (fl : Hb tl = none) (q : ∀ H', Q (.bl true) H') :
    rd_law_10 K t { nx := fun _ H' => Q .non H', rt := Q } [some (.ref a), some (.ref sl), some (.ref sh), some (.ref tb), some (.str w), some rv, some (.ref bh), some (.ref ra), some (.ref hv), some (.ref gv), some (.ref o1), some (.ref tl), none, none] H := by
  simp only [rd_law_10, rd_law_11, rd_law_12, sp__law_outcome, rEqD, L2.start, r_mt_append, rAppend, tSeq, tAsg, gName, gTup, gCons, gNil, tRet, tDrop, tNext, tOp, tVar, tC, tLst, tTup, tCons, tNil, tIfS, tOr, tNot, tTest, tB, tAndV, tCB, tBM, tyV, tCall, rIxL, cIsi, List.map, List.replicate, List.length, List.append, List.cons_append, List.nil_append, List.append_nil, List.getElem?_cons_zero, List.getElem?_cons_succ, Option.some.injEq, exists_eq_left', exists_eq_left, V.int.injEq, V.ref.injEq, V.str.injEq, V.bl.injEq, V.ty.injEq, List.cons.injEq, and_true, true_and, and_assoc, exists_and_left, List.set_cons_zero, List.set_cons_succ, Nat.reduceSub, Nat.reduceAdd, decide_eq_true_eq, Bool.not_eq_true', decide_eq_false_iff_not, Int.reduceToNat, Int.reducePow, Int.reduceNeg, Int.reduceMul, Int.reduceAdd, if_true, ite_true, Bool.false_eq_true, ite_false, if_false]
  obtain ⟨pt, dt⟩ := tab_pd A.ti
  obtain ⟨pr, dr⟩ := rws_pd A.pl A.dp
  refine ⟨ho, A.wo, fun H1 s1 => ?_⟩
  have A1 := A.same (sb.trans s1)
  rw [if_neg (by decide)]
  obtain ⟨os, hos, ros⟩ := hl.same s1
  have lz := rows_len ros
  have ln := A.ti.ln
  refine ⟨_, .lst hos, true, kit_same _, ?_⟩
  rw [if_neg (by decide)]
  refine ⟨_, LsAt.dat ⟨os, hos, ros⟩, _, A1.ht.dat, pt, pt, dt, dt, fun b hb => ?_⟩
  rw [if_neg (by rw [hb.mpr rfl]; decide)]
  refine ⟨.inl ⟨_, SqL.of hos⟩, by decide, fun p hp => ⟨by decide, fun p2 hp2 => ?_⟩⟩
  have sa := isV (o := HO.tup [V.str (Str.ofString "z"), V.int 1]) p hp
  have sc := isV (o := HO.tup [V.ref p, V.int 5]) p2 hp2
  have S2 := sb.trans (s1.trans (sa.trans sc))
  refine ⟨os, sc _ _ (sa _ _ hos), Nat.lt_of_le_of_lt (by omega : os.length ≤ 500) (by decide), ?_⟩
  have S4 := same_upd (o := HO.lst (os ++ [V.ref p2])) S2 fl
  generalize upd (upd (upd H1 p (HO.tup [V.str (Str.ofString "z"), V.int 1])) p2 (HO.tup [V.ref p, V.int 5])) tl (HO.lst (os ++ [V.ref p2])) = H4 at *
  have A4 := A.same S4
  refine ⟨_, A4.rh.dat A.pl, _, A4.rr.dat A.pl, pr, pr, dr, dr, fun b hb => ?_⟩
  rw [if_neg (by rw [hb.mpr rfl]; decide)]
  refine ⟨_, A4.hg.dat, _, A4.ht.dat, pt, pt, dt, dt, fun b hb => ?_⟩
  rw [if_neg (by rw [hb.mpr rfl]; decide)]
  exact rdp_law13 A4 (hn.same S4) q
theorem rdp_law7 {a sl sh tb ra : Addr} {w : Str} {rv : V} {tab : List Row} {rws : Rws} {bh : Addr} {x y z : Str} (hn : NamesAt H sl [x, y, z]) (ht : LsAt H tb tab) (ti : TabI tab) (rr : RlAt anyA H (.ref ra) rws) (ok : RwsOk rws) (dp : rws.deep ≤ 5) (ct : rws.cnt ≤ 40) (pl : RwsPl rws) (bk : resW w (goRs rws ⟨[], tab, []⟩)) (wo : wOk w) (q : ∀ H', Q (.bl true) H') :
    rd_law_7 K t { nx := fun _ H' => Q .non H', rt := Q } [some (.ref a), some (.ref sl), some (.ref sh), some (.ref tb), some (.str w), some rv, some (.ref bh), some (.ref ra), none, none, none, none, none, none] H := by
  simp only [rd_law_7, rd_law_8, rd_law_9, sp__law_copied, sp_alone, rEqD, L2.start, cLst, r_mt_append, rAppend, tSeq, tAsg, gName, gTup, gCons, gNil, tRet, tDrop, tNext, tOp, tVar, tC, tLst, tTup, tCons, tNil, tIfS, tOr, tNot, tTest, tB, tAndV, tCB, tBM, tyV, tCall, rIxL, cIsi, List.map, List.replicate, List.length, List.append, List.cons_append, List.nil_append, List.append_nil, List.getElem?_cons_zero, List.getElem?_cons_succ, Option.some.injEq, exists_eq_left', exists_eq_left, V.int.injEq, V.ref.injEq, V.str.injEq, V.bl.injEq, V.ty.injEq, List.cons.injEq, and_true, true_and, and_assoc, exists_and_left, List.set_cons_zero, List.set_cons_succ, Nat.reduceSub, Nat.reduceAdd, decide_eq_true_eq, Bool.not_eq_true', decide_eq_false_iff_not, Int.reduceToNat, Int.reducePow, Int.reduceNeg, Int.reduceMul, Int.reduceAdd, if_true, ite_true, Bool.false_eq_true, ite_false, if_false]
  refine ⟨anyA, rws, rr, fun _ _ => trivial, by omega, by omega, fun v H1 s1 hv => ?_⟩
  obtain ⟨hv', xs, rfl, _, hh, hx⟩ := hv
  obtain ⟨ks, hks, rks⟩ := ht.same s1
  refine ⟨ks, .inl (SqL.of hks), fun gv hgv => ?_⟩
  have s2 := isV (o := HO.lst ks) gv hgv
  have S2 := s1.trans s2
  have A : Lw (upd H1 gv (.lst ks)) tb ra hv' gv tab rws w := ⟨ht.same S2, ⟨ks, upd_same, rows_mono s2 rks⟩, ti, rr.mono S2, ⟨hv', xs, rfl, trivial, s2 _ _ hh, hx.mono s2⟩, ok, dp, ct, pl, bk, wo⟩
  have hn2 := hn.same S2
  generalize upd H1 gv (.lst ks) = H2 at *
  refine ⟨rws, A.rh, tab, A.hg, al_pre ok dp ct ti bk, fun r o l oc out H3 s3 fl hr oa la ar => ⟨_, SqT.of hr, rfl, _, _, rfl, _, _, rfl, rfl, ?_⟩⟩
  obtain ⟨rfl, rfl⟩ := alone_w bk ar
  obtain ⟨o1, rfl, ho⟩ := oa
  exact rdp_law10 A hn2 s3 ho la fl q
structure Rs (z : Str) (m : Nat) (r : Rws) : Prop where
  ok : RwsOk r
  dp : r.deep = 0
  ct : r.cnt ≤ m
  pl : RwsPl r
  rn : ∀ s, SF z s → ∃ s', goRs r s = .go s' ∧ SF z s'
theorem go_snoc {x : Rw} : ∀ (r : Rws) (s : Sta) {s' : Sta}, goRs r s = .go s' → goRs (r.snoc x) s = goRs (.cons x .nil) s'
  | .nil, s, s', h => by
    unfold goRs at h
    cases h
    rfl
  | .cons y r, s, s', h => by
    show goRs (.cons y (r.snoc x)) s = _
    unfold goRs at h
    rw [goRs]
    split at h
    · rename_i s1 e
      exact go_snoc r s1 h
    · rename_i n
      exact absurd h (n s')
theorem Rs.snoc {z : Str} {m : Nat} {r : Rws} {x : Rw} (h : Rs z m r) (hx : rwV z x) : Rs z (m + 1) (r.snoc x) :=
  ⟨snoc_ok hx.ok r h.ok, by rw [snoc_deep, h.dp, hx.dp]; rfl, by rw [snoc_cnt, hx.ct]; have := h.ct; omega, snoc_pl hx.pl r h.pl, fun s f => by
    obtain ⟨s1, e1, f1⟩ := h.rn s f
    obtain ⟨s2, e2, f2⟩ := hx.rn s1 f1
    exact ⟨s2, by rw [go_snoc r s e1, goRs, e2]; rfl, f2⟩⟩
theorem rdp_law6 {a sl sh tb r0 bh : Addr} {w : Str} {rv : V} {tab : List Row} {ns : List Int} {rw : Rw} {xs bs : List V} {beh R : Rws} {x y z : Str} (hS : SqL K H a (ns.map V.int)) (hl : ns.length ≤ 63) (hn : NamesAt H sl [x, y, z]) (ht : LsAt H tb tab) (ti : TabI tab) (h1 : RwAt anyA H rv rw) (h2 : brV z w rw) (h3 : H bh = some (.lst bs)) (h4 : RwsAt anyA H bs beh) (h5 : RwsOk beh ∧ RwsPl beh ∧ beh.deep = 0 ∧ beh.cnt = 2 ∧ bs.length = 2) (hr : H r0 = some (.lst xs)) (lx : xs.length ≤ 8) (hx : RwsAt anyA H xs R) (hR : Rs z 8 R) (wo : wOk w) (q : ∀ H', Q (.bl true) H') :
    rd_law_6 K t { nx := fun _ H' => Q .non H', rt := Q } [some (.ref a), some (.ref sl), some (.ref sh), some (.ref tb), some (.str w), some rv, some (.ref bh), some (.ref r0), none, none, none, none, none, none] H := by
  simp only [rd_law_6, sp__law_cell_at, sp__law_within, rEqD, rCat, L2.start, cLst, r_mt_append, rAppend, tSeq, tAsg, gName, gTup, gCons, gNil, tRet, tDrop, tNext, tOp, tVar, tC, tLst, tTup, tCons, tNil, tIfS, tOr, tNot, tTest, tB, tAndV, tCB, tBM, tyV, tCall, rCat, rIxL, cIsi, List.map, List.replicate, List.length, List.append, List.cons_append, List.nil_append, List.append_nil, List.getElem?_cons_zero, List.getElem?_cons_succ, Option.some.injEq, exists_eq_left', exists_eq_left, V.int.injEq, V.ref.injEq, V.str.injEq, V.bl.injEq, V.ty.injEq, List.cons.injEq, and_true, true_and, and_assoc, exists_and_left, List.set_cons_zero, List.set_cons_succ, Nat.reduceSub, Nat.reduceAdd, decide_eq_true_eq, Bool.not_eq_true', decide_eq_false_iff_not, Int.reduceToNat, Int.reducePow, Int.reduceNeg, Int.reduceMul, Int.reduceAdd, if_true, ite_true, Bool.false_eq_true, ite_false, if_false]
  refine ⟨ns, 4, rfl, hS, hl, fun c H1 s1 => ?_⟩
  refine ⟨rw, h1.mono s1, bs, beh, z, w, h2, s1 _ _ h3, h4.mono s1, h5.1, h5.2.1, h5.2.2.1, h5.2.2.2.1, h5.2.2.2.2, fun p ws W H2 s2 hp hw bw => ?_⟩
  have S2 := s1.trans s2
  have lw := RwsAt.len W hw
  have cw := bw.ct
  refine ⟨_, S2 _ _ hr, _, hp, cat_le (by omega), fun p3 g3 => ?_⟩
  have s3 := isV (o := HO.lst (xs ++ ws)) p3 g3
  have S3 := S2.trans s3
  refine ⟨_, upd_same, _, S3 _ _ h3, cat_le (by simp; omega), fun p4 g4 => ?_⟩
  have s4 := isV (o := HO.lst (xs ++ ws ++ bs)) p4 g4
  have S4 := S3.trans s4
  have cR := hR.ct
  refine rdp_law7 (rws := (R.app W).app beh) (hn.same S4) (ht.same S4) ti ⟨p4, _, rfl, trivial, upd_same, RwsAt.app (h4.mono S4) _ (RwsAt.app (hw.mono (s3.trans s4)) R (hx.mono S4))⟩ (app_ok _ (app_ok R hR.ok bw.ok) h5.1) ?_ ?_ (app_pl _ (app_pl R hR.pl bw.pl) h5.2.1) ?_ wo q
  · rw [app_deep, app_deep, hR.dp, h5.2.2.1]; have := bw.dp; omega
  · rw [app_cnt, app_cnt, h5.2.2.2.1]; omega
  · refine bk_app _ _ ?_
    have f0 : SF z ⟨[], tab, []⟩ := ⟨⟨(fun k v e => by rw [valV_nil] at e; cases e), valV_nil⟩, fun q hq => (ti.ps q hq).2.1⟩
    obtain ⟨s', e', f'⟩ := hR.rn _ f0
    rw [go_app R _ e']
    exact bw.bk s' f'
def cRw (D : Addr) (z : Str) (i : Nat) (ys : List V) (H : Hp) : Prop := ∃ R : Rws, RwsAt (fun b => b ≠ D) H ys R ∧ Rs z i R
theorem cut_len (ns : List Int) : ∃ ys : List Int, cutV (ns.map V.int) (some 5) (some 13) = ys.map V.int ∧ ys.length ≤ 8 := by
  refine ⟨(ns.drop (HT.sIx ns.length 0 (some 5))).take (HT.sIx ns.length ns.length (some 13) - HT.sIx ns.length 0 (some 5)), ?_, ?_⟩
  · unfold cutV
    rw [List.map_take, List.map_drop, List.length_map]
  · rw [List.length_take, List.length_drop]
    unfold HT.sIx
    simp
    omega
theorem rdp_law5 {a sl sh tb bh : Addr} {w : Str} {rv : V} {tab : List Row} {ns : List Int} {rw : Rw} {bs : List V} {beh : Rws} {x y z : Str} {us : List Str} (hS : SqL K H a (ns.map V.int)) (hl : ns.length ≤ 63) (hn : NamesAt H sl [x, y, z]) (nz : x ≠ z ∧ y ≠ z) (hu : NamesAt H sh us) (lu : us.length = 2) (ht : LsAt H tb tab) (ti : TabI tab) (h1 : RwAt anyA H rv rw) (h2 : brV z w rw) (h3 : H bh = some (.lst bs)) (h4 : RwsAt anyA H bs beh) (h5 : RwsOk beh ∧ RwsPl beh ∧ beh.deep = 0 ∧ beh.cnt = 2 ∧ bs.length = 2) (wo : wOk w) (q : ∀ H', Q (.bl true) H') :
    rd_law_5 K t { nx := fun _ H' => Q .non H', rt := Q } [some (.ref a), some (.ref sl), some (.ref sh), some (.ref tb), some (.str w), some rv, some (.ref bh), none, none, none, none, none, none, none] H := by
  simp only [rd_law_5, sp__law_row, rEqD, rCat, L2.start, cLst, r_mt_append, rAppend, tSeq, tAsg, gName, gTup, gCons, gNil, tRet, tDrop, tNext, tOp, tVar, tC, tLst, tTup, tCons, tNil, tIfS, tOr, tNot, tTest, tB, tAndV, tCB, tBM, tyV, tSl, tPart, tCall, tComp, tYes, capV, iList, rCat, rIxL, rSlL, cIsi, List.map, List.replicate, List.length, List.append, List.cons_append, List.nil_append, List.append_nil, List.getElem?_cons_zero, List.getElem?_cons_succ, Option.some.injEq, exists_eq_left', exists_eq_left, V.int.injEq, V.ref.injEq, V.str.injEq, V.bl.injEq, V.ty.injEq, List.cons.injEq, and_true, true_and, and_assoc, exists_and_left, List.set_cons_zero, List.set_cons_succ, Nat.reduceSub, Nat.reduceAdd, decide_eq_true_eq, Bool.not_eq_true', decide_eq_false_iff_not, Int.reduceToNat, Int.reducePow, Int.reduceNeg, Int.reduceMul, Int.reduceAdd, if_true, ite_true, Bool.false_eq_true, ite_false, if_false]
  refine ⟨_, hS, fun p hp => ?_⟩
  obtain ⟨cs, ec, lc⟩ := cut_len ns
  rw [ec] at *
  have s1 := isV (o := HO.lst (cs.map V.int)) p hp
  have hp1 : upd H p (HO.lst (cs.map V.int)) p = some (.lst (cs.map V.int)) := upd_same
  generalize upd H p (HO.lst (cs.map V.int)) = H1 at *
  refine ⟨⟨_, SqL.of hp1⟩, fun D hD => ?_⟩
  refine comp_inv2 (J := Itl K p) (cs.map V.int).length (by simp; omega) (fun τ => ∃ o, τ = [o, some (.ref sl), some (.ref sh)]) (cRw D z) (fun i ys H H' s ⟨R, h1, h2⟩ => ⟨R, h1.to R (fun _ _ f _ => f) (fun b o f e => s b o f e), h2⟩) ⟨_, rfl⟩ ⟨.nil, by unfold RwsAt; rfl, by unfold RwsOk; trivial, by simp [Rws.deep], by simp [Rws.cnt], by unfold RwsPl; trivial, fun s f => ⟨s, by rw [goRs], f⟩⟩ (fun i H s h => ⟨_, _, SqL.of (s _ _ hp1), List.getElem?_eq_getElem h⟩) (fun H s => ⟨_, SqL.of (s _ _ hp1), Nat.le_refl _⟩) hD ?_ ?_
  · rintro i v τ ys H4 H5 ⟨o, rfl⟩ s4 hi ⟨R, hR, rR⟩ hy ⟨rfl, hv⟩
    have hv := hv _ (SqL.of (s4 _ _ hp1))
    obtain ⟨c, _, rfl⟩ := List.mem_map.mp (List.mem_of_getElem? hv)
    simp only [rEqD, rCat, L2.start, cLst, r_mt_append, rAppend, tSeq, tAsg, gName, gTup, gCons, gNil, tRet, tDrop, tNext, tOp, tVar, tC, tLst, tTup, tCons, tNil, tIfS, tOr, tNot, tTest, tB, tAndV, tCB, tBM, tyV, tSl, tPart, tCall, tComp, tYes, capV, iList, rCat, rIxL, rSlL, cIsi, List.map, List.replicate, List.length, List.append, List.cons_append, List.nil_append, List.append_nil, List.getElem?_cons_zero, List.getElem?_cons_succ, Option.some.injEq, exists_eq_left', exists_eq_left, V.int.injEq, V.ref.injEq, V.str.injEq, V.bl.injEq, V.ty.injEq, List.cons.injEq, and_true, true_and, and_assoc, exists_and_left, List.set_cons_zero, List.set_cons_succ, Nat.reduceSub, Nat.reduceAdd, decide_eq_true_eq, Bool.not_eq_true', decide_eq_false_iff_not, Int.reduceToNat, Int.reducePow, Int.reduceNeg, Int.reduceMul, Int.reduceAdd, if_true, ite_true, Bool.false_eq_true, ite_false, if_false]
    have S := s1.trans s4
    refine ⟨x, y, z, hn.same S, nz.1, nz.2, us, hu.same S, lu, fun u r H6 s6 hr vr => ⟨⟨_, rfl⟩, ⟨R.snoc r, RwsAt.snoc (hr.to r (fun b o f _ => fresh_ne hy f) fun b o _ e => e) R (hR.mono s6), rR.snoc vr⟩, s6⟩⟩
  · rintro ys H4 hly ⟨R, hR, rR⟩ s4 hq
    have S := s1.trans s4
    have ly := hly
    rw [List.length_map] at ly
    exact rdp_law6 (hS.mono S) hl (hn.same S) (ht.same S) ti (h1.mono S) h2 (S _ _ h3) (h4.mono S) h5 hq (by omega) (hR.to R (fun _ _ _ _ => trivial) fun b o _ e => e) ⟨rR.ok, rR.dp, by have := rR.ct; rw [List.length_map] at this; omega, rR.pl, rR.rn⟩ wo q
theorem rdp_law4 {a sl sh tb : Addr} {w : Str} {rv : V} {tab : List Row} {ns : List Int} {rw : Rw} {x y z u0 u1 : Str} (hS : SqL K H a (ns.map V.int)) (hl : ns.length ≤ 63) (hn : NamesAt H sl [x, y, z]) (nz : x ≠ z ∧ y ≠ z) (hu : NamesAt H sh [u0, u1]) (ht : LsAt H tb tab) (ti : TabI tab) (h1 : RwAt anyA H rv rw) (h2 : brV z w rw) (wo : wOk w) (q : ∀ H', Q (.bl true) H') :
    rd_law_4 K t { nx := fun _ H' => Q .non H', rt := Q } [some (.ref a), some (.ref sl), some (.ref sh), some (.ref tb), some (.str w), some rv, none, none, none, none, none, none, none, none] H := by
  simp only [rd_law_4, rEqD, rCat, L2.start, cLst, r_mt_append, rAppend, tSeq, tAsg, gName, gTup, gCons, gNil, tRet, tDrop, tNext, tOp, tVar, tC, tLst, tTup, tCons, tNil, tIfS, tOr, tNot, tTest, tB, tAndV, tCB, tBM, tyV, tSl, tPart, tCall, tComp, tYes, capV, iList, rCat, rIxL, rSlL, cIsi, List.map, List.replicate, List.length, List.append, List.cons_append, List.nil_append, List.append_nil, List.getElem?_cons_zero, List.getElem?_cons_succ, Option.some.injEq, exists_eq_left', exists_eq_left, V.int.injEq, V.ref.injEq, V.str.injEq, V.bl.injEq, V.ty.injEq, List.cons.injEq, and_true, true_and, and_assoc, exists_and_left, List.set_cons_zero, List.set_cons_succ, Nat.reduceSub, Nat.reduceAdd, decide_eq_true_eq, Bool.not_eq_true', decide_eq_false_iff_not, Int.reduceToNat, Int.reducePow, Int.reduceNeg, Int.reduceMul, Int.reduceAdd, if_true, ite_true, Bool.false_eq_true, ite_false, if_false]
  have n0 : isName u0 = true := hu.2 u0 (by simp)
  refine ⟨_, SqL.of hu.1, _, rfl, by decide, fun p1 g1 => ?_⟩
  obtain ⟨H1, e1, s1, q1⟩ := new_obj (o := HO.tup [V.int 1]) g1
  rw [← e1]; clear e1 g1
  refine ⟨by decide, fun p2 g2 => ?_⟩
  obtain ⟨H2, e2, s2, q2⟩ := new_obj (o := HO.tup [V.int 77]) g2
  rw [← e2]; clear e2 g2
  refine ⟨by decide, fun p3 g3 => ?_⟩
  obtain ⟨H3, e3, s3, q3⟩ := new_obj (o := HO.tup [V.str (Str.ofString "give"), V.str u0, V.ref p1, V.ref p2]) g3
  rw [← e3]; clear e3 g3
  refine ⟨by decide, fun p4 g4 => ?_⟩
  obtain ⟨H4, e4, s4, q4⟩ := new_obj (o := HO.tup [V.int 5]) g4
  rw [← e4]; clear e4 g4
  refine ⟨by decide, fun p5 g5 => ?_⟩
  obtain ⟨H5, e5, s5, q5⟩ := new_obj (o := HO.tup [V.str (Str.ofString "say"), V.ref p4]) g5
  rw [← e5]; clear e5 g5
  refine ⟨by decide, fun p6 g6 => ?_⟩
  have s6 := isV (o := HO.lst [V.ref p3, V.ref p5]) p6 g6
  have S := s1.trans (s2.trans (s3.trans (s4.trans (s5.trans s6))))
  have t1 := tm_leaf (in_int (i := 1) (by omega))
  have t77 := tm_leaf (in_int (i := 77) (by omega))
  have t5 := tm_leaf (in_int (i := 5) (by omega))
  refine rdp_law5 (hS.mono S) hl (hn.same S) nz (hu.same S) rfl (ht.same S) ti (h1.mono S) h2 upd_same (beh := .cons (.give u0 [.int 1] [.int 77]) (.cons (.say [.int 5]) .nil)) ?_ ⟨?_, ?_, by simp [Rws.deep, Rw.deep], by simp [Rws.cnt, Rw.cnt], rfl⟩ wo q
  · unfold RwsAt
    exact ⟨_, _, rfl, ⟨p3, p1, p2, rfl, trivial, trivial, trivial, (s4.trans (s5.trans s6)) _ _ q3, (s2.trans (s3.trans (s4.trans (s5.trans s6)))) _ _ q1, (s3.trans (s4.trans (s5.trans s6))) _ _ q2⟩, rws1_at ⟨p5, p4, rfl, trivial, trivial, s6 _ _ q5, (s5.trans s6) _ _ q4⟩⟩
  · unfold RwsOk
    exact ⟨⟨t1.1, t77.1⟩, rws1_ok t5.1⟩
  · unfold RwsPl
    exact ⟨⟨name_ok n0, t1.2.1, t77.2.1⟩, rws1_pl t5.2.1⟩
theorem three {ws : List Str} (h : (ws.length : Int) = 3) (nd : ws.Nodup) : ∃ x y z, ws = [x, y, z] ∧ x ≠ z ∧ y ≠ z := by
  match ws, h with
  | [x, y, z], _ => 
    simp at nd
    exact ⟨x, y, z, rfl, nd.1.2, nd.2⟩
theorem two {ws : List Str} (h : (ws.length : Int) = 2) : ∃ x y, ws = [x, y] := by
  match ws, h with
  | [x, y], _ => exact ⟨x, y, rfl⟩
theorem rdp_law {a : Addr} {ns : List Int} (hS : SqL K H a (ns.map V.int)) (hn : ns.length ≤ 63) (q : ∀ H', Q (.bl true) H') :
    rd_law K t { nx := fun _ H' => Q .non H', rt := Q } (L2.start ["script", "slots", "shelves", "table", "why", "row", "behind", "rows", "handed", "given", "outcome", "told", "many", "last"] [.ref a]) H := by
  simp only [rd_law, sp__law_cell_at, sp__law_names, sp__law_table, sp__law_breaker, rEqD, rCat, L2.start, cLst, r_mt_append, rAppend, tSeq, tAsg, gName, gTup, gCons, gNil, tRet, tDrop, tNext, tOp, tVar, tC, tLst, tTup, tCons, tNil, tIfS, tOr, tNot, tTest, tB, tAndV, tCB, tBM, tyV, tSl, tPart, tCall, tComp, tYes, capV, iList, rCat, rIxL, rSlL, cIsi, List.map, List.replicate, List.length, List.append, List.cons_append, List.nil_append, List.append_nil, List.getElem?_cons_zero, List.getElem?_cons_succ, Option.some.injEq, exists_eq_left', exists_eq_left, V.int.injEq, V.ref.injEq, V.str.injEq, V.bl.injEq, V.ty.injEq, List.cons.injEq, and_true, true_and, and_assoc, exists_and_left, List.set_cons_zero, List.set_cons_succ, Nat.reduceSub, Nat.reduceAdd, decide_eq_true_eq, Bool.not_eq_true', decide_eq_false_iff_not, Int.reduceToNat, Int.reducePow, Int.reduceNeg, Int.reduceMul, Int.reduceAdd, if_true, ite_true, Bool.false_eq_true, ite_false, if_false]
  refine ⟨ns, 0, rfl, hS, hn, fun c1 H1 s1 => ⟨by decide, by decide, fun sl ws H2 s2 hw lw nd => ?_⟩⟩
  have S2 := s1.trans s2
  refine ⟨ns, 1, rfl, hS.mono S2, hn, fun c3 H3 s3 => ⟨by decide, by decide, fun sh us H4 s4 hu lu _ => ?_⟩⟩
  have S4 := S2.trans (s3.trans s4)
  obtain ⟨x, y, z, rfl, nz⟩ := three lw nd
  obtain ⟨u0, u1, rfl⟩ := two lu
  refine ⟨ns, 2, rfl, hS.mono S4, hn, fun c5 H5 s5 => ⟨_, hu.same s5, rfl, fun tb tab H6 s6 ht ti => ?_⟩⟩
  have S6 := S4.trans (s5.trans s6)
  have hw6 := hw.same (s3.trans (s4.trans (s5.trans s6)))
  have hu6 := hu.same (s5.trans s6)
  refine ⟨ns, 3, rfl, hS.mono S6, hn, fun c7 H7 s7 => ⟨x, y, z, hw6.same s7, u0, u1, hu6.same s7, fun r w v rw H8 s8 hr hv bv wo => ⟨_, SqT.of hr, rfl, _, _, rfl, _, _, rfl, rfl, ?_⟩⟩⟩
  have S8 := s7.trans s8
  exact rdp_law4 (hS.mono (S6.trans S8)) hn (hw6.same S8) nz (hu6.same S8) (ht.same S8) ti hv bv wo q
end

section
variable {P : Program} {w : World} {K : PySem.W.Frag} {mg : Str → Option Value} {base : Heap} {t : Adr}
theorem ok__law_draw (T : Txt K mg t) : FnOk P w K mg base (CX1 P w) 1 t.a__law_draw t.d__law_draw ["cell", "j"] (sp__law_draw) := by
  refine T.f__law_draw.ok0 sc__law_draw (fun vs H Q E h => ?_) (fun cdv A outer s H vs Q E hr h => ?_)
  · obtain ⟨c, j, rfl, _⟩ := h; rfl
  obtain ⟨c, j, rfl, h1, h2, q⟩ := h
  exact ⟨rd__law_draw K t, (pss_cons (ps_set (i := 2) sc__law_draw.nd rfl (Or.inl rfl) (pe_op op_mod (pe_op op_add (pe_op op_mulB (pe_op op_mod (pv 0) (pe_int (i := 1000000007))) (pe_int (i := 6700417))) (pe_op op_mulB (pe_op op_mulB (pe_op op_add (pv 1) (pe_int (i := 1))) (pe_int (i := 104729))) (pe_int (i := 65537)))) (pe_int (i := 1000000009))))
    (pss_one (ps_ret (pe_op op_fdivB (pe_op op_mod (pe_op op_mulB (pe_op op_mod (pe_op op_mulB (pv 2) (pv 2)) (pe_int (i := 1000000009))) (pv 2)) (pe_int (i := 1000000009))) (pe_int (i := 32)))))), rdp__law_draw h1 h2 q⟩
theorem ok__law_names (T : Txt K mg t) : FnOk P w K mg base (CX1 P w) 2 t.a__law_names t.d__law_names ["cell", "many"] (sp__law_names) := by
  refine T.f__law_names.ok0 sc__law_names (fun vs H Q E h => ?_) (fun cdv A outer s H vs Q E hr h => ?_)
  · obtain ⟨c, m, rfl, _⟩ := h; rfl
  obtain ⟨c, m, rfl, h1, h2, q⟩ := h
  exact ⟨rd__law_names K t, (pss_cons (ps_set (i := 2) sc__law_names.nd rfl (Or.inl rfl) (pe_op op_add (pe_int (i := 1)) (pe_op op_mod (pe_call (FnOk.mono (ok__law_draw T) (by decide)) hr rfl T.m__law_draw T.f__law_draw.kp T.b__law_draw .nil pass10 (pa_cons (pv 0) (pa_cons (pe_int (i := 1)) pa_nil))) (pe_int (i := 6)))))
    (pss_cons (ps_set (i := 3) sc__law_names.nd rfl (Or.inr rfl) (pe_str (x := "zyxwvtsrqpnmlkjhgfdcb")))
    (pss_cons (ps_if (pt_cmpR op_eq (pv 2) (pe_int (i := 6)) (nomark _)) (pss_one (ps_set (i := 3) sc__law_names.nd rfl (Or.inr rfl) (pe_str (x := "zyxwvutsrqponmlkjihgfedcba"))))
      pss_nil)
    (pss_cons (ps_set (i := 4) sc__law_names.nd rfl (Or.inr rfl) (pe_str (x := "")))
    (pss_cons (ps_for PassesOwn.never rfl (pi_range1 rfl T.b_range (pa_cons (pv 2) pa_nil)) (pg_name (i := 5) sc__law_names.nd rfl (Or.inl rfl)) (pss_one (ps_set (i := 4) sc__law_names.nd rfl (Or.inr rfl) (pe_op op_add_str (pv 4) (pe_ix ix_str (pv 3) (pe_op op_mod (pe_call (FnOk.mono (ok__law_draw T) (by decide)) hr rfl T.m__law_draw T.f__law_draw.kp T.b__law_draw .nil pass10 (pa_cons (pv 0) (pa_cons (pe_op op_add (pe_int (i := 2)) (pv 5)) pa_nil))) (pe_callB call_len rfl T.b_len bt_len (pa_cons (pv 3) pa_nil))) (fun _ _ => rfl))))))
    (pss_cons (ps_set (i := 6) sc__law_names.nd rfl (Or.inr rfl) (pe_op op_mod (pe_call (FnOk.mono (ok__law_draw T) (by decide)) hr rfl T.m__law_draw T.f__law_draw.kp T.b__law_draw .nil pass10 (pa_cons (pv 0) (pa_cons (pe_int (i := 8)) pa_nil))) (pv 2)))
    (pss_cons (ps_set (i := 7) sc__law_names.nd rfl (Or.inl rfl) (pe_op op_mod (pe_call (FnOk.mono (ok__law_draw T) (by decide)) hr rfl T.m__law_draw T.f__law_draw.kp T.b__law_draw .nil pass10 (pa_cons (pv 0) (pa_cons (pe_int (i := 9)) pa_nil))) (pe_callB call_len rfl T.b_len bt_len (pa_cons (pv 3) pa_nil))))
    (pss_cons (ps_set (i := 3) sc__law_names.nd rfl (Or.inr rfl) (pe_op op_add_str (pe_slice sl_str (pv 3) (po_some (pv 7)) po_none) (pe_slice sl_str (pv 3) po_none (po_some (pv 7)))))
    (pss_one (ps_ret (pe_comp rfl (osc := defScope s__law_names) (N := ["cell", "many", "size", "signs", "stem", "k", "at", "turn"]) (xs := ["k"]) (ix := [4, 6, 3]) (by decide +kernel) (pi_range1 rfl T.b_range (pa_cons (pv 1) pa_nil)) (fun _ _ _ _ => (pg_name (i := 0) (show List.Nodup (["k", "stem", "at", "signs"] : List Str) from (by decide +kernel)) rfl (Or.inl rfl) (.inr rfl))) (fun _ _ _ _ => pts_nil) (fun _ _ _ _ => (pe_op op_add_str (pe_op op_add_str (pe_slice sl_str (pv 1) po_none (po_some (pv 2))) (pe_ix ix_str (pv 3) (pv 0) (fun _ _ => rfl))) (pe_slice sl_str (pv 1) (po_some (pe_op op_add (pv 2) (pe_int (i := 1)))) po_none)))))))))))))), rdp__law_names h1 h2 q⟩
theorem ok__law_number (T : Txt K mg t) : FnOk P w K mg base (CX1 P w) 2 t.a__law_number t.d__law_number ["cell", "j"] (sp__law_number) := by
  refine T.f__law_number.ok0 sc__law_number (fun vs H Q E h => ?_) (fun cdv A outer s H vs Q E hr h => ?_)
  · obtain ⟨c, j, rfl, _⟩ := h; rfl
  obtain ⟨c, j, rfl, h1, h2, q⟩ := h
  exact ⟨rd__law_number K t, (pss_cons (ps_if (pt_cmpR op_eq (pe_op op_mod (pe_call (FnOk.mono (ok__law_draw T) (by decide)) hr rfl T.m__law_draw T.f__law_draw.kp T.b__law_draw .nil pass10 (pa_cons (pv 0) (pa_cons (pv 1) pa_nil))) (pe_int (i := 3))) (pe_int (i := 0)) (nomark _)) (pss_one (ps_ret (pe_op op_sub (pe_op op_mod (pe_op op_add (pe_op op_mulB (pe_op op_mulB (pe_op op_mod (pv 0) (pe_op op_pow (pe_int (i := 10)) (pe_int (i := 40)))) (pe_op op_add (pv 1) (pe_int (i := 2)))) (pe_int (i := 1000003))) (pv 1)) (pe_op op_add (pe_op op_mulB (pe_int (i := 2)) (pe_op op_pow (pe_int (i := 10)) (pe_int (i := 30)))) (pe_int (i := 1)))) (pe_op op_pow (pe_int (i := 10)) (pe_int (i := 30))))))
      pss_nil)
    (pss_one (ps_ret (pe_op op_sub (pe_op op_mod (pe_call (FnOk.mono (ok__law_draw T) (by decide)) hr rfl T.m__law_draw T.f__law_draw.kp T.b__law_draw .nil pass10 (pa_cons (pv 0) (pa_cons (pe_op op_add (pv 1) (pe_int (i := 1))) pa_nil))) (pe_int (i := 5))) (pe_int (i := 2)))))), rdp__law_number h1 h2 q⟩
theorem ok__law_table (T : Txt K mg t) : FnOk P w K mg base (CX1 P w) 3 t.a__law_table t.d__law_table ["cell", "shelves"] (sp__law_table) := by
  refine T.f__law_table.ok0 sc__law_table (fun vs H Q E h => ?_) (fun cdv A outer s H vs Q E hr h => ?_)
  · obtain ⟨c, b, us, rfl, _⟩ := h; rfl
  obtain ⟨c, b, us, rfl, h1, h2, q⟩ := h
  exact ⟨rd__law_table K t, (pss_cons (ps_set (i := 2) sc__law_table.nd rfl (Or.inl rfl) pe_dnewT)
    (pss_cons (ps_for PassesOwn.never rfl (pi_range1 rfl T.b_range (pa_cons (pe_op op_mod (pe_call (FnOk.mono (ok__law_draw T) (by decide)) hr rfl T.m__law_draw T.f__law_draw.kp T.b__law_draw .nil pass10 (pa_cons (pv 0) (pa_cons (pe_int (i := 20)) pa_nil))) (pe_int (i := 7))) pa_nil)) (pg_name (i := 3) sc__law_table.nd rfl (Or.inl rfl)) (pss_cons (ps_set (i := 4) sc__law_table.nd rfl (Or.inl rfl) (pe_call (FnOk.mono (ok__law_number T) (by decide)) hr rfl T.m__law_number T.f__law_number.kp T.b__law_number .nil pass10 (pa_cons (pv 0) (pa_cons (pe_op op_add (pe_int (i := 30)) (pe_op op_mulB (pe_int (i := 3)) (pv 3))) pa_nil))))
    (pss_one (ps_if (pt_cmpR op_ne (pv 4) (pe_int (i := 0)) (nomark _)) (pss_one (ps_dput (hu_of hr) (pv 2) (pe_tup (pa_cons (pe_ix ix_list (pv 1) (pe_op op_mod (pe_call (FnOk.mono (ok__law_draw T) (by decide)) hr rfl T.m__law_draw T.f__law_draw.kp T.b__law_draw .nil pass10 (pa_cons (pv 0) (pa_cons (pe_op op_add (pe_int (i := 50)) (pv 3)) pa_nil))) (pe_int (i := 2))) (fun _ _ => rfl)) (pa_cons (pe_op op_sub (pe_op op_mod (pe_call (FnOk.mono (ok__law_draw T) (by decide)) hr rfl T.m__law_draw T.f__law_draw.kp T.b__law_draw .nil pass10 (pa_cons (pv 0) (pa_cons (pe_op op_add (pe_int (i := 60)) (pv 3)) pa_nil))) (pe_int (i := 4))) (pe_int (i := 1))) pa_nil))) (pv 4) rfl))
      pss_nil))))
    (pss_one (ps_ret (pe_callB (call_sorted_items rfl (hu3 hr)) rfl T.b_sorted bt_sorted (pa_cons (pe_items (pv 2)) pa_nil)))))), rdp__law_table h1 h2 q⟩
theorem ok__law_part (T : Txt K mg t) : FnOk P w K mg base (CX1 P w) 3 t.a__law_part t.d__law_part ["cell", "j", "slots"] (sp__law_part) := by
  refine T.f__law_part.ok0 sc__law_part (fun vs H Q E h => ?_) (fun cdv A outer s H vs Q E hr h => ?_)
  · obtain ⟨c, j, a, x, y, z, rfl, _⟩ := h; rfl
  obtain ⟨c, j, a, x, y, z, rfl, h1, h2, h3, q⟩ := h
  exact ⟨rd__law_part K t, (pss_cons (ps_if (pt_cmpR op_eq (pe_op op_mod (pe_call (FnOk.mono (ok__law_draw T) (by decide)) hr rfl T.m__law_draw T.f__law_draw.kp T.b__law_draw .nil pass10 (pa_cons (pv 0) (pa_cons (pe_op op_add (pv 1) (pe_int (i := 5))) pa_nil))) (pe_int (i := 2))) (pe_int (i := 0)) (nomark _)) (pss_one (ps_ret (pe_tup (pa_cons (pe_ix ix_list (pv 2) (pe_op op_mod (pe_call (FnOk.mono (ok__law_draw T) (by decide)) hr rfl T.m__law_draw T.f__law_draw.kp T.b__law_draw .nil pass10 (pa_cons (pv 0) (pa_cons (pe_op op_add (pv 1) (pe_int (i := 6))) pa_nil))) (pe_int (i := 2))) (fun _ _ => rfl)) pa_nil))))
      pss_nil)
    (pss_one (ps_ret (pe_tup (pa_cons (pe_call (FnOk.mono (ok__law_number T) (by decide)) hr rfl T.m__law_number T.f__law_number.kp T.b__law_number .nil pass10 (pa_cons (pv 0) (pa_cons (pv 1) pa_nil))) pa_nil))))), rdp__law_part h1 h2 h3 q⟩
theorem ok__law_nought (T : Txt K mg t) : FnOk P w K mg base (CX1 P w) 4 t.a__law_nought t.d__law_nought ["cell", "slots"] (sp__law_nought) := by
  refine T.f__law_nought.ok0 sc__law_nought (fun vs H Q E h => ?_) (fun cdv A outer s H vs Q E hr h => ?_)
  · obtain ⟨c, a, x, y, z, rfl, _⟩ := h; rfl
  obtain ⟨c, a, x, y, z, rfl, h1, q⟩ := h
  exact ⟨rd__law_nought K t, (pss_cons (ps_set (i := 2) sc__law_nought.nd rfl (Or.inl rfl) (pe_lst (pa_cons (pe_tup (pa_cons (pe_int (i := 0)) pa_nil)) (pa_cons (pe_tup (pa_cons (pe_ix ix_list (pv 1) (pe_int (i := 2)) (fun _ _ => rfl)) pa_nil)) (pa_cons (pe_tup (pa_cons (pe_ix ix_list (pv 1) (pe_int (i := 0)) (fun _ _ => rfl)) (pa_cons (pe_ix ix_list (pv 1) (pe_int (i := 0)) (fun _ _ => rfl)) (pa_cons (pe_str (x := "minus")) pa_nil)))) (pa_cons (pe_tup (pa_cons (pe_ix ix_list (pv 1) (pe_int (i := 2)) (fun _ _ => rfl)) (pa_cons (pe_int (i := 0)) (pa_cons (pe_str (x := "times")) pa_nil)))) (pa_cons (pe_tup (pa_cons (pe_int (i := 3)) (pa_cons (pe_int (i := 2)) (pa_cons (pe_str (x := "under")) pa_nil)))) pa_nil)))))))
    (pss_cons (ps_set (i := 3) sc__law_nought.nd rfl (Or.inl rfl) (pe_ix ix_list (pe_lst (pa_cons (pe_str (x := "over")) (pa_cons (pe_str (x := "rest")) pa_nil))) (pe_op op_mod (pe_call (FnOk.mono (ok__law_draw T) (by decide)) hr rfl T.m__law_draw T.f__law_draw.kp T.b__law_draw .nil pass10 (pa_cons (pv 0) (pa_cons (pe_int (i := 71)) pa_nil))) (pe_int (i := 2))) (fun _ _ => rfl)))
    (pss_one (ps_ret (pe_op op_catT (pe_op op_catT (pe_call (FnOk.mono (ok__law_part T) (by decide)) hr rfl T.m__law_part T.f__law_part.kp T.b__law_part .nil pass10 (pa_cons (pv 0) (pa_cons (pe_int (i := 73)) (pa_cons (pv 1) pa_nil)))) (pe_ix ix_list (pv 2) (pe_op op_mod (pe_call (FnOk.mono (ok__law_draw T) (by decide)) hr rfl T.m__law_draw T.f__law_draw.kp T.b__law_draw .nil pass10 (pa_cons (pv 0) (pa_cons (pe_int (i := 72)) pa_nil))) (pe_int (i := 5))) (fun _ _ => rfl))) (pe_tup (pa_cons (pv 3) pa_nil))))))), rdp__law_nought h1 q⟩
theorem ok__law_great (T : Txt K mg t) : FnOk P w K mg base (CX1 P w) 2 t.a__law_great t.d__law_great ["cell"] (sp__law_great) := by
  refine T.f__law_great.ok0 sc__law_great (fun vs H Q E h => ?_) (fun cdv A outer s H vs Q E hr h => ?_)
  · obtain ⟨c, rfl, _⟩ := h; rfl
  obtain ⟨c, rfl, q⟩ := h
  exact ⟨rd__law_great K t, (pss_cons (ps_set (i := 1) sc__law_great.nd rfl (Or.inl rfl) (pe_op op_pow (pe_int (i := 10)) (pe_int (i := 30))))
    (pss_cons (ps_set (i := 2) sc__law_great.nd rfl (Or.inl rfl) (pe_lst (pa_cons (pe_tup (pa_cons (pv 1) (pa_cons (pe_int (i := 1)) (pa_cons (pe_str (x := "plus")) pa_nil)))) (pa_cons (pe_tup (pa_cons (pe_un un_neg (pe_int (i := 1))) (pa_cons (pe_un un_neg (pv 1)) (pa_cons (pe_str (x := "plus")) pa_nil)))) (pa_cons (pe_tup (pa_cons (pe_un un_neg (pv 1)) (pa_cons (pe_int (i := 1)) (pa_cons (pe_str (x := "minus")) pa_nil)))) (pa_cons (pe_tup (pa_cons (pe_int (i := 1)) (pa_cons (pe_un un_neg (pv 1)) (pa_cons (pe_str (x := "minus")) pa_nil)))) pa_nil))))))
    (pss_cons (ps_set (i := 2) sc__law_great.nd rfl (Or.inl rfl) (pe_op op_cat (pv 2) (pe_lst (pa_cons (pe_tup (pa_cons (pe_op op_pow (pe_int (i := 10)) (pe_int (i := 15))) (pa_cons (pe_op op_add (pe_op op_pow (pe_int (i := 10)) (pe_int (i := 15))) (pe_int (i := 1))) (pa_cons (pe_str (x := "times")) pa_nil)))) (pa_cons (pe_tup (pa_cons (pv 1) (pa_cons (pv 1) (pa_cons (pe_str (x := "times")) pa_nil)))) (pa_cons (pe_tup (pa_cons (pe_un un_neg (pv 1)) (pa_cons (pe_int (i := 2)) (pa_cons (pe_str (x := "times")) pa_nil)))) pa_nil))))))
    (pss_one (ps_ret (pe_ix ix_list (pv 2) (pe_op op_mod (pe_call (FnOk.mono (ok__law_draw T) (by decide)) hr rfl T.m__law_draw T.f__law_draw.kp T.b__law_draw .nil pass10 (pa_cons (pv 0) (pa_cons (pe_int (i := 81)) pa_nil))) (pe_int (i := 7))) (fun _ _ => rfl))))))), rdp__law_great q⟩
theorem ok__law_bad (T : Txt K mg t) : FnOk P w K mg base (CX1 P w) 5 t.a__law_bad t.d__law_bad ["cell", "slots"] (sp__law_bad) := by
  refine T.f__law_bad.ok0 sc__law_bad (fun vs H Q E h => ?_) (fun cdv A outer s H vs Q E hr h => ?_)
  · obtain ⟨c, a, x, y, z, rfl, _⟩ := h; rfl
  obtain ⟨c, a, x, y, z, rfl, h1, q⟩ := h
  exact ⟨rd__law_bad K t, (pss_cons (ps_set (i := 2) sc__law_bad.nd rfl (Or.inl rfl) (pe_op op_mod (pe_call (FnOk.mono (ok__law_draw T) (by decide)) hr rfl T.m__law_draw T.f__law_draw.kp T.b__law_draw .nil pass10 (pa_cons (pv 0) (pa_cons (pe_int (i := 90)) pa_nil))) (pe_int (i := 6))))
    (pss_cons (ps_if (pt_cmpR op_lt (pv 2) (pe_int (i := 2)) (nomark _)) (pss_one (ps_ret (pe_tup (pa_cons (pe_str (x := "nought")) (pa_cons (pe_call (FnOk.mono (ok__law_nought T) (by decide)) hr rfl T.m__law_nought T.f__law_nought.kp T.b__law_nought .nil pass10 (pa_cons (pv 0) (pa_cons (pv 1) pa_nil))) pa_nil)))))
      pss_nil)
    (pss_cons (ps_if (pt_cmpR op_lt (pv 2) (pe_int (i := 4)) (nomark _)) (pss_one (ps_ret (pe_tup (pa_cons (pe_str (x := "great")) (pa_cons (pe_call (FnOk.mono (ok__law_great T) (by decide)) hr rfl T.m__law_great T.f__law_great.kp T.b__law_great .nil pass10 (pa_cons (pv 0) pa_nil)) pa_nil)))))
      pss_nil)
    (pss_cons (ps_if (pt_cmpR op_eq (pv 2) (pe_int (i := 4)) (nomark _)) (pss_one (ps_ret (pe_tup (pa_cons (pe_str (x := "great")) (pa_cons (pe_op op_catT (pe_op op_catT (pe_call (FnOk.mono (ok__law_great T) (by decide)) hr rfl T.m__law_great T.f__law_great.kp T.b__law_great .nil pass10 (pa_cons (pv 0) pa_nil)) (pe_call (FnOk.mono (ok__law_nought T) (by decide)) hr rfl T.m__law_nought T.f__law_nought.kp T.b__law_nought .nil pass10 (pa_cons (pv 0) (pa_cons (pv 1) pa_nil)))) (pe_tup (pa_cons (pe_str (x := "plus")) pa_nil))) pa_nil)))))
      pss_nil)
    (pss_one (ps_ret (pe_tup (pa_cons (pe_str (x := "nought")) (pa_cons (pe_op op_catT (pe_op op_catT (pe_call (FnOk.mono (ok__law_nought T) (by decide)) hr rfl T.m__law_nought T.f__law_nought.kp T.b__law_nought .nil pass10 (pa_cons (pv 0) (pa_cons (pv 1) pa_nil))) (pe_call (FnOk.mono (ok__law_great T) (by decide)) hr rfl T.m__law_great T.f__law_great.kp T.b__law_great .nil pass10 (pa_cons (pv 0) pa_nil))) (pe_tup (pa_cons (pe_str (x := "same")) pa_nil))) pa_nil))))))))), rdp__law_bad h1 q⟩
theorem ok__law_breaker (T : Txt K mg t) : FnOk P w K mg base (CX1 P w) 6 t.a__law_breaker t.d__law_breaker ["cell", "slots", "shelves"] (sp__law_breaker) := by
  refine T.f__law_breaker.ok0 sc__law_breaker (fun vs H Q E h => ?_) (fun cdv A outer s H vs Q E hr h => ?_)
  · obtain ⟨c, a, b, x, y, z, u0, u1, rfl, _⟩ := h; rfl
  obtain ⟨c, a, b, x, y, z, u0, u1, rfl, h1, h2, q⟩ := h
  exact ⟨rd__law_breaker K t, (pss_cons (ps_asg (pe_call (FnOk.mono (ok__law_bad T) (by decide)) hr rfl T.m__law_bad T.f__law_bad.kp T.b__law_bad .nil pass10 (pa_cons (pv 0) (pa_cons (pv 1) pa_nil))) (pg_tup rfl (pgs_cons (pg_name (i := 3) sc__law_breaker.nd rfl (Or.inl rfl)) (pgs_cons (pg_name (i := 4) sc__law_breaker.nd rfl (Or.inl rfl)) pgs_nil))))
    (pss_cons (ps_asg (pe_call (FnOk.mono (ok__law_bad T) (by decide)) hr rfl T.m__law_bad T.f__law_bad.kp T.b__law_bad .nil pass10 (pa_cons (pe_op op_add (pe_op op_mod (pe_op op_fdivB (pv 0) (pe_int (i := 3))) (pe_op op_pow (pe_int (i := 10)) (pe_int (i := 9)))) (pe_int (i := 7))) (pa_cons (pv 1) pa_nil))) (pg_tup rfl (pgs_cons (pg_name (i := 5) sc__law_breaker.nd rfl (Or.inl rfl)) (pgs_cons (pg_name (i := 6) sc__law_breaker.nd rfl (Or.inl rfl)) pgs_nil))))
    (pss_cons (ps_set (i := 7) sc__law_breaker.nd rfl (Or.inl rfl) (pe_op op_mod (pe_call (FnOk.mono (ok__law_draw T) (by decide)) hr rfl T.m__law_draw T.f__law_draw.kp T.b__law_draw .nil pass10 (pa_cons (pv 0) (pa_cons (pe_int (i := 91)) pa_nil))) (pe_int (i := 8))))
    (pss_cons (ps_if (pt_cmpR op_eq (pv 7) (pe_int (i := 0)) (nomark _)) (pss_one (ps_ret (pe_tup (pa_cons (pv 3) (pa_cons (pe_tup (pa_cons (pe_str (x := "take")) (pa_cons (pe_ix ix_list (pv 2) (pe_int (i := 0)) (fun _ _ => rfl)) (pa_cons (pv 4) (pa_cons (pe_ix ix_list (pv 1) (pe_int (i := 0)) (fun _ _ => rfl)) pa_nil))))) pa_nil)))))
      pss_nil)
    (pss_cons (ps_if (pt_cmpR op_eq (pv 7) (pe_int (i := 1)) (nomark _)) (pss_one (ps_ret (pe_tup (pa_cons (pv 3) (pa_cons (pe_tup (pa_cons (pe_str (x := "give")) (pa_cons (pe_ix ix_list (pv 2) (pe_int (i := 1)) (fun _ _ => rfl)) (pa_cons (pv 4) (pa_cons (pv 6) pa_nil))))) pa_nil)))))
      pss_nil)
    (pss_cons (ps_if (pt_cmpR op_eq (pv 7) (pe_int (i := 2)) (nomark _)) (pss_one (ps_ret (pe_tup (pa_cons (pv 5) (pa_cons (pe_tup (pa_cons (pe_str (x := "give")) (pa_cons (pe_ix ix_list (pv 2) (pe_int (i := 0)) (fun _ _ => rfl)) (pa_cons (pe_tup (pa_cons (pe_ix ix_list (pv 1) (pe_int (i := 1)) (fun _ _ => rfl)) pa_nil)) (pa_cons (pv 6) pa_nil))))) pa_nil)))))
      pss_nil)
    (pss_cons (ps_if (pt_cmpR op_eq (pv 7) (pe_int (i := 3)) (nomark _)) (pss_one (ps_ret (pe_tup (pa_cons (pv 3) (pa_cons (pe_tup (pa_cons (pe_str (x := "let")) (pa_cons (pe_ix ix_list (pv 1) (pe_int (i := 1)) (fun _ _ => rfl)) (pa_cons (pv 4) pa_nil)))) pa_nil)))))
      pss_nil)
    (pss_cons (ps_if (pt_cmpR op_eq (pv 7) (pe_int (i := 4)) (nomark _)) (pss_one (ps_ret (pe_tup (pa_cons (pv 3) (pa_cons (pe_tup (pa_cons (pe_str (x := "say")) (pa_cons (pv 4) pa_nil))) pa_nil)))))
      pss_nil)
    (pss_cons (ps_if (pt_cmpR op_eq (pv 7) (pe_int (i := 5)) (nomark _)) (pss_one (ps_ret (pe_tup (pa_cons (pv 3) (pa_cons (pe_tup (pa_cons (pe_str (x := "off")) (pa_cons (pv 4) pa_nil))) pa_nil)))))
      pss_nil)
    (pss_cons (ps_if (pt_cmpR op_eq (pv 7) (pe_int (i := 6)) (nomark _)) (pss_one (ps_ret (pe_tup (pa_cons (pv 3) (pa_cons (pe_tup (pa_cons (pe_str (x := "if")) (pa_cons (pv 4) (pa_cons (pe_lst (pa_cons (pe_tup (pa_cons (pe_str (x := "off")) (pa_cons (pe_tup (pa_cons (pe_int (i := 1)) pa_nil)) pa_nil))) pa_nil)) (pa_cons (pe_lst (pa_cons (pe_tup (pa_cons (pe_str (x := "say")) (pa_cons (pe_tup (pa_cons (pe_int (i := 2)) pa_nil)) pa_nil))) pa_nil)) pa_nil))))) pa_nil)))))
      pss_nil)
    (pss_cons (ps_set (i := 8) sc__law_breaker.nd rfl (Or.inl rfl) (pe_lst (pa_cons (pe_tup (pa_cons (pe_op op_add (pe_int (i := 1)) (pe_op op_mod (pe_call (FnOk.mono (ok__law_draw T) (by decide)) hr rfl T.m__law_draw T.f__law_draw.kp T.b__law_draw .nil pass10 (pa_cons (pv 0) (pa_cons (pe_int (i := 92)) pa_nil))) (pe_op op_pow (pe_int (i := 10)) (pe_int (i := 8))))) pa_nil)) (pa_cons (pe_tup (pa_cons (pe_un un_neg (pe_op op_pow (pe_int (i := 10)) (pe_int (i := 30)))) pa_nil)) (pa_cons (pe_tup (pa_cons (pe_ix ix_list (pv 1) (pe_int (i := 0)) (fun _ _ => rfl)) (pa_cons (pe_ix ix_list (pv 1) (pe_int (i := 0)) (fun _ _ => rfl)) (pa_cons (pe_str (x := "same")) pa_nil)))) pa_nil)))))
    (pss_cons (ps_expr (pe_bm PySem.F.plainAttrs_list PySem.F.slot_list_append PySem.F.type_list_append mt_append (pv 8) (pa_cons (pe_tup (pa_cons (pe_ix ix_list (pv 1) (pe_int (i := 1)) (fun _ _ => rfl)) (pa_cons (pe_op op_pow (pe_int (i := 10)) (pe_int (i := 30))) (pa_cons (pe_str (x := "under")) (pa_cons (pe_int (i := 2)) (pa_cons (pe_str (x := "plus")) pa_nil)))))) pa_nil)))
    (pss_one (ps_ret (pe_tup (pa_cons (pe_str (x := "told")) (pa_cons (pe_tup (pa_cons (pe_str (x := "off")) (pa_cons (pe_ix ix_list (pv 8) (pe_op op_mod (pe_call (FnOk.mono (ok__law_draw T) (by decide)) hr rfl T.m__law_draw T.f__law_draw.kp T.b__law_draw .nil pass10 (pa_cons (pv 0) (pa_cons (pe_int (i := 93)) pa_nil))) (pe_int (i := 4))) (fun _ _ => rfl)) pa_nil))) pa_nil))))))))))))))))), rdp__law_breaker h1 h2 q⟩
theorem ok__law_copied (T : Txt K mg t) : ∀ n, FnOk P w K mg base (CX1 P w) (1 + n) t.a__law_copied t.d__law_copied ["rows"] (sp__law_copied n) := by
  intro n
  induction n with
  | zero => exact ⟨fun vs H Q E h => (nil__law_copied h).elim, fun A outer s H args us vs Q E hr he hb hv h => (nil__law_copied h).elim⟩
  | succ n IH =>
  refine T.f__law_copied.ok0 sc__law_copied (k := 1 + n) (fun vs H Q E h => ?_) (fun cdv A outer s H vs Q E hr h => ?_)
  · obtain ⟨F, v, rws, rfl, _⟩ := h; rfl
  obtain ⟨F, v, rws, rfl, h1, h2, h3, h4, q⟩ := h
  exact ⟨rd__law_copied K t n, (pss_cons (ps_set (i := 1) sc__law_copied.nd rfl (Or.inl rfl) (pe_lst pa_nil))
    (pss_cons (ps_for PassesOwn.never rfl (pi_list (pv 0)) (pg_name (i := 2) sc__law_copied.nd rfl (Or.inl rfl)) (pss_one (ps_if (pt_cmpR op_eq (pe_ix ix_tup (pv 2) (pe_int (i := 0)) (fun _ _ => rfl)) (pe_str (x := "if")) (nomark _)) (pss_one (ps_expr (pe_bm PySem.F.plainAttrs_list PySem.F.slot_list_append PySem.F.type_list_append mt_append (pv 1) (pa_cons (pe_tup (pa_cons (pe_str (x := "if")) (pa_cons (pe_ix ix_tup (pv 2) (pe_int (i := 1)) (fun _ _ => rfl)) (pa_cons (pe_call (FnOk.mono IH (by omega)) hr rfl T.m__law_copied T.f__law_copied.kp T.b__law_copied .nil pass10 (pa_cons (pe_ix ix_tup (pv 2) (pe_int (i := 2)) (fun _ _ => rfl)) pa_nil)) (pa_cons (pe_call (FnOk.mono IH (by omega)) hr rfl T.m__law_copied T.f__law_copied.kp T.b__law_copied .nil pass10 (pa_cons (pe_ix ix_tup (pv 2) (pe_int (i := 3)) (fun _ _ => rfl)) pa_nil)) pa_nil))))) pa_nil))))
      (pss_one (ps_expr (pe_bm PySem.F.plainAttrs_list PySem.F.slot_list_append PySem.F.type_list_append mt_append (pv 1) (pa_cons (pv 2) pa_nil)))))))
    (pss_one (ps_ret (pv 1))))), rdp__law_copied h1 h2 h3 h4 q⟩
theorem ok_Doing_init (T : Txt K mg t) : FnOk P w K mg base (CX1 P w) 1 t.a_Doing_init t.d_Doing_init ["self", "table"] (sp_Doing_init t) := by
  refine T.f_Doing_init.ok0 sc_Doing_init (fun vs H Q E h => ?_) (fun cdv A outer s H vs Q E hr h => ?_)
  · obtain ⟨x, a, tab, H0, dx, rfl, _⟩ := h; rfl
  obtain ⟨x, a, tab, H0, dx, rfl, h1, h2, h3, h4, h5, q⟩ := h
  exact ⟨rd_Doing_init K t, (pss_cons (ps_fld (f := "slots") (pv 0) pe_dnewK rfl)
    (pss_cons (ps_fld (f := "worths") (pv 0) (pe_callTy (call_dict_pairs rfl (hu3 hr)) rfl T.b_dict bt_dict (pa_cons (pv 1) pa_nil)) rfl)
    (pss_one (ps_fld (f := "sayings") (pv 0) (pe_lst pa_nil) rfl)))), rdp_Doing_init (doF T) h1 h2 h3 h4 h5 q⟩
theorem ok_divided (T : Txt K mg t) : FnOk P w K mg base (CX1 P w) 1 t.a_divided t.d_divided ["word", "first", "second"] (sp_divided t) := by
  refine T.f_divided.ok1 sc_divided (fun vs H Q E h => ?_) (fun cdv A outer s H vs Q E hr h => ?_)
  · obtain ⟨w, a, b, rfl, _⟩ := h; rfl
  obtain ⟨w, a, b, rfl, hw, ha, hb, q⟩ := h
  exact ⟨rd_divided K t E, (pss_cons (ps_if (pt_cmpR op_eq (pv 2) (pe_int (i := 0)) (nomark _)) (pss_one (ps_raise rfl T.x_Nought raises1 rfl T.g_Nought (pa_cons (pe_msgS (pv 0)) pa_nil)))
      pss_nil)
    (pss_one (ps_ret (pe_ifExp (pt_cmpR op_eq (pv 0) (pe_str (x := "over")) (nomark _)) (pe_op op_fdivS (pv 1) (pv 2)) (pe_op op_modN (pv 1) (pv 2)))))), rdp_divided hw ha hb q⟩
theorem ok_come_to (T : Txt K mg t) : FnOk P w K mg base (CX1 P w) 2 t.a_come_to t.d_come_to ["word", "first", "second"] (sp_come_to t) := by
  refine T.f_come_to.ok1 sc_come_to (fun vs H Q E h => ?_) (fun cdv A outer s H vs Q E hr h => ?_)
  · obtain ⟨w, a, b, rfl, _⟩ := h; rfl
  obtain ⟨w, a, b, rfl, hw, ha, hb, q⟩ := h
  exact ⟨rd_come_to K t E, (pss_cons (ps_if (pt_cmpR op_eq (pv 0) (pe_str (x := "plus")) (nomark _)) (pss_one (ps_ret (pe_op op_add (pv 1) (pv 2))))
      pss_nil)
    (pss_cons (ps_if (pt_cmpR op_eq (pv 0) (pe_str (x := "minus")) (nomark _)) (pss_one (ps_ret (pe_op op_sub (pv 1) (pv 2))))
      pss_nil)
    (pss_cons (ps_if (pt_cmpR op_eq (pv 0) (pe_str (x := "times")) (nomark _)) (pss_one (ps_ret (pe_op op_mulB (pv 1) (pv 2))))
      pss_nil)
    (pss_cons (ps_if (pt_cmpR op_eq (pv 0) (pe_str (x := "under")) (nomark _)) (pss_one (ps_ret (pe_ifExp (pt_cmpR op_lt (pv 1) (pv 2) (nomark _)) (pe_int (i := 1)) (pe_int (i := 0)))))
      pss_nil)
    (pss_cons (ps_if (pt_cmpR op_eq (pv 0) (pe_str (x := "same")) (nomark _)) (pss_one (ps_ret (pe_ifExp (pt_cmpR op_eq (pv 1) (pv 2) (nomark _)) (pe_int (i := 1)) (pe_int (i := 0)))))
      pss_nil)
    (pss_one (ps_ret (pe_call (FnOk.mono (ok_divided T) (by decide)) hr rfl T.m_divided T.f_divided.kp T.b_divided .nil pass1 (pa_cons (pv 0) (pa_cons (pv 1) (pa_cons (pv 2) pa_nil))))))))))), rdp_come_to hw ha hb q⟩
theorem ok_is_worth (T : Txt K mg t) : FnOk P w K mg base (CX1 P w) 1 t.a_is_worth t.d_is_worth ["thing"] (sp_is_worth) := by
  refine T.f_is_worth.ok0 sc_is_worth (fun vs H Q E h => ?_) (fun cdv A outer s H vs Q E hr h => ?_)
  · obtain ⟨i, rfl, _⟩ := h; rfl
  obtain ⟨i, rfl, q⟩ := h
  exact ⟨rd_is_worth K t, (pss_cons (ps_if (PW.pt (pw_or (pt_not (pt_val (pe_callB call_isi rfl T.b_isinstance bt_isinstance (pa_cons (pv 0) (pa_cons (pe_bltn rfl T.b_int bt_int rfl) pa_nil))))) (pw_or1 (pt_val (pe_callB call_isi rfl T.b_isinstance bt_isinstance (pa_cons (pv 0) (pa_cons (pe_bltn rfl T.b_bool bt_bool rfl) pa_nil))))))) (pss_one (ps_ret (pe_bl (b := false))))
      pss_nil)
    (pss_one (ps_ret (pe_chain op_le op_le (pe_un un_neg (pe_op op_pow (pe_int (i := 10)) (pe_int (i := 30)))) (pv 0) (pe_op op_pow (pe_int (i := 10)) (pe_int (i := 30))))))), rdp_is_worth (kf K).i_b q⟩
theorem ok_joined (T : Txt K mg t) : FnOk P w K mg base (CX1 P w) 3 t.a_joined t.d_joined ["word", "first", "second"] (sp_joined t) := by
  refine T.f_joined.ok1 sc_joined (fun vs H Q E h => ?_) (fun cdv A outer s H vs Q E hr h => ?_)
  · obtain ⟨w, a, b, rfl, _⟩ := h; rfl
  obtain ⟨w, a, b, rfl, hw, ha, hb, q⟩ := h
  exact ⟨rd_joined K t E, (pss_cons (ps_set (i := 3) sc_joined.nd rfl (Or.inl rfl) (pe_call (FnOk.mono (ok_come_to T) (by decide)) hr rfl T.m_come_to T.f_come_to.kp T.b_come_to .nil pass1 (pa_cons (pv 0) (pa_cons (pv 1) (pa_cons (pv 2) pa_nil)))))
    (pss_cons (ps_if (pt_not (pt_val (pe_call (FnOk.mono (ok_is_worth T) (by decide)) hr rfl T.m_is_worth T.f_is_worth.kp T.b_is_worth .nil pass1 (pa_cons (pv 3) pa_nil)))) (pss_one (ps_raise rfl T.x_Great raises1 rfl T.g_Great (pa_cons (pe_msgS (pv 0)) pa_nil)))
      pss_nil)
    (pss_one (ps_ret (pv 3))))), rdp_joined hw ha hb q⟩
theorem ok_reckoned (T : Txt K mg t) : FnOk P w K mg base (CX1 P w) 4 t.a_reckoned t.d_reckoned ["term", "slots"] (sp_reckoned t) := by
  refine T.f_reckoned.ok1 sc_reckoned (fun vs H Q E h => ?_) (fun cdv A outer s H vs Q E hr h => ?_)
  · obtain ⟨kvs, tm, sl, ps, r, rfl, _⟩ := h; rfl
  obtain ⟨kvs, tm, sl, ps, r, rfl, h1, h2, h3, h4, h5, h6, q⟩ := h
  exact ⟨rd_reckoned K t E, (pss_cons (ps_set (i := 2) sc_reckoned.nd rfl (Or.inl rfl) (pe_lst pa_nil))
    (pss_cons (ps_for own1 rfl (pi_tup (pv 0)) (pg_name (i := 3) sc_reckoned.nd rfl (Or.inl rfl)) (pss_one (ps_if (pt_cmpR op_in_seq (pv 3) (pe_glob rfl T.g_JOINING rfl) (by with_unfolding_all rfl)) (pss_cons (ps_set (i := 4) sc_reckoned.nd rfl (Or.inl rfl) (pe_bm0 PySem.F.plainAttrs_list PySem.F.slot_list_pop PySem.F.type_list_pop mt_pop (pv 2)))
    (pss_cons (ps_set (i := 5) sc_reckoned.nd rfl (Or.inl rfl) (pe_bm0 PySem.F.plainAttrs_list PySem.F.slot_list_pop PySem.F.type_list_pop mt_pop (pv 2)))
    (pss_one (ps_expr (pe_bm PySem.F.plainAttrs_list PySem.F.slot_list_append PySem.F.type_list_append mt_append (pv 2) (pa_cons (pe_call (FnOk.mono (ok_joined T) (by decide)) hr rfl T.m_joined T.f_joined.kp T.b_joined .nil pass1 (pa_cons (pv 3) (pa_cons (pv 5) (pa_cons (pv 4) pa_nil)))) pa_nil))))))
      (pss_one (ps_expr (pe_bm PySem.F.plainAttrs_list PySem.F.slot_list_append PySem.F.type_list_append mt_append (pv 2) (pa_cons (pe_ifExp (pt_val (pe_callB call_isi rfl T.b_isinstance bt_isinstance (pa_cons (pv 3) (pa_cons (pe_bltn rfl T.b_str bt_str rfl) pa_nil)))) (pe_dget2 (hu_of hr) (pv 1) (pv 3) (pe_int (i := 0)) ⟨rfl, rfl, rfl, rfl⟩) (pv 3)) pa_nil)))))))
    (pss_one (ps_ret (pe_bm0 PySem.F.plainAttrs_list PySem.F.slot_list_pop PySem.F.type_list_pop mt_pop (pv 2)))))), rdp_reckoned (kf K).i_s T.v_JOINING h1 h2 h3 h4 h5 h6 q⟩
theorem ok_Doing_worth_of (T : Txt K mg t) : FnOk P w K mg base (CX1 P w) 5 t.a_Doing_worth_of t.d_Doing_worth_of ["self", "term"] (sp_Doing_worth_of t) := by
  refine T.f_Doing_worth_of.ok1 sc_Doing_worth_of (fun vs H Q E h => ?_) (fun cdv A outer s H vs Q E hr h => ?_)
  · obtain ⟨x, tm, e, H0, dx, sl, wo, sa, s0, rfl, _⟩ := h; rfl
  obtain ⟨x, tm, e, H0, dx, sl, wo, sa, s0, rfl, h1, h2, h3, h4, q⟩ := h
  exact ⟨rd_Doing_worth_of K t E, (pss_one (ps_ret (pe_call (FnOk.mono (ok_reckoned T) (by decide)) hr rfl T.m_reckoned T.f_reckoned.kp T.b_reckoned .nil pass1 (pa_cons (pv 1) (pa_cons (pe_fld (f := "slots") (pv 0) rfl) pa_nil))))), rdp_Doing_worth_of (doF T) h1 h2 h3 h4 q⟩
theorem ok_Doing_does (T : Txt K mg t) : FnOk P w K mg base (CX1 P w) 6 t.a_Doing_does t.d_Doing_does ["self", "row"] (sp_Doing_does t) := by
  refine T.f_Doing_does.ok1 sc_Doing_does (fun vs H Q E h => ?_) (fun cdv A outer s H vs Q E hr h => ?_)
  · obtain ⟨x, v, r, m, H0, dx, sl, wo, sa, s0, rfl, _⟩ := h; rfl
  obtain ⟨x, v, r, m, H0, dx, sl, wo, sa, s0, rfl, h1, h2, h3, h4, h5, h6, q1, q2⟩ := h
  exact ⟨rd_Doing_does K t E, (pss_one (ps_if (pt_cmpR op_eq (pe_ix ix_tup (pv 1) (pe_int (i := 0)) (fun _ _ => rfl)) (pe_str (x := "take")) (nomark _)) (pss_one (ps_dput (hu_of hr) (pe_fld (f := "slots") (pv 0) rfl) (pe_ix ix_tup (pv 1) (pe_int (i := 3)) (fun _ _ => rfl)) (pe_dget2 (hu_of hr) (pe_fld (f := "worths") (pv 0) rfl) (pe_tup (pa_cons (pe_ix ix_tup (pv 1) (pe_int (i := 1)) (fun _ _ => rfl)) (pa_cons (pe_meth (pv 0) T.cl_Doing T.me_Doing_worth_of (FnOk.mono (ok_Doing_worth_of T) (by decide)) hr T.b_Doing_worth_of .nil pass1 (pa_cons (pe_ix ix_tup (pv 1) (pe_int (i := 2)) (fun _ _ => rfl)) pa_nil)) pa_nil))) (pe_int (i := 0)) ⟨rfl, rfl, rfl, rfl⟩) rfl))
      (pss_one (ps_if (pt_cmpR op_eq (pe_ix ix_tup (pv 1) (pe_int (i := 0)) (fun _ _ => rfl)) (pe_str (x := "give")) (nomark _)) (pss_cons (ps_set (i := 2) sc_Doing_does.nd rfl (Or.inl rfl) (pe_tup (pa_cons (pe_ix ix_tup (pv 1) (pe_int (i := 1)) (fun _ _ => rfl)) (pa_cons (pe_meth (pv 0) T.cl_Doing T.me_Doing_worth_of (FnOk.mono (ok_Doing_worth_of T) (by decide)) hr T.b_Doing_worth_of .nil pass1 (pa_cons (pe_ix ix_tup (pv 1) (pe_int (i := 2)) (fun _ _ => rfl)) pa_nil)) pa_nil))))
    (pss_one (ps_dput (hu_of hr) (pe_fld (f := "worths") (pv 0) rfl) (pv 2) (pe_meth (pv 0) T.cl_Doing T.me_Doing_worth_of (FnOk.mono (ok_Doing_worth_of T) (by decide)) hr T.b_Doing_worth_of .nil pass1 (pa_cons (pe_ix ix_tup (pv 1) (pe_int (i := 3)) (fun _ _ => rfl)) pa_nil)) rfl)))
      (pss_one (ps_if (pt_cmpR op_eq (pe_ix ix_tup (pv 1) (pe_int (i := 0)) (fun _ _ => rfl)) (pe_str (x := "let")) (nomark _)) (pss_one (ps_dput (hu_of hr) (pe_fld (f := "slots") (pv 0) rfl) (pe_ix ix_tup (pv 1) (pe_int (i := 1)) (fun _ _ => rfl)) (pe_meth (pv 0) T.cl_Doing T.me_Doing_worth_of (FnOk.mono (ok_Doing_worth_of T) (by decide)) hr T.b_Doing_worth_of .nil pass1 (pa_cons (pe_ix ix_tup (pv 1) (pe_int (i := 2)) (fun _ _ => rfl)) pa_nil)) rfl))
      (pss_one (ps_expr (pe_bm PySem.F.plainAttrs_list PySem.F.slot_list_append PySem.F.type_list_append mt_append (pe_fld (f := "sayings") (pv 0) rfl) (pa_cons (pe_meth (pv 0) T.cl_Doing T.me_Doing_worth_of (FnOk.mono (ok_Doing_worth_of T) (by decide)) hr T.b_Doing_worth_of .nil pass1 (pa_cons (pe_ix ix_tup (pv 1) (pe_int (i := 1)) (fun _ _ => rfl)) pa_nil)) pa_nil)))))))))), rdp_Doing_does (doF T) h1 h2 h3 h4 h5 h6 q1 q2⟩
theorem ok_Doing_goes_through (T : Txt K mg t) : ∀ n, FnOk P w K mg base (CX1 P w) (7 + n) t.a_Doing_goes_through t.d_Doing_goes_through ["self", "rows"] (sp_Doing_goes_through t n) := by
  intro n
  induction n with
  | zero => exact ⟨fun vs H Q E h => (nil_Doing_goes_through h).elim, fun A outer s H args us vs Q E hr he hb hv h => (nil_Doing_goes_through h).elim⟩
  | succ n IH =>
  refine T.f_Doing_goes_through.ok1 sc_Doing_goes_through (k := 7 + n) (fun vs H Q E h => ?_) (fun cdv A outer s H vs Q E hr h => ?_)
  · obtain ⟨x, l, xs, rws, m, H0, dx, sl, wo, sa, s0, rfl, _⟩ := h; rfl
  obtain ⟨x, l, xs, rws, m, H0, dx, sl, wo, sa, s0, rfl, h1, h2, h3, h4, h5, h6, h7, q1, q2, q3⟩ := h
  exact ⟨rd_Doing_goes_through K t n E, (pss_cons (ps_for own1 rfl (pi_list (pv 1)) (pg_name (i := 2) sc_Doing_goes_through.nd rfl (Or.inl rfl)) (pss_one (ps_if (pt_cmpR op_eq (pe_ix ix_tup (pv 2) (pe_int (i := 0)) (fun _ _ => rfl)) (pe_str (x := "off")) (nomark _)) (pss_one (ps_if (pt_cmpR op_ne (pe_meth (pv 0) T.cl_Doing T.me_Doing_worth_of (FnOk.mono (ok_Doing_worth_of T) (by omega)) hr T.b_Doing_worth_of .nil pass1 (pa_cons (pe_ix ix_tup (pv 2) (pe_int (i := 1)) (fun _ _ => rfl)) pa_nil)) (pe_int (i := 0)) (nomark _)) (pss_one (ps_ret (pe_bl (b := false))))
      pss_nil))
      (pss_one (ps_if (pt_cmpR op_eq (pe_ix ix_tup (pv 2) (pe_int (i := 0)) (fun _ _ => rfl)) (pe_str (x := "if")) (nomark _)) (pss_one (ps_if (pt_not (pt_val (pe_meth (pv 0) T.cl_Doing T.me_Doing_goes_through (FnOk.mono IH (by omega)) hr T.b_Doing_goes_through .nil pass1 (pa_cons (pe_ifExp (pt_cmpR op_ne (pe_meth (pv 0) T.cl_Doing T.me_Doing_worth_of (FnOk.mono (ok_Doing_worth_of T) (by omega)) hr T.b_Doing_worth_of .nil pass1 (pa_cons (pe_ix ix_tup (pv 2) (pe_int (i := 1)) (fun _ _ => rfl)) pa_nil)) (pe_int (i := 0)) (nomark _)) (pe_ix ix_tup (pv 2) (pe_int (i := 2)) (fun _ _ => rfl)) (pe_ix ix_tup (pv 2) (pe_int (i := 3)) (fun _ _ => rfl))) pa_nil)))) (pss_one (ps_ret (pe_bl (b := false))))
      pss_nil))
      (pss_one (ps_expr (pe_meth (pv 0) T.cl_Doing T.me_Doing_does (FnOk.mono (ok_Doing_does T) (by omega)) hr T.b_Doing_does .nil pass1 (pa_cons (pv 2) pa_nil)))))))))
    (pss_one (ps_ret (pe_bl (b := true))))), rdp_Doing_goes_through (doF T) h1 h2 h3 h4 h5 h6 h7 q1 q2 q3⟩
theorem okH_broken_off (T : Txt K mg t) : FnOkH P w K mg base 1 t.a_broken_off t.d_broken_off ["why", "table"] (sp_broken_off) := by
  refine T.f_broken_off.okH sc_broken_off (fun vs H Q E h => ?_) (fun cdv A outer s H vs Q E hr h => ?_)
  · obtain ⟨w, a, tab, rfl, _⟩ := h; rfl
  obtain ⟨w, a, tab, rfl, h1, q⟩ := h
  exact ⟨rd_broken_off K t, (pss_one (ps_ret (pe_tup (pa_cons (pe_tup (pa_cons (pe_str (x := "off")) (pa_cons (pv 0) pa_nil))) (pa_cons (pe_callTy call_list_of rfl T.b_list bt_list (pa_cons (pv 1) pa_nil)) pa_nil))))), rdp_broken_off h1 q⟩
theorem ok_broken_off (T : Txt K mg t) : FnOk P w K mg base (CX1 P w) 1 t.a_broken_off t.d_broken_off ["why", "table"] (sp_broken_off) := (okH_broken_off T).toFn
theorem ok_table_of (T : Txt K mg t) : FnOk P w K mg base (CX1 P w) 1 t.a_table_of t.d_table_of ["rows"] (sp_table_of) := by
  refine T.f_table_of.ok0 sc_table_of (fun vs H Q E h => ?_) (fun cdv A outer s H vs Q E hr h => ?_)
  · obtain ⟨a, rows, rfl, _⟩ := h; rfl
  obtain ⟨a, rows, rfl, h1, h2, h3, q⟩ := h
  exact ⟨rd_table_of K t, (pss_cons (ps_set (i := 1) sc_table_of.nd rfl (Or.inr rfl) (pe_callTy (call_dict_pairs rfl (hu3 hr)) rfl T.b_dict bt_dict (pa_cons (pv 0) pa_nil)))
    (pss_one (ps_ret (pe_comp rfl (osc := defScope s_table_of) (N := ["rows", "worths"]) (xs := ["place"]) (ix := [1]) (by decide +kernel) (pi_list (pe_callB (call_sortedD rfl) rfl T.b_sorted bt_sorted (pa_cons (pv 1) pa_nil))) (fun _ _ _ _ => (pg_name (i := 0) (show List.Nodup (["place", "worths"] : List Str) from (by decide +kernel)) rfl (Or.inl rfl) (.inr rfl))) (fun _ _ _ _ => (pts_one (pt_cmpR op_ne (pe_dget (hu_of hr) (pv 1) (pv 0) (fun _ _ => rfl)) (pe_int (i := 0)) (nomark _)))) (fun _ _ _ _ => (pe_tup (pa_cons (pv 0) (pa_cons (pe_dget (hu_of hr) (pv 1) (pv 0) (fun _ _ => rfl)) pa_nil)))))))), rdp_table_of h1 h2 h3 q⟩
theorem ok_alone (T : Txt K mg t) : FnOk P w K mg base (CX1 P w) 14 t.a_alone t.d_alone ["rows", "table"] (sp_alone) := by
  refine T.f_alone.ok0 sc_alone (fun vs H Q E h => ?_) (fun cdv A outer s H vs Q E hr h => ?_)
  · obtain ⟨v, a, rws, tab, rfl, _⟩ := h; rfl
  obtain ⟨v, a, rws, tab, rfl, h1, h2, h3, q⟩ := h
  exact ⟨rd_alone K t, (pss_cons (ps_set (i := 2) sc_alone.nd rfl (Or.inl rfl) (pe_make T.mk_Doing (FnOk.mono (ok_Doing_init T) (by decide)) hr rfl T.g_Doing T.b_Doing_init .nil pass10 (pa_cons (pv 1) pa_nil)))
    (pss_cons (ps_tryNN (And.intro rfl rfl) rfl (psx_set (i := 3) sc_alone.nd rfl (Or.inl rfl) (pex_meth (pv 2) T.cl_Doing T.me_Doing_goes_through (FnOk.mono (ok_Doing_goes_through T 6) (by decide)) hr T.b_Doing_goes_through (pa_cons (pv 0) pa_nil))) rfl T.g_Great rfl T.g_Nought (fun _ => (pss_one (ps_ret (pe_callH (FnOkH.mono (okH_broken_off T) (by decide)) (roomH hr) rfl T.m_broken_off T.f_broken_off.kp T.b_broken_off (pa_cons (pe_str (x := "great")) (pa_cons (pv 1) pa_nil)))))) (fun _ => (pss_one (ps_ret (pe_callH (FnOkH.mono (okH_broken_off T) (by decide)) (roomH hr) rfl T.m_broken_off T.f_broken_off.kp T.b_broken_off (pa_cons (pe_str (x := "nought")) (pa_cons (pv 1) pa_nil)))))))
    (pss_cons (ps_if (pt_not (pt_val (pv 3))) (pss_one (ps_ret (pe_call (FnOk.mono (ok_broken_off T) (by decide)) hr rfl T.m_broken_off T.f_broken_off.kp T.b_broken_off .nil pass10 (pa_cons (pe_str (x := "told")) (pa_cons (pv 1) pa_nil)))))
      pss_nil)
    (pss_one (ps_ret (pe_tup (pa_cons (pe_tup (pa_cons (pe_str (x := "done")) (pa_cons (pe_callTy call_tuple_of rfl T.b_tuple bt_tuple (pa_cons (pe_fld (f := "sayings") (pv 2) rfl) pa_nil)) pa_nil))) (pa_cons (pe_call (FnOk.mono (ok_table_of T) (by decide)) hr rfl T.m_table_of T.f_table_of.kp T.b_table_of .nil pass10 (pa_cons (pe_callTy (call_list_items rfl) rfl T.b_list bt_list (pa_cons (pe_items (pe_fld (f := "worths") (pv 2) rfl)) pa_nil)) pa_nil)) pa_nil)))))))), rdp_alone T h1 h2 h3 q⟩
theorem ok_one_by_one (T : Txt K mg t) : FnOk P w K mg base (CX1 P w) 15 t.a_one_by_one t.d_one_by_one ["dealings", "table"] (sp_one_by_one) := by
  refine T.f_one_by_one.ok0 sc_one_by_one (fun vs H Q E h => ?_) (fun cdv A outer s H vs Q E hr h => ?_)
  · obtain ⟨a, b, vs, ds, tab, I, rfl, _⟩ := h; rfl
  obtain ⟨a, b, vs, ds, tab, I, rfl, h1, h2, h3, h4, h5, h6, q⟩ := h
  exact ⟨rd_one_by_one K t, (pss_cons (ps_set (i := 2) sc_one_by_one.nd rfl (Or.inl rfl) (pe_lst pa_nil))
    (pss_cons (ps_set (i := 3) sc_one_by_one.nd rfl (Or.inl rfl) (pe_callTy call_list_of rfl T.b_list bt_list (pa_cons (pv 1) pa_nil)))
    (pss_cons (ps_for PassesOwn.never rfl (pi_list (pv 0)) (pg_name (i := 4) sc_one_by_one.nd rfl (Or.inl rfl)) (pss_cons (ps_set (i := 5) sc_one_by_one.nd rfl (Or.inl rfl) (pe_call (FnOk.mono (ok_alone T) (by decide)) hr rfl T.m_alone T.f_alone.kp T.b_alone .nil pass10 (pa_cons (pv 4) (pa_cons (pv 3) pa_nil))))
    (pss_cons (ps_expr (pe_bm PySem.F.plainAttrs_list PySem.F.slot_list_append PySem.F.type_list_append mt_append (pv 2) (pa_cons (pe_ix ix_tup (pv 5) (pe_int (i := 0)) (fun _ _ => rfl)) pa_nil)))
    (pss_one (ps_set (i := 3) sc_one_by_one.nd rfl (Or.inl rfl) (pe_ix ix_tup (pv 5) (pe_int (i := 1)) (fun _ _ => rfl)))))))
    (pss_one (ps_ret (pe_tup (pa_cons (pv 2) (pa_cons (pv 3) pa_nil)))))))), rdp_one_by_one h1 h2 h3 h4 h5 h6 q⟩
theorem ok__law_cell_at (T : Txt K mg t) : FnOk P w K mg base (CX1 P w) 1 t.a__law_cell_at t.d__law_cell_at ["script", "k"] (sp__law_cell_at K) := by
  refine T.f__law_cell_at.ok0 sc__law_cell_at (fun vs H Q E h => ?_) (fun cdv A outer s H vs Q E hr h => ?_)
  · obtain ⟨a, ns, k, rfl, _⟩ := h; rfl
  obtain ⟨a, ns, k, rfl, hS, hl, q⟩ := h
  exact ⟨rd__law_cell_at K t, (pss_cons (ps_if (pt_cmpR op_lt (pv 1) (pe_callB call_len rfl T.b_len bt_len (pa_cons (pv 0) pa_nil)) (nomark _)) (pss_one (ps_ret (pe_ix ix_list (pv 0) (pv 1) (fun _ _ => rfl))))
      pss_nil)
    (pss_one (ps_ret (pe_int (i := 0))))), rdp__law_cell_at hS hl q⟩
theorem ok__law_row (T : Txt K mg t) : FnOk P w K mg base (CX1 P w) 4 t.a__law_row t.d__law_row ["cell", "slots", "shelves"] (sp__law_row) := by
  refine T.f__law_row.ok0 sc__law_row (fun vs H Q E h => ?_) (fun cdv A outer s H vs Q E hr h => ?_)
  · obtain ⟨c, a, b, x, y, z, us, rfl, _⟩ := h; rfl
  obtain ⟨c, a, b, x, y, z, us, rfl, h1, h2, h3, h4, q⟩ := h
  exact ⟨rd__law_row K t, (pss_cons (ps_set (i := 3) sc__law_row.nd rfl (Or.inl rfl) (pe_op op_mod (pe_call (FnOk.mono (ok__law_draw T) (by decide)) hr rfl T.m__law_draw T.f__law_draw.kp T.b__law_draw .nil pass10 (pa_cons (pv 0) (pa_cons (pe_int (i := 0)) pa_nil))) (pe_int (i := 4))))
    (pss_cons (ps_set (i := 4) sc__law_row.nd rfl (Or.inl rfl) (pe_ix ix_list (pv 2) (pe_op op_mod (pe_call (FnOk.mono (ok__law_draw T) (by decide)) hr rfl T.m__law_draw T.f__law_draw.kp T.b__law_draw .nil pass10 (pa_cons (pv 0) (pa_cons (pe_int (i := 1)) pa_nil))) (pe_int (i := 2))) (fun _ _ => rfl)))
    (pss_cons (ps_set (i := 5) sc__law_row.nd rfl (Or.inl rfl) (pe_ix ix_list (pv 1) (pe_op op_mod (pe_call (FnOk.mono (ok__law_draw T) (by decide)) hr rfl T.m__law_draw T.f__law_draw.kp T.b__law_draw .nil pass10 (pa_cons (pv 0) (pa_cons (pe_int (i := 2)) pa_nil))) (pe_int (i := 2))) (fun _ _ => rfl)))
    (pss_cons (ps_if (pt_cmpR op_eq (pv 3) (pe_int (i := 0)) (nomark _)) (pss_one (ps_ret (pe_tup (pa_cons (pe_str (x := "take")) (pa_cons (pv 4) (pa_cons (pe_call (FnOk.mono (ok__law_part T) (by decide)) hr rfl T.m__law_part T.f__law_part.kp T.b__law_part .nil pass10 (pa_cons (pv 0) (pa_cons (pe_int (i := 20)) (pa_cons (pv 1) pa_nil)))) (pa_cons (pv 5) pa_nil)))))))
      pss_nil)
    (pss_cons (ps_if (pt_cmpR op_eq (pv 3) (pe_int (i := 1)) (nomark _)) (pss_one (ps_ret (pe_tup (pa_cons (pe_str (x := "give")) (pa_cons (pv 4) (pa_cons (pe_call (FnOk.mono (ok__law_part T) (by decide)) hr rfl T.m__law_part T.f__law_part.kp T.b__law_part .nil pass10 (pa_cons (pv 0) (pa_cons (pe_int (i := 20)) (pa_cons (pv 1) pa_nil)))) (pa_cons (pe_call (FnOk.mono (ok__law_part T) (by decide)) hr rfl T.m__law_part T.f__law_part.kp T.b__law_part .nil pass10 (pa_cons (pv 0) (pa_cons (pe_int (i := 40)) (pa_cons (pv 1) pa_nil)))) pa_nil)))))))
      pss_nil)
    (pss_cons (ps_if (pt_cmpR op_eq (pv 3) (pe_int (i := 2)) (nomark _)) (pss_one (ps_ret (pe_tup (pa_cons (pe_str (x := "let")) (pa_cons (pv 5) (pa_cons (pe_call (FnOk.mono (ok__law_part T) (by decide)) hr rfl T.m__law_part T.f__law_part.kp T.b__law_part .nil pass10 (pa_cons (pv 0) (pa_cons (pe_int (i := 40)) (pa_cons (pv 1) pa_nil)))) pa_nil))))))
      pss_nil)
    (pss_one (ps_ret (pe_tup (pa_cons (pe_str (x := "say")) (pa_cons (pe_call (FnOk.mono (ok__law_part T) (by decide)) hr rfl T.m__law_part T.f__law_part.kp T.b__law_part .nil pass10 (pa_cons (pv 0) (pa_cons (pe_int (i := 40)) (pa_cons (pv 1) pa_nil)))) pa_nil))))))))))), rdp__law_row h1 h2 h3 h4 q⟩
theorem ok__law_within (T : Txt K mg t) : FnOk P w K mg base (CX1 P w) 2 t.a__law_within t.d__law_within ["row", "cell", "behind"] (sp__law_within) := by
  refine T.f__law_within.ok0 sc__law_within (fun vs H Q E h => ?_) (fun cdv A outer s H vs Q E hr h => ?_)
  · obtain ⟨v, c, b, rw, bs, beh, z, w0, rfl, _⟩ := h; rfl
  obtain ⟨v, c, b, rw, bs, beh, z, w0, rfl, h1, h2, h3, h4, h5, q⟩ := h
  refine ⟨rd__law_within K t, ?_, rdp__law_within h1 h2 h3 h4 h5 q⟩
  refine pss_cons ?_ ?_
  · refine ps_set (i := 3) ?z ?a ?b ?c (hs := ?d) (hf := ?e)
    case z => exact sc__law_within.nd
    case a => rfl
    case b => exact (Or.inl rfl)
    case c =>
      exact (pe_op op_cat (pe_lst (pa_cons (pv 0) pa_nil)) (pv 2))
    case d => rfl
    case e => first | exact .inl rfl | exact .inr rfl | assumption
  · refine pss_cons ?_ ?_
    · refine ps_for PassesOwn.never rfl ?i ?g ?b
      case i => exact (pi_range1 rfl T.b_range (pa_cons (pe_callB (call_min2 rfl) rfl T.b_min bt_min (pa_cons (pe_op op_mod (pe_call (FnOk.mono (ok__law_draw T) (by decide)) hr rfl T.m__law_draw T.f__law_draw.kp T.b__law_draw .nil pass10 (pa_cons (pv 1) (pa_cons (pe_int (i := 94)) pa_nil))) (pe_int (i := 6))) (pa_cons (pe_op op_sub (pe_int (i := 5)) (pe_callTy call_int_bl rfl T.b_int bt_int (pa_cons (pe_cmpR op_eq (pe_ix ix_tup (pv 0) (pe_int (i := 0)) (fun _ _ => rfl)) (pe_str (x := "if")) (nomark _)) pa_nil))) pa_nil))) pa_nil))
      case g => exact (pg_name (i := 4) sc__law_within.nd rfl (Or.inl rfl))
      case b =>
        refine pss_one ?_
        refine ps_if (pt_cmpR op_eq (pe_op op_mod (pe_call (FnOk.mono (ok__law_draw T) (by decide)) hr rfl T.m__law_draw T.f__law_draw.kp T.b__law_draw .nil pass10 (pa_cons (pv 1) (pa_cons (pe_op op_add (pe_int (i := 95)) (pv 4)) pa_nil))) (pe_int (i := 2))) (pe_int (i := 0)) (nomark _)) ?_ ?_
        · refine pss_one ?_
          refine ps_set (i := 3) ?z ?a ?b ?c (hs := ?d) (hf := ?e)
          case z => exact sc__law_within.nd
          case a => rfl
          case b => exact (Or.inl rfl)
          case c =>
            with_reducible refine pe_op op_cat ?l ?r
            case l =>
              with_reducible refine pe_lst ?_
              refine pa_cons ?_ ?_
              · with_reducible refine pe_tup ?_
                refine pa_cons (pe_str (x := "if")) ?_
                refine pa_cons ?_ ?_
                · with_reducible refine pe_tup ?_
                  refine pa_cons (pe_op op_sub (pe_un un_neg (pe_int (i := 1))) (pv 4)) ?_
                  exact pa_nil
                · refine pa_cons (pv 3) ?_
                  refine pa_cons ?_ ?_
                  · with_reducible refine pe_lst ?_
                    refine pa_cons ?_ ?_
                    · with_reducible refine pe_tup ?_
                      refine pa_cons (pe_str (x := "say")) ?_
                      refine pa_cons ?_ ?_
                      · with_reducible refine pe_tup ?_
                        refine pa_cons (pv 4) ?_
                        exact pa_nil
                      · exact pa_nil
                    · exact pa_nil
                  · exact pa_nil
              · exact pa_nil
            case r =>
              exact (pe_slice sl_list (pv 2) po_none (po_some (pe_op op_mod (pv 4) (pe_int (i := 2)))))
          case d => rfl
          case e => first | exact .inl rfl | exact .inr rfl | assumption
        · refine pss_one ?_
          refine ps_set (i := 3) ?z ?a ?b ?c (hs := ?d) (hf := ?e)
          case z => exact sc__law_within.nd
          case a => rfl
          case b => exact (Or.inl rfl)
          case c =>
            with_reducible refine pe_op op_cat ?l ?r
            case l =>
              with_reducible refine pe_lst ?_
              refine pa_cons ?_ ?_
              · with_reducible refine pe_tup ?_
                refine pa_cons (pe_str (x := "if")) ?_
                refine pa_cons ?_ ?_
                · with_reducible refine pe_tup ?_
                  refine pa_cons (pe_int (i := 0)) ?_
                  exact pa_nil
                · refine pa_cons ?_ ?_
                  · with_reducible refine pe_lst ?_
                    refine pa_cons ?_ ?_
                    · with_reducible refine pe_tup ?_
                      refine pa_cons (pe_str (x := "off")) ?_
                      refine pa_cons ?_ ?_
                      · with_reducible refine pe_tup ?_
                        refine pa_cons (pv 4) ?_
                        exact pa_nil
                      · exact pa_nil
                    · exact pa_nil
                  · refine pa_cons (pv 3) ?_
                    exact pa_nil
              · exact pa_nil
            case r =>
              exact (pe_slice sl_list (pv 2) po_none (po_some (pe_op op_mod (pv 4) (pe_int (i := 2)))))
          case d => rfl
          case e => first | exact .inl rfl | exact .inr rfl | assumption
    · refine pss_one ?_
      exact (ps_ret (pv 3))
theorem ok__law_outcome (T : Txt K mg t) : FnOk P w K mg base (CX1 P w) 1 t.a__law_outcome t.d__law_outcome ["found", "why"] (sp__law_outcome) := by
  refine T.f__law_outcome.ok0 sc__law_outcome (fun vs H Q E h => ?_) (fun cdv A outer s H vs Q E hr h => ?_)
  · obtain ⟨o, w0, rfl, _⟩ := h; rfl
  obtain ⟨o, w0, rfl, h1, h2, q⟩ := h
  exact ⟨rd__law_outcome K t, (pss_cons (ps_if (PW.pt (pw_or (pt_not (pt_val (pe_callB call_isi rfl T.b_isinstance bt_isinstance (pa_cons (pv 0) (pa_cons (pe_bltn rfl T.b_tuple bt_tuple rfl) pa_nil))))) (pw_or (pt_cmpR op_ne (pe_callB call_len rfl T.b_len bt_len (pa_cons (pv 0) pa_nil)) (pe_int (i := 2)) (nomark _)) (pw_or1 (pt_not (pt_val (pe_callB call_isi rfl T.b_isinstance bt_isinstance (pa_cons (pe_ix ix_tup (pv 0) (pe_int (i := 0)) (fun _ _ => rfl)) (pa_cons (pe_bltn rfl T.b_str bt_str rfl) pa_nil))))))))) (pss_one (ps_ret (pe_bl (b := false))))
      pss_nil)
    (pss_one (ps_ret (pe_and (pe_callB call_isi rfl T.b_isinstance bt_isinstance (pa_cons (pe_ix ix_tup (pv 0) (pe_int (i := 1)) (fun _ _ => rfl)) (pa_cons (pe_bltn rfl T.b_str bt_str rfl) pa_nil))) (pe_one (pe_cmpR (op_eqAll (hu64 hr)) (pv 0) (pe_tup (pa_cons (pe_str (x := "off")) (pa_cons (pv 1) pa_nil))) (nomark _))))))), rdp__law_outcome h1 h2 q⟩
theorem ok_law (T : Txt K mg t) : FnOk P w K mg base (CX1 P w) 16 t.a_law t.d_law ["script"] (sp_law K) := by
  refine T.f_law.ok0 sc_law (fun vs H Q E h => ?_) (fun cdv A outer s H vs Q E hr h => ?_)
  · obtain ⟨a, ns, rfl, _⟩ := h; rfl
  obtain ⟨a, ns, rfl, hS, hn, q⟩ := h
  exact ⟨rd_law K t, (pss_cons (ps_set (i := 1) sc_law.nd rfl (Or.inr rfl) (pe_call (FnOk.mono (ok__law_names T) (by decide)) hr rfl T.m__law_names T.f__law_names.kp T.b__law_names .nil pass10 (pa_cons (pe_call (FnOk.mono (ok__law_cell_at T) (by decide)) hr rfl T.m__law_cell_at T.f__law_cell_at.kp T.b__law_cell_at .nil pass10 (pa_cons (pv 0) (pa_cons (pe_int (i := 0)) pa_nil))) (pa_cons (pe_int (i := 3)) pa_nil))))
    (pss_cons (ps_set (i := 2) sc_law.nd rfl (Or.inr rfl) (pe_call (FnOk.mono (ok__law_names T) (by decide)) hr rfl T.m__law_names T.f__law_names.kp T.b__law_names .nil pass10 (pa_cons (pe_call (FnOk.mono (ok__law_cell_at T) (by decide)) hr rfl T.m__law_cell_at T.f__law_cell_at.kp T.b__law_cell_at .nil pass10 (pa_cons (pv 0) (pa_cons (pe_int (i := 1)) pa_nil))) (pa_cons (pe_int (i := 2)) pa_nil))))
    (pss_cons (ps_set (i := 3) sc_law.nd rfl (Or.inl rfl) (pe_call (FnOk.mono (ok__law_table T) (by decide)) hr rfl T.m__law_table T.f__law_table.kp T.b__law_table .nil pass10 (pa_cons (pe_call (FnOk.mono (ok__law_cell_at T) (by decide)) hr rfl T.m__law_cell_at T.f__law_cell_at.kp T.b__law_cell_at .nil pass10 (pa_cons (pv 0) (pa_cons (pe_int (i := 2)) pa_nil))) (pa_cons (pv 2) pa_nil))))
    (pss_cons (ps_asg (pe_call (FnOk.mono (ok__law_breaker T) (by decide)) hr rfl T.m__law_breaker T.f__law_breaker.kp T.b__law_breaker .nil pass10 (pa_cons (pe_call (FnOk.mono (ok__law_cell_at T) (by decide)) hr rfl T.m__law_cell_at T.f__law_cell_at.kp T.b__law_cell_at .nil pass10 (pa_cons (pv 0) (pa_cons (pe_int (i := 3)) pa_nil))) (pa_cons (pv 1) (pa_cons (pv 2) pa_nil)))) (pg_tup rfl (pgs_cons (pg_name (i := 4) sc_law.nd rfl (Or.inl rfl)) (pgs_cons (pg_name (i := 5) sc_law.nd rfl (Or.inl rfl)) pgs_nil))))
    (pss_cons (ps_set (i := 6) sc_law.nd rfl (Or.inl rfl) (pe_lst (pa_cons (pe_tup (pa_cons (pe_str (x := "give")) (pa_cons (pe_ix ix_list (pv 2) (pe_int (i := 0)) (fun _ _ => rfl)) (pa_cons (pe_tup (pa_cons (pe_int (i := 1)) pa_nil)) (pa_cons (pe_tup (pa_cons (pe_int (i := 77)) pa_nil)) pa_nil))))) (pa_cons (pe_tup (pa_cons (pe_str (x := "say")) (pa_cons (pe_tup (pa_cons (pe_int (i := 5)) pa_nil)) pa_nil))) pa_nil))))
    (pss_cons (ps_setComp (j := 7) sc_law.nd rfl rfl (Or.inl rfl) (osc := defScope s_law) (N := ["script", "slots", "shelves", "table", "why", "row", "behind", "rows", "handed", "given", "outcome", "told", "many", "last"]) (xs := ["cell"]) (ix := [1, 2]) (by decide +kernel) (pi_list (pe_slice sl_list (pv 0) (po_some (pe_int (i := 5))) (po_some (pe_int (i := 13))))) (fun _ _ _ _ => (pg_name (i := 0) (show List.Nodup (["cell", "slots", "shelves"] : List Str) from (by decide +kernel)) rfl (Or.inl rfl) (.inr rfl))) (fun _ _ _ _ => pts_nil) (fun _ _ _ _ => (pe_call (FnOk.mono (ok__law_row T) (by decide)) hr rfl T.m__law_row T.f__law_row.kp T.b__law_row .nil pass10 (pa_cons (pv 0) (pa_cons (pv 1) (pa_cons (pv 2) pa_nil))))))
    (pss_cons (ps_set (i := 7) sc_law.nd rfl (Or.inl rfl) (pe_op op_cat (pe_op op_cat (pv 7) (pe_call (FnOk.mono (ok__law_within T) (by decide)) hr rfl T.m__law_within T.f__law_within.kp T.b__law_within .nil pass10 (pa_cons (pv 5) (pa_cons (pe_call (FnOk.mono (ok__law_cell_at T) (by decide)) hr rfl T.m__law_cell_at T.f__law_cell_at.kp T.b__law_cell_at .nil pass10 (pa_cons (pv 0) (pa_cons (pe_int (i := 4)) pa_nil))) (pa_cons (pv 6) pa_nil))))) (pv 6)))
    (pss_cons (ps_set (i := 8) sc_law.nd rfl (Or.inl rfl) (pe_call (FnOk.mono (ok__law_copied T 6) (by decide)) hr rfl T.m__law_copied T.f__law_copied.kp T.b__law_copied .nil pass10 (pa_cons (pv 7) pa_nil)))
    (pss_cons (ps_set (i := 9) sc_law.nd rfl (Or.inl rfl) (pe_callTy call_list_of rfl T.b_list bt_list (pa_cons (pv 3) pa_nil)))
    (pss_cons (ps_asg (pe_call (FnOk.mono (ok_alone T) (by decide)) hr rfl T.m_alone T.f_alone.kp T.b_alone .nil pass10 (pa_cons (pv 8) (pa_cons (pv 9) pa_nil))) (pg_tup rfl (pgs_cons (pg_name (i := 10) sc_law.nd rfl (Or.inl rfl)) (pgs_cons (pg_name (i := 11) sc_law.nd rfl (Or.inl rfl)) pgs_nil))))
    (pss_cons (ps_if (PW.pt (pw_or (pt_not (pt_val (pe_call (FnOk.mono (ok__law_outcome T) (by decide)) hr rfl T.m__law_outcome T.f__law_outcome.kp T.b__law_outcome .nil pass10 (pa_cons (pv 10) (pa_cons (pv 4) pa_nil))))) (pw_or (pt_not (pt_val (pe_callB call_isi rfl T.b_isinstance bt_isinstance (pa_cons (pv 11) (pa_cons (pe_bltn rfl T.b_list bt_list rfl) pa_nil))))) (pw_or1 (pt_cmpR (op_neAll (hu64 hr)) (pv 11) (pv 3) (nomark _)))))) (pss_one (ps_ret (pe_bl (b := false))))
      pss_nil)
    (pss_cons (ps_expr (pe_bm PySem.F.plainAttrs_list PySem.F.slot_list_append PySem.F.type_list_append mt_append (pv 11) (pa_cons (pe_tup (pa_cons (pe_tup (pa_cons (pe_str (x := "z")) (pa_cons (pe_int (i := 1)) pa_nil))) (pa_cons (pe_int (i := 5)) pa_nil))) pa_nil)))
    (pss_cons (ps_if (PW.pt (pw_or (pt_cmpR (op_neAll (hu64 hr)) (pv 8) (pv 7) (nomark _)) (pw_or1 (pt_cmpR (op_neAll (hu64 hr)) (pv 9) (pv 3) (nomark _))))) (pss_one (ps_ret (pe_bl (b := false))))
      pss_nil)
    (pss_cons (ps_asg (pe_call (FnOk.mono (ok_one_by_one T) (by decide)) hr rfl T.m_one_by_one T.f_one_by_one.kp T.b_one_by_one .nil pass10 (pa_cons (pe_lst (pa_cons (pv 8) (pa_cons (pe_lst (pa_cons (pe_tup (pa_cons (pe_str (x := "say")) (pa_cons (pe_tup (pa_cons (pe_ix ix_list (pv 1) (pe_int (i := 0)) (fun _ _ => rfl)) pa_nil)) pa_nil))) pa_nil)) (pa_cons (pv 8) pa_nil)))) (pa_cons (pv 9) pa_nil))) (pg_tup rfl (pgs_cons (pg_name (i := 12) sc_law.nd rfl (Or.inl rfl)) (pgs_cons (pg_name (i := 13) sc_law.nd rfl (Or.inl rfl)) pgs_nil))))
    (pss_cons (ps_if (pt_cmpR (op_neAll (hu64 hr)) (pv 12) (pe_lst (pa_cons (pe_tup (pa_cons (pe_str (x := "off")) (pa_cons (pv 4) pa_nil))) (pa_cons (pe_tup (pa_cons (pe_str (x := "done")) (pa_cons (pe_tup (pa_cons (pe_int (i := 0)) pa_nil)) pa_nil))) (pa_cons (pe_tup (pa_cons (pe_str (x := "off")) (pa_cons (pv 4) pa_nil))) pa_nil)))) (nomark _)) (pss_one (ps_ret (pe_bl (b := false))))
      pss_nil)
    (pss_one (ps_ret (pe_and (pe_cmpR (op_eqAll (hu64 hr)) (pv 13) (pv 3) (nomark _)) (pe_and (pe_cmpR (op_eqAll (hu64 hr)) (pv 8) (pv 7) (nomark _)) (pe_one (pe_cmpR (op_eqAll (hu64 hr)) (pv 9) (pv 3) (nomark _)))))))))))))))))))))), rdp_law hS hn q⟩
end
end K22
open PySem PySem.W PyProof.Rows
def PySem.W.Fast.tw10173818939991995482 : Unit := ()
def PySem.W.Fast.tw4391587694901191503 : Unit := ()
def PySem.W.Fast.tw16993954617543051329 : Unit := ()
def PySem.W.Fast.tw16230292706799142143 : Unit := ()
def PySem.W.Fast.tw9333603015665584782 : Unit := ()
def PySem.W.Fast.tw11598711168897798077 : Unit := ()
def PySem.W.Fast.tw8915968924637255369 : Unit := ()
def PySem.W.Fast.tw18127153686177371018 : Unit := ()
def PySem.W.Fast.tw16217268586156979459 : Unit := ()
def PySem.W.Fast.tw4202183723724140549 : Unit := ()
def PySem.W.Fast.tw14689758230962202738 : Unit := ()
def PySem.W.Fast.tw13174544816032823248 : Unit := ()
set_option maxRecDepth 100000 in
set_option maxHeartbeats 0 in
theorem PySem.Challenge.cw_forerun_k22_broken_off_holds : PySem.Challenge.rw_forerun_k22_broken_off.Holds := by
  w_on; o_law; k_head; (case hw => w_witness2)
  k_fill
  refine L2.walk_ofX (l := PySem.Challenge.rw_forerun_k22_broken_off) (n := 63) (k := 16) (x := "script") (sp := K22.sp_law) rfl (by decide) rfl ⟨rfl, by decide, by decide⟩ (fun w h Y => PySem.W.kIn_of Y) ?F ?S
  case F =>
    intro w mg fa h KX G hmg
    have T : ∃ t, K22.Txt (L2.KOf KX) mg t := by
      dsimp only [L2.KOf]
      refine' K22.txt_mk KX G ?qa0 ?ql0 ?qc0 ?qk0 ?qa1 ?ql1 ?qc1 ?qk1 ?qa2 ?ql2 ?qc2 ?qk2 ?qa3 ?ql3 ?qc3 ?qk3 ?qa4 ?ql4 ?qc4 ?qk4 ?qa5 ?ql5 ?qc5 ?qk5 ?qa6 ?ql6 ?qc6 ?qk6 ?qa7 ?ql7 ?qc7 ?qk7 ?qa8 ?ql8 ?qc8 ?qk8 ?qa9 ?ql9 ?qc9 ?qk9 ?qa10 ?qi10 ?ql10 ?qc10 ?qk10 ?qa11 ?ql11 ?qc11 ?qk11 ?qa12 ?ql12 ?qc12 ?qk12 ?qa13 ?ql13 ?qc13 ?qk13 ?qa14 ?ql14 ?qc14 ?qk14 ?qa15 ?ql15 ?qc15 ?qk15 ?qa16 ?qi16 ?ql16 ?qc16 ?qk16 ?qa17 ?qi17 ?ql17 ?qc17 ?qk17 ?qa18 ?qi18 ?ql18 ?qc18 ?qk18 ?qa19 ?ql19 ?qc19 ?qk19 ?qa20 ?ql20 ?qc20 ?qk20 ?qa21 ?ql21 ?qc21 ?qk21 ?qa22 ?ql22 ?qc22 ?qk22 ?qa23 ?ql23 ?qc23 ?qk23 ?qa24 ?ql24 ?qc24 ?qk24 ?qa25 ?ql25 ?qc25 ?qk25 ?qa26 ?ql26 ?qc26 ?qk26 ?qa27 ?ql27 ?qc27 ?qk27 ?qz0 ?qz1 ?qz2 ?qz3 ?qz4 ?qz5 ?qz6 ?qz7 ?qz8 ?qz9 ?qz10 ?qg0 ?qh0 ?qv0 ?qv1 ?qv2 ?pg0 ?pd0 ?po0 ?pe0 ?pm0_ ?pk0 ?pn0_0 ?pn0_1 ?pn0_2 ?rx0 ?ry0_0 ?ry0_1 ?ry0_2 ?ry0_3 ?ry0_4 ?ry0_5 ?ry0_6 ?ry0_7 ?re0_0 ?re0_1 ?rx1 ?ry1_0 ?ry1_1 ?ry1_2 ?ry1_3 ?ry1_4 ?ry1_5 ?ry1_6 ?ry1_7 ?re1_0 ?re1_1
      (case qv0 => k_is)
      (case qv1 => k_is)
      (case qv2 => k_is)
      (case qa0 => k_is)
      (case ql0 => k_is)
      (case qc0 => k_is)
      (case qk0 => k_is)
      (case qa1 => k_is)
      (case ql1 => k_is)
      (case qc1 => k_is)
      (case qk1 => k_is)
      (case qa2 => k_is)
      (case ql2 => k_is)
      (case qc2 => k_is)
      (case qk2 => k_is)
      (case qa3 => k_is)
      (case ql3 => k_is)
      (case qc3 => k_is)
      (case qk3 => k_is)
      (case qa4 => k_is)
      (case ql4 => k_is)
      (case qc4 => k_is)
      (case qk4 => k_is)
      (case qa5 => k_is)
      (case ql5 => k_is)
      (case qc5 => k_is)
      (case qk5 => k_is)
      (case qa6 => k_is)
      (case ql6 => k_is)
      (case qc6 => k_is)
      (case qk6 => k_is)
      (case qa7 => k_is)
      (case ql7 => k_is)
      (case qc7 => k_is)
      (case qk7 => k_is)
      (case qa8 => k_is)
      (case ql8 => k_is)
      (case qc8 => k_is)
      (case qk8 => k_is)
      (case qa9 => k_is)
      (case ql9 => k_is)
      (case qc9 => k_is)
      (case qk9 => k_is)
      (case qa10 => k_is)
      (case qi10 => k_is)
      (case ql10 => k_is)
      (case qc10 => k_is)
      (case qk10 => k_is)
      (case qa11 => k_is)
      (case ql11 => k_is)
      (case qc11 => k_is)
      (case qk11 => k_is)
      (case qa12 => k_is)
      (case ql12 => k_is)
      (case qc12 => k_is)
      (case qk12 => k_is)
      (case qa13 => k_is)
      (case ql13 => k_is)
      (case qc13 => k_is)
      (case qk13 => k_is)
      (case qa14 => k_is)
      (case ql14 => k_is)
      (case qc14 => k_is)
      (case qk14 => k_is)
      (case qa15 => k_is)
      (case ql15 => k_is)
      (case qc15 => k_is)
      (case qk15 => k_is)
      (case qa16 => k_is)
      (case qi16 => k_is)
      (case ql16 => k_is)
      (case qc16 => k_is)
      (case qk16 => k_is)
      (case qa17 => k_is)
      (case qi17 => k_is)
      (case ql17 => k_is)
      (case qc17 => k_is)
      (case qk17 => k_is)
      (case qa18 => k_is)
      (case qi18 => k_is)
      (case ql18 => k_is)
      (case qc18 => k_is)
      (case qk18 => k_is)
      (case qa19 => k_is)
      (case ql19 => k_is)
      (case qc19 => k_is)
      (case qk19 => k_is)
      (case qa20 => k_is)
      (case ql20 => k_is)
      (case qc20 => k_is)
      (case qk20 => k_is)
      (case qa21 => k_is)
      (case ql21 => k_is)
      (case qc21 => k_is)
      (case qk21 => k_is)
      (case qa22 => k_is)
      (case ql22 => k_is)
      (case qc22 => k_is)
      (case qk22 => k_is)
      (case qa23 => k_is)
      (case ql23 => k_is)
      (case qc23 => k_is)
      (case qk23 => k_is)
      (case qa24 => k_is)
      (case ql24 => k_is)
      (case qc24 => k_is)
      (case qk24 => k_is)
      (case qa25 => k_is)
      (case ql25 => k_is)
      (case qc25 => k_is)
      (case qk25 => k_is)
      (case qa26 => k_is)
      (case ql26 => k_is)
      (case qc26 => k_is)
      (case qk26 => k_is)
      (case qa27 => k_is)
      (case ql27 => k_is)
      (case qc27 => k_is)
      (case qk27 => k_is)
      (case qz0 => k_is)
      (case qz1 => k_is)
      (case qz2 => k_is)
      (case qz3 => k_is)
      (case qz4 => k_is)
      (case qz5 => k_is)
      (case qz6 => k_is)
      (case qz7 => k_is)
      (case qz8 => k_is)
      (case qz9 => k_is)
      (case qz10 => k_is)
      (case qg0 => k_is)
      (case qh0 => k_is)
      (case pg0 => k_is)
      (case pd0 => k_is)
      (case po0 => k_is)
      (case pe0 => k_is)
      (case pm0_ => k_is)
      (case pk0 => k_is)
      (case pn0_0 => k_is)
      (case pn0_1 => k_is)
      (case pn0_2 => k_is)
      (case rx0 => k_exc)
      (case ry0_0 => k_is)
      (case ry0_1 => k_is)
      (case ry0_2 => k_is)
      (case ry0_3 => k_is)
      (case ry0_4 => k_is)
      (case ry0_5 => k_is)
      (case ry0_6 => k_is)
      (case ry0_7 => k_is)
      (case re0_0 => kernel_rfl)
      (case re0_1 => kernel_rfl)
      (case rx1 => k_exc)
      (case ry1_0 => k_is)
      (case ry1_1 => k_is)
      (case ry1_2 => k_is)
      (case ry1_3 => k_is)
      (case ry1_4 => k_is)
      (case ry1_5 => k_is)
      (case ry1_6 => k_is)
      (case ry1_7 => k_is)
      (case re1_0 => kernel_rfl)
      (case re1_1 => kernel_rfl)
    obtain ⟨t, T⟩ := T
    have e0 := hmg.symm.trans T.m_law
    cases e0
    exact ⟨_, T.w_law, fun base _ _ => K22.ok_law T⟩
  case S => exact fun K H a ns hl _ hS => ⟨a, ns, rfl, hS, hl, fun _ => rfl⟩
