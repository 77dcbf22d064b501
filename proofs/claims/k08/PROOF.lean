import PyProof.Rows.All
import Wide.All
import OpenK.AllK
import Wide.FinOn
import Lean
import PyProof.EqAt
import PyProof.EqKinds
import PyProof.TupleCall
import PySem.Challenge.RW_forerun_k08_gifts_laid
import KE.KDictList
import KE.KDictOf
import KE.KEqDict
import KE.KIntText
import KE.KRevIter
import KE.KSortAsk
import KE.KSortTup
import KE.KTryMore
import PyProof.AttrMissHeap
import PyProof.Conv_int_bool
import PyProof.DictKinds
import PyProof.DictWalks
import PyProof.EqKinds
import PyProof.MeetsStr
import PyProof.NsDelKeeps
import PyProof.Rows.EqDataRows
import PyProof.StrLaws
import PyProof.StrOps
import PyProof.StrOps2
import PyProof.TupleIter
import PyProof.TupleKey
import PyProof.ZipIter
set_option Elab.async false
set_option linter.all false
set_option maxRecDepth 100000
/-! THE HAND LAYER, for ints, bools, texts, own classes, LISTS and tuples (index, slices, in, append, pop ..), calls, loops. Paste it whole ahead of your own text; what your proof does not reach may be deleted. -/
namespace L2
open PySem PySem.Spec PyProof.Rows

/-- a key: an int or a str -/
abbrev Key := Sum Int Str
def keyIs : Key → Value → Bool
  | .inl k, v => Value.isInt k v
  | .inr x, v => Value.isStrOf x v
def keyH (w : World) : Key → Int
  | .inl k => hashInt k
  | .inr x => hashStr w x
theorem keyIs_shape : ∀ {k : Key} {v : Value}, keyIs k v = true → (∃ i t, k = Sum.inl i ∧ v = Value.int i t) ∨ (∃ x t, k = Sum.inr x ∧ v = Value.str x t)
  | .inl i, v, h => by
    obtain ⟨t, e⟩ := Value.isInt_shape (k := i) (v := v) h
    exact .inl ⟨i, t, rfl, e⟩
  | .inr x, v, h => by
    obtain ⟨t, e⟩ := Value.isStrOf_shape (x := x) (v := v) h
    exact .inr ⟨x, t, rfl, e⟩
theorem keyIs_int (i : Int) (t : Tok) : keyIs (.inl i) (.int i t) = true := by simp [keyIs, Value.isInt]
theorem keyIs_str (x : Str) (t : Tok) : keyIs (.inr x) (.str x t) = true := by simp [keyIs, Value.isStrOf]
theorem key_ll (a b : Int) : decide ((Sum.inl a : Key) = Sum.inl b) = (a == b) := by
  by_cases e : a = b
  · subst e; simp
  · have h : ¬ (Sum.inl a : Key) = Sum.inl b := fun q => e (Sum.inl.inj q)
    rw [decide_eq_false h]
    exact (beq_eq_false_iff_ne.mpr e).symm
theorem key_rr (a b : Str) : decide ((Sum.inr a : Key) = Sum.inr b) = decide (a = b) := by
  by_cases e : a = b
  · subst e; simp
  · have h : ¬ (Sum.inr a : Key) = Sum.inr b := fun q => e (Sum.inr.inj q)
    rw [decide_eq_false h, decide_eq_false e]
theorem key_lr (a : Int) (b : Str) : decide ((Sum.inl a : Key) = Sum.inr b) = false := decide_eq_false (fun q => nomatch q)
theorem key_rl (a : Str) (b : Int) : decide ((Sum.inr a : Key) = Sum.inl b) = false := decide_eq_false (fun q => nomatch q)

def mixKind (prog : Program) (w : World) : PySem.KeyKind prog w Key where
  is := keyIs
  hash := keyH w
  inj := fun v a b ha hb => by
    rcases keyIs_shape ha with ⟨i, t, rfl, rfl⟩ | ⟨x, t, rfl, rfl⟩
    · rcases keyIs_shape hb with ⟨j, u, rfl, e⟩ | ⟨y, u, rfl, e⟩
      · injection e with e1 _; rw [e1]
      · exact nomatch e
    · rcases keyIs_shape hb with ⟨j, u, rfl, e⟩ | ⟨y, u, rfl, e⟩
      · exact nomatch e
      · injection e with e1 _; rw [e1]
  byValue := fun k v h => by
    rcases keyIs_shape h with ⟨i, t, rfl, rfl⟩ | ⟨x, t, rfl, rfl⟩ <;> rfl
  pyHash := fun hv h => by
    rcases keyIs_shape hv with ⟨i, t, rfl, rfl⟩ | ⟨x, t, rfl, rfl⟩
    · exact wpAny_pyHash_int h
    · exact wpAny_pyHash_str h
  eqBool := fun hu hv h => by
    rcases keyIs_shape hu with ⟨i, t, rfl, rfl⟩ | ⟨x, t, rfl, rfl⟩
    · rcases keyIs_shape hv with ⟨j, u, rfl, rfl⟩ | ⟨y, u, rfl, rfl⟩
      · rw [key_ll] at h; exact wpAny_eqBool_int h
      · rw [key_lr] at h; exact SeqAt.EqAt.int_str i t y u _ _ _ _ h
    · rcases keyIs_shape hv with ⟨j, u, rfl, rfl⟩ | ⟨y, u, rfl, rfl⟩
      · rw [key_rl] at h; exact SeqAt.EqAt.str_int x t j u _ _ _ _ h
      · rw [key_rr] at h; exact wpAny_eqBool_str h
  «strs» := fun k x t v h => by
    rcases keyIs_shape h with ⟨i, u, rfl, e⟩ | ⟨y, u, rfl, e⟩
    · exact nomatch e
    · injection e with e1 _
      subst e1
      cases v <;> rfl

theorem mixKind_is (prog : Program) (w : World) (k : Key) (v : Value) : (mixKind prog w).is k v = keyIs k v := rfl
theorem mixKind_int (prog : Program) (w : World) (i : Int) (t : Tok) : (mixKind prog w).is (.inl i) (.int i t) = true := keyIs_int i t
theorem mixKind_str (prog : Program) (w : World) (x : Str) (t : Tok) : (mixKind prog w).is (.inr x) (.str x t) = true := keyIs_str x t
end L2

namespace L2
open PySem PySem.Spec PyProof.Rows

/-- a value, without the heap -/
inductive V where
  | non | bl (b : Bool) | int (i : Int) | str (x : Str) | byt (b : Array UInt8) | flt (b : UInt64) | ref (a : Addr) | ty (n : String)
  deriving DecidableEq

def RelV : V → Value → Prop
  | .non, u => u = Value.none
  | .bl b, u => u = Value.bool b
  | .int i, u => ∃ t, u = Value.int i t
  | .str x, u => ∃ t, u = Value.str x t
  | .byt b, u => ∃ t, u = Value.bytes b t
  | .flt b, u => ∃ t, u = Value.float b t
  | .ref a, u => u = Value.ref a
  | .ty n, u => u = Value.type n

abbrev Vals : List V → List Value → Prop := Paired RelV
theorem Vals.length {xs : List V} {us : List Value} (r : Vals xs us) : xs.length = us.length := Paired.length r
theorem Vals.get : ∀ {xs : List V} {us : List Value} {i : Nat} {x : V}, Vals xs us → xs[i]? = some x → ∃ u, us[i]? = some u ∧ RelV x u
  | _, _, _, _, .nil, e => by simp at e
  | _, _, 0, _, .cons r _, e => by simp at e; subst e; exact ⟨_, rfl, r⟩
  | _, _, i + 1, x, .cons _ t, e => by
    obtain ⟨u, h1, h2⟩ := Vals.get (i := i) (x := x) t (by simpa using e)
    exact ⟨u, by simpa using h1, h2⟩
theorem Vals.set {x : V} {u : Value} (r : RelV x u) : ∀ {xs : List V} {us : List Value} (i : Nat), Vals xs us → Vals (xs.set i x) (us.set i u)
  | _, _, _, .nil => .nil
  | _, _, 0, .cons _ t => .cons r t
  | _, _, i + 1, .cons q t => .cons q (Vals.set r i t)
theorem Vals.append : ∀ {xs ys : List V} {us ws : List Value}, Vals xs us → Vals ys ws → Vals (xs ++ ys) (us ++ ws)
  | _, _, _, _, .nil, s => s
  | _, _, _, _, .cons r t, s => .cons r (Vals.append t s)
theorem Vals.take : ∀ {xs : List V} {us : List Value} (n : Nat), Vals xs us → Vals (xs.take n) (us.take n)
  | _, _, 0, _ => .nil
  | _, _, _ + 1, .nil => .nil
  | _, _, n + 1, .cons r t => .cons r (Vals.take n t)
theorem Vals.drop : ∀ {xs : List V} {us : List Value} (n : Nat), Vals xs us → Vals (xs.drop n) (us.drop n)
  | _, _, 0, r => r
  | _, _, _ + 1, .nil => .nil
  | _, _, n + 1, .cons _ t => Vals.drop n t
theorem Vals.none_of : ∀ {xs : List V} {us : List Value} {i : Nat}, Vals xs us → xs[i]? = none → us[i]? = none := fun {xs us i} r e => by
  have h1 := r.length
  have h2 : xs.length ≤ i := List.getElem?_eq_none_iff.mp e
  exact List.getElem?_eq_none_iff.mpr (by omega)

def RelO : Option V → Option Value → Prop
  | some v, some u => RelV v u
  | none, none => True
  | _, _ => False
def KV {κ : Type} : List (κ × V) → List (κ × Value) → Prop := Paired fun (p : κ × V) (q : κ × Value) => p.1 = q.1 ∧ RelV p.2 q.2

/-- a key of a dict (00_mix): an int or a text -/
def kV : Key → V
  | .inl i => .int i
  | .inr x => .str x

/-- what stands at a tracked address -/
inductive HO where
  /-- a list -/
  | lst (xs : List V)
  /-- a tuple (never changes) -/
  | tup (xs : List V)
  /-- a dict whose keys are ints and texts; one whose keys are tuples of ints and texts (the empty one is both) -/
  | dK (kvs : List (Key × V)) | dT (kvs : List (List Key × V))
  /-- a set of ints: its members, its size -/
  | set (S : Int → Bool) (n : Nat)
  /-- an instance of the class at C, its dict at dx, its attributes -/
  | ins (C dx : Addr) (fs : List (Str × V))
  /-- the dict of the instance at x -/
  | own (x : Addr)
  /-- the dict of an exception -/
  | xd (fs : List (Str × V))
  /-- a bound method, f of x -/
  | met (f x : Addr)
  /-- a range object lo, lo + 1, .. below hi -/
  | rng (lo hi : Int)
  /-- a thing that is known to the object (the script; a dict while a loop walks it): read, never written while it is so -/
  | frz (o : Obj) (u : HO)
  /-- a code object's table -/
  | tbl (ps : Array Value)
  /-- any other thing, by what is true of its one object (a def of one's own: SetO a S n := HO.ext fun h => ..) -/
  | ext (φ : Heap → Prop)

abbrev Hp := Addr → Option HO
def upd (H : Hp) (a : Addr) (o : HO) : Hp := fun b => if b = a then some o else H b
theorem upd_same {H : Hp} {a : Addr} {o : HO} : upd H a o a = some o := by unfold upd; rw [if_pos rfl]
theorem upd_ne {H : Hp} {a b : Addr} {o : HO} (h : b ≠ a) : upd H a o b = H b := by unfold upd; rw [if_neg h]
theorem upd_upd {H : Hp} {a : Addr} {o u : HO} : upd (upd H a o) a u = upd H a u := by
  funext b; unfold upd; split <;> rfl
/-- two objects of different content stand apart -/
theorem ne_of {H : Hp} {a b : Addr} {o u : HO} (h : H a = some o) (h' : H b = some u) (d : o ≠ u) : a ≠ b := by
  intro e; subst e; rw [h] at h'; exact d (Option.some.inj h')
theorem ne_of_none {H : Hp} {a b : Addr} {o : HO} (h : H a = some o) (h' : H b = none) : a ≠ b := by
  intro e; subst e; rw [h] at h'; cases h'

section
variable (P : Program) (w : World)
def ObjOk (H : Hp) (h : Heap) (a : Addr) : HO → Prop
  | .lst xs => xs.length ≤ sizeLine ∧ ∃ (its : List Value) (n : Nat), Vals xs its ∧ h.get? a = some { cls := .type "list", data := .seq its.toArray n }
  | .tup xs => xs.length ≤ sizeLine ∧ ∃ its : List Value, Vals xs its ∧ IsTup h a its.toArray
  | .dK kvs => kvs.length ≤ sizeLine ∧ (a == sysModules) = false ∧ ∃ vs, KV kvs vs ∧ h.DictOf (mixKind P w) a vs
  | .dT kvs => kvs.length ≤ sizeLine ∧ (a == sysModules) = false ∧ ∃ xs : List (List Key × Addr × Value),
      Paired (fun (p : List Key × V) (q : List Key × Addr × Value) => p.1 = q.1 ∧ H q.2.1 = some (.tup (p.1.map kV)) ∧ RelV p.2 q.2.2) kvs xs ∧
      ∃ o es ep, h.get? a = some o ∧ o.ExactDict ∧ o.data = .dict es ep ∧ es.toList = xs.map (entryOfKey (tupleKind (mixKind P w))) ∧ (xs.map (·.1)).Nodup
  | .set S n => h.SetOf (intKind P w) a S n
  | .ins C dx fs => H dx = some (.own a) ∧ fs.length ≤ 1000 ∧ dx ≠ a ∧ h.get? a = some (PySem.W.instObj C dx) ∧
      ∃ mA, h.Ns1 dx mA ∧ (∀ f, RelO (fs.lookup f) (mA f)) ∧ PySem.Within mA (fs.map (·.1))
  | .own _ => ∃ o, h.get? a = some o
  | .xd fs => ∃ mA, h.Ns1 a mA ∧ ∀ f, RelO (fs.lookup f) (mA f)
  | .rng lo hi => ∃ t u v, h.get? a = some { cls := .type "range", data := .fields #[.int lo t, .int hi u, .int 1 v] }
  | .frz o u => h.get? a = some o ∧ ObjOk H h a u
  | .tbl ps => h.get? a = some { cls := .none, data := .fields ps }
  | .met f x => h.get? a = some (PySem.W.methodObj (.ref f) (.ref x))
  | .ext φ => φ h ∧ (∃ o, h.get? a = some o) ∧ ∀ h1 h2 : Heap, φ h1 → (∀ o, h1.get? a = some o → h2.get? a = some o) → φ h2
/-- the abstract heap is held -/
def HOk (H : Hp) (h : Heap) : Prop := ∀ a o, H a = some o → ObjOk P w H h a o
end

section
variable {P : Program} {w : World} {H H' : Hp} {h h' : Heap} {a : Addr} {o : HO}
theorem ObjOk.lt (x : ObjOk P w H h a o) : a < h.objs.size := by
  cases o with
  | lst xs => obtain ⟨_, _, _, _, e⟩ := x; exact Heap.lt_size e
  | tup xs => obtain ⟨_, _, _, p⟩ := x; exact p.lt
  | dK kvs => obtain ⟨_, _, _, _, o, _, _, e, _⟩ := x; exact Heap.lt_size e
  | dT kvs => obtain ⟨_, _, _, _, o, _, _, e, _⟩ := x; exact Heap.lt_size e
  | set S n => obtain ⟨o, _, _, _, e, _⟩ := x; exact Heap.lt_size e
  | ins C dx fs => obtain ⟨_, _, _, e, _⟩ := x; exact Heap.lt_size e
  | own y => obtain ⟨_, e⟩ := x; exact Heap.lt_size e
  | xd fs => obtain ⟨_, ⟨_, _, _, e, _⟩, _⟩ := x; exact Heap.lt_size e
  | rng lo hi => obtain ⟨_, _, _, e⟩ := x; exact Heap.lt_size e
  | frz ob u => obtain ⟨e, _⟩ := x; exact Heap.lt_size e
  | tbl ps => exact Heap.lt_size (show h.get? a = some _ from x)
  | met f y => exact Heap.lt_size (show h.get? a = some _ from x)
  | ext φ => obtain ⟨_, ⟨_, e⟩, _⟩ := x; exact Heap.lt_size e
theorem Paired.mapP {α β : Type} {F G : α → β → Prop} : ∀ {l₁ : List α} {l₂ : List β}, Paired F l₁ l₂ → (∀ a b, F a b → G a b) → Paired G l₁ l₂
  | _, _, .nil, _ => .nil
  | _, _, .cons r t, f => .cons (f _ _ r) (Paired.mapP t f)
theorem Paired.imp' {α β : Type} {F G : α → β → Prop} (f : ∀ a b, F a b → G a b) {l₁ : List α} {l₂ : List β} (r : Paired F l₁ l₂) : Paired G l₁ l₂ := Paired.mapP r f
/-- what an object's description leans on: its own object, its own dict, the tuples -/
theorem ObjOk.stay (x : ObjOk P w H h a o) (k : ∀ b u, (b = a ∨ H b = some (.own a)) → h.get? b = some u → h'.get? b = some u)
    (ho : ∀ b, H b = some (.own a) → H' b = some (.own a)) (ht : ∀ b xs, H b = some (.tup xs) → H' b = some (.tup xs)) : ObjOk P w H' h' a o := by
  induction o with
  | lst xs => obtain ⟨z, its, n, r, e⟩ := x; exact ⟨z, its, n, r, k _ _ (.inl rfl) e⟩
  | tup xs => obtain ⟨z, its, r, ob, e, c⟩ := x; exact ⟨z, its, r, ob, k _ _ (.inl rfl) e, c⟩
  | dK kvs => obtain ⟨z, y, vs, r, ob, es, ep, e, c⟩ := x; exact ⟨z, y, vs, r, ob, es, ep, k _ _ (.inl rfl) e, c⟩
  | dT kvs =>
    obtain ⟨z, y, xs, r, ob, es, ep, e, c⟩ := x
    exact ⟨z, y, xs, Paired.mapP r fun p q z => ⟨z.1, ht _ _ z.2.1, z.2.2⟩, ob, es, ep, k _ _ (.inl rfl) e, c⟩
  | set S n => obtain ⟨ob, es, ep, t, e, c⟩ := x; exact ⟨ob, es, ep, t, k _ _ (.inl rfl) e, c⟩
  | ins C dx fs =>
    obtain ⟨d, z, ne, e, mA, ⟨od, es, ep, e2, c⟩, r⟩ := x
    exact ⟨ho _ d, z, ne, k _ _ (.inl rfl) e, mA, ⟨od, es, ep, k _ _ (.inr d) e2, c⟩, r⟩
  | own y => obtain ⟨ob, e⟩ := x; exact ⟨ob, k _ _ (.inl rfl) e⟩
  | xd fs => obtain ⟨mA, ⟨od, es, ep, e, c⟩, r⟩ := x; exact ⟨mA, ⟨od, es, ep, k _ _ (.inl rfl) e, c⟩, r⟩
  | rng lo hi => obtain ⟨t, u, v, e⟩ := x; exact ⟨t, u, v, k _ _ (.inl rfl) e⟩
  | frz ob u ih => obtain ⟨e, q⟩ := x; exact ⟨k _ _ (.inl rfl) e, ih q⟩
  | tbl ps =>
    have e : h.get? a = some { cls := .none, data := .fields ps } := x
    show h'.get? a = some { cls := .none, data := .fields ps }
    exact k a _ (.inl rfl) e
  | met f y =>
    have e : h.get? a = some (PySem.W.methodObj (.ref f) (.ref y)) := x
    show h'.get? a = some (PySem.W.methodObj (.ref f) (.ref y))
    exact k a _ (.inl rfl) e
  | ext φ => obtain ⟨p, ⟨o, e⟩, st⟩ := x; exact ⟨st _ _ p fun o q => k _ _ (.inl rfl) q, ⟨o, k _ _ (.inl rfl) e⟩, st⟩
theorem HOk.lt (x : HOk P w H h) (e : H a = some o) : a < h.objs.size := (x a o e).lt
theorem HOk.fresh (x : HOk P w H h) (e : h.objs.size ≤ a) : H a = none := by
  cases q : H a with
  | none => rfl
  | some u => exact absurd (Nat.lt_of_lt_of_le (x.lt q) e) (Nat.lt_irrefl _)
/-- every object of the heap is kept -/
theorem HOk.kept (x : HOk P w H h) (k : ∀ b u, h.get? b = some u → h'.get? b = some u) : HOk P w H h' := fun a o e =>
  (x a o e).stay (fun b u _ q => k b u q) (fun _ q => q) fun _ _ q => q
/-- a new object is laid and tracked -/
theorem HOk.laid (x : HOk P w H h) (k : ∀ b u, h.get? b = some u → h'.get? b = some u) (hp : h.objs.size ≤ a) (new : ObjOk P w (upd H a o) h' a o) : HOk P w (upd H a o) h' := fun b u e => by
  have hn := x.fresh hp
  by_cases hb : b = a
  · subst hb; rw [upd_same] at e; cases e; exact new
  · rw [upd_ne hb] at e
    exact (x b u e).stay (fun c v _ q => k c v q) (fun c q => by rw [upd_ne (ne_of_none q hn)]; exact q) fun c xs q => by rw [upd_ne (ne_of_none q hn)]; exact q
end

/-- what may be read as u: it is u, or a known u -/
def Rd (H : Hp) (a : Addr) (u : HO) : Prop := H a = some u ∨ ∃ o, H a = some (.frz o u)
theorem Rd.of {H : Hp} {a : Addr} {u : HO} (h : H a = some u) : Rd H a u := .inl h
theorem Rd.ok {P : Program} {w : World} {H : Hp} {h : Heap} {a : Addr} {u : HO} (r : Rd H a u) (x : HOk P w H h) : ObjOk P w H h a u := by
  rcases r with r | ⟨o, r⟩
  · exact x a u r
  · obtain ⟨_, q⟩ := x a _ r
    exact q
/-- what may be written -/
def Mut : Option HO → Prop
  | some (.lst _) => True
  | some (.dK _) => True
  | some (.dT _) => True
  | some (.set _ _) => True
  | some (.ins _ _ _) => True
  | some (.ext _) => True
  | _ => False
section
variable {P : Program} {w : World} {H : Hp} {h h' : Heap} {x e : Addr} {o' : HO}
/-- the object at e is changed: x itself, or the dict of the instance x -/
theorem HOk.write (ok : HOk P w H h) (mu : Mut (H x)) (he : e = x ∨ H e = some (.own x)) (k : ∀ b u, b ≠ e → h.get? b = some u → h'.get? b = some u) (heo : ∃ u, h'.get? e = some u)
    (new : ObjOk P w (upd H x o') h' x o') : HOk P w (upd H x o') h' := fun b u q => by
  have nown : ∀ c y, H c = some (.own y) → c ≠ x := fun c y r z => by subst z; rw [r] at mu; exact mu
  have ntup : ∀ c xs, H c = some (.tup xs) → c ≠ x := fun c xs r z => by subst z; rw [r] at mu; exact mu
  by_cases hb : b = x
  · subst hb; rw [upd_same] at q; cases q; exact new
  · rw [upd_ne hb] at q
    by_cases hbe : b = e
    · have q' : H b = some (.own x) := by
        rcases he with z | z
        · exact absurd (hbe.trans z) hb
        · rw [hbe]; exact z
      rw [q] at q'; cases q'
      obtain ⟨v, hv⟩ := heo
      exact ⟨v, by rw [hbe]; exact hv⟩
    · refine (ok b u q).stay (fun c v hc r => k c v ?_ r) (fun c r => by rw [upd_ne (nown c b r)]; exact r) fun c xs r => by rw [upd_ne (ntup c xs r)]; exact r
      rcases hc with rfl | hc
      · exact hbe
      · rintro rfl
        rcases he with z | z
        · exact nown c b hc z
        · rw [hc] at z; cases z; exact hb rfl
end

/-! ### kept unless tracked; of the frames at fs (the callers') the slots may change (an exception that passes writes there); of the records at ex (iterators) nothing is said -/
structure Un (fs ex : List Addr) (H H' : Hp) (h h' : Heap) : Prop where
  keep : ∀ b o, h.get? b = some o → H b = none → b ∉ fs → b ∉ ex → h'.get? b = some o
  slot : ∀ b o, h.get? b = some o → H b = none → b ∈ fs → b ∉ ex → ∃ sl, h'.get? b = some { o with slots := sl }
  free : ∀ b o, h.get? b = some o → H b = none → b ∉ ex → H' b = none
  there : ∀ b o, h.get? b = some o → b ∉ ex → ∃ o', h'.get? b = some o'
  tups : ∀ b xs, H b = some (.tup xs) → H' b = some (.tup xs)
  frzs : ∀ b o u, H b = some (.frz o u) → H' b = some (.frz o u)
  tbls : ∀ b ps, H b = some (.tbl ps) → ∃ more, H' b = some (.tbl (ps ++ more))
section
variable {fs fs' ex ex' : List Addr} {H H1 H2 : Hp} {h h1 h2 h' : Heap} {a x e : Addr} {o : HO}
theorem Un.any (u : Un fs ex H H1 h h1) {b : Addr} {ob : Obj} (q : h.get? b = some ob) (n : H b = none) (hx : b ∉ ex) : ∃ sl, h1.get? b = some { ob with slots := sl } := by
  by_cases hb : b ∈ fs
  · exact u.slot b ob q n hb hx
  · exact ⟨ob.slots, u.keep b ob q n hb hx⟩
theorem Un.trans (a : Un fs ex H H1 h h1) (b : Un fs ex H1 H2 h1 h2) : Un fs ex H H2 h h2 where
  keep := fun c ob q n hc hx => b.keep c ob (a.keep c ob q n hc hx) (a.free c ob q n hx) hc hx
  slot := fun c ob q n hc hx => by
    obtain ⟨sl, e1⟩ := a.slot c ob q n hc hx
    obtain ⟨sl', e2⟩ := b.slot c _ e1 (a.free c ob q n hx) hc hx
    exact ⟨sl', e2⟩
  free := fun c ob q n hx => by
    obtain ⟨o', e1⟩ := a.there c ob q hx
    exact b.free c o' e1 (a.free c ob q n hx) hx
  there := fun c ob q hx => by
    obtain ⟨o', e1⟩ := a.there c ob q hx
    exact b.there c o' e1 hx
  tups := fun c xs q => b.tups c xs (a.tups c xs q)
  frzs := fun c ob xs q => b.frzs c ob xs (a.frzs c ob xs q)
  tbls := fun c ps q => by
    obtain ⟨m1, e1⟩ := a.tbls c ps q
    obtain ⟨m2, e2⟩ := b.tbls c _ e1
    exact ⟨m1 ++ m2, by rw [e2, Array.append_assoc]⟩
theorem Un.kept (k : ∀ b u, h.get? b = some u → h'.get? b = some u) : Un fs ex H H h h' :=
  ⟨fun b ob q _ _ _ => k b ob q, fun b ob q _ _ _ => ⟨ob.slots, k b ob q⟩, fun _ _ _ n _ => n, fun b ob q _ => ⟨ob, k b ob q⟩, fun _ _ q => q, fun _ _ _ q => q, fun _ ps q => ⟨#[], by rw [q]; simp⟩⟩
theorem Un.refl : Un fs ex H H h h := Un.kept fun _ _ q => q
theorem Un.laid (k : ∀ b u, h.get? b = some u → h'.get? b = some u) (hp : h.objs.size ≤ a) (hn : H a = none) : Un fs ex H (upd H a o) h h' where
  keep := fun b u q _ _ _ => k b u q
  slot := fun b u q _ _ _ => ⟨u.slots, k b u q⟩
  free := fun b u q n _ => by rw [upd_ne (Nat.ne_of_lt (Nat.lt_of_lt_of_le (Heap.lt_size q) hp))]; exact n
  there := fun b u q _ => ⟨u, k b u q⟩
  tups := fun b xs q => by rw [upd_ne (ne_of_none q hn)]; exact q
  frzs := fun b u xs q => by rw [upd_ne (ne_of_none q hn)]; exact q
  tbls := fun b ps q => ⟨#[], by rw [upd_ne (ne_of_none q hn), q]; simp⟩
theorem Un.write (mu : Mut (H x)) (he : e = x ∨ H e = some (.own x)) (k : ∀ b u, b ≠ e → h.get? b = some u → h'.get? b = some u) (heo : ∃ u, h'.get? e = some u) : Un fs ex H (upd H x o) h h' := by
  have hx : ∀ b, H b = none → b ≠ x := fun b n z => by subst z; rw [n] at mu; exact mu
  have hb : ∀ b, H b = none → b ≠ e := fun b n z => by
    subst z
    rcases he with r | r
    · exact hx b n r
    · rw [n] at r; cases r
  have hm : ∀ b u, H b = some u → ¬ Mut (some u) → b ≠ x := fun b u q nm z => by subst z; rw [q] at mu; exact nm mu
  refine ⟨fun b u q n _ _ => k b u (hb b n) q, fun b u q n _ _ => ⟨u.slots, k b u (hb b n) q⟩, fun b u q n _ => by rw [upd_ne (hx b n)]; exact n, fun b u q _ => ?_,
    fun b xs q => by rw [upd_ne (hm b _ q fun z => z)]; exact q, fun b u xs q => by rw [upd_ne (hm b _ q fun z => z)]; exact q, fun b ps q => ⟨#[], by rw [upd_ne (hm b _ q fun z => z), q]; simp⟩⟩
  by_cases hbe : b = e
  · subst hbe; exact heo
  · exact ⟨u, k b u hbe q⟩
theorem Un.mono (u : Un fs ex H H1 h h1) (hs : ∀ b ∈ fs, b ∈ fs') (hx : ∀ b ∈ ex, b ∈ ex') : Un fs' ex' H H1 h h1 :=
  ⟨fun b ob q n hb he => u.keep b ob q n (fun z => hb (hs b z)) fun z => he (hx b z), fun _ _ q n _ he => u.any q n fun z => he (hx _ z), fun b ob q n he => u.free b ob q n fun z => he (hx b z), fun b ob q he => u.there b ob q fun z => he (hx b z), u.tups, u.frzs, u.tbls⟩
end

/-! ### the heap without what is tracked -/
def trk (h : Heap) (H : Hp) : List Addr := (List.range h.objs.size).filter fun a => (H a).isSome
def hidT (h : Heap) (H : Hp) : Heap := PySem.W.hideAll h (trk h H)
theorem hidT_size (h : Heap) (H : Hp) : (hidT h H).objs.size = h.objs.size := PySem.W.hideAll_size _ _
theorem hidT_get {h : Heap} {H : Hp} {b : Addr} {o : Obj} (e : h.get? b = some o) (n : H b = none) : (hidT h H).get? b = some o :=
  PySem.W.hideAll_get _ e fun hm => by
    have q : (H b).isSome = true := (List.mem_filter.mp hm).2
    rw [n] at q; simp at q
theorem of_hidT {h : Heap} {H : Hp} {b : Addr} {o : Obj} (e : (hidT h H).get? b = some o) : h.get? b = some o ∧ H b = none := by
  have e' : h.get? b = some o := PySem.W.of_hideAll (trk h H) e
  refine ⟨e', ?_⟩
  cases q : H b with
  | none => rfl
  | some x =>
    have hm : b ∈ trk h H := List.mem_filter.mpr ⟨List.mem_range.mpr (Heap.lt_size e'), by simp [q]⟩
    have z : (hidT h H).get? b = none := PySem.W.hideAll_none (trk h H) hm
    rw [z] at e; cases e

/-! ### OpenK's ledger, filled with every new object but one -/
def allNews (g h : Heap) (L : Addr) : List (Addr × Obj) := (List.range h.objs.size).filterMap fun a => if a = L ∨ (g.get? a).isSome = true then none else (h.get? a).map fun o => (a, o)
theorem mem_allNews {g h : Heap} {L a : Addr} {o : Obj} (h1 : a ≠ L) (h2 : g.get? a = none) (h3 : h.get? a = some o) : (a, o) ∈ allNews g h L :=
  List.mem_filterMap.mpr ⟨a, List.mem_range.mpr (Heap.lt_size h3), by simp [h1, h2, h3]⟩
theorem of_mem_allNews {g h : Heap} {L : Addr} {p : Addr × Obj} (hp : p ∈ allNews g h L) : p.1 ≠ L ∧ g.get? p.1 = none ∧ h.get? p.1 = some p.2 := by
  obtain ⟨b, _, e⟩ := List.mem_filterMap.mp hp
  split at e
  · cases e
  · rename_i hn
    cases q : h.get? b with
    | none => rw [q] at e; simp at e
    | some u =>
      rw [q] at e
      simp only [Option.map_some, Option.some.injEq] at e
      subst e
      refine ⟨fun z => hn (.inl z), ?_, q⟩
      show g.get? b = none
      cases r : g.get? b with
      | none => rfl
      | some v => exact (hn (.inr (by simp [r]))).elim
def rest (g h : Heap) (L d : Addr) : List (Addr × Obj) := (allNews g h L).filter fun p => decide (p.1 ≠ d)
theorem rest_ne {g h : Heap} {L d : Addr} : ∀ p ∈ rest g h L d, p.1 ≠ d := fun p hp => of_decide_eq_true (List.mem_filter.mp hp).2
theorem mem_rest {g h : Heap} {L d a : Addr} {o : Obj} (h1 : a ≠ L) (h2 : g.get? a = none) (h3 : h.get? a = some o) (h4 : a ≠ d) : (a, o) ∈ rest g h L d :=
  List.mem_filter.mpr ⟨mem_allNews h1 h2 h3, decide_eq_true h4⟩
theorem news_all {g h : Heap} {L : Addr} : News g L h (allNews g h L) := fun p hp => let ⟨a, b, c⟩ := of_mem_allNews hp; ⟨c, a, b⟩
theorem news_at {g h : Heap} {L d : Addr} {o : Obj} (h1 : d ≠ L) (h2 : g.get? d = none) (h3 : h.get? d = some o) : News g L h ((d, o) :: rest g h L d) := fun p hp => by
  rcases List.mem_cons.mp hp with rfl | hp
  · exact ⟨h3, h1, h2⟩
  · exact news_all p (List.mem_filter.mp hp).1
/-- behind a rule that changed d alone: all else but the frame is kept -/
theorem kept_of_news {g h h' : Heap} {L d : Addr} {m : Str → Option Value} (k : ∀ b o, g.get? b = some o → h.get? b = some o) (F : Fr g L h' m) (N : News g L h' (rest g h L d)) :
    ∀ b o, b ≠ L → b ≠ d → h.get? b = some o → h'.get? b = some o := fun b o h1 h2 e => by
  cases q : g.get? b with
  | some u =>
    have := k b u q
    rw [e] at this; cases this
    exact F.keep b _ q
  | none => exact (N (b, o) (mem_rest h1 q e h2)).1
end L2

namespace L2
open PySem PySem.Spec PyProof.Rows

/-- the module's facts, over the base: the heap at the law's entry without what is tracked there -/
structure Mod (K : PySem.W.Frag) (mg : Str → Option Value) (base : Heap) : Prop where
  kin : K.In base
  glob : base.Ns mainGlobals mg
  blt : ∃ mb, base.Ns builtinsNs mb ∧ ∀ x : Str, x ≠ "__name__" → mb x = bootBuiltins x
  nolimit : base.NoLimit

/-- the context: a def's body (or a comprehension's block) running. base: fixed through the whole law; s₀, H₀: the entry; outer: the frames whose slots others may change (a def's callers); stack: all frames that run;
   ex: iterators that were made ahead of the entry and are walked here (a comprehension's); fn: the names whose cells were made at the entry (a def: all; a comprehension's block: its own); calm: not within an except suite; pn: pins that every state bears; xe: what is wanted of an exception that leaves the code -/
structure Cx where
  prog : Program
  w : World
  K : PySem.W.Frag
  mg : Str → Option Value
  base : Heap
  A : Around
  N : List Str
  s₀ : Shared
  H₀ : Hp
  env : Env
  outer : List Env
  stack : List Env
  ex : List Addr
  fn : Str → Bool
  calm : Bool
  pn : List (Addr × Obj)
  xe : Value → Shared → Prop
/-- the callers' frames -/
def frs (l : List Env) : List Addr := l.filterMap (·.frame)
abbrev Cx.fs (X : Cx) : List Addr := frs X.outer

def Vis (sc : Scope) (x : Str) : Prop := sc.names.lookup x = some .local ∨ sc.names.lookup x = some .cell ∨ sc.names.lookup x = some .free
def Loc (sc : Scope) (x : Str) : Prop := sc.names.lookup x = some .local ∨ sc.names.lookup x = some .cell
def Look (env : Env) (h : Heap) (m : Str → Option Value) (x : Str) (u : Value) : Prop :=
  (env.kindOf x = some .local ∧ m x = some u) ∨ ((env.kindOf x = some .cell ∨ env.kindOf x = some .free) ∧ ∃ c, env.cells.lookup x = some c ∧ h.IsCell c (some u))

structure Cx.Ok (X : Cx) : Prop where
  mod : Mod X.K X.mg X.base
  kind : X.env.scope.kind = .function
  glob : X.env.globals = mainGlobals
  blt : X.env.builtins = builtinsNs
  above : X.s₀.heap.objs.size ≤ X.env.locals
  inj : ∀ x y c, X.env.cells.lookup x = some c → X.env.cells.lookup y = some c → x = y
  has : ∀ x, (X.env.kindOf x = some .cell ∨ X.env.kindOf x = some .free) → ∃ c, X.env.cells.lookup x = some c
  cab : ∀ x c, X.fn x = true → X.env.cells.lookup x = some c → X.s₀.heap.objs.size ≤ c
  hd : X.calm = true → X.A.handled = none
  frames : X.A.frames = some X.stack
  stk : X.stack = X.outer ∨ (X.stack = X.env :: X.outer ∧ X.env.frame = some X.env.locals)
  exf : ∀ b ∈ X.ex, b ≠ X.env.locals ∧ ∀ x c, X.env.cells.lookup x = some c → c ≠ b
  bs : ∀ b o, X.base.get? b = some o → X.s₀.heap.get? b = some o ∧ X.H₀ b = none
  bsz : X.base.objs.size ≤ X.s₀.heap.objs.size
  noex : ∀ b o, X.base.get? b = some o → b ∉ X.ex
  exfs : ∀ b ∈ X.ex, b ∉ X.fs
  funs : X.s₀.heap.FunFrames X.base X.outer
  frf : ∀ b ∈ X.fs, X.H₀ b = none

structure Inv (X : Cx) (pins : List (Addr × Obj)) (σ : List (Option V)) (H : Hp) (s : Shared) : Prop where
  ok : X.Ok
  os : s.os = X.s₀.os
  bare : AllBare s.gens
  base : Un X.fs X.ex X.H₀ H X.s₀.heap s.heap
  loc : ∃ m, s.heap.Ns X.env.locals m ∧ ∀ (i : Nat) (x : Str) (v : V), X.N[i]? = some x → σ[i]? = some (some v) → Vis X.env.scope x → ∃ u, RelV v u ∧ Look X.env s.heap m x u
  cell : ∀ x c, X.env.cells.lookup x = some c → ∃ v, s.heap.IsCell c v
  free : H X.env.locals = none
  freeC : ∀ x c, X.env.cells.lookup x = some c → H c = none
  pin : ∀ p ∈ X.pn ++ pins, s.heap.get? p.1 = some p.2 ∧ H p.1 = none ∧ p.1 ≠ X.env.locals ∧ p.1 ∉ X.fs ∧ ∀ v, p.2.data ≠ .cell v
  hok : HOk X.prog X.w H s.heap
  len : σ.length = X.N.length

section
variable {X : Cx} {pins : List (Addr × Obj)} {σ : List (Option V)} {H H' : Hp} {s : Shared} {h' : Heap}

theorem Cx.Ok.nofr (ok : X.Ok) {b : Addr} {o : Obj} (e : X.base.get? b = some o) : b ∉ X.fs := fun hb => by
  have := (ok.funs.mem hb).1
  rw [e] at this; cases this
theorem Inv.bs (I : Inv X pins σ H s) : ∀ b o, X.base.get? b = some o → s.heap.get? b = some o ∧ H b = none := fun b o e =>
  ⟨I.base.keep b o (I.ok.bs b o e).1 (I.ok.bs b o e).2 (I.ok.nofr e) (I.ok.noex b o e), I.base.free b o (I.ok.bs b o e).1 (I.ok.bs b o e).2 (I.ok.noex b o e)⟩
theorem Inv.bk (I : Inv X pins σ H s) : ∀ b o, X.base.get? b = some o → s.heap.get? b = some o := fun b o e => (I.bs b o e).1
theorem Inv.mod (I : Inv X pins σ H s) : Mod X.K X.mg X.base := I.ok.mod
theorem Inv.kIn (I : Inv X pins σ H s) : X.K.In s.heap := I.ok.mod.kin.keeps I.bk
theorem Inv.nolimit (I : Inv X pins σ H s) : s.heap.NoLimit := I.ok.mod.nolimit.keeps I.bk
/-- the frame over the base: for OpenK's rules (K.In X.base is I.mod.kin) -/
theorem Inv.fr (I : Inv X pins σ H s) : ∃ m, Fr X.base X.env.locals s.heap m :=
  let ⟨m, hn, _⟩ := I.loc
  ⟨m, hn, I.bk, Nat.le_trans I.ok.bsz I.ok.above⟩
theorem Inv.lt (I : Inv X pins σ H s) : X.env.locals < s.heap.objs.size := let ⟨_, hn, _⟩ := I.loc; hn.lt
theorem Inv.sz (I : Inv X pins σ H s) : X.s₀.heap.objs.size ≤ s.heap.objs.size := Nat.le_trans I.ok.above (Nat.le_of_lt I.lt)
theorem Inv.nofs (I : Inv X pins σ H s) {a : Addr} (h : s.heap.objs.size ≤ a) : a ∉ X.fs := fun hb => by
  obtain ⟨_, o, ho, _⟩ := I.ok.funs.mem hb
  exact absurd (Nat.lt_of_lt_of_le (Heap.lt_size ho) (Nat.le_trans I.sz h)) (Nat.lt_irrefl _)
theorem Inv.cne (I : Inv X pins σ H s) : ∀ x c, X.env.cells.lookup x = some c → c ≠ X.env.locals := fun x c e z => by
  obtain ⟨v, o, ho, hd⟩ := I.cell x c e
  obtain ⟨m, ⟨o', es, ep, ho', hd', _⟩, _⟩ := I.loc
  rw [z, ho'] at ho; cases ho; rw [hd'] at hd; cases hd
theorem Inv.funs (I : Inv X pins σ H s) : s.heap.FunFrames X.base X.outer := by
  have all : ∀ (l : List Env), (∀ b ∈ frs l, b ∈ X.fs) → X.s₀.heap.FunFrames X.base l → s.heap.FunFrames X.base l := by
    intro l
    induction l with
    | nil => intro _ _; trivial
    | cons env r ih =>
      intro hs hl
      obtain ⟨hk, ⟨L, o, hf, hn, ho, hd⟩, hr⟩ := hl
      have hL : L ∈ X.fs := hs L (by unfold frs; rw [List.filterMap_cons, hf]; exact List.mem_cons_self)
      obtain ⟨sl, e⟩ := I.base.slot L o ho (I.ok.frf L hL) hL fun z => I.ok.exfs L z hL
      exact ⟨hk, ⟨L, _, hf, hn, e, hd⟩, ih (fun b hb => hs b (by unfold frs; rw [List.filterMap_cons, hf]; exact List.mem_cons_of_mem _ hb)) hr⟩
  exact all X.outer (fun _ hb => hb) I.ok.funs

/-- the frames that run, for a call -/
theorem Inv.stack (I : Inv X pins σ H s) : s.heap.FunFrames X.base X.stack := by
  rcases I.ok.stk with e | ⟨e, hf⟩
  · rw [e]; exact I.funs
  · rw [e]
    obtain ⟨m, hn, _⟩ := I.loc
    refine .cons (by rw [I.ok.kind]; decide) hf hn ?_ I.funs
    exact Heap.get?_none_of_le (Nat.le_trans I.ok.bsz I.ok.above)
theorem Inv.stkSub (I : Inv X pins σ H s) : ∀ b ∈ frs X.stack, b ∈ X.env.locals :: X.fs := fun b hb => by
  rcases I.ok.stk with e | ⟨e, hf⟩
  · rw [e] at hb; exact List.mem_cons_of_mem _ hb
  · rw [e] at hb
    unfold frs at hb
    rw [List.filterMap_cons, hf] at hb
    exact hb
theorem Inv.stkFree (I : Inv X pins σ H s) : ∀ b ∈ frs X.stack, H b = none := fun b hb => by
  rcases List.mem_cons.mp (I.stkSub b hb) with e | hb
  · rw [e]; exact I.free
  · obtain ⟨_, o, ho, _⟩ := I.ok.funs.mem hb
    exact I.base.free b o ho (I.ok.frf b hb) fun z => I.ok.exfs b z hb

/-- THE STEP: the untracked objects but the frame and the records at ch are kept (the callers' frames up to slots), the frame's map is kept, the new abstract heap is held -/
theorem Inv.step {g' : Array GenState} {t' : Nat} {d' : Drawn} {ch : List Addr} (I : Inv X pins σ H s)
    (hch : ∀ b ∈ ch, (b ∈ X.ex ∨ X.s₀.heap.objs.size ≤ b) ∧ b ≠ X.env.locals ∧ (∀ x c, X.env.cells.lookup x = some c → c ≠ b) ∧ ∀ p ∈ X.pn ++ pins, p.1 ≠ b)
    (keep : ∀ b o, b ≠ X.env.locals → b ∉ X.fs → b ∉ ch → s.heap.get? b = some o → H b = none → h'.get? b = some o)
    (slot : ∀ b o, b ≠ X.env.locals → b ∈ X.fs → b ∉ ch → s.heap.get? b = some o → H b = none → ∃ sl, h'.get? b = some { o with slots := sl }) (free : ∀ b o, b ∉ ch → s.heap.get? b = some o → H b = none → H' b = none)
    (there : ∀ b o, b ∉ ch → s.heap.get? b = some o → ∃ o', h'.get? b = some o')
    (tups : ∀ b xs, H b = some (.tup xs) → H' b = some (.tup xs)) (frzs : ∀ b o u, H b = some (.frz o u) → H' b = some (.frz o u)) (tbls : ∀ b ps, H b = some (.tbl ps) → ∃ more, H' b = some (.tbl (ps ++ more)))
    (ns : ∀ m, s.heap.Ns X.env.locals m → h'.Ns X.env.locals m) (hok : HOk X.prog X.w H' h') (hg : AllBare g') :
    Inv X pins σ H' { s with heap := h', gens := g', drawn := d', toks := t' } := by
  have neL : ∀ b o, X.s₀.heap.get? b = some o → b ≠ X.env.locals := fun b o e => Nat.ne_of_lt (Nat.lt_of_lt_of_le (Heap.lt_size e) I.ok.above)
  have neC : ∀ b o, X.s₀.heap.get? b = some o → b ∉ X.ex → b ∉ ch := fun b o e hx hb => by
    rcases (hch b hb).1 with z | z
    · exact hx z
    · exact absurd (Nat.lt_of_lt_of_le (Heap.lt_size e) z) (Nat.lt_irrefl _)
  have cellK : ∀ x c, X.env.cells.lookup x = some c → ∀ v, s.heap.IsCell c v → h'.IsCell c v := fun x c e v ⟨o, ho, hd⟩ => by
    have nch : c ∉ ch := fun z => (hch c z).2.2.1 x c e rfl
    by_cases hc : c ∈ X.fs
    · obtain ⟨sl, q⟩ := slot c o (I.cne x c e) hc nch ho (I.freeC x c e)
      exact ⟨_, q, hd⟩
    · exact ⟨o, keep c o (I.cne x c e) hc nch ho (I.freeC x c e), hd⟩
  refine ⟨I.ok, I.os, hg, ⟨fun b o e n hb hx => ?_, fun b o e n hb hx => ?_, fun b o e n hx => ?_, fun b o e hx => ?_, fun b xs e => tups b xs (I.base.tups b xs e), fun b o xs e => frzs b o xs (I.base.frzs b o xs e), fun b ps e => ?_⟩, ?_, fun x c e => ?_, ?_, fun x c e => ?_, fun p hp => ?_, hok, I.len⟩
  · exact keep b o (neL b o e) hb (neC b o e hx) (I.base.keep b o e n hb hx) (I.base.free b o e n hx)
  · obtain ⟨sl, e1⟩ := I.base.slot b o e n hb hx
    obtain ⟨sl', e2⟩ := slot b _ (neL b o e) hb (neC b o e hx) e1 (I.base.free b o e n hx)
    exact ⟨sl', e2⟩
  · obtain ⟨o', e1⟩ := I.base.there b o e hx
    exact free b o' (neC b o e hx) e1 (I.base.free b o e n hx)
  · obtain ⟨o', e1⟩ := I.base.there b o e hx
    exact there b o' (neC b o e hx) e1
  · obtain ⟨m1, e1⟩ := I.base.tbls b ps e
    obtain ⟨m2, e2⟩ := tbls b _ e1
    exact ⟨m1 ++ m2, by rw [e2, Array.append_assoc]⟩
  · obtain ⟨m, hn, hl⟩ := I.loc
    refine ⟨m, ns m hn, fun i x v e1 e2 e3 => ?_⟩
    obtain ⟨u, r, l⟩ := hl i x v e1 e2 e3
    refine ⟨u, r, ?_⟩
    rcases l with l | ⟨k, c, e, z⟩
    · exact .inl l
    · exact .inr ⟨k, c, e, cellK x c e _ z⟩
  · obtain ⟨v, z⟩ := I.cell x c e
    exact ⟨v, cellK x c e v z⟩
  · obtain ⟨m, ⟨o, _, _, ho, _⟩, _⟩ := I.loc
    exact free _ o (fun z => (hch _ z).2.1 rfl) ho I.free
  · obtain ⟨v, o, ho, hd⟩ := I.cell x c e
    exact free c o (fun z => (hch c z).2.2.1 x c e rfl) ho (I.freeC x c e)
  · obtain ⟨e, n, ne, nf, d⟩ := I.pin p hp
    have nch : p.1 ∉ ch := fun z => (hch p.1 z).2.2.2 p hp rfl
    exact ⟨keep p.1 p.2 ne nf nch e n, free p.1 p.2 nch e n, ne, nf, d⟩
/-- .. where the frame's own object is kept too -/
theorem Inv.un {t' : Nat} (I : Inv X pins σ H s) (u : Un X.fs [] H H' s.heap h') (hok : HOk X.prog X.w H' h') : Inv X pins σ H' { s with heap := h', toks := t' } := by
  obtain ⟨m, ⟨o, es, ep, ho, r⟩, _⟩ := id I.loc
  obtain ⟨sl, hL⟩ := u.any ho I.free (by simp)
  exact I.step (g' := s.gens) (d' := s.drawn) (ch := []) (fun _ z => nomatch z) (fun b o _ hb _ e n => u.keep b o e n hb (by simp)) (fun b o _ hb _ e n => u.slot b o e n hb (by simp)) (fun b o _ e n => u.free b o e n (by simp)) (fun b o _ e => u.there b o e (by simp)) u.tups u.frzs u.tbls (fun m' hm => by
    obtain ⟨o', es', ep', ho', r'⟩ := hm
    rw [ho] at ho'; cases ho'
    exact ⟨_, es', ep', hL, r'⟩) hok I.bare
/-- behind a call (or a comprehension's block): the slots of this frame may have changed too, the records at ch may have turned -/
theorem Inv.call {g' : Array GenState} {t' : Nat} {d' : Drawn} {ch : List Addr} (I : Inv X pins σ H s) (u : Un (frs X.stack) ch H H' s.heap h') (hok : HOk X.prog X.w H' h') (hg : AllBare g')
    (hch : ∀ b ∈ ch, (b ∈ X.ex ∨ X.s₀.heap.objs.size ≤ b) ∧ b ≠ X.env.locals ∧ (∀ x c, X.env.cells.lookup x = some c → c ≠ b) ∧ ∀ p ∈ X.pn ++ pins, p.1 ≠ b) :
    Inv X pins σ H' { s with heap := h', gens := g', drawn := d', toks := t' } := by
  obtain ⟨m, ⟨o, es, ep, ho, r⟩, _⟩ := id I.loc
  obtain ⟨sl, hL⟩ := u.any ho I.free fun z => (hch _ z).2.1 rfl
  exact I.step (ch := ch) hch (fun b o hL hb hc e n => u.keep b o e n (fun z => (List.mem_cons.mp (I.stkSub b z)).elim hL hb) hc) (fun b o _ _ hc e n => u.any e n hc) (fun b o hc e n => u.free b o e n hc) (fun b o hc e => u.there b o e hc) u.tups u.frzs u.tbls (fun m' hm => by
    obtain ⟨o', es', ep', ho', r'⟩ := hm
    rw [ho] at ho'; cases ho'
    exact ⟨_, es', ep', hL, r'⟩) hok hg
/-- an untracked record of ours (an iterator) has turned -/
theorem Inv.turned {t' : Nat} {it : Addr} (I : Inv X pins σ H s) (k : ∀ b o, b ≠ it → s.heap.get? b = some o → h'.get? b = some o) (hn : H it = none) (hL : it ≠ X.env.locals)
    (h1 : it ∈ X.ex ∨ X.s₀.heap.objs.size ≤ it) (h2 : ∀ x c, X.env.cells.lookup x = some c → c ≠ it) (h3 : ∀ p ∈ X.pn ++ pins, p.1 ≠ it) : Inv X pins σ H { s with heap := h', toks := t' } := by
  have nit : ∀ b u, H b = some u → b ≠ it := fun b u e z => by rw [z, hn] at e; cases e
  refine I.step (g' := s.gens) (d' := s.drawn) (ch := [it]) (fun b hb => ?_) (fun b o _ _ hc e _ => k b o (fun z => hc (by simp [z])) e) (fun b o _ _ hc e _ => ⟨o.slots, k b o (fun z => hc (by simp [z])) e⟩) (fun _ _ _ _ n => n)
    (fun b o hc e => ⟨o, k b o (fun z => hc (by simp [z])) e⟩) (fun _ _ e => e) (fun _ _ _ e => e) (fun b ps e => ⟨#[], by rw [e]; simp⟩) (fun m hm => ?_) (fun b u e => ?_) I.bare
  · have e : b = it := by simpa using hb
    subst e
    exact ⟨h1, hL, h2, h3⟩
  · obtain ⟨o, es, ep, ho, r⟩ := hm
    exact ⟨o, es, ep, k _ o (Ne.symm hL) ho, r⟩
  · refine (I.hok b u e).stay (fun c v hc q => k c v ?_ q) (fun _ q => q) fun _ _ q => q
    rcases hc with z | z
    · rw [z]; exact nit b u e
    · exact nit c _ z
theorem Inv.tok (I : Inv X pins σ H s) (t : Nat) : Inv X pins σ H { s with toks := t } := I.un (h' := s.heap) (t' := t) Un.refl I.hok
/-- all objects kept -/
theorem Inv.kept {t' : Nat} (I : Inv X pins σ H s) (k : ∀ b u, s.heap.get? b = some u → h'.get? b = some u) : Inv X pins σ H { s with heap := h', toks := t' } := I.un (Un.kept k) (I.hok.kept k)
/-- a new object laid and tracked -/
theorem Inv.laid {a : Addr} {o : HO} {t' : Nat} (I : Inv X pins σ H s) (k : ∀ b u, s.heap.get? b = some u → h'.get? b = some u) (hp : s.heap.objs.size ≤ a) (new : ObjOk X.prog X.w (upd H a o) h' a o) :
    Inv X pins σ (upd H a o) { s with heap := h', toks := t' } := I.un (Un.laid k hp (I.hok.fresh hp)) (I.hok.laid k hp new)
/-- an object written -/
theorem Inv.write {x e : Addr} {o : HO} {t' : Nat} (I : Inv X pins σ H s) (mu : Mut (H x)) (he : e = x ∨ H e = some (.own x)) (k : ∀ b u, b ≠ e → s.heap.get? b = some u → h'.get? b = some u) (heo : ∃ u, h'.get? e = some u)
    (new : ObjOk X.prog X.w (upd H x o) h' x o) : Inv X pins σ (upd H x o) { s with heap := h', toks := t' } := I.un (Un.write mu he k heo) (I.hok.write mu he k heo new)
/-- forgetting slots, pins -/
theorem Inv.weak {σ' : List (Option V)} (I : Inv X pins σ H s) (hl : σ'.length = σ.length) (w : ∀ (i : Nat) v, σ'[i]? = some (some v) → σ[i]? = some (some v)) : Inv X pins σ' H s :=
  ⟨I.ok, I.os, I.bare, I.base, let ⟨m, hn, hl'⟩ := I.loc; ⟨m, hn, fun i x v e1 e2 e3 => hl' i x v e1 (w i v e2) e3⟩, I.cell, I.free, I.freeC, I.pin, I.hok, hl.trans I.len⟩
theorem Inv.pins_of {pins' : List (Addr × Obj)} (I : Inv X pins σ H s) (h : ∀ p ∈ pins', s.heap.get? p.1 = some p.2 ∧ H p.1 = none ∧ p.1 ≠ X.env.locals ∧ p.1 ∉ X.fs ∧ ∀ v, p.2.data ≠ .cell v) : Inv X pins' σ H s :=
  ⟨I.ok, I.os, I.bare, I.base, I.loc, I.cell, I.free, I.freeC, fun p hp => (List.mem_append.mp hp).elim (fun z => I.pin p (List.mem_append_left _ z)) (h p), I.hok, I.len⟩

theorem nodup_ix {N : List Str} (hN : N.Nodup) {i j : Nat} {x : Str} (a : N[i]? = some x) (b : N[j]? = some x) : i = j := by
  obtain ⟨h1, e1⟩ := List.getElem?_eq_some_iff.mp a
  obtain ⟨h2, e2⟩ := List.getElem?_eq_some_iff.mp b
  exact (List.getElem_inj hN).mp (e1.trans e2.symm)

/-- a name is stored; what changed -/
theorem store_ok2 {M : Model} {A : Around} {E : Value → Shared → Prop} {i : Nat} {x : Str} {v : V} {u : Value} {Q : Unit → Shared → Prop} (I : Inv X pins σ H s) (hN : X.N.Nodup) (hi : X.N[i]? = some x) (hx : Loc X.env.scope x) (r : RelV v u)
    (h : ∀ s', Inv X pins (σ.set i (some v)) H s' → (∃ a, Heap.SameBut a s.heap s'.heap ∧ (a = X.env.locals ∨ X.env.cells.lookup x = some a)) → Q () s') (hf : X.fn x = true ∨ X.env.scope.names.lookup x = some .local := by first | exact .inl rfl | exact .inr rfl | assumption) : wpAny M A (storeName X.env x u) Q E s := by
  obtain ⟨m, hn, hl⟩ := id I.loc
  have hcls : (X.env.scope.kind == .class || (X.env.scope.kind == .module && X.env.locals != X.env.globals)) = false := by rw [I.ok.kind]; rfl
  have hiσ : i < σ.length := by rw [I.len]; exact (List.getElem?_eq_some_iff.mp hi).1
  have cne := I.cne
  have tracked : ∀ {a : Addr} {h' : Heap}, (∃ o, s.heap.get? a = some o ∧ H a = none) → Heap.SameBut a s.heap h' → HOk X.prog X.w H h' := fun {a h'} ha hs b ob e => by
    obtain ⟨_, _, hfree⟩ := ha
    refine (I.hok b ob e).stay (fun c w' hc q => (hs.2 c ?_).trans q) (fun _ q => q) fun _ _ q => q
    rintro rfl
    rcases hc with rfl | hc
    · rw [hfree] at e; cases e
    · rw [hfree] at hc; cases hc
  rcases hx with hk | hk
  · refine wpAny_storeName_local hk hn (fun h' hn' hs => ?_) hcls
    obtain ⟨oL, _, _, hoL, _⟩ := id hn
    refine h _ ⟨I.ok, I.os, I.bare, ⟨fun b o e n hb hx => ?_, fun b o e n hb hx => ?_, I.base.free, fun b o e hx => ?_, I.base.tups, I.base.frzs, I.base.tbls⟩, ⟨_, hn', fun j y v' e1 e2 e3 => ?_⟩, fun y c e => ?_, I.free, I.freeC, fun p hp => ?_, tracked ⟨oL, hoL, I.free⟩ hs, by simpa using I.len⟩ ⟨_, hs, .inl rfl⟩
    · exact (hs.2 b (Nat.ne_of_lt (Nat.lt_of_lt_of_le (Heap.lt_size e) I.ok.above))).trans (I.base.keep b o e n hb hx)
    · obtain ⟨sl, e1⟩ := I.base.slot b o e n hb hx
      exact ⟨sl, (hs.2 b (Nat.ne_of_lt (Nat.lt_of_lt_of_le (Heap.lt_size e) I.ok.above))).trans e1⟩
    · obtain ⟨o', e1⟩ := I.base.there b o e hx
      exact ⟨o', (hs.2 b (Nat.ne_of_lt (Nat.lt_of_lt_of_le (Heap.lt_size e) I.ok.above))).trans e1⟩
    · by_cases hj : j = i
      · subst hj
        rw [hi] at e1; cases e1
        rw [List.getElem?_set_self hiσ] at e2
        cases e2
        exact ⟨u, r, .inl ⟨hk, by simp⟩⟩
      · rw [List.getElem?_set_ne (Ne.symm hj)] at e2
        obtain ⟨u', r', q⟩ := hl j y v' e1 e2 e3
        refine ⟨u', r', ?_⟩
        rcases q with ⟨k, e⟩ | ⟨k, c, e, z⟩
        · refine .inl ⟨k, ?_⟩
          have : y ≠ x := fun e => hj (nodup_ix hN e1 (e ▸ hi))
          simp [this, e]
        · exact .inr ⟨k, c, e, z.sameBut hs (cne y c e)⟩
    · obtain ⟨w', z⟩ := I.cell y c e
      exact ⟨w', z.sameBut hs (cne y c e)⟩
    · obtain ⟨e, n, ne, nf, d⟩ := I.pin p hp
      exact ⟨(hs.2 p.1 ne).trans e, n, ne, nf, d⟩
  · have hfn : X.fn x = true := by
      rcases hf with z | z
      · exact z
      · rw [z] at hk; cases hk
    obtain ⟨c, hc⟩ := I.ok.has x (.inl hk)
    obtain ⟨w', z⟩ := I.cell x c hc
    refine wpAny_storeName_cell I.ok.kind hk hc z (fun h' hc' hs => ?_)
    obtain ⟨oc, hoc, hocd⟩ := id z
    refine h { s with heap := h' } ⟨I.ok, I.os, I.bare, ⟨fun b o e n hb hx => ?_, fun b o e n hb hx => ?_, I.base.free, fun b o e hx => ?_, I.base.tups, I.base.frzs, I.base.tbls⟩, ⟨m, hn.sameBut hs (Ne.symm (cne x c hc)), fun j y v' e1 e2 e3 => ?_⟩, fun y c' e => ?_, I.free, I.freeC, fun p hp => ?_, tracked ⟨oc, hoc, I.freeC x c hc⟩ hs, by simpa using I.len⟩ ⟨c, hs, .inr hc⟩
    · exact (hs.2 b (Nat.ne_of_lt (Nat.lt_of_lt_of_le (Heap.lt_size e) (I.ok.cab x c hfn hc)))).trans (I.base.keep b o e n hb hx)
    · obtain ⟨sl, e1⟩ := I.base.slot b o e n hb hx
      exact ⟨sl, (hs.2 b (Nat.ne_of_lt (Nat.lt_of_lt_of_le (Heap.lt_size e) (I.ok.cab x c hfn hc)))).trans e1⟩
    · obtain ⟨o', e1⟩ := I.base.there b o e hx
      exact ⟨o', (hs.2 b (Nat.ne_of_lt (Nat.lt_of_lt_of_le (Heap.lt_size e) (I.ok.cab x c hfn hc)))).trans e1⟩
    · by_cases hj : j = i
      · subst hj
        rw [hi] at e1; cases e1
        rw [List.getElem?_set_self hiσ] at e2
        cases e2
        exact ⟨u, r, .inr ⟨.inl hk, c, hc, hc'⟩⟩
      · rw [List.getElem?_set_ne (Ne.symm hj)] at e2
        obtain ⟨u', r', q⟩ := hl j y v' e1 e2 e3
        refine ⟨u', r', ?_⟩
        rcases q with q | ⟨k, c', e, z'⟩
        · exact .inl q
        · refine .inr ⟨k, c', e, z'.sameBut hs ?_⟩
          rintro rfl
          exact hj (nodup_ix hN e1 (I.ok.inj _ _ _ e hc ▸ hi))
    · by_cases hcc : c' = c
      · subst hcc; exact ⟨_, hc'⟩
      · obtain ⟨w2, z2⟩ := I.cell y c' e
        exact ⟨w2, z2.sameBut hs hcc⟩
    · obtain ⟨e, n, ne, nf, d⟩ := I.pin p hp
      refine ⟨(hs.2 p.1 ?_).trans e, n, ne, nf, d⟩
      intro q
      rw [q, hoc] at e
      have q' : oc = p.2 := Option.some.inj e
      exact d w' (by rw [← q']; exact hocd)
theorem store_ok {M : Model} {A : Around} {E : Value → Shared → Prop} {i : Nat} {x : Str} {v : V} {u : Value} {Q : Unit → Shared → Prop} (I : Inv X pins σ H s) (hN : X.N.Nodup) (hi : X.N[i]? = some x) (hx : Loc X.env.scope x) (r : RelV v u)
    (h : ∀ s', Inv X pins (σ.set i (some v)) H s' → Q () s') (hf : X.fn x = true ∨ X.env.scope.names.lookup x = some .local := by first | exact .inl rfl | exact .inr rfl | assumption) : wpAny M A (storeName X.env x u) Q E s :=
  store_ok2 I hN hi hx r (fun s' I' _ => h s' I') hf
/-- behind a call or a block, the state as it is -/
theorem Inv.call' {s' : Shared} {ch : List Addr} (I : Inv X pins σ H s) (ho : s'.os = s.os) (u : Un (frs X.stack) ch H H' s.heap s'.heap) (hok : HOk X.prog X.w H' s'.heap) (hg : AllBare s'.gens)
    (hch : ∀ b ∈ ch, (b ∈ X.ex ∨ X.s₀.heap.objs.size ≤ b) ∧ b ≠ X.env.locals ∧ (∀ x c, X.env.cells.lookup x = some c → c ≠ b) ∧ ∀ p ∈ X.pn ++ pins, p.1 ≠ b) : Inv X pins σ H' s' := by
  obtain ⟨h', g', d', t', o'⟩ := s'
  have e : o' = s.os := ho
  subst e
  exact I.call (g' := g') (t' := t') (d' := d') u hok hg hch
end

/-! ### the judgements -/
/-- an exception: its class, its own dict's address (where it has one), the abstract heap behind it -/
abbrev XK := Value → Option Addr → Hp → Prop
abbrev St := List (Option V)
abbrev VK := V → Hp → Prop
/-- an expression's reading; a test's; an argument list's -/
abbrev TE := St → Hp → VK → Prop
abbrev TT := St → Hp → (Bool → Hp → Prop) → Prop
abbrev TA := St → Hp → (List V → Hp → Prop) → Prop
/-- what is wanted behind a statement -/
structure Ends where
  nx : St → Hp → Prop
  rt : VK
  bk : St → Hp → Prop := fun _ _ => False
  ct : St → Hp → Prop := fun _ _ => False
abbrev TS := Ends → St → Hp → Prop

def EP (X : Cx) (pins : List (Addr × Obj)) (σ : St) (Q : VK) (u : Value) (s' : Shared) : Prop := ∃ v H', Inv X pins σ H' s' ∧ RelV v u ∧ Q v H'
def TP (X : Cx) (pins : List (Addr × Obj)) (σ : St) (Q : Bool → Hp → Prop) (b : Bool) (s' : Shared) : Prop := ∃ H', Inv X pins σ H' s' ∧ Q b H'
def AP (X : Cx) (pins : List (Addr × Obj)) (σ : St) (Q : List V → Hp → Prop) (us : List Value) (s' : Shared) : Prop := ∃ vs H', Inv X pins σ H' s' ∧ Vals vs us ∧ Q vs H'
def SP (X : Cx) (pins : List (Addr × Obj)) (D : Ends) (f : Flow) (s' : Shared) : Prop :=
  match f with
  | .next => ∃ σ' H', Inv X pins σ' H' s' ∧ D.nx σ' H'
  | .brk => ∃ σ' H', Inv X pins σ' H' s' ∧ D.bk σ' H'
  | .cont => ∃ σ' H', Inv X pins σ' H' s' ∧ D.ct σ' H'
  | .ret u => ∃ v σ' H', Inv X pins σ' H' s' ∧ RelV v u ∧ D.rt v H'

def PE (X : Cx) (e : Expr) (t : TE) : Prop :=
  ∀ (pins : List (Addr × Obj)) (s : Shared) (σ : St) (H : Hp) (Q : VK), Inv X pins σ H s → t σ H Q → wpAny (model X.prog X.w) X.A (eval e X.env) (EP X pins σ Q) X.xe s
def PT (X : Cx) (e : Expr) (t : TT) : Prop :=
  ∀ (pins : List (Addr × Obj)) (s : Shared) (σ : St) (H : Hp) (Q : Bool → Hp → Prop), Inv X pins σ H s → t σ H Q → wpAny (model X.prog X.w) X.A (isTrue e X.env (eval e X.env)) (TP X pins σ Q) X.xe s
/-- a test whatever its 'whole' is (and, or) -/
def PW (X : Cx) (e : Expr) (t : TT) : Prop :=
  ∀ (whole : Sem Value) (pins : List (Addr × Obj)) (s : Shared) (σ : St) (H : Hp) (Q : Bool → Hp → Prop), Inv X pins σ H s → t σ H Q → wpAny (model X.prog X.w) X.A (isTrue e X.env whole) (TP X pins σ Q) X.xe s
theorem PW.pt {X : Cx} {e : Expr} {t : TT} (h : PW X e t) : PT X e t := h _
/-- an argument list (no star), from the left -/
def PA (X : Cx) (es : List Expr) (t : TA) : Prop :=
  ∀ (pos : Pos) (pins : List (Addr × Obj)) (s : Shared) (σ : St) (H : Hp) (Q : List V → Hp → Prop), Inv X pins σ H s → t σ H Q → wpAny (model X.prog X.w) X.A (spliced (backTo pos (starEach es X.env))) (AP X pins σ Q) X.xe s
def PS (X : Cx) (st : Stmt) (t : TS) : Prop :=
  ∀ (pins : List (Addr × Obj)) (s : Shared) (σ : St) (H : Hp) (D : Ends), Inv X pins σ H s → t D σ H → wpAny (model X.prog X.w) X.A (exec st X.env) (SP X pins D) X.xe s
def PSs (X : Cx) (st : List Stmt) (t : TS) : Prop :=
  ∀ (pins : List (Addr × Obj)) (s : Shared) (σ : St) (H : Hp) (D : Ends), Inv X pins σ H s → t D σ H → wpAny (model X.prog X.w) X.A (execs st X.env) (SP X pins D) X.xe s
/-- weaken the end -/
theorem thn {α : Type} {t : Sem α} {Q Q' : α → Shared → Prop} {M : Model} {A : Around} {E : Value → Shared → Prop} {s : Shared} (h : wpAny M A t Q E s) (hQ : ∀ a s, Q a s → Q' a s) : wpAny M A t Q' E s := wpAny_mono h hQ fun _ _ x => x
end L2

namespace L2
open PySem PySem.Spec PyProof.Rows
section
variable {X : Cx}

/-- two expressions in a row -/
theorem bin {a b : Expr} {ta tb : TE} (ha : PE X a ta) (hb : PE X b tb) {pins : List (Addr × Obj)} {s : Shared} {σ : St} {H : Hp} {R : V → V → Hp → Prop} (I : Inv X pins σ H s) (h : ta σ H fun x H1 => tb σ H1 fun y H2 => R x y H2)
    {α : Type} {Q : α → Shared → Prop} {f : Value → Value → Sem α}
    (hf : ∀ v u s2 x y H2, Inv X pins σ H2 s2 → RelV x v → RelV y u → R x y H2 → wpAny (model X.prog X.w) X.A (f v u) Q X.xe s2) :
    wpAny (model X.prog X.w) X.A (eval a X.env) (fun v s₁ => wpAny (model X.prog X.w) X.A (eval b X.env) (fun u s₂ => wpAny (model X.prog X.w) X.A (f v u) Q X.xe s₂) X.xe s₁) X.xe s := by
  refine thn (ha pins s σ H _ I h) fun v s1 ⟨x, H1, I1, r1, q1⟩ => ?_
  refine thn (hb pins s1 σ H1 _ I1 q1) fun u s2 ⟨y, H2, I2, r2, q2⟩ => ?_
  exact hf v u s2 x y H2 I2 r1 r2 q2

/-! ### names and constants -/
def tVar (i : Nat) : TE := fun σ H Q => ∃ v, σ[i]? = some (some v) ∧ Q v H
def tC (v : V) : TE := fun _ H Q => Q v H
theorem pe_var {i : Nat} {x : Str} {pos : Pos} (hN : X.N[i]? = some x) (hv : Vis X.env.scope x) (hd : (x == ("__debug__" : Str)) = false := by decide) (hcd : (x == ("__classdict__" : Str)) = false := by decide) : PE X (.Name x pos) (tVar i) := by
  intro pins s σ H Q I h
  obtain ⟨v, e, h⟩ := h
  obtain ⟨m, hn, hl⟩ := I.loc
  obtain ⟨u, r, l⟩ := hl i x v hN e hv
  have fin : EP X pins σ Q u s := ⟨v, H, I, r, h⟩
  rcases l with ⟨hk, hm⟩ | ⟨hk, c, hc, hcell⟩
  · exact wpAny_Name (wpAny_loadName_local I.ok.kind hk hn hm fin) hd
  · rcases hk with hk | hk
    · exact wpAny_Name (wpAny_loadName_cell I.ok.kind hk hc hcell fin) hd
    · exact wpAny_Name (wpAny_loadName_free I.ok.kind hk hc hcell fin hcd) hd
theorem pe_int {i j pos} : PE X (.Constant (.int i) j pos) (tC (.int i)) := fun _ _ _ H _ I h => wpAny_Constant_int ⟨.int i, H, I.tok _, ⟨_, rfl⟩, h⟩
theorem pe_bl {b j pos} : PE X (.Constant (.bool b) j pos) (tC (.bl b)) := fun _ _ _ H _ I h => Constant_bool ⟨.bl b, H, I, rfl, h⟩
theorem pe_non {j pos} : PE X (.Constant .none j pos) (tC .non) := fun _ _ _ H _ I h => Constant_none ⟨.non, H, I, rfl, h⟩
theorem pe_str {x j pos} : PE X (.Constant (.str x) j pos) (tC (.str x)) := fun _ _ _ H _ I h => Calls.Constant_str ⟨.str x, H, I.tok _, ⟨_, rfl⟩, h⟩

/-- a global name of the def -/
def Gl (X : Cx) (x : Str) : Prop := X.env.kindOf x = some .globalImplicit
theorem ld_glob {E : Value → Shared → Prop} {pins : List (Addr × Obj)} {s : Shared} {σ : St} {H : Hp} {x : Str} {u : Value} {pos : Pos} {Q : Value → Shared → Prop} (I : Inv X pins σ H s) (hg : Gl X x) (hm : X.mg x = some u) (h : Q u s)
    (hd : (x == ("__debug__" : Str)) = false := by decide) : wpAny (model X.prog X.w) X.A (eval (.Name x pos) X.env) Q E s :=
  Calls.Name_function_global I.ok.kind hg (Calls.loadGlobal_global (by rw [I.ok.glob]; exact I.mod.glob.keeps I.bk) hm h) hd
theorem ld_blt {E : Value → Shared → Prop} {pins : List (Addr × Obj)} {s : Shared} {σ : St} {H : Hp} {x : Str} {u : Value} {pos : Pos} {Q : Value → Shared → Prop} (I : Inv X pins σ H s) (hg : Gl X x) (hm : X.mg x = none) (hv : bootBuiltins x = some u) (h : Q u s)
    (hn : x ≠ "__name__" := by decide) (hd : (x == ("__debug__" : Str)) = false := by decide) : wpAny (model X.prog X.w) X.A (eval (.Name x pos) X.env) Q E s := by
  obtain ⟨mb, h1, h2⟩ := I.mod.blt
  exact Calls.Name_function_global I.ok.kind hg (Calls.loadGlobal_builtin (by rw [I.ok.glob]; exact I.mod.glob.keeps I.bk) hm (by rw [I.ok.blt]; exact h1.keeps I.bk) ((h2 x hn).trans hv) h) hd
/-- a module's constant, a class, a function, as a value -/
theorem pe_glob {x : Str} {v : V} {u : Value} {pos : Pos} (hg : Gl X x) (hm : X.mg x = some u) (r : RelV v u) (hd : (x == ("__debug__" : Str)) = false := by decide) : PE X (.Name x pos) (tC v) :=
  fun _ _ _ H _ I h => ld_glob I hg hm ⟨v, H, I, r, h⟩ hd
theorem pe_bltn {x : Str} {v : V} {u : Value} {pos : Pos} (hg : Gl X x) (hm : X.mg x = none) (hv : bootBuiltins x = some u) (r : RelV v u) (hn : x ≠ "__name__" := by decide) (hd : (x == ("__debug__" : Str)) = false := by decide) : PE X (.Name x pos) (tC v) :=
  fun _ _ _ H _ I h => ld_blt I hg hm hv ⟨v, H, I, r, h⟩ hn hd

/-! ### arithmetic -/
/-- two ints -/
def t2I (ta tb : TE) (k : Int → Int → Hp → Prop) : St → Hp → Prop := fun σ H => ta σ H fun x H1 => tb σ H1 fun y H2 => ∃ i j, x = .int i ∧ y = .int j ∧ k i j H2
def tAdd (ta tb : TE) : TE := fun σ H Q => t2I ta tb (fun i j H2 => Q (.int (i + j)) H2) σ H
def tSub (ta tb : TE) : TE := fun σ H Q => t2I ta tb (fun i j H2 => Q (.int (i - j)) H2) σ H
/-- the left factor below 2^64 -/
def tMul (ta tb : TE) : TE := fun σ H Q => t2I ta tb (fun i j H2 => (-(2 ^ 64) < i ∧ i < 2 ^ 64) ∧ Q (.int (i * j)) H2) σ H
variable {a b : Expr} {ta tb : TE} {pos : Pos}
theorem pe_add (ha : PE X a ta) (hb : PE X b tb) : PE X (.BinOp a .Add b pos) (tAdd ta tb) := by
  intro pins s σ H Q I h
  refine wpAny_BinOp (bin ha hb I h fun v u s2 x y H2 I2 rx ry q => ?_)
  obtain ⟨i, j, rfl, rfl, q⟩ := q
  obtain ⟨t, rfl⟩ := rx
  obtain ⟨t', rfl⟩ := ry
  exact add_int ⟨.int _, H2, I2.tok _, ⟨_, rfl⟩, q⟩
theorem pe_sub (ha : PE X a ta) (hb : PE X b tb) : PE X (.BinOp a .Sub b pos) (tSub ta tb) := by
  intro pins s σ H Q I h
  refine wpAny_BinOp (bin ha hb I h fun v u s2 x y H2 I2 rx ry q => ?_)
  obtain ⟨i, j, rfl, rfl, q⟩ := q
  obtain ⟨t, rfl⟩ := rx
  obtain ⟨t', rfl⟩ := ry
  exact sub_int ⟨.int _, H2, I2.tok _, ⟨_, rfl⟩, q⟩
theorem pe_mul (ha : PE X a ta) (hb : PE X b tb) : PE X (.BinOp a .Mult b pos) (tMul ta tb) := by
  intro pins s σ H Q I h
  refine wpAny_BinOp (bin ha hb I h fun v u s2 x y H2 I2 rx ry q => ?_)
  obtain ⟨i, j, rfl, rfl, ⟨q1, q2⟩, q⟩ := q
  obtain ⟨t, rfl⟩ := rx
  obtain ⟨t', rfl⟩ := ry
  exact mul_int ⟨.int _, H2, I2.tok _, ⟨_, rfl⟩, q⟩ (.of_left (intBits_le_64 q1 q2))

/-! ### comparisons -/
def PC (X : Cx) (op : CmpOp) (a b : Expr) (t : TE) : Prop :=
  ∀ (pins : List (Addr × Obj)) (s : Shared) (σ : St) (H : Hp) (Q : VK), Inv X pins σ H s → t σ H Q →
    wpAny (model X.prog X.w) X.A (eval a X.env) (fun v s₁ => wpAny (model X.prog X.w) X.A (eval b X.env) (fun u s₂ => wpAny (model X.prog X.w) X.A (compareOp op v u) (EP X pins σ Q) X.xe s₂) X.xe s₁) X.xe s
theorem nobehind (b : Expr) {op : CmpOp} (h : op ≠ .In) (h2 : op ≠ .NotIn) : behindInMarks op b = false := by
  have e1 : (op == CmpOp.In) = false := by cases op <;> first | rfl | exact absurd rfl h
  have e2 : (op == CmpOp.NotIn) = false := by cases op <;> first | rfl | exact absurd rfl h2
  cases b <;> simp [behindInMarks, e1, e2]
def tCmp (p : Int → Int → Bool) (ta tb : TE) : TE := fun σ H Q => t2I ta tb (fun i j H2 => Q (.bl (p i j)) H2) σ H
abbrev tLt : TE → TE → TE := tCmp fun i j => decide (i < j)
abbrev tLe : TE → TE → TE := tCmp fun i j => decide (i ≤ j)
abbrev tGt : TE → TE → TE := tCmp fun i j => decide (j < i)
abbrev tGe : TE → TE → TE := tCmp fun i j => decide (j ≤ i)
abbrev tEqI : TE → TE → TE := tCmp fun i j => decide (i = j)
abbrev tNeI : TE → TE → TE := tCmp fun i j => !decide (i = j)
/-- a comparison of two ints, by its rule -/
theorem pc_int {op : CmpOp} {p : Int → Int → Bool} (ha : PE X a ta) (hb : PE X b tb)
    (rule : ∀ (i j : Int) (t u : Tok) (Q : Value → Shared → Prop) (s : Shared), Q (.bool (p i j)) s → wpAny (model X.prog X.w) X.A (compareOp op (.int i t) (.int j u)) Q X.xe s) : PC X op a b (tCmp p ta tb) := by
  intro pins s σ H Q I h
  refine bin ha hb I h fun v u s2 x y H2 I2 rx ry q => ?_
  obtain ⟨i, j, rfl, rfl, q⟩ := q
  obtain ⟨t, rfl⟩ := rx
  obtain ⟨t', rfl⟩ := ry
  exact rule i j t t' _ s2 ⟨.bl _, H2, I2, rfl, q⟩
theorem pc_lt (ha : PE X a ta) (hb : PE X b tb) : PC X .Lt a b (tLt ta tb) := pc_int ha hb fun _ _ _ _ _ _ h => lt_int h
theorem pc_le (ha : PE X a ta) (hb : PE X b tb) : PC X .LtE a b (tLe ta tb) := pc_int ha hb fun _ _ _ _ _ _ h => le_int h
theorem pc_gt (ha : PE X a ta) (hb : PE X b tb) : PC X .Gt a b (tGt ta tb) := pc_int ha hb fun _ _ _ _ _ _ h => gt_int h
theorem pc_ge (ha : PE X a ta) (hb : PE X b tb) : PC X .GtE a b (tGe ta tb) := pc_int ha hb fun _ _ _ _ _ _ h => ge_int h
theorem pc_eqI (ha : PE X a ta) (hb : PE X b tb) : PC X .Eq a b (tEqI ta tb) := pc_int ha hb fun _ _ _ _ _ _ h => eq_int (by rw [Bool.beq_eq_decide_eq]; exact h)
theorem pc_neI (ha : PE X a ta) (hb : PE X b tb) : PC X .NotEq a b (tNeI ta tb) := pc_int ha hb fun _ _ _ _ _ _ h => ne_int (by rw [bne, Bool.beq_eq_decide_eq]; exact h)
/-- is None -/
def tIsN (ta : TE) : TE := fun σ H Q => ta σ H fun x H1 => Q (.bl (decide (x = .non))) H1
def tNotN (ta : TE) : TE := fun σ H Q => ta σ H fun x H1 => Q (.bl (!decide (x = .non))) H1
theorem RelV.none_iff {x : V} {v : Value} (r : RelV x v) : (v == Value.none) = decide (x = .non) := by
  cases x with
  | non => cases r; rfl
  | bl _ => cases r; rfl
  | int _ => obtain ⟨t, rfl⟩ := r; rfl
  | str _ => obtain ⟨t, rfl⟩ := r; rfl
  | byt _ => obtain ⟨t, rfl⟩ := r; rfl
  | flt _ => obtain ⟨t, rfl⟩ := r; rfl
  | ref _ => cases r; rfl
  | ty _ => cases r; rfl
theorem pc_isN {j pos'} (ha : PE X a ta) : PC X .Is a (.Constant .none j pos') (tIsN ta) := by
  intro pins s σ H Q I h
  refine thn (ha pins s σ H _ I h) fun v s1 ⟨x, H1, I1, r1, q1⟩ => ?_
  exact Constant_none (is_none_gen ⟨.bl _, H1, I1, by rw [r1.none_iff]; rfl, q1⟩)
theorem pc_notN {j pos'} (ha : PE X a ta) : PC X .IsNot a (.Constant .none j pos') (tNotN ta) := by
  intro pins s σ H Q I h
  refine thn (ha pins s σ H _ I h) fun v s1 ⟨x, H1, I1, r1, q1⟩ => ?_
  exact Constant_none (isnot_none_gen ⟨.bl _, H1, I1, by rw [r1.none_iff]; rfl, q1⟩)
/-- a comparison as a value, as a test -/
def tB (t : TE) : TT := fun σ H Q => t σ H fun x H1 => ∃ c, x = .bl c ∧ Q c H1
theorem pe_cmp {op : CmpOp} {t : TE} (h : PC X op a b t) (h1 : behindInMarks op b = false := by first | exact nobehind _ (by decide) (by decide) | rfl) : PE X (.Compare a [op] [b] pos) t := fun pins s σ H Q I hw => wpAny_Compare1 (h pins s σ H Q I hw) h1
theorem pt_cmp {op : CmpOp} {t : TE} (h : PC X op a b t) (h1 : behindInMarks op b = false := by first | exact nobehind _ (by decide) (by decide) | rfl) : PT X (.Compare a [op] [b] pos) (tB t) := by
  intro pins s σ H Q I hw
  refine wpAny_isTrue_Compare1 (thn (h pins s σ H _ I hw) fun v s1 h1 => thn h1 fun u s2 h2 => thn h2 fun c s3 ⟨x, H1, I1, r1, q1⟩ => ?_) h1
  obtain ⟨d, rfl, q⟩ := q1
  cases r1
  exact wpAny_truthy_bool ⟨H1, I1, q⟩
/-- an expression whose value is a bool, as a test -/
theorem pt_val {e : Expr} {t : TE} (h : PE X e t) (he : ∀ whole, isTrue e X.env whole = (do let v ← whole; standAt e.pos; holding [v] (truthy v)) := by intro _; rfl) : PT X e (tB t) := by
  intro pins s σ H Q I hw
  refine isTrue_plain (thn (h pins s σ H _ I hw) fun v s1 ⟨x, H1, I1, r1, q1⟩ => ?_) (he _)
  obtain ⟨d, rfl, q⟩ := q1
  cases r1
  exact wpAny_truthy_bool ⟨H1, I1, q⟩

/-! ### and, or, not -/
variable {tA tB' : TT} {rest : List Expr}
def tAnd (t u : TT) : TT := fun σ H Q => t σ H fun c H1 => if c = true then u σ H1 Q else Q false H1
def tOr (t u : TT) : TT := fun σ H Q => t σ H fun c H1 => if c = true then Q true H1 else u σ H1 Q
def tNot (t : TT) : TT := fun σ H Q => t σ H fun c H1 => Q (!c) H1
theorem pw_and1 (ha : PT X a tA) : PW X (.BoolOp .And [a] pos) tA := by
  intro wh pins s σ H Q I h
  refine isTrue_and (thn (ha pins s σ H Q I h) fun c s1 e => ?_)
  cases c with
  | true => exact isTrue_and_nil e
  | false => exact e
theorem pw_or1 (ha : PT X a tA) : PW X (.BoolOp .Or [a] pos) tA := by
  intro wh pins s σ H Q I h
  refine isTrue_or (thn (ha pins s σ H Q I h) fun c s1 e => ?_)
  cases c with
  | false => exact isTrue_or_nil e
  | true => exact e
theorem pw_and (ha : PT X a tA) (hb : PW X (.BoolOp .And (b :: rest) pos) tB') : PW X (.BoolOp .And (a :: b :: rest) pos) (tAnd tA tB') := by
  intro wh pins s σ H Q I h
  refine isTrue_and (thn (ha pins s σ H _ I h) fun c s1 ⟨H1, I1, q1⟩ => ?_)
  cases c with
  | true => exact hb wh pins s1 σ H1 Q I1 q1
  | false => exact ⟨H1, I1, q1⟩
theorem pw_or (ha : PT X a tA) (hb : PW X (.BoolOp .Or (b :: rest) pos) tB') : PW X (.BoolOp .Or (a :: b :: rest) pos) (tOr tA tB') := by
  intro wh pins s σ H Q I h
  refine isTrue_or (thn (ha pins s σ H _ I h) fun c s1 ⟨H1, I1, q1⟩ => ?_)
  cases c with
  | true => exact ⟨H1, I1, q1⟩
  | false => exact hb wh pins s1 σ H1 Q I1 q1
theorem pt_not (ha : PT X a tA) : PT X (.UnaryOp .Not a pos) (tNot tA) := by
  intro pins s σ H Q I h
  exact isTrue_not (ha pins s σ H (fun c H1 => Q (!c) H1) I h)
/-- .. as values (bools) -/
def tAndV (ta tb : TE) : TE := fun σ H Q => ta σ H fun x H1 => ∃ c, x = .bl c ∧ if c = true then tb σ H1 Q else Q (.bl false) H1
def tOrV (ta tb : TE) : TE := fun σ H Q => ta σ H fun x H1 => ∃ c, x = .bl c ∧ if c = true then Q (.bl true) H1 else tb σ H1 Q
def tNotV (ta : TE) : TE := fun σ H Q => ta σ H fun x H1 => ∃ c, x = .bl c ∧ Q (.bl (!c)) H1
theorem pe_one {op} {t : TE} (h : PE X a t) : PE X (.BoolOp op [a] pos) t := fun pins s σ H Q I hw => BoolOp_one (h pins s σ H Q I hw)
theorem pe_and (ha : PE X a ta) (hb : PE X (.BoolOp .And (b :: rest) pos) tb) : PE X (.BoolOp .And (a :: b :: rest) pos) (tAndV ta tb) := by
  intro pins s σ H Q I h
  refine BoolOp_and (thn (ha pins s σ H _ I h) fun v s1 ⟨x, H1, I1, r1, q1⟩ => ?_)
  obtain ⟨c, rfl, q1⟩ := q1
  cases r1
  refine wpAny_truthy_bool ?_
  cases c with
  | true => exact hb pins s1 σ H1 Q I1 q1
  | false => exact ⟨.bl false, H1, I1, rfl, q1⟩
theorem pe_or (ha : PE X a ta) (hb : PE X (.BoolOp .Or (b :: rest) pos) tb) : PE X (.BoolOp .Or (a :: b :: rest) pos) (tOrV ta tb) := by
  intro pins s σ H Q I h
  refine BoolOp_or (thn (ha pins s σ H _ I h) fun v s1 ⟨x, H1, I1, r1, q1⟩ => ?_)
  obtain ⟨c, rfl, q1⟩ := q1
  cases r1
  refine wpAny_truthy_bool ?_
  cases c with
  | false => exact hb pins s1 σ H1 Q I1 q1
  | true => exact ⟨.bl true, H1, I1, rfl, q1⟩
theorem pe_not (ha : PE X a ta) : PE X (.UnaryOp .Not a pos) (tNotV ta) := by
  intro pins s σ H Q I h
  refine UnaryOp_ (thn (ha pins s σ H _ I h) fun v s1 ⟨x, H1, I1, r1, q1⟩ => ?_)
  obtain ⟨c, rfl, q1⟩ := q1
  cases r1
  exact not_of (wpAny_truthy_bool ⟨.bl (!c), H1, I1, rfl, q1⟩)
/-- a if t else b -/
def tIf (t : TT) (ta tb : TE) : TE := fun σ H Q => t σ H fun c H1 => if c = true then ta σ H1 Q else tb σ H1 Q
theorem pe_ifExp {c : Expr} (hc : PT X c tA) (ha : PE X a ta) (hb : PE X b tb) : PE X (.IfExp c a b pos) (tIf tA ta tb) := by
  intro pins s σ H Q I h
  refine wpAny_IfExp (thn (hc pins s σ H _ I h) fun d s1 ⟨H1, I1, q1⟩ => ?_)
  cases d with
  | true => exact ha pins s1 σ H1 Q I1 q1
  | false => exact hb pins s1 σ H1 Q I1 q1
end
end L2

namespace L2
open PySem PySem.Spec PyProof.Rows

/-! ### a list, a tuple that is read: tracked, frozen, or an object of the module -/
def SqL (K : PySem.W.Frag) (H : Hp) (a : Addr) (xs : List V) : Prop :=
  Rd H a (.lst xs) ∨
    ∃ (o : Obj) (its : Array Value) (n : Nat), K.lookup a = some o ∧ o.cls = .type "list" ∧ o.dict = none ∧ o.data = .seq its n ∧ its.size ≤ sizeLine ∧ Vals xs its.toList
def SqT (K : PySem.W.Frag) (H : Hp) (a : Addr) (xs : List V) : Prop :=
  Rd H a (.tup xs) ∨
    ∃ (o : Obj) (its : Array Value) (n : Nat), K.lookup a = some o ∧ o.cls = .type "tuple" ∧ o.data = .seq its n ∧ its.size ≤ sizeLine ∧ Vals xs its.toList
def absV : Value → Option V
  | .none => some .non
  | .bool b => some (.bl b)
  | .int i _ => some (.int i)
  | .str x _ => some (.str x)
  | .bytes b _ => some (.byt b)
  | .float b _ => some (.flt b)
  | .ref a => some (.ref a)
  | .type n => some (.ty n)
  | _ => none
theorem RelV.abs {x : V} {u : Value} (r : RelV x u) : absV u = some x := by
  cases x with
  | non => cases r; rfl
  | bl _ => cases r; rfl
  | int _ => obtain ⟨t, rfl⟩ := r; rfl
  | str _ => obtain ⟨t, rfl⟩ := r; rfl
  | byt _ => obtain ⟨t, rfl⟩ := r; rfl
  | flt _ => obtain ⟨t, rfl⟩ := r; rfl
  | ref _ => cases r; rfl
  | ty _ => cases r; rfl
theorem RelV.inj {x y : V} {u : Value} (r : RelV x u) (q : RelV y u) : x = y := Option.some.inj (r.abs.symm.trans q.abs)
theorem Vals.inj : ∀ {xs ys : List V} {us : List Value}, Vals xs us → Vals ys us → xs = ys
  | _, _, _, .nil, .nil => rfl
  | _, _, _, .cons r t, .cons r' t' => by rw [r.inj r', Vals.inj t t']
section
variable {X : Cx} {pins : List (Addr × Obj)} {σ : St} {H : Hp} {s : Shared} {a : Addr} {xs ys : List V}
theorem SqL.of {K : PySem.W.Frag} (h : H a = some (.lst xs)) : SqL K H a xs := .inl (.inl h)
theorem SqT.of {K : PySem.W.Frag} (h : H a = some (.tup xs)) : SqT K H a xs := .inl (.inl h)
theorem Inv.list (I : Inv X pins σ H s) (h : SqL X.K H a xs) : ∃ its : List Value, Vals xs its ∧ PlainL s.heap a its.toArray ∧ xs.length ≤ sizeLine := by
  rcases h with h | ⟨o, its, n, hk, hc, hd, hs, hz, r⟩
  · obtain ⟨z, its, n, r, e⟩ := h.ok I.hok
    exact ⟨its, r, ⟨_, n, e, rfl, rfl, rfl⟩, z⟩
  · refine ⟨its.toList, r, ⟨o, n, I.kIn a o hk, hc, hd, by simpa using hs⟩, ?_⟩
    have e := r.length
    simp only [Array.length_toList] at e
    omega
theorem Inv.tuple (I : Inv X pins σ H s) (h : SqT X.K H a xs) : ∃ its : List Value, Vals xs its ∧ IsTup s.heap a its.toArray ∧ xs.length ≤ sizeLine := by
  rcases h with h | ⟨o, its, n, hk, hc, hs, hz, r⟩
  · obtain ⟨z, its, r, p⟩ := h.ok I.hok
    exact ⟨its, r, p, z⟩
  · refine ⟨its.toList, r, ⟨o, I.kIn a o hk, hc, n, by simpa using hs⟩, ?_⟩
    have e := r.length
    simp only [Array.length_toList] at e
    omega
theorem Inv.list_inj (I : Inv X pins σ H s) (h : SqL X.K H a xs) (h' : SqL X.K H a ys) : xs = ys := by
  obtain ⟨its, r, ⟨o, n, e, _, _, d⟩, _⟩ := I.list h
  obtain ⟨its', r', ⟨o', n', e', _, _, d'⟩, _⟩ := I.list h'
  rw [e] at e'; cases e'
  rw [d] at d'
  injection d' with d1 _
  have : its = its' := by simpa using congrArg Array.toList d1
  subst this
  exact r.inj r'
theorem Inv.tuple_inj (I : Inv X pins σ H s) (h : SqT X.K H a xs) (h' : SqT X.K H a ys) : xs = ys := by
  obtain ⟨its, r, ⟨o, e, _, n, d⟩, _⟩ := I.tuple h
  obtain ⟨its', r', ⟨o', e', _, n', d'⟩, _⟩ := I.tuple h'
  rw [e] at e'; cases e'
  rw [d] at d'
  injection d' with d1 _
  have : its = its' := by simpa using congrArg Array.toList d1
  subst this
  exact r.inj r'
end

/-! ### another wish about exceptions -/
abbrev Cx.wish (X : Cx) (E : Value → Shared → Prop) : Cx := { X with xe := E }
/-- no exception leaves -/
abbrev Cx.nox (X : Cx) : Cx := X.wish fun _ _ => False
theorem Cx.Ok.wish {X : Cx} (ok : X.Ok) (E : Value → Shared → Prop) : (X.wish E).Ok :=
  ⟨ok.mod, ok.kind, ok.glob, ok.blt, ok.above, ok.inj, ok.has, ok.cab, ok.hd, ok.frames, ok.stk, ok.exf, ok.bs, ok.bsz, ok.noex, ok.exfs, ok.funs, ok.frf⟩
theorem Cx.Ok.unwish {X : Cx} {E : Value → Shared → Prop} (ok : (X.wish E).Ok) : X.Ok :=
  ⟨ok.mod, ok.kind, ok.glob, ok.blt, ok.above, ok.inj, ok.has, ok.cab, ok.hd, ok.frames, ok.stk, ok.exf, ok.bs, ok.bsz, ok.noex, ok.exfs, ok.funs, ok.frf⟩
section
variable {X : Cx} {pins : List (Addr × Obj)} {σ : St} {H : Hp} {s : Shared} {E : Value → Shared → Prop}
theorem Inv.wish (I : Inv X pins σ H s) (E : Value → Shared → Prop) : Inv (X.wish E) pins σ H s := ⟨I.ok.wish E, I.os, I.bare, I.base, I.loc, I.cell, I.free, I.freeC, I.pin, I.hok, I.len⟩
theorem Inv.unwish (I : Inv (X.wish E) pins σ H s) : Inv X pins σ H s := ⟨I.ok.unwish, I.os, I.bare, I.base, I.loc, I.cell, I.free, I.freeC, I.pin, I.hok, I.len⟩
theorem SP.unwish {D : Ends} {f : Flow} {s' : Shared} (h : SP (X.wish E) pins D f s') : SP X pins D f s' := by
  cases f with
  | next => obtain ⟨σ', H', I, q⟩ := h; exact ⟨σ', H', I.unwish, q⟩
  | brk => obtain ⟨σ', H', I, q⟩ := h; exact ⟨σ', H', I.unwish, q⟩
  | cont => obtain ⟨σ', H', I, q⟩ := h; exact ⟨σ', H', I.unwish, q⟩
  | ret u => obtain ⟨v, σ', H', I, r, q⟩ := h; exact ⟨v, σ', H', I.unwish, r, q⟩
theorem PE.nox {e : Expr} {t : TE} (h : PE X.nox e t) : PE X e t := fun pins s σ H Q I hw =>
  wpAny_mono (h pins s σ H Q (I.wish _) hw) (fun _ _ ⟨v, H', I', r, q⟩ => ⟨v, H', I'.unwish, r, q⟩) fun _ _ z => False.elim z
theorem PT.nox {e : Expr} {t : TT} (h : PT X.nox e t) : PT X e t := fun pins s σ H Q I hw =>
  wpAny_mono (h pins s σ H Q (I.wish _) hw) (fun _ _ ⟨H', I', q⟩ => ⟨H', I'.unwish, q⟩) fun _ _ z => False.elim z
theorem PSs.nox {st : List Stmt} {t : TS} (h : PSs X.nox st t) : PSs X st t := fun pins s σ H D I hw =>
  wpAny_mono (h pins s σ H D (I.wish _) hw) (fun _ _ q => q.unwish) fun _ _ z => False.elim z
end

/-! ### blocks and small statements -/
section
variable {X : Cx} {st : Stmt} {rest : List Stmt} {t u : TS} {e : Expr} {te : TE} {pos : Pos}
def tNext : TS := fun D σ H => D.nx σ H
def tSeq (t u : TS) : TS := fun D σ H => t { D with nx := u D } σ H
theorem pss_nil : PSs X [] tNext := fun _ _ σ H _ I h => wpAny_execs_nil ⟨σ, H, I, h⟩
theorem pss_cons (h1 : PS X st t) (h2 : PSs X rest u) : PSs X (st :: rest) (tSeq t u) := by
  intro pins s σ H D I h
  refine wpAny_execs_cons (thn (h1 pins s σ H { D with nx := u D } I h) fun f s1 q => ?_)
  cases f with
  | next =>
    obtain ⟨σ', H', I', q⟩ := q
    exact h2 pins s1 σ' H' D I' q
  | ret v => exact q
  | brk => exact q
  | cont => exact q
theorem pss_one (h1 : PS X st t) : PSs X [st] t := by
  intro pins s σ H D I h
  refine wpAny_execs_cons (thn (h1 pins s σ H D I h) fun f s1 q => ?_)
  cases f with
  | next => exact wpAny_execs_nil q
  | ret v => exact q
  | brk => exact q
  | cont => exact q
def tBreak : TS := fun D σ H => D.bk σ H
def tCont : TS := fun D σ H => D.ct σ H
theorem ps_pass : PS X (.Pass pos) tNext := fun _ _ σ H _ I h => wpAny_Pass ⟨σ, H, I, h⟩
theorem ps_break : PS X (.Break pos) tBreak := fun _ _ σ H _ I h => wpAny_Break ⟨σ, H, I, h⟩
theorem ps_continue : PS X (.Continue pos) tCont := fun _ _ σ H _ I h => wpAny_Continue ⟨σ, H, I, h⟩
/-- in a def's body nothing is shown -/
theorem Inv.quiet {pins : List (Addr × Obj)} {σ : St} {H : Hp} {s : Shared} (I : Inv X pins σ H s) : interactive X.env = false := by simp [interactive, I.ok.kind]
/-- a docstring -/
theorem ps_doc {x j pos pos'} : PS X (.Expr (.Constant (.str x) j pos) pos') tNext := fun _ s σ H _ I h => wpAny_Expr (Calls.Constant_str (show SP X _ _ .next { s with toks := s.toks + 1 } from ⟨σ, H, I.tok _, h⟩)) I.quiet
/-- an expression whose value is dropped -/
def tDrop (te : TE) : TS := fun D σ H => te σ H fun _ H1 => D.nx σ H1
theorem ps_expr (he : PE X e te) (hs : swapsWith e none pos.line X.env = pure false := by rfl) : PS X (.Expr e pos) (tDrop te) := by
  intro pins s σ H D I h
  exact wpAny_Expr_any (thn (he pins s σ H _ I h) fun v s1 ⟨x, H1, I1, r1, q1⟩ => ⟨σ, H1, I1, q1⟩) I.quiet hs
def tRet (te : TE) : TS := fun D σ H => te σ H D.rt
theorem ps_ret (he : PE X e te) : PS X (.Return (some e) pos) (tRet te) := by
  intro pins s σ H D I h
  exact wpAny_Return_some (thn (he pins s σ H _ I h) fun v s1 ⟨x, H1, I1, r1, q1⟩ => ⟨x, σ, H1, I1, r1, q1⟩)
def tRetN : TS := fun D _ H => D.rt .non H
theorem ps_retN : PS X (.Return none pos) tRetN := fun _ _ σ H _ I h => wpAny_Return_none ⟨.non, σ, H, I, rfl, h⟩
def tIfS (c : TT) (t u : TS) : TS := fun D σ H => c σ H fun b H1 => if b = true then t D σ H1 else u D σ H1
theorem ps_if {c : Expr} {a b : List Stmt} {tc : TT} (hc : PT X c tc) (ha : PSs X a t) (hb : PSs X b u) : PS X (.If c a b pos) (tIfS tc t u) := by
  intro pins s σ H D I h
  refine wpAny_If (thn (hc pins s σ H _ I h) fun d s1 ⟨H1, I1, q1⟩ => ?_)
  cases d with
  | true => exact ha pins s1 σ H1 D I1 q1
  | false => exact hb pins s1 σ H1 D I1 q1
/-- code that the proof never comes to -/
def tNever : TS := fun _ _ _ => False
theorem ps_never : PS X st tNever := fun _ _ _ _ _ _ h => h.elim
theorem pss_never {sts : List Stmt} : PSs X sts tNever := fun _ _ _ _ _ _ h => h.elim
end

/-! ### targets -/
abbrev TG := V → St → Hp → (St → Hp → Prop) → Prop
abbrev TGs := List V → St → Hp → (St → Hp → Prop) → Prop
def PG (X : Cx) (target : Expr) (t : TG) : Prop :=
  ∀ (pins : List (Addr × Obj)) (s : Shared) (σ : St) (H : Hp) (v : V) (u : Value) (Q : St → Hp → Prop), Inv X pins σ H s → RelV v u → t v σ H Q →
    wpAny (model X.prog X.w) X.A (assign target X.env u) (fun _ s' => ∃ σ' H', Inv X pins σ' H' s' ∧ Q σ' H') X.xe s
/-- several targets, one after another -/
def PGs (X : Cx) (ts : List Expr) (t : TGs) : Prop :=
  ∀ (pins : List (Addr × Obj)) (s : Shared) (σ : St) (H : Hp) (vs : List V) (us : List Value) (Q : St → Hp → Prop), Inv X pins σ H s → Vals vs us → t vs σ H Q →
    wpAny (model X.prog X.w) X.A (assignInOrder ((assignEach ts X.env).map (·.2)) us) (fun _ s' => ∃ σ' H', Inv X pins σ' H' s' ∧ Q σ' H') X.xe s
/-- o[i] = v, by values -/
abbrev TSet := V → V → V → Hp → (Hp → Prop) → Prop
def PSet (X : Cx) (t : TSet) : Prop :=
  ∀ (pins : List (Addr × Obj)) (s : Shared) (σ : St) (H : Hp) (o i v : V) (ov iv u : Value) (Q : Hp → Prop), Inv X pins σ H s → RelV o ov → RelV i iv → RelV v u → t o i v H Q →
    wpAny (model X.prog X.w) X.A (setItem ov iv u) (fun _ s' => ∃ H', Inv X pins σ H' s' ∧ Q H') X.xe s
/-- a op= b, by values -/
abbrev TIp := V → V → Hp → VK → Prop
def PIp (X : Cx) (op : Operator) (t : TIp) : Prop :=
  ∀ (pins : List (Addr × Obj)) (s : Shared) (σ : St) (H : Hp) (x y : V) (v u : Value) (Q : VK), Inv X pins σ H s → RelV x v → RelV y u → t x y H Q →
    wpAny (model X.prog X.w) X.A (inplaceOp op v u) (EP X pins σ Q) X.xe s
section
variable {X : Cx} {pos : Pos}
def gName (i : Nat) : TG := fun v σ H Q => Q (σ.set i (some v)) H
theorem pg_name {i : Nat} {x : Str} (hN : X.N.Nodup) (hi : X.N[i]? = some x) (hx : Loc X.env.scope x) (hf : X.fn x = true ∨ X.env.scope.names.lookup x = some .local := by first | exact .inl rfl | exact .inr rfl | assumption) : PG X (.Name x pos) (gName i) := by
  intro pins s σ H v u Q I r h
  exact wpAny_assign_Name (store_ok I hN hi hx r (fun s' I' => ⟨_, H, I', h⟩) hf)
def gNil : TGs := fun vs σ H Q => vs = [] ∧ Q σ H
def gCons (t : TG) (u : TGs) : TGs := fun vs σ H Q => ∃ v r, vs = v :: r ∧ t v σ H fun σ' H' => u r σ' H' Q
theorem pgs_nil : PGs X [] gNil := by
  intro pins s σ H vs us Q I r h
  obtain ⟨e, h⟩ := h
  subst e
  cases r
  exact assignInOrder_nil ⟨σ, H, I, h⟩
theorem pgs_cons {e : Expr} {es : List Expr} {t : TG} {u : TGs} (h1 : PG X e t) (h2 : PGs X es u)
    (hs : (assignEach (e :: es) X.env).map (·.2) = assign e X.env :: (assignEach es X.env).map (·.2) := by rfl) : PGs X (e :: es) (gCons t u) := by
  intro pins s σ H vs us Q I r h
  obtain ⟨v, vr, e1, h⟩ := h
  subst e1
  cases r with
  | cons r rr =>
    rw [hs]
    refine assignInOrder_cons (thn (h1 pins s σ H _ _ _ I r h) fun _ s1 ⟨σ1, H1, I1, q1⟩ => ?_)
    exact h2 pins s1 σ1 H1 _ _ Q I1 rr q1
/-- (a, b, ..) = a tuple of that length -/
def gTup (K : PySem.W.Frag) (n : Nat) (t : TGs) : TG := fun v σ H Q => ∃ a xs, v = .ref a ∧ SqT K H a xs ∧ xs.length = n ∧ t xs σ H Q
theorem pg_tup {es : List Expr} {k : Nat} {t : TGs} {n : Nat} (hc : X.calm = true) (h : PGs X es t)
    (hn : (assignEach es X.env).length = n := by rfl) (hst : (assignEach es X.env).findIdx? (·.1) = none := by rfl) : PG X (.Tuple es k pos) (gTup X.K n t) := by
  intro pins s σ H v u Q I r hw
  obtain ⟨a, xs, e1, hq, hl, hw⟩ := hw
  subst e1
  cases r
  obtain ⟨its, rv, ht, hz⟩ := I.tuple hq
  refine assign_Tuple_tuple (I.ok.hd hc) ht (by simp [hn, ← hl, rv.length]) hst fun h' hx => ?_
  have I1 : Inv X pins σ H { s with heap := h' } := I.kept (t' := s.toks) fun b o e => hx b o (Nat.ne_of_lt (Heap.lt_size e)) e
  exact h pins _ σ H xs _ Q I1 (by simpa using rv) hw
/-- o[i] = .. -/
def gSub (to ti : TE) (t : TSet) : TG := fun v σ H Q => to σ H fun o H1 => ti σ H1 fun i H2 => t o i v H2 fun H3 => Q σ H3
theorem pg_sub {o i : Expr} {to ti : TE} {t : TSet} (ho : PE X o to) (hi : PE X i ti) (hs : PSet X t)
    (ha : ∀ v, assign (.Subscript o i pos) X.env v = (do
      let ov ← holding [v] (eval o X.env)
      let iv ← holding [v, ov] (eval i X.env)
      standAt pos
      holding [v, ov, iv] (setItem ov iv v)
      release [v, ov, iv] []) := by intro _; rfl) : PG X (.Subscript o i pos) (gSub to ti t) := by
  intro pins s σ H v u Q I r h
  rw [ha]
  refine wpAny_bind (wpAny_holding (thn (ho pins s σ H _ I h) fun ov s1 ⟨x, H1, I1, r1, q1⟩ => ?_))
  refine wpAny_bind (wpAny_holding (thn (hi pins s1 σ H1 _ I1 q1) fun iv s2 ⟨y, H2, I2, r2, q2⟩ => ?_))
  refine wpAny_bind (wpAny_standAt (wpAny_bind (wpAny_holding (thn (hs pins s2 σ H2 x y v ov iv u _ I2 r1 r2 r q2) fun _ s3 ⟨H3, I3, q3⟩ => ?_))))
  exact wpAny_release ⟨σ, H3, I3, q3⟩
/-- target = value -/
def tAsg (te : TE) (g : TG) : TS := fun D σ H => te σ H fun x H1 => g x σ H1 D.nx
theorem ps_asg {tg e : Expr} {te : TE} {g : TG} (he : PE X e te) (hg : PG X tg g) (hs : swapsWithSole [tg] e pos.line X.env = pure false := by rfl) (hw : swappedStores [tg] e X.env = pure none := by rfl)
    (h1 : (assignEach [tg] X.env).map (·.2) = [assign tg X.env] := by rfl) : PS X (.Assign [tg] e pos) (tAsg te g) := by
  intro pins s σ H D I h
  refine wpAny_Assign_stores (thn (he pins s σ H _ I h) fun v s1 ⟨x, H1, I1, r1, q1⟩ => ?_) hs hw
  rw [h1]
  exact thn (hg pins s1 σ H1 x v _ I1 r1 q1) fun _ s2 q => q
/-- name = value -/
theorem ps_set {i : Nat} {x : Str} {e : Expr} {te : TE} {pos' : Pos} (hN : X.N.Nodup) (hi : X.N[i]? = some x) (hx : Loc X.env.scope x) (he : PE X e te) (hs : swapsWith e (some (.Name x pos')) pos.line X.env = pure false := by rfl) (hf : X.fn x = true ∨ X.env.scope.names.lookup x = some .local := by first | exact .inl rfl | exact .inr rfl | assumption) :
    PS X (.Assign [.Name x pos'] e pos) (tAsg te (gName i)) := by
  intro pins s σ H D I h
  refine wpAny_Assign_Name (thn (he pins s σ H _ I h) fun v s1 ⟨y, H1, I1, r1, q1⟩ => ?_) hs
  exact store_ok I1 hN hi hx r1 (fun s2 I2 => ⟨_, H1, I2, q1⟩) hf
/-- a, b = x, y with plain local names: stored from the right; the pair itself is not tracked (the opening rows as in PyProof/Rows/TupAssign.lean:23) -/
def tPar (i j : Nat) (ta : TA) : TS := fun D σ H => ta σ H fun vs H1 => ∃ v w, vs = [v, w] ∧ D.nx ((σ.set i (some v)).set j (some w)) H1
theorem ps_par {i j : Nat} {x y : Str} {a b : Expr} {ta : TA} {px py pt : Pos} {kt k2 pt2} (hc : X.calm = true) (hN : X.N.Nodup) (hi : X.N[i]? = some x) (hj : X.N[j]? = some y) (hij : i ≠ j)
    (hx : X.env.scope.names.lookup x = some .local) (hy : X.env.scope.names.lookup y = some .local) (ha : PA X [a, b] ta)
    (hw : swappedStores [.Tuple [.Name x px, .Name y py] kt pt] (.Tuple [a, b] k2 pt2) X.env = pure (some [x, y]))
    (hs : swapsWithSole [.Tuple [.Name x px, .Name y py] kt pt] (.Tuple [a, b] k2 pt2) pos.line X.env = pure false := by rfl) :
    PS X (.Assign [.Tuple [.Name x px, .Name y py] kt pt] (.Tuple [a, b] k2 pt2) pos) (tPar i j ta) := by
  intro pins s σ H D I h
  rw [exec_Assign_arm]
  refine wpAny_bind (wpAny_standAt ?_)
  rw [hs]
  refine wpAny_bind (wpAny_pure ?_)
  rw [if_neg (by decide)]
  refine wpAny_bind (Tuple_ (thn (ha _ pins s σ H _ I h) fun us s1 ⟨vs, H1, I1, r1, q1⟩ => ?_))
  obtain ⟨v, w, e1, q1⟩ := q1
  subst e1
  obtain ⟨u1, u2, rfl, rv, rw'⟩ : ∃ u1 u2, us = [u1, u2] ∧ RelV v u1 ∧ RelV w u2 := by
    cases r1 with
    | cons p q =>
      cases q with
      | cons p' q' =>
        cases q'
        exact ⟨_, _, rfl, p, p'⟩
  refine wpAny_newObj_type ?_ (by show 2 ≤ sizeLine; decide)
  have I2 : Inv X pins σ H1 { s1 with heap := s1.heap.push { cls := .type "tuple", data := .seq [u1, u2].toArray } } := I1.kept (t' := s1.toks) fun b o e => Heap.get?_push_of_some _ e
  rw [hw]
  refine wpAny_bind (wpAny_pure ?_)
  show wpAny (model X.prog X.w) X.A (do rule "assign.swapped-stores"; let items ← unpackItems (.ref s1.heap.objs.size) 2 none; assignInOrder [fun v => bindName X.env y v, fun v => bindName X.env x v] items.reverse; pure Flow.next) _ _ _
  refine wpAny_bind (wpAny_rule (wpAny_bind (unpackItems_tuple (items := #[u1, u2]) (I.ok.hd hc) (IsTup.new s1.heap _) fun h' hx' => ?_)))
  have I3 := I2.kept (h' := h') (t' := s1.toks) fun b o e => hx' b o (Nat.ne_of_lt (Heap.lt_size e)) e
  show wpAny _ _ (assignInOrder [fun v => bindName X.env y v, fun v => bindName X.env x v] [u2, u1] >>= fun _ => pure Flow.next) _ _ _
  refine wpAny_bind (assignInOrder_cons (wpAny_bindName (store_ok I3 hN hj (.inl hy) rw' (fun s2 I4 => ?_) (.inr hy))))
  refine assignInOrder_cons (wpAny_bindName (store_ok I4 hN hi (.inl hx) rv (fun s3 I5 => assignInOrder_nil (wpAny_pure ?_)) (.inr hx)))
  rw [List.set_comm _ _ (Ne.symm hij)] at I5
  exact ⟨_, H1, I5, q1⟩
/-- name op= e -/
def tAug (i : Nat) (te : TE) (ti : TIp) : TS := fun D σ H => ∃ x, σ[i]? = some (some x) ∧ te σ H fun y H1 => ti x y H1 fun z H2 => D.nx (σ.set i (some z)) H2
theorem ps_aug {i : Nat} {x : Str} {e : Expr} {te : TE} {op : Operator} {ti : TIp} {pos' : Pos} (hN : X.N.Nodup) (hi : X.N[i]? = some x) (hx : Loc X.env.scope x) (he : PE X e te) (ho : PIp X op ti) (hf : X.fn x = true ∨ X.env.scope.names.lookup x = some .local := by first | exact .inl rfl | exact .inr rfl | assumption) :
    PS X (.AugAssign (.Name x pos') op e pos) (tAug i te ti) := by
  intro pins s σ H D I h
  obtain ⟨v, e1, h⟩ := h
  obtain ⟨m, hn, hl⟩ := I.loc
  have vis : Vis X.env.scope x := by rcases hx with k | k; exact .inl k; exact .inr (.inl k)
  obtain ⟨u, r, l⟩ := hl i x v hi e1 vis
  refine wpAny_AugAssign_Name ?_
  have go : wpAny (model X.prog X.w) X.A (eval e X.env) (fun w s₂ => wpAny (model X.prog X.w) X.A (inplaceOp op u w) (fun r s₃ => wpAny (model X.prog X.w) X.A (storeName X.env x r) (fun _ => SP X pins D .next) X.xe s₃) X.xe s₂) X.xe s := by
    refine thn (he pins s σ H _ I h) fun w s1 ⟨y, H1, I1, r1, q1⟩ => ?_
    refine thn (ho pins s1 σ H1 v y u w _ I1 r r1 q1) fun z s2 ⟨zv, H2, I2, r2, q2⟩ => ?_
    exact store_ok I2 hN hi hx r2 (fun s3 I3 => ⟨_, H2, I3, q2⟩) hf
  rcases l with ⟨hk, hm⟩ | ⟨hk, c, hc, hcell⟩
  · exact wpAny_loadName_local I.ok.kind hk hn hm go
  · rcases hk with hk | hk
    · exact wpAny_loadName_cell I.ok.kind hk hc hcell go
    · rcases hx with k | k
      · have : X.env.scope.names.lookup x = some .free := hk
        rw [k] at this; cases this
      · have : X.env.scope.names.lookup x = some .free := hk
        rw [k] at this; cases this
/-- o[i] op= e -/
def tAugS (to ti te : TE) (tget : V → V → Hp → VK → Prop) (tip : TIp) (tset : TSet) : TS := fun D σ H => to σ H fun o H1 => ti σ H1 fun i H2 => tget o i H2 fun x H3 => te σ H3 fun y H4 => tip x y H4 fun z H5 => tset o i z H5 fun H6 => D.nx σ H6
/-- o[i], by values -/
def PGet (X : Cx) (t : V → V → Hp → VK → Prop) : Prop :=
  ∀ (pins : List (Addr × Obj)) (s : Shared) (σ : St) (H : Hp) (o i : V) (ov iv : Value) (Q : VK), Inv X pins σ H s → RelV o ov → RelV i iv → t o i H Q →
    wpAny (model X.prog X.w) X.A (getItem ov iv) (EP X pins σ Q) X.xe s
theorem ps_augS {o i e : Expr} {to ti te : TE} {tget : V → V → Hp → VK → Prop} {tip : TIp} {tset : TSet} {op : Operator} {tpos : Pos} (ho : PE X o to) (hi : PE X i ti) (hg : PGet X tget) (he : PE X e te) (hp : PIp X op tip) (hs : PSet X tset)
    (ha : ∀ ov iv new, augStore i ov iv new = (do holding [new, ov, iv] (setItem ov iv new); release [new, ov, iv] []; pure .next) := by intros; rfl) : PS X (.AugAssign (.Subscript o i tpos) op e pos) (tAugS to ti te tget tip tset) := by
  intro pins s σ H D I h
  refine wpAny_AugAssign_SubscriptAny (thn (ho pins s σ H _ I h) fun ov s1 ⟨x1, H1, I1, r1, q1⟩ => ?_) ha
  refine thn (hi pins s1 σ H1 _ I1 q1) fun iv s2 ⟨x2, H2, I2, r2, q2⟩ => ?_
  refine thn (hg pins s2 σ H2 x1 x2 ov iv _ I2 r1 r2 q2) fun old s3 ⟨x3, H3, I3, r3, q3⟩ => ?_
  refine thn (he pins s3 σ H3 _ I3 q3) fun v s4 ⟨x4, H4, I4, r4, q4⟩ => ?_
  refine thn (hp pins s4 σ H4 x3 x4 old v _ I4 r3 r4 q4) fun new s5 ⟨x5, H5, I5, r5, q5⟩ => ?_
  exact thn (hs pins s5 σ H5 x1 x2 x5 ov iv new _ I5 r1 r2 r5 q5) fun _ s6 ⟨H6, I6, q6⟩ => ⟨σ, H6, I6, q6⟩
/-- ints -/
def ipI (f : Int → Int → Int) : TIp := fun x y H Q => ∃ i j, x = .int i ∧ y = .int j ∧ Q (.int (f i j)) H
theorem ip_add : PIp X .Add (ipI fun i j => i + j) := by
  intro pins s σ H x y v u Q I r1 r2 h
  obtain ⟨i, j, e1, e2, q⟩ := h
  subst e1; subst e2
  obtain ⟨t, rfl⟩ := r1
  obtain ⟨t', rfl⟩ := r2
  exact iadd_int ⟨.int _, H, I.tok _, ⟨_, rfl⟩, q⟩
theorem ip_sub : PIp X .Sub (ipI fun i j => i - j) := by
  intro pins s σ H x y v u Q I r1 r2 h
  obtain ⟨i, j, e1, e2, q⟩ := h
  subst e1; subst e2
  obtain ⟨t, rfl⟩ := r1
  obtain ⟨t', rfl⟩ := r2
  exact isub_int ⟨.int _, H, I.tok _, ⟨_, rfl⟩, q⟩
end

/-! ### while -/
section
variable {X : Cx} {pos : Pos}
/-- the invariant W with its measure -/
def tWhile (c : TT) (tb : TS) : TS := fun D σ H => ∃ W : Nat → St → Hp → Prop, (∃ m, W m σ H) ∧ ∀ m σ H, W m σ H →
  c σ H fun b H1 => if b = true then ∃ N : St → Hp → Prop, (∀ σ' H', N σ' H' → ∃ m', m' < m ∧ W m' σ' H') ∧ tb { D with nx := N, ct := N, bk := D.nx } σ H1 else D.nx σ H1
theorem ps_while {c : Expr} {body : List Stmt} {tc : TT} {tb : TS} (hp : PassesOwn (model X.prog X.w) X.A X.env X.xe) (hc : PT X c tc) (hb : PSs X body tb) : PS X (.While c body [] pos) (tWhile tc tb) := by
  intro pins s σ H D I h
  obtain ⟨W, ⟨m0, w0⟩, turn⟩ := h
  refine wpAny_While (codeAny_whileLoop (fun n s' => ∃ σ' H', Inv X pins σ' H' s' ∧ W n σ' H') ?_ m0 ⟨σ, H, I, w0⟩)
  rintro n s1 ⟨σ1, H1, I1, w1⟩
  refine wpAny_passesOwn hp (thn (hc pins s1 σ1 H1 _ I1 (turn n σ1 H1 w1)) fun b s2 ⟨H2, I2, q2⟩ => ?_)
  cases b with
  | true =>
    obtain ⟨N, hN, q2⟩ := q2
    rw [if_pos rfl]
    refine wpAny_passesOwn hp (thn (hb pins s2 σ1 H2 _ I2 q2) fun f s3 q3 => ?_)
    cases f with
    | next =>
      obtain ⟨σ3, H3, I3, n3⟩ := q3
      obtain ⟨m', hm, w3⟩ := hN σ3 H3 n3
      exact ⟨m', hm, σ3, H3, I3, w3⟩
    | cont =>
      obtain ⟨σ3, H3, I3, n3⟩ := q3
      obtain ⟨m', hm, w3⟩ := hN σ3 H3 n3
      exact ⟨m', hm, σ3, H3, I3, w3⟩
    | brk => exact q3
    | ret v => exact q3
  | false =>
    rw [if_neg Bool.false_ne_true]
    exact wpAny_execs_nil ⟨σ1, H2, I2, q2⟩
end

/-! ### what a loop or a comprehension walks -/
/-- at turn i: it yields x (the heap may grow), or it stops -/
structure It where
  go : Nat → Hp → Prop
  yld : Nat → Hp → V → Hp → Prop
  stop : Nat → Hp → Prop
/-- the iterator's own objects may turn: they are not the frame's, not pinned, younger than the entry (or a comprehension's own) -/
def FpOk (X : Cx) (pins : List (Addr × Obj)) (H : Hp) (b : Addr) : Prop :=
  H b = none ∧ b ≠ X.env.locals ∧ b ∉ X.fs ∧ (b ∈ X.ex ∨ X.s₀.heap.objs.size ≤ b) ∧ (∀ x c, X.env.cells.lookup x = some c → c ≠ b) ∧ ∀ p ∈ X.pn ++ pins, p.1 ≠ b
theorem Inv.fpOk {X : Cx} {pins : List (Addr × Obj)} {σ : St} {H H' : Hp} {s : Shared} {b : Addr} (I : Inv X pins σ H s) (hb : s.heap.objs.size ≤ b) (hn : H' b = none) : FpOk X pins H' b := by
  refine ⟨hn, Nat.ne_of_gt (Nat.lt_of_lt_of_le I.lt hb), I.nofs hb, .inr (Nat.le_trans I.sz hb), fun x c e z => ?_, fun p hp z => ?_⟩
  · obtain ⟨v, q⟩ := I.cell x c e
    exact absurd (Nat.lt_of_lt_of_le q.lt (by rw [z]; exact hb)) (Nat.lt_irrefl _)
  · exact absurd (Nat.lt_of_lt_of_le (Heap.lt_size (I.pin p hp).1) (by rw [z]; exact hb)) (Nat.lt_irrefl _)
structure Turn (P : Program) (w : World) (K : PySem.W.Frag) (tg : Expr) (J : It) (fp : List Addr) (it : Addr) (tn : Nat → Heap → Prop) : Prop where
  mem : it ∈ fp
  obj : ∀ i h, tn i h → ∀ b ∈ fp, ∃ o, h.get? b = some o ∧ ∀ v, o.data ≠ .cell v
  keep : ∀ i h h', tn i h → (∀ b ∈ fp, ∀ o, h.get? b = some o → h'.get? b = some o) → tn i h'
  item : ∀ (X : Cx), X.prog = P → X.w = w → X.K = K → X.calm = true → ∀ (i : Nat) (pins : List (Addr × Obj)) (s : Shared) (σ : St) (H : Hp) (E : Value → Shared → Prop), Inv X pins σ H s → (∀ b ∈ fp, FpOk X pins H b) → tn i s.heap → J.go i H →
    wpAny (model P w) X.A (pyNext (.ref it)) (fun r s1 => ∃ u, r = some u ∧
      wpAny (model P w) X.A (letOwnedTupleGo tg (.ref it) u) (fun _ s2 => ∃ x H', Inv X pins σ H' s2 ∧ RelV x u ∧ J.yld i H x H' ∧ tn (i + 1) s2.heap ∧ ∀ b ∈ fp, H' b = none) E s1) E s
  done : ∀ (X : Cx), X.prog = P → X.w = w → X.K = K → X.calm = true → ∀ (i : Nat) (pins : List (Addr × Obj)) (s : Shared) (σ : St) (H : Hp) (E : Value → Shared → Prop), Inv X pins σ H s → (∀ b ∈ fp, FpOk X pins H b) → tn i s.heap → J.stop i H →
    wpAny (model P w) X.A (pyNext (.ref it)) (fun r s1 => r = none ∧ Inv X pins σ H s1) E s
  self : ∀ (A : Around) (i : Nat) (s : Shared) (Q : Value → Shared → Prop) (E : Value → Shared → Prop), tn i s.heap → Q (.ref it) s → wpAny (model P w) A (pyIter (.ref it)) Q E s
abbrev TI := St → Hp → (It → Hp → Prop) → Prop
/-- an iterator has come -/
def PIE (X : Cx) (pins : List (Addr × Obj)) (σ : St) (tg : Expr) (R : It → Hp → Prop) (itv : Value) (s2 : Shared) : Prop :=
  ∃ (it : Addr) (fp : List Addr) (tn : Nat → Heap → Prop) (J : It) (H' : Hp), itv = .ref it ∧ Inv X pins σ H' s2 ∧ Turn X.prog X.w X.K tg J fp it tn ∧ tn 0 s2.heap ∧ (∀ b ∈ fp, FpOk X pins H' b) ∧ R J H'
def PI (X : Cx) (tg iter : Expr) (wi : TI) : Prop :=
  ∀ (pins : List (Addr × Obj)) (s : Shared) (σ : St) (H : Hp) (R : It → Hp → Prop), Inv X pins σ H s → wi σ H R →
    wpAny (model X.prog X.w) X.A (eval iter X.env) (fun v s1 => wpAny (model X.prog X.w) X.A (pyIter v) (PIE X pins σ tg R) X.xe s1) X.xe s

/-- the step ahead of the store is nothing for an iterator that keeps no tuple -/
theorem go_of {M : Model} {A : Around} {E : Value → Shared → Prop} {s : Shared} {tg : Expr} {it : Addr} {u : Value} {o : Obj} {n : String} {vs : Array Value} {Q : Unit → Shared → Prop} (ho : s.heap.get? it = some o) (hc : o.cls = .type n) (hd : o.data = .fields vs)
    (hn : ["enumerate", "zip", "dict_itemiterator", "dict_reverseitemiterator", "odict_iterator", "itertools.zip_longest", "itertools.pairwise"].contains n = false) (hQ : Q () s) : wpAny M A (letOwnedTupleGo tg (.ref it) u) Q E s := by
  unfold letOwnedTupleGo
  cases tg <;> first
    | exact wpAny_pure hQ
    | (cases u <;> first
        | exact wpAny_pure hQ
        | (refine wpAny_bind (wpAny_load ho ?_)
           rw [hc, hd]
           show wpAny M A (if (["enumerate", "zip", "dict_itemiterator", "dict_reverseitemiterator", "odict_iterator", "itertools.zip_longest", "itertools.pairwise"].contains n && vs[0]? == some (rawInt _)) = true then _ else _) Q E s
           rw [if_neg (by intro h; rw [hn, Bool.false_and] at h; cases h)]
           exact wpAny_pure hQ))

/-- the list at a, as it stands at each turn (a loop may append to it) -/
def Itl (K : PySem.W.Frag) (a : Addr) : It :=
  ⟨fun i H => ∃ xs x, SqL K H a xs ∧ xs[i]? = some x, fun i H x H' => H' = H ∧ ∀ xs, SqL K H a xs → xs[i]? = some x, fun i H => ∃ xs, SqL K H a xs ∧ xs.length ≤ i⟩
def Itt (K : PySem.W.Frag) (a : Addr) : It :=
  ⟨fun i H => ∃ xs x, SqT K H a xs ∧ xs[i]? = some x, fun i H x H' => H' = H ∧ ∀ xs, SqT K H a xs → xs[i]? = some x, fun i H => ∃ xs, SqT K H a xs ∧ xs.length ≤ i⟩
/-- lo, lo + 1, .. (n of them) -/
def Itr (lo : Int) (n : Nat) : It := ⟨fun i _ => i < n, fun i H x H' => H' = H ∧ x = .int (lo + i), fun i _ => n ≤ i⟩
theorem turn_list {P : Program} {w : World} {K : PySem.W.Frag} {tg : Expr} (a it : Addr) : Turn P w K tg (Itl K a) [it] it (fun i h => h.IsListIter it a i) where
  mem := by simp
  obj := fun i h st b hb => by
    have e : b = it := by simpa using hb
    subst e
    obtain ⟨o, e, c, d⟩ := st
    exact ⟨o, e, fun v z => by rw [d] at z; cases z⟩
  keep := fun i h h' st k => st.at fun o e => k it (by simp) o e
  item := by
    intro X hP hw hK hc i pins s σ H E I hf st hg
    subst hP hw hK
    obtain ⟨xs, x, hq, hx⟩ := hg
    obtain ⟨its, rv, p, hz⟩ := I.list hq
    obtain ⟨u, hu, ru⟩ := rv.get hx
    obtain ⟨f0, f1, f2, f3, f4, f5⟩ := hf it (by simp)
    refine wpAny_pyNext_list_item st p.isList (x := u) (by simpa using hu) fun h' st' sb => ?_
    have I1 : Inv X pins σ H { s with heap := h' } := I.turned (t' := s.toks) (fun b o hb e => (sb.2 b hb).trans e) f0 f1 f3 f4 f5
    obtain ⟨o, e, c, d⟩ := id st'
    exact ⟨u, rfl, go_of (s := { s with heap := h' }) e c d (by decide) ⟨x, H, I1, ru, ⟨rfl, fun ys hy => by rw [I.list_inj hy hq]; exact hx⟩, st', fun b hb => (hf b hb).1⟩⟩
  done := by
    intro X hP hw hK hc i pins s σ H E I hf st hg
    subst hP hw hK
    obtain ⟨xs, hq, hx⟩ := hg
    obtain ⟨its, rv, p, hz⟩ := I.list hq
    obtain ⟨f0, f1, f2, f3, f4, f5⟩ := hf it (by simp)
    have hl := rv.length
    exact wpAny_pyNext_list_end (I.ok.hd hc) st p.isList (by simp; omega) fun h' eb => ⟨rfl, I.turned (t' := s.toks) (fun b o hb e => eb b o hb e) f0 f1 f3 f4 f5⟩
  self := fun _ _ _ _ _ st h => wpAny_pyIter_listiter st h
theorem turn_tuple {P : Program} {w : World} {K : PySem.W.Frag} {tg : Expr} (a it : Addr) : Turn P w K tg (Itt K a) [it] it (fun i h => h.IsTupleIter it a i) where
  mem := by simp
  obj := fun i h st b hb => by
    have e : b = it := by simpa using hb
    subst e
    obtain ⟨o, e, c, d⟩ := st
    exact ⟨o, e, fun v z => by rw [d] at z; cases z⟩
  keep := fun i h h' st k => st.at fun o e => k it (by simp) o e
  item := by
    intro X hP hw hK hc i pins s σ H E I hf st hg
    subst hP hw hK
    obtain ⟨xs, x, hq, hx⟩ := hg
    obtain ⟨its, rv, p, hz⟩ := I.tuple hq
    obtain ⟨u, hu, ru⟩ := rv.get hx
    obtain ⟨f0, f1, f2, f3, f4, f5⟩ := hf it (by simp)
    refine wpAny_pyNext_tuple_item st (show s.heap.IsTuple a its.toArray from p) (x := u) (by simpa using hu) fun h' st' sb => ?_
    have I1 : Inv X pins σ H { s with heap := h' } := I.turned (t' := s.toks) (fun b o hb e => (sb.2 b hb).trans e) f0 f1 f3 f4 f5
    obtain ⟨o, e, c, d⟩ := id st'
    exact ⟨u, rfl, go_of (s := { s with heap := h' }) e c d (by decide) ⟨x, H, I1, ru, ⟨rfl, fun ys hy => by rw [I.tuple_inj hy hq]; exact hx⟩, st', fun b hb => (hf b hb).1⟩⟩
  done := by
    intro X hP hw hK hc i pins s σ H E I hf st hg
    subst hP hw hK
    obtain ⟨xs, hq, hx⟩ := hg
    obtain ⟨its, rv, p, hz⟩ := I.tuple hq
    obtain ⟨f0, f1, f2, f3, f4, f5⟩ := hf it (by simp)
    have hl := rv.length
    exact wpAny_pyNext_tuple_end (I.ok.hd hc) st (show s.heap.IsTuple a its.toArray from p) (by simp; omega) fun h' eb => ⟨rfl, I.turned (t' := s.toks) (fun b o hb e => eb b o hb e) f0 f1 f3 f4 f5⟩
  self := fun _ _ _ _ _ st h => wpAny_pyIter_tupleiter st h
theorem turn_range {P : Program} {w : World} {K : PySem.W.Frag} {tg : Expr} (it : Addr) (lo : Int) (n : Nat) : Turn P w K tg (Itr lo n) [it] it (fun i h => IsRangeIter h it (lo + (i : Nat) * 1) ((n : Int) - (i : Nat)) 1) where
  mem := by simp
  obj := fun i h st b hb => by
    have e : b = it := by simpa using hb
    subst e
    exact ⟨_, st, fun v z => by
      have z' : Data.fields _ = Data.cell v := z
      cases z'⟩
  keep := fun i h h' st k => k it (by simp) _ st
  item := by
    intro X hP hw hK hc i pins s σ H E I hf st hg
    subst hP hw hK
    obtain ⟨f0, f1, f2, f3, f4, f5⟩ := hf it (by simp)
    have W := Walks.range (prog := X.prog) (w := X.w) (I.ok.hd hc) it lo 1 n
    refine W.item i s _ _ hg st fun v h' tk hv st' kk => ?_
    obtain ⟨t, rfl⟩ := hv
    have I1 : Inv X pins σ H { s with heap := h', toks := tk } := I.turned (fun b o hb e => kk b o (by simpa using hb) e) f0 f1 f3 f4 f5
    refine ⟨_, rfl, go_of (s := { s with heap := h', toks := tk }) (n := "range_iterator") st' rfl rfl (by decide) ⟨.int (lo + i), H, I1, ⟨t, ?_⟩, ⟨rfl, rfl⟩, st', fun b hb => (hf b hb).1⟩⟩
    rw [Int.mul_one]
  done := by
    intro X hP hw hK hc i pins s σ H E I hf st hg
    subst hP hw hK
    obtain ⟨f0, f1, f2, f3, f4, f5⟩ := hf it (by simp)
    exact wpAny_pyNext_range_end (I.ok.hd hc) st (by have : n ≤ i := hg; omega) fun h' eb => ⟨rfl, I.turned (t' := s.toks) (fun b o hb e => eb b o hb e) f0 f1 f3 f4 f5⟩
  self := fun _ _ _ _ _ st h => wpAny_pyIter_rangeiter st h
end L2

namespace L2
open PySem PySem.Spec PyProof.Rows
section
variable {X : Cx} {tg : Expr}
def iList (K : PySem.W.Frag) (tl : TE) : TI := fun σ H R => tl σ H fun x H1 => ∃ a, x = .ref a ∧ (∃ xs, SqL K H1 a xs) ∧ R (Itl K a) H1
def iTup (K : PySem.W.Frag) (tl : TE) : TI := fun σ H R => tl σ H fun x H1 => ∃ a, x = .ref a ∧ (∃ xs, SqT K H1 a xs) ∧ R (Itt K a) H1
theorem pi_list {l : Expr} {tl : TE} (hl : PE X l tl) : PI X tg l (iList X.K tl) := by
  intro pins s σ H R I h
  refine thn (hl pins s σ H _ I h) fun v s1 ⟨x, H1, I1, r1, q1⟩ => ?_
  obtain ⟨a, e, ⟨xs, hq⟩, q⟩ := q1
  subst e
  cases r1
  obtain ⟨its, rv, p, hz⟩ := I1.list hq
  refine wpAny_pyIter_list p.isList ?_
  refine ⟨s1.heap.objs.size, [s1.heap.objs.size], _, _, H1, rfl, I1.kept (t' := s1.toks) fun b o e => Heap.get?_push_of_some _ e, turn_list a _, ⟨_, Heap.get?_push_size _ rfl, rfl, rfl⟩, fun b hb => ?_, q⟩
  have e : b = s1.heap.objs.size := by simpa using hb
  subst e
  exact I1.fpOk (Nat.le_refl _) (I1.hok.fresh (Nat.le_refl _))
theorem pi_tup {l : Expr} {tl : TE} (hl : PE X l tl) : PI X tg l (iTup X.K tl) := by
  intro pins s σ H R I h
  refine thn (hl pins s σ H _ I h) fun v s1 ⟨x, H1, I1, r1, q1⟩ => ?_
  obtain ⟨a, e, ⟨xs, hq⟩, q⟩ := q1
  subst e
  cases r1
  obtain ⟨its, rv, p, hz⟩ := I1.tuple hq
  refine wpAny_pyIter_tuple (show s1.heap.IsTuple a its.toArray from p) ?_
  refine ⟨s1.heap.objs.size, [s1.heap.objs.size], _, _, H1, rfl, I1.kept (t' := s1.toks) fun b o e => Heap.get?_push_of_some _ e, turn_tuple a _, ⟨_, Heap.get?_push_size _ rfl, rfl, rfl⟩, fun b hb => ?_, q⟩
  have e : b = s1.heap.objs.size := by simpa using hb
  subst e
  exact I1.fpOk (Nat.le_refl _) (I1.hok.fresh (Nat.le_refl _))
/-- a range object just made, walked -/
theorem range_it {pins : List (Addr × Obj)} {σ : St} {H : Hp} {s : Shared} {R : It → Hp → Prop} {E : Value → Shared → Prop} {lo hi : Int} {t u v : Tok} {tk : Nat} (I : Inv X pins σ H s) (h1 : -(2 ^ 62) ≤ lo) (h2 : lo < 2 ^ 62) (h3 : -(2 ^ 62) ≤ hi) (h4 : hi < 2 ^ 62)
    (q : R (Itr lo (hi - lo).toNat) H) : wpAny (model X.prog X.w) X.A (pyIter (.ref s.heap.objs.size)) (PIE X pins σ tg R) E { s with heap := s.heap.push { cls := .type "range", data := .fields #[.int lo t, .int hi u, .int 1 v] }, toks := tk } := by
  refine wpAny_pyIter_range (IsRange.new ..) (small_one h1 h2 h3 h4) ?_
  have I1 : Inv X pins σ H { s with heap := s.heap.push { cls := .type "range", data := .fields #[.int lo t, .int hi u, .int 1 v] }, toks := tk } := I.kept fun b o e => Heap.get?_push_of_some _ e
  refine ⟨(s.heap.push { cls := .type "range", data := .fields #[.int lo t, .int hi u, .int 1 v] }).objs.size, [(s.heap.push { cls := .type "range", data := .fields #[.int lo t, .int hi u, .int 1 v] }).objs.size], _, _, H, rfl,
    I1.kept (t' := tk) fun b o e => Heap.get?_push_of_some _ e, turn_range _ lo (hi - lo).toNat, ?_, fun b hb => ?_, q⟩
  · have e1 : lo + ((0 : Nat) : Int) * 1 = lo := by simp
    have e2 : (((hi - lo).toNat : Nat) : Int) - ((0 : Nat) : Int) = Builtin.Range.rangeSize lo hi 1 := by rw [rangeSize_one]; split <;> omega
    show IsRangeIter _ _ (lo + ((0 : Nat) : Int) * 1) ((((hi - lo).toNat : Nat) : Int) - ((0 : Nat) : Int)) 1
    rw [e1, e2]
    exact Heap.get?_push_size _ rfl
  · have e : b = (s.heap.push { cls := .type "range", data := .fields #[.int lo t, .int hi u, .int 1 v] }).objs.size := by simpa using hb
    subst e
    exact I1.fpOk (Nat.le_refl _) (I1.hok.fresh (Nat.le_refl _))
def iRng1 (ta : TA) : TI := fun σ H R => ta σ H fun vs H1 => ∃ j : Int, vs = [.int j] ∧ -(2 ^ 62) ≤ j ∧ j < 2 ^ 62 ∧ R (Itr 0 j.toNat) H1
def iRng2 (ta : TA) : TI := fun σ H R => ta σ H fun vs H1 => ∃ i j : Int, vs = [.int i, .int j] ∧ (-(2 ^ 62) ≤ i ∧ i < 2 ^ 62 ∧ -(2 ^ 62) ≤ j ∧ j < 2 ^ 62) ∧ R (Itr i (j - i).toNat) H1
theorem pi_range1 {a : Expr} {ta : TA} {p pos : Pos} (hg : Gl X "range") (hm : X.mg "range" = none) (ha : PA X [a] ta) (hs : starEach [a] X.env = [(false, eval a X.env)] := by rfl) : PI X tg (.Call (.Name "range" p) [a] [] pos) (iRng1 ta) := by
  intro pins s σ H R I h
  refine Call_ (ld_blt I hg hm boot_range (PyProof.Rows.callWith_type1 (thn (ha pos pins s σ H _ I h) fun us s1 ⟨vs, H1, I1, r1, q1⟩ => ?_) hs rfl))
  obtain ⟨j, e, q1, q2, q⟩ := q1
  subst e
  cases r1 with
  | cons r rr =>
    cases rr
    obtain ⟨t, rfl⟩ := r
    exact call_range_1 (range_it I1 (by omega) (by omega) q1 q2 (by simpa using q))
theorem pi_range2 {a b : Expr} {ta : TA} {p pos : Pos} (hg : Gl X "range") (hm : X.mg "range" = none) (ha : PA X [a, b] ta) (hs : starEach [a, b] X.env = [(false, eval a X.env), (false, eval b X.env)] := by rfl) (hs2 : starEach [b] X.env = [(false, eval b X.env)] := by rfl) :
    PI X tg (.Call (.Name "range" p) [a, b] [] pos) (iRng2 ta) := by
  intro pins s σ H R I h
  refine Call_ (ld_blt I hg hm boot_range (PyProof.Rows.callWith_type1 (thn (ha pos pins s σ H _ I h) fun us s1 ⟨vs, H1, I1, r1, q1⟩ => ?_) (by rw [hs, hs2]) (by rw [hs2]; rfl)))
  obtain ⟨i, j, e, ⟨q1, q2, q3, q4⟩, q⟩ := q1
  subst e
  cases r1 with
  | cons r rr =>
    cases rr with
    | cons r' rr =>
      cases rr
      obtain ⟨t, rfl⟩ := r
      obtain ⟨t', rfl⟩ := r'
      exact call_range_2 (range_it I1 q1 q2 q3 q4 q)

/-! ### for -/
/-- W: the invariant by the turn and a measure; N: what the body is to reach -/
def tFor (wi : TI) (g : TG) (tb : TS) : TS := fun D σ H => wi σ H fun J H1 => ∃ W : Nat → Nat → St → Hp → Prop, (∃ m, W 0 m σ H1) ∧ ∀ i m σ H, W i m σ H →
  (J.stop i H ∧ D.nx σ H) ∨ (J.go i H ∧ ∃ N : St → Hp → Prop, (∀ σ' H', N σ' H' → ∃ m', m' < m ∧ W (i + 1) m' σ' H') ∧ ∀ x H', J.yld i H x H' → g x σ H' fun σ2 H2 => tb { D with nx := N, ct := N, bk := D.nx } σ2 H2)
/-- the records at fp as they stand -/
def pinsAt (fp : List Addr) (h : Heap) : List (Addr × Obj) := fp.filterMap fun b => (h.get? b).map fun o => (b, o)
theorem mem_pinsAt {fp : List Addr} {h : Heap} {b : Addr} {o : Obj} (hb : b ∈ fp) (e : h.get? b = some o) : (b, o) ∈ pinsAt fp h := List.mem_filterMap.mpr ⟨b, hb, by rw [e]; rfl⟩
theorem of_pinsAt {fp : List Addr} {h : Heap} {p : Addr × Obj} (hp : p ∈ pinsAt fp h) : p.1 ∈ fp ∧ h.get? p.1 = some p.2 := by
  obtain ⟨b, hb, e⟩ := List.mem_filterMap.mp hp
  cases q : h.get? b with
  | none => rw [q] at e; cases e
  | some o =>
    rw [q] at e
    have e' : (b, o) = p := Option.some.inj e
    subst e'
    exact ⟨hb, q⟩
theorem Inv.pinned {pins : List (Addr × Obj)} {σ : St} {H : Hp} {s : Shared} {fp : List Addr} (I : Inv X pins σ H s) (hf : ∀ b ∈ fp, FpOk X pins H b) (ho : ∀ b ∈ fp, ∃ o, s.heap.get? b = some o ∧ ∀ v, o.data ≠ .cell v) : Inv X (pins ++ pinsAt fp s.heap) σ H s :=
  I.pins_of fun p hp => (List.mem_append.mp hp).elim (fun z => I.pin p (List.mem_append_right _ z)) fun z => by
    obtain ⟨hb, e⟩ := of_pinsAt z
    obtain ⟨f0, f1, f2, _⟩ := hf p.1 hb
    obtain ⟨o, e', d⟩ := ho p.1 hb
    rw [e] at e'; cases e'
    exact ⟨e, f0, f1, f2, d⟩
theorem Inv.unpinned {pins pl : List (Addr × Obj)} {σ : St} {H : Hp} {s : Shared} (I : Inv X (pins ++ pl) σ H s) : Inv X pins σ H s := I.pins_of fun p hp => I.pin p (List.mem_append_right _ (List.mem_append_left _ hp))
theorem ps_for {iter : Expr} {body : List Stmt} {wi : TI} {g : TG} {tb : TS} {pos : Pos} (hp : PassesOwn (model X.prog X.w) X.A X.env X.xe) (hc : X.calm = true) (hi : PI X tg iter wi) (hg : PG X tg g) (hb : PSs X body tb)
    (hs : ∀ x, foldedSetIterable iter X.env x = pure x := by intro _; rfl) : PS X (.For tg iter body [] pos) (tFor wi g tb) := by
  intro pins s σ H D I h
  refine wpAny_For (thn (hi pins s σ H _ I h) fun v s1 h1 => thn h1 fun itv s2 h2 => ?_) hs
  obtain ⟨it, fp, tn, J, H2, e, I2, T, st2, f2, W, ⟨m0, w0⟩, turn⟩ := h2
  subst e
  -- what stays true of the iterator's objects through the loop
  have stat : ∀ {H' : Hp}, (∀ b ∈ fp, H' b = none) → ∀ b ∈ fp, FpOk X pins H' b := fun hn b hb => ⟨hn b hb, (f2 b hb).2⟩
  refine codeAny_forLoop_any (fun n s' => ∃ i σ' H', Inv X pins σ' H' s' ∧ tn i s'.heap ∧ (∀ b ∈ fp, H' b = none) ∧ W i n σ' H') ?_ m0 ⟨0, σ, H2, I2, st2, fun b hb => (f2 b hb).1, w0⟩
  rintro n s3 ⟨i, σ3, H3, I3, st3, fr3, w3⟩
  rcases turn i n σ3 H3 w3 with ⟨stop, qn⟩ | ⟨go, N, hN, step⟩
  · refine wpAny_passesOwn hp (thn (T.done X rfl rfl rfl hc i pins s3 σ3 H3 X.xe I3 (stat fr3) st3 stop) fun r s4 ⟨hr, I4⟩ => ?_)
    subst hr
    exact wpAny_execs_nil ⟨σ3, H3, I4, qn⟩
  · refine wpAny_passesOwn hp (thn (T.item X rfl rfl rfl hc i pins s3 σ3 H3 X.xe I3 (stat fr3) st3 go) fun r s4 ⟨u, hr, h4⟩ => ?_)
    subst hr
    refine wpAny_passesOwn hp (thn h4 fun _ s5 ⟨x, H5, I5, r5, y5, st5, fr5⟩ => ?_)
    have I5' := I5.pinned (stat fr5) (T.obj _ _ st5)
    refine wpAny_passesOwn hp (thn (hg _ s5 σ3 H5 x u _ I5' r5 (step x H5 y5)) fun _ s6 ⟨σ6, H6, I6, q6⟩ => ?_)
    refine wpAny_passesOwn hp (thn (hb _ s6 σ6 H6 _ I6 q6) fun f s7 q7 => ?_)
    have again : ∀ {σ7 : St} {H7 : Hp}, Inv X (pins ++ pinsAt fp s5.heap) σ7 H7 s7 → N σ7 H7 → ∃ m, m < n ∧ ∃ i σ' H', Inv X pins σ' H' s7 ∧ tn i s7.heap ∧ (∀ b ∈ fp, H' b = none) ∧ W i m σ' H' := fun {σ7 H7} I7 n7 => by
      obtain ⟨m', hm, w7⟩ := hN σ7 H7 n7
      refine ⟨m', hm, i + 1, σ7, H7, I7.unpinned, T.keep _ _ _ st5 fun b hb o e => (I7.pin (b, o) (List.mem_append_right _ (List.mem_append_right _ (mem_pinsAt hb e)))).1, fun b hb => ?_, w7⟩
      obtain ⟨o, e, d⟩ := T.obj _ _ st5 b hb
      exact (I7.pin (b, o) (List.mem_append_right _ (List.mem_append_right _ (mem_pinsAt hb e)))).2.1
    cases f with
    | next => obtain ⟨σ7, H7, I7, n7⟩ := q7; exact again I7 n7
    | cont => obtain ⟨σ7, H7, I7, n7⟩ := q7; exact again I7 n7
    | brk => obtain ⟨σ7, H7, I7, q7⟩ := q7; exact ⟨σ7, H7, I7.unpinned, q7⟩
    | ret v => obtain ⟨x7, σ7, H7, I7, r7, q7⟩ := q7; exact ⟨x7, σ7, H7, I7.unpinned, r7, q7⟩
end

/-! ### the forms one uses -/
/-- over a list that the body leaves as it is -/
theorem for_list {K : PySem.W.Frag} {a : Addr} {xs : List V} {g : TG} {tb : TS} {D : Ends} {σ : St} {H : Hp} (Pv : Nat → St → Hp → Prop) (h0 : Pv 0 σ H) (hl : ∀ i σ H, i ≤ xs.length → Pv i σ H → SqL K H a xs)
    (hs : ∀ i x σ H, xs[i]? = some x → Pv i σ H → g x σ H fun σ2 H2 => tb { D with nx := Pv (i + 1), ct := Pv (i + 1), bk := D.nx } σ2 H2) (hd : ∀ σ H, Pv xs.length σ H → D.nx σ H) :
    ∃ W : Nat → Nat → St → Hp → Prop, (∃ m, W 0 m σ H) ∧ ∀ i m σ H, W i m σ H →
      ((Itl K a).stop i H ∧ D.nx σ H) ∨ ((Itl K a).go i H ∧ ∃ N : St → Hp → Prop, (∀ σ' H', N σ' H' → ∃ m', m' < m ∧ W (i + 1) m' σ' H') ∧ ∀ x H', (Itl K a).yld i H x H' → g x σ H' fun σ2 H2 => tb { D with nx := N, ct := N, bk := D.nx } σ2 H2) := by
  refine ⟨fun i m σ H => m = xs.length - i ∧ i ≤ xs.length ∧ Pv i σ H, ⟨xs.length, by simp, Nat.zero_le _, h0⟩, ?_⟩
  rintro i m σ H ⟨rfl, hi, p⟩
  have q := hl i σ H hi p
  by_cases hlt : i < xs.length
  · refine .inr ⟨⟨xs, xs[i], q, by simp [hlt]⟩, Pv (i + 1), fun σ' H' p' => ⟨xs.length - (i + 1), by omega, rfl, hlt, p'⟩, fun x H' y => ?_⟩
    obtain ⟨e, y⟩ := y
    subst e
    exact hs i x σ _ (y xs q) p
  · have e : i = xs.length := by omega
    subst e
    exact .inl ⟨⟨xs, q, Nat.le_refl _⟩, hd σ H p⟩
theorem for_tup {K : PySem.W.Frag} {a : Addr} {xs : List V} {g : TG} {tb : TS} {D : Ends} {σ : St} {H : Hp} (Pv : Nat → St → Hp → Prop) (h0 : Pv 0 σ H) (hl : ∀ i σ H, i ≤ xs.length → Pv i σ H → SqT K H a xs)
    (hs : ∀ i x σ H, xs[i]? = some x → Pv i σ H → g x σ H fun σ2 H2 => tb { D with nx := Pv (i + 1), ct := Pv (i + 1), bk := D.nx } σ2 H2) (hd : ∀ σ H, Pv xs.length σ H → D.nx σ H) :
    ∃ W : Nat → Nat → St → Hp → Prop, (∃ m, W 0 m σ H) ∧ ∀ i m σ H, W i m σ H →
      ((Itt K a).stop i H ∧ D.nx σ H) ∨ ((Itt K a).go i H ∧ ∃ N : St → Hp → Prop, (∀ σ' H', N σ' H' → ∃ m', m' < m ∧ W (i + 1) m' σ' H') ∧ ∀ x H', (Itt K a).yld i H x H' → g x σ H' fun σ2 H2 => tb { D with nx := N, ct := N, bk := D.nx } σ2 H2) := by
  refine ⟨fun i m σ H => m = xs.length - i ∧ i ≤ xs.length ∧ Pv i σ H, ⟨xs.length, by simp, Nat.zero_le _, h0⟩, ?_⟩
  rintro i m σ H ⟨rfl, hi, p⟩
  have q := hl i σ H hi p
  by_cases hlt : i < xs.length
  · refine .inr ⟨⟨xs, xs[i], q, by simp [hlt]⟩, Pv (i + 1), fun σ' H' p' => ⟨xs.length - (i + 1), by omega, rfl, hlt, p'⟩, fun x H' y => ?_⟩
    obtain ⟨e, y⟩ := y
    subst e
    exact hs i x σ _ (y xs q) p
  · have e : i = xs.length := by omega
    subst e
    exact .inl ⟨⟨xs, q, Nat.le_refl _⟩, hd σ H p⟩
theorem for_range {lo : Int} {n : Nat} {g : TG} {tb : TS} {D : Ends} {σ : St} {H : Hp} (Pv : Nat → St → Hp → Prop) (h0 : Pv 0 σ H)
    (hs : ∀ i σ H, i < n → Pv i σ H → g (.int (lo + i)) σ H fun σ2 H2 => tb { D with nx := Pv (i + 1), ct := Pv (i + 1), bk := D.nx } σ2 H2) (hd : ∀ σ H, Pv n σ H → D.nx σ H) :
    ∃ W : Nat → Nat → St → Hp → Prop, (∃ m, W 0 m σ H) ∧ ∀ i m σ H, W i m σ H →
      ((Itr lo n).stop i H ∧ D.nx σ H) ∨ ((Itr lo n).go i H ∧ ∃ N : St → Hp → Prop, (∀ σ' H', N σ' H' → ∃ m', m' < m ∧ W (i + 1) m' σ' H') ∧ ∀ x H', (Itr lo n).yld i H x H' → g x σ H' fun σ2 H2 => tb { D with nx := N, ct := N, bk := D.nx } σ2 H2) := by
  refine ⟨fun i m σ H => m = n - i ∧ i ≤ n ∧ Pv i σ H, ⟨n, by simp, Nat.zero_le _, h0⟩, ?_⟩
  rintro i m σ H ⟨rfl, hi, p⟩
  by_cases hlt : i < n
  · refine .inr ⟨hlt, Pv (i + 1), fun σ' H' p' => ⟨n - (i + 1), by omega, rfl, hlt, p'⟩, fun x H' y => ?_⟩
    obtain ⟨e, y⟩ := y
    subst e y
    exact hs i σ _ hlt p
  · have e : i = n := by omega
    subst e
    exact .inl ⟨Nat.le_refl _, hd σ H p⟩
/-- while, by a word and a measure of the state -/
theorem while_by {c : TT} {tb : TS} {D : Ends} {σ : St} {H : Hp} (Pv : St → Hp → Prop) (μ : St → Hp → Nat) (h0 : Pv σ H)
    (hs : ∀ σ H, Pv σ H → c σ H fun b H1 => if b = true then tb { D with nx := fun σ' H' => Pv σ' H' ∧ μ σ' H' < μ σ H, ct := fun σ' H' => Pv σ' H' ∧ μ σ' H' < μ σ H, bk := D.nx } σ H1 else D.nx σ H1)
    (mono : ∀ σ H Q Q', (∀ b H1, Q b H1 → Q' b H1) → c σ H Q → c σ H Q') : tWhile c tb D σ H := by
  refine ⟨fun m σ H => m = μ σ H ∧ Pv σ H, ⟨_, rfl, h0⟩, ?_⟩
  rintro m σ H ⟨rfl, p⟩
  refine mono σ H _ _ (fun b H1 q => ?_) (hs σ H p)
  cases b with
  | true => exact ⟨_, fun σ' H' ⟨p', l⟩ => ⟨_, l, rfl, p'⟩, q⟩
  | false => exact q
end L2

namespace L2
open PySem PySem.Spec PyProof.Rows

abbrev R2 := V → V → Hp → VK → Prop
/-- a two-place operation on values: f is binaryOp op, inplaceOp op or compareOp op -/
def OpR (X : Cx) (f : Value → Value → Sem Value) (r : R2) : Prop :=
  ∀ (pins : List (Addr × Obj)) (s : Shared) (σ : St) (H : Hp) (x y : V) (v u : Value) (Q : VK), Inv X pins σ H s → RelV x v → RelV y u → r x y H Q →
    wpAny (model X.prog X.w) X.A (f v u) (EP X pins σ Q) X.xe s
/-- a one-place operation -/
def UnR (X : Cx) (f : Value → Sem Value) (r : V → Hp → VK → Prop) : Prop :=
  ∀ (pins : List (Addr × Obj)) (s : Shared) (σ : St) (H : Hp) (x : V) (v : Value) (Q : VK), Inv X pins σ H s → RelV x v → r x H Q →
    wpAny (model X.prog X.w) X.A (f v) (EP X pins σ Q) X.xe s
/-- a call of a value that is known (a builtin, a type) with values -/
def CallR (X : Cx) (f : Value) (r : List V → Hp → VK → Prop) : Prop :=
  ∀ (pins : List (Addr × Obj)) (s : Shared) (σ : St) (H : Hp) (xs : List V) (us : List Value) (Q : VK), Inv X pins σ H s → Vals xs us → r xs H Q →
    wpAny (model X.prog X.w) X.A (call f us) (EP X pins σ Q) X.xe s
/-- a value's truth -/
def TruR (X : Cx) (r : V → Hp → (Bool → Hp → Prop) → Prop) : Prop :=
  ∀ (pins : List (Addr × Obj)) (s : Shared) (σ : St) (H : Hp) (x : V) (v : Value) (Q : Bool → Hp → Prop), Inv X pins σ H s → RelV x v → r x H Q →
    wpAny (model X.prog X.w) X.A (truthy v) (TP X pins σ Q) X.xe s

def tOp (r : R2) (ta tb : TE) : TE := fun σ H Q => ta σ H fun x H1 => tb σ H1 fun y H2 => r x y H2 Q
def tUn (r : V → Hp → VK → Prop) (ta : TE) : TE := fun σ H Q => ta σ H fun x H1 => r x H1 Q
/-- ints in, under C, and a value out -/
def rI (C : Int → Int → Prop) (g : Int → Int → V) : R2 := fun x y H Q => ∃ i j, x = .int i ∧ y = .int j ∧ C i j ∧ Q (g i j) H
def rI0 (g : Int → Int → V) : R2 := fun x y H Q => ∃ i j, x = .int i ∧ y = .int j ∧ Q (g i j) H
def rU (g : Int → V) : V → Hp → VK → Prop := fun x H Q => ∃ i, x = .int i ∧ Q (g i) H

section
variable {X : Cx} {a b c : Expr} {ta tb tc : TE} {pos : Pos}

theorem binT (ha : PE X a ta) (hb : PE X b tb) {pins : List (Addr × Obj)} {s : Shared} {σ : St} {H : Hp} {R : V → V → Hp → Prop} (I : Inv X pins σ H s)
    (h : ta σ H fun x H1 => tb σ H1 fun y H2 => R x y H2) {Q : Value → Shared → Prop} {f : Value → Value → Sem Value}
    (hf : ∀ v u s2 x y H2, Inv X pins σ H2 s2 → RelV x v → RelV y u → R x y H2 → wpAny (model X.prog X.w) X.A (f v u) Q X.xe s2) :
    wpAny (model X.prog X.w) X.A (eval a X.env) (fun v s₁ => wpAny (model X.prog X.w) X.A (eval b X.env) (fun u s₂ => wpAny (model X.prog X.w) X.A (f v u) Q X.xe s₂) X.xe s₁) X.xe s := by
  refine thn (ha pins s σ H _ I h) fun v s1 ⟨x, H1, I1, r1, q1⟩ => ?_
  refine thn (hb pins s1 σ H1 _ I1 q1) fun u s2 ⟨y, H2, I2, r2, q2⟩ => ?_
  exact hf v u s2 x y H2 I2 r1 r2 q2

theorem pe_op {op : Operator} {r : R2} (ho : OpR X (binaryOp op) r) (ha : PE X a ta) (hb : PE X b tb) : PE X (.BinOp a op b pos) (tOp r ta tb) := by
  intro pins s σ H Q I h
  exact wpAny_BinOp (binT ha hb I h fun v u s2 x y H2 I2 rx ry q => ho pins s2 σ H2 x y v u Q I2 rx ry q)
theorem pe_un {op : UnaryOp} {r : V → Hp → VK → Prop} (ho : UnR X (unaryOp op) r) (ha : PE X a ta) : PE X (.UnaryOp op a pos) (tUn r ta) := by
  intro pins s σ H Q I h
  exact UnaryOp_ (thn (ha pins s σ H _ I h) fun v s1 ⟨x, H1, I1, r1, q1⟩ => ho pins s1 σ H1 x v Q I1 r1 q1)
/-- a op= e at a name: the name's slot i -/
theorem augR {op : Operator} {r : R2} (ho : OpR X (inplaceOp op) r) {pins : List (Addr × Obj)} {s : Shared} {σ : St} {H : Hp} {x y : V} {v u : Value} {Q : VK} (I : Inv X pins σ H s)
    (rx : RelV x v) (ry : RelV y u) (q : r x y H Q) : wpAny (model X.prog X.w) X.A (inplaceOp op v u) (EP X pins σ Q) X.xe s := ho pins s σ H x y v u Q I rx ry q

/-! ### ints -/
theorem opI {f : Value → Value → Sem Value} {C : Int → Int → Prop} {g : Int → Int → Int}
    (rule : ∀ (i j : Int) (t u : Tok) (s : Shared) (Q : Value → Shared → Prop) (E : Value → Shared → Prop), C i j → Q (.int (g i j) s.toks) { s with toks := s.toks + 1 } → wpAny (model X.prog X.w) X.A (f (.int i t) (.int j u)) Q E s) :
    OpR X f (rI C fun i j => .int (g i j)) := by
  intro pins s σ H x y v u Q I rx ry h
  obtain ⟨i, j, rfl, rfl, hc, q⟩ := h
  obtain ⟨t, rfl⟩ := rx
  obtain ⟨t', rfl⟩ := ry
  exact rule i j t t' s _ _ hc ⟨.int (g i j), H, I.tok _, ⟨_, rfl⟩, q⟩
theorem opI0 {f : Value → Value → Sem Value} {g : Int → Int → Int}
    (rule : ∀ (i j : Int) (t u : Tok) (s : Shared) (Q : Value → Shared → Prop) (E : Value → Shared → Prop), Q (.int (g i j) s.toks) { s with toks := s.toks + 1 } → wpAny (model X.prog X.w) X.A (f (.int i t) (.int j u)) Q E s) :
    OpR X f (rI0 fun i j => .int (g i j)) := by
  intro pins s σ H x y v u Q I rx ry h
  obtain ⟨i, j, rfl, rfl, q⟩ := h
  obtain ⟨t, rfl⟩ := rx
  obtain ⟨t', rfl⟩ := ry
  exact rule i j t t' s _ _ ⟨.int (g i j), H, I.tok _, ⟨_, rfl⟩, q⟩
theorem opB0 {f : Value → Value → Sem Value} {g : Int → Int → Bool}
    (rule : ∀ (i j : Int) (t u : Tok) (s : Shared) (Q : Value → Shared → Prop) (E : Value → Shared → Prop), Q (.bool (g i j)) s → wpAny (model X.prog X.w) X.A (f (.int i t) (.int j u)) Q E s) :
    OpR X f (rI0 fun i j => .bl (g i j)) := by
  intro pins s σ H x y v u Q I rx ry h
  obtain ⟨i, j, rfl, rfl, q⟩ := h
  obtain ⟨t, rfl⟩ := rx
  obtain ⟨t', rfl⟩ := ry
  exact rule i j t t' s _ _ ⟨.bl (g i j), H, I, rfl, q⟩

def CDiv (i j : Int) : Prop := 0 < j ∧ j < 1073741824
def CDivN (i j : Int) : Prop := j ≠ 0 ∧ j.natAbs < 1073741824
def CPow (i j : Int) : Prop := 0 ≤ j ∧ j ≤ 1000000 ∧ i.natAbs < 2 ^ 64
def CMul (i j : Int) : Prop := (-(2 ^ 64) < i ∧ i < 2 ^ 64) ∨ (-(2 ^ 64) < j ∧ j < 2 ^ 64)
theorem CMul.ok {i j : Int} (h : CMul i j) : IntMulOk i j := by
  rcases h with ⟨h1, h2⟩ | ⟨h1, h2⟩
  · exact .of_left (intBits_le_64 h1 h2)
  · exact .of_right (intBits_le_64 h1 h2)
theorem two_pow_nn (k : Nat) : (0 : Int) ≤ 2 ^ k := by
  rw [two_pow_cast]
  exact Int.natCast_nonneg _

theorem op_add : OpR X (binaryOp .Add) (rI0 fun i j => .int (i + j)) := opI0 fun _ _ _ _ _ _ _ q => add_int q
theorem op_sub : OpR X (binaryOp .Sub) (rI0 fun i j => .int (i - j)) := opI0 fun _ _ _ _ _ _ _ q => sub_int q
theorem op_mul : OpR X (binaryOp .Mult) (rI CMul fun i j => .int (i * j)) := opI fun _ _ _ _ _ _ _ hc q => mul_int q hc.ok
/-- // by a positive divisor -/
theorem op_fdiv : OpR X (binaryOp .FloorDiv) (rI CDiv fun i j => .int (i / j)) := opI fun i j _ _ _ _ _ hc q => by
  have h1 : (0 : Int) < j := hc.1
  have h2 : j < 1073741824 := hc.2
  exact floordiv_int (by omega) (by rw [Int.fdiv_eq_ediv_of_nonneg i (by omega)]; exact q) (.inl (PyProof.noPylong_small (by omega)))
theorem op_fdivN : OpR X (binaryOp .FloorDiv) (rI CDivN fun i j => .int (i.fdiv j)) := opI fun _ _ _ _ _ _ _ hc q => floordiv_int hc.1 q (.inl (PyProof.noPylong_small hc.2))
/-- % by a positive divisor of any size -/
theorem op_mod : OpR X (binaryOp .Mod) (rI (fun _ j => 0 < j) fun i j => .int (i % j)) := opI fun i j _ _ _ _ _ hc q => by
  have h1 : (0 : Int) < j := hc
  exact mod_int' (by omega) (by rw [Int.fmod_eq_emod_of_nonneg i (by omega)]; exact q)
theorem op_modN : OpR X (binaryOp .Mod) (rI (fun _ j => j ≠ 0) fun i j => .int (i.fmod j)) := opI fun _ _ _ _ _ _ _ hc q => mod_int' hc q
theorem op_pow : OpR X (binaryOp .Pow) (rI CPow fun i j => .int (i ^ j.toNat)) := opI fun _ _ _ _ _ _ _ hc q => pow_int_small hc.1 hc.2.1 hc.2.2 q
theorem op_shl : OpR X (binaryOp .LShift) (rI CPow fun i j => .int (i * 2 ^ j.toNat)) := opI fun _ _ _ _ _ _ _ hc q => lshift_int_small hc.1 hc.2.1 hc.2.2 q
theorem op_shr : OpR X (binaryOp .RShift) (rI (fun _ j => 0 ≤ j) fun i j => .int (i / 2 ^ j.toNat)) := opI fun i j _ _ _ _ _ hc q =>
  rshift_int hc (by rw [Int.fdiv_eq_ediv_of_nonneg i (two_pow_nn _)]; exact q)
theorem op_and : OpR X (binaryOp .BitAnd) (rI0 fun i j => .int (Builtin.bitAnd i j)) := opI0 fun _ _ _ _ _ _ _ q => and_int q
theorem op_or : OpR X (binaryOp .BitOr) (rI0 fun i j => .int (Builtin.bitOr i j)) := opI0 fun _ _ _ _ _ _ _ q => or_int q
theorem op_xor : OpR X (binaryOp .BitXor) (rI0 fun i j => .int (Builtin.bitXor i j)) := opI0 fun _ _ _ _ _ _ _ q => xor_int q

theorem iop_add : OpR X (inplaceOp .Add) (rI0 fun i j => .int (i + j)) := opI0 fun _ _ _ _ _ _ _ q => iadd_int q
theorem iop_sub : OpR X (inplaceOp .Sub) (rI0 fun i j => .int (i - j)) := opI0 fun _ _ _ _ _ _ _ q => isub_int q
theorem iop_mul : OpR X (inplaceOp .Mult) (rI CMul fun i j => .int (i * j)) := opI fun _ _ _ _ _ _ _ hc q => imul_int q hc.ok
theorem iop_fdiv : OpR X (inplaceOp .FloorDiv) (rI CDiv fun i j => .int (i / j)) := opI fun i j _ _ _ _ _ hc q => by
  have h1 : (0 : Int) < j := hc.1
  have h2 : j < 1073741824 := hc.2
  exact ifloordiv_int (by omega) (by rw [Int.fdiv_eq_ediv_of_nonneg i (by omega)]; exact q) (.inl (PyProof.noPylong_small (by omega)))
theorem iop_mod : OpR X (inplaceOp .Mod) (rI (fun _ j => 0 < j) fun i j => .int (i % j)) := opI fun i j _ _ _ _ _ hc q => by
  have h1 : (0 : Int) < j := hc
  exact imod_int (by omega) (by rw [Int.fmod_eq_emod_of_nonneg i (by omega)]; exact q)
theorem iop_shl : OpR X (inplaceOp .LShift) (rI CPow fun i j => .int (i * 2 ^ j.toNat)) := opI fun _ _ _ _ _ _ _ hc q => ilshift_int_small hc.1 hc.2.1 hc.2.2 q
theorem iop_shr : OpR X (inplaceOp .RShift) (rI (fun _ j => 0 ≤ j) fun i j => .int (i / 2 ^ j.toNat)) := opI fun i j _ _ _ _ _ hc q =>
  irshift_int hc (by rw [Int.fdiv_eq_ediv_of_nonneg i (two_pow_nn _)]; exact q)
theorem iop_and : OpR X (inplaceOp .BitAnd) (rI0 fun i j => .int (Builtin.bitAnd i j)) := opI0 fun _ _ _ _ _ _ _ q => iand_int q
theorem iop_or : OpR X (inplaceOp .BitOr) (rI0 fun i j => .int (Builtin.bitOr i j)) := opI0 fun _ _ _ _ _ _ _ q => ior_int q
theorem iop_xor : OpR X (inplaceOp .BitXor) (rI0 fun i j => .int (Builtin.bitXor i j)) := opI0 fun _ _ _ _ _ _ _ q => ixor_int q

theorem unI {f : Value → Sem Value} {g : Int → Int}
    (rule : ∀ (i : Int) (t : Tok) (s : Shared) (Q : Value → Shared → Prop) (E : Value → Shared → Prop), Q (.int (g i) s.toks) { s with toks := s.toks + 1 } → wpAny (model X.prog X.w) X.A (f (.int i t)) Q E s) :
    UnR X f (rU fun i => .int (g i)) := by
  intro pins s σ H x v Q I rx h
  obtain ⟨i, rfl, q⟩ := h
  obtain ⟨t, rfl⟩ := rx
  exact rule i t s _ _ ⟨.int (g i), H, I.tok _, ⟨_, rfl⟩, q⟩
theorem un_neg : UnR X (unaryOp .USub) (rU fun i => .int (-i)) := unI fun _ _ _ _ _ q => neg_int q
theorem un_inv : UnR X (unaryOp .Invert) (rU fun i => .int (Builtin.bitNot i)) := unI fun _ _ _ _ _ q => invert_int q

/-! ### bools among ints: n += (a < b) -/
theorem op_add_ib : OpR X (binaryOp .Add) (fun x y H Q => ∃ i k, x = .int i ∧ y = .bl k ∧ Q (.int (i + b2i k)) H) := by
  intro pins s σ H x y v u Q I rx ry h
  obtain ⟨i, k, rfl, rfl, q⟩ := h
  obtain ⟨t, rfl⟩ := rx
  cases ry
  exact add_int_bool ⟨.int (i + b2i k), H, I.tok _, ⟨_, rfl⟩, q⟩
end

/-! ### comparisons -/
/-- the scalars that == tells apart as data does -/
def scal : V → V → Bool
  | .non, .non => true | .non, .int _ => true | .int _, .non => true | .non, .bl _ => true | .bl _, .non => true | .non, .str _ => true | .str _, .non => true
  | .int _, .int _ => true | .bl _, .bl _ => true | .str _, .str _ => true | .byt _, .byt _ => true
  | .int _, .str _ => true | .str _, .int _ => true | .bl _, .str _ => true | .str _, .bl _ => true
  | _, _ => false
def rEq : R2 := fun x y H Q => scal x y = true ∧ Q (.bl (decide (x = y))) H
def rNe : R2 := fun x y H Q => scal x y = true ∧ Q (.bl (!decide (x = y))) H

theorem dec_int {i j : Int} : decide (V.int i = V.int j) = (i == j) := by
  rw [Bool.eq_iff_iff]
  simp
theorem dec_bl {i j : Bool} : decide (V.bl i = V.bl j) = (i == j) := by
  rw [Bool.eq_iff_iff]
  simp
theorem dec_str {i j : Str} : decide (V.str i = V.str j) = (i == j) := by
  rw [Bool.eq_iff_iff]
  simp
theorem dec_byt {i j : Array UInt8} : decide (V.byt i = V.byt j) = (i.toList == j.toList) := by
  rw [Bool.eq_iff_iff]
  cases i
  cases j
  simp

section
variable {X : Cx} {a b c : Expr} {ta tb tc : TE} {pos : Pos}
theorem fin_bl {pins : List (Addr × Obj)} {σ : St} {H : Hp} {s : Shared} {Q : VK} {k k' : Bool} (I : Inv X pins σ H s) (q : Q (.bl k) H) (e : k = k') : EP X pins σ Q (.bool k') s := by
  subst e
  exact ⟨.bl k, H, I, rfl, q⟩
theorem op_eq : OpR X (compareOp .Eq) rEq := by
  intro pins s σ H x y v u Q I rx ry h
  obtain ⟨hs, q⟩ := h
  cases x with
  | non =>
    cases rx
    cases y with
    | non => cases ry; exact PySem.EqNone.eq_none_none (fin_bl I q (by simp))
    | bl j => cases ry; exact PySem.EqNone.eq_none_bool (fin_bl I q (by simp))
    | int j => obtain ⟨t', rfl⟩ := ry; exact PySem.EqNone.eq_none_int (fin_bl I q (by simp))
    | str j => obtain ⟨t', rfl⟩ := ry; exact PySem.EqNone.eq_none_str (fin_bl I q (by simp))
    | _ => exact absurd (show false = true from hs) Bool.false_ne_true
  | bl i =>
    cases rx
    cases y with
    | non => cases ry; exact PySem.EqNone.eq_bool_none (fin_bl I q (by simp))
    | bl j => cases ry; exact eq_bool (fin_bl I q dec_bl)
    | str j => obtain ⟨t', rfl⟩ := ry; exact PySem.EqMixed.eq_bool_str (fin_bl I q (by simp))
    | _ => exact absurd (show false = true from hs) Bool.false_ne_true
  | int i =>
    obtain ⟨t, rfl⟩ := rx
    cases y with
    | non => cases ry; exact PySem.EqNone.eq_int_none (fin_bl I q (by simp))
    | int j => obtain ⟨t', rfl⟩ := ry; exact eq_int (fin_bl I q dec_int)
    | str j => obtain ⟨t', rfl⟩ := ry; exact PySem.EqMixed.eq_int_str (fin_bl I q (by simp))
    | _ => exact absurd (show false = true from hs) Bool.false_ne_true
  | str i =>
    obtain ⟨t, rfl⟩ := rx
    cases y with
    | non => cases ry; exact PySem.EqNone.eq_str_none (fin_bl I q (by simp))
    | bl j => cases ry; exact PySem.EqMixed.eq_str_bool (fin_bl I q (by simp))
    | int j => obtain ⟨t', rfl⟩ := ry; exact PySem.EqMixed.eq_str_int (fin_bl I q (by simp))
    | str j => obtain ⟨t', rfl⟩ := ry; exact eq_str (fin_bl I q dec_str)
    | _ => exact absurd (show false = true from hs) Bool.false_ne_true
  | byt i =>
    obtain ⟨t, rfl⟩ := rx
    cases y with
    | byt j => obtain ⟨t', rfl⟩ := ry; exact PySem.W.eq_bytes (fin_bl I q dec_byt)
    | _ => exact absurd (show false = true from hs) Bool.false_ne_true
  | _ => cases y <;> exact absurd (show false = true from hs) Bool.false_ne_true
theorem op_ne : OpR X (compareOp .NotEq) rNe := by
  intro pins s σ H x y v u Q I rx ry h
  obtain ⟨hs, q⟩ := h
  cases x with
  | non =>
    cases rx
    cases y with
    | non => cases ry; exact PySem.EqNone.ne_none_none (fin_bl I q (by simp))
    | bl j => cases ry; exact PySem.EqNone.ne_none_bool (fin_bl I q (by simp))
    | int j => obtain ⟨t', rfl⟩ := ry; exact PySem.EqNone.ne_none_int (fin_bl I q (by simp))
    | str j => obtain ⟨t', rfl⟩ := ry; exact PySem.EqNone.ne_none_str (fin_bl I q (by simp))
    | _ => exact absurd (show false = true from hs) Bool.false_ne_true
  | bl i =>
    cases rx
    cases y with
    | non => cases ry; exact PySem.EqNone.ne_bool_none (fin_bl I q (by simp))
    | bl j => cases ry; exact ne_bool (fin_bl I q (congrArg not dec_bl))
    | str j => obtain ⟨t', rfl⟩ := ry; exact PySem.EqMixed.ne_bool_str (fin_bl I q (by simp))
    | _ => exact absurd (show false = true from hs) Bool.false_ne_true
  | int i =>
    obtain ⟨t, rfl⟩ := rx
    cases y with
    | non => cases ry; exact PySem.EqNone.ne_int_none (fin_bl I q (by simp))
    | int j => obtain ⟨t', rfl⟩ := ry; exact ne_int (fin_bl I q (congrArg not dec_int))
    | str j => obtain ⟨t', rfl⟩ := ry; exact PySem.EqMixed.ne_int_str (fin_bl I q (by simp))
    | _ => exact absurd (show false = true from hs) Bool.false_ne_true
  | str i =>
    obtain ⟨t, rfl⟩ := rx
    cases y with
    | non => cases ry; exact PySem.EqNone.ne_str_none (fin_bl I q (by simp))
    | bl j => cases ry; exact PySem.EqMixed.ne_str_bool (fin_bl I q (by simp))
    | int j => obtain ⟨t', rfl⟩ := ry; exact PySem.EqMixed.ne_str_int (fin_bl I q (by simp))
    | str j => obtain ⟨t', rfl⟩ := ry; exact ne_str (fin_bl I q (congrArg not dec_str))
    | _ => exact absurd (show false = true from hs) Bool.false_ne_true
  | byt i =>
    obtain ⟨t, rfl⟩ := rx
    cases y with
    | byt j => obtain ⟨t', rfl⟩ := ry; exact PySem.W.ne_bytes (fin_bl I q (congrArg not dec_byt))
    | _ => exact absurd (show false = true from hs) Bool.false_ne_true
  | _ => cases y <;> exact absurd (show false = true from hs) Bool.false_ne_true

theorem op_lt : OpR X (compareOp .Lt) (rI0 fun i j => .bl (decide (i < j))) := opB0 fun _ _ _ _ _ _ _ q => lt_int q
theorem op_le : OpR X (compareOp .LtE) (rI0 fun i j => .bl (decide (i ≤ j))) := opB0 fun _ _ _ _ _ _ _ q => le_int q
theorem op_gt : OpR X (compareOp .Gt) (rI0 fun i j => .bl (decide (j < i))) := opB0 fun _ _ _ _ _ _ _ q => gt_int q
theorem op_ge : OpR X (compareOp .GtE) (rI0 fun i j => .bl (decide (j ≤ i))) := opB0 fun _ _ _ _ _ _ _ q => ge_int q
theorem op_lt_str : OpR X (compareOp .Lt) (fun x y H Q => ∃ i j, x = .str i ∧ y = .str j ∧ Q (.bl (decide (i.cps.toList < j.cps.toList))) H) := by
  intro pins s σ H x y v u Q I rx ry h
  obtain ⟨i, j, rfl, rfl, q⟩ := h
  obtain ⟨t, rfl⟩ := rx
  obtain ⟨t', rfl⟩ := ry
  exact lt_str (fin_bl I q rfl)
/-- the one string within the other -/
theorem op_in_str : OpR X (compareOp .In) (fun x y H Q => ∃ i j, x = .str i ∧ y = .str j ∧ Q (.bl (!(Builtin.Str.occurrences j i 0 j.length 1).isEmpty)) H) := by
  intro pins s σ H x y v u Q I rx ry h
  obtain ⟨i, j, rfl, rfl, q⟩ := h
  obtain ⟨t, rfl⟩ := rx
  obtain ⟨t', rfl⟩ := ry
  exact in_str (fin_bl I q rfl)

/-- is None, is not None: the right side a value none -/
theorem op_isN : OpR X (compareOp .Is) (fun x y H Q => y = .non ∧ Q (.bl (decide (x = .non))) H) := by
  intro pins s σ H x y v u Q I rx ry h
  obtain ⟨rfl, q⟩ := h
  cases ry
  refine is_none_gen (fin_bl I q ?_)
  cases x <;> first
    | (cases rx; rfl)
    | (obtain ⟨t, rfl⟩ := rx; rfl)
theorem op_notN : OpR X (compareOp .IsNot) (fun x y H Q => y = .non ∧ Q (.bl (!decide (x = .non))) H) := by
  intro pins s σ H x y v u Q I rx ry h
  obtain ⟨rfl, q⟩ := h
  cases ry
  refine isnot_none_gen (fin_bl I q ?_)
  cases x <;> first
    | (cases rx; rfl)
    | (obtain ⟨t, rfl⟩ := rx; rfl)

theorem op_notin_str : OpR X (compareOp .NotIn) (fun x y H Q => ∃ i j, x = .str i ∧ y = .str j ∧ Q (.bl (!(!(Builtin.Str.occurrences j i 0 j.length 1).isEmpty))) H) := by
  intro pins s σ H x y v u Q I rx ry h
  obtain ⟨i, j, rfl, rfl, q⟩ := h
  obtain ⟨t, rfl⟩ := rx
  obtain ⟨t', rfl⟩ := ry
  exact notIn_str (fin_bl I q rfl)
/-- is, is not of two objects that are tracked lists or instances -/
def isObj : HO → Bool
  | .lst _ => true
  | .ins _ _ _ => true
  | _ => false
theorem obj_there {pins : List (Addr × Obj)} {s : Shared} {σ : St} {H : Hp} {a : Addr} {o : HO} (I : Inv X pins σ H s) (h : H a = some o) (p : isObj o = true) : ∃ ob, s.heap.get? a = some ob ∧ ob.cls ≠ .type "tuple" := by
  cases o with
  | lst xs =>
    obtain ⟨_, its, n, _, e⟩ : xs.length ≤ sizeLine ∧ ∃ (its : List Value) (n : Nat), Vals xs its ∧ s.heap.get? a = some { cls := .type "list", data := .seq its.toArray n } := I.hok a _ h
    exact ⟨_, e, (by show Value.type "list" ≠ .type "tuple"; decide +kernel)⟩
  | ins C dx fs =>
    have x := I.hok a _ h
    obtain ⟨_, _, _, e, _⟩ := x
    exact ⟨_, e, (by show Value.ref C ≠ .type "tuple"; exact fun z => by cases z)⟩
  | _ => exact absurd (show false = true from p) Bool.false_ne_true
theorem op_is_ref : OpR X (compareOp .Is) (fun x y H Q => ∃ a b oa ob, x = .ref a ∧ y = .ref b ∧ H a = some oa ∧ isObj oa = true ∧ H b = some ob ∧ isObj ob = true ∧ Q (.bl (decide (a = b))) H) := by
  intro pins s σ H x y v u Q I rx ry h
  obtain ⟨a, b, oa, ob, rfl, rfl, ha, pa, hb, pb, q⟩ := h
  cases rx
  cases ry
  obtain ⟨o1, e1, n1⟩ := obj_there I ha pa
  obtain ⟨o2, e2, _⟩ := obj_there I hb pb
  by_cases z : a = b
  · subst z
    exact wpAny_is_ref_self (fin_bl I q (by simp))
  · exact wpAny_is_ref_other z e1 e2 n1 (fin_bl I q (by simp [z]))
theorem op_isnot_ref : OpR X (compareOp .IsNot) (fun x y H Q => ∃ a b oa ob, x = .ref a ∧ y = .ref b ∧ H a = some oa ∧ isObj oa = true ∧ H b = some ob ∧ isObj ob = true ∧ Q (.bl (!decide (a = b))) H) := by
  intro pins s σ H x y v u Q I rx ry h
  obtain ⟨a, b, oa, ob, rfl, rfl, ha, pa, hb, pb, q⟩ := h
  cases rx
  cases ry
  obtain ⟨o1, e1, n1⟩ := obj_there I ha pa
  obtain ⟨o2, e2, _⟩ := obj_there I hb pb
  by_cases z : a = b
  · subst z
    exact wpAny_isNot_ref_self (fin_bl I q (by simp))
  · exact wpAny_isNot_ref_other z e1 e2 n1 (fin_bl I q (by simp [z]))

/-- two rules for one operation: by cases -/
theorem OpR.or {f : Value → Value → Sem Value} {r r' : R2} (h : OpR X f r) (h' : OpR X f r') : OpR X f (fun x y H Q => r x y H Q ∨ r' x y H Q) := by
  intro pins s σ H x y v u Q I rx ry q
  rcases q with q | q
  · exact h pins s σ H x y v u Q I rx ry q
  · exact h' pins s σ H x y v u Q I rx ry q

theorem nomark (b : Expr) {op : CmpOp} (h : op ≠ .In := by decide) (h2 : op ≠ .NotIn := by decide) : behindInMarks op b = false := by
  have e1 : (op == CmpOp.In) = false := by cases op <;> first | rfl | exact absurd rfl h
  have e2 : (op == CmpOp.NotIn) = false := by cases op <;> first | rfl | exact absurd rfl h2
  cases b <;> simp [behindInMarks, e1, e2]
/-- a comparison as a value; hm: nomark b, or (for in, not in) by with_unfolding_all rfl -/
theorem pe_cmpR {op : CmpOp} {r : R2} (ho : OpR X (compareOp op) r) (ha : PE X a ta) (hb : PE X b tb) (hm : behindInMarks op b = false) : PE X (.Compare a [op] [b] pos) (tOp r ta tb) := by
  intro pins s σ H Q I h
  exact wpAny_Compare1 (binT ha hb I h fun v u s2 x y H2 I2 rx ry q => ho pins s2 σ H2 x y v u Q I2 rx ry q) hm
/-- a reading of a value as a test -/
def tTest (t : TE) : TT := fun σ H Q => t σ H fun x H' => ∃ k, x = .bl k ∧ Q k H'
theorem pt_cmpR {op : CmpOp} {r : R2} (ho : OpR X (compareOp op) r) (ha : PE X a ta) (hb : PE X b tb) (hm : behindInMarks op b = false) : PT X (.Compare a [op] [b] pos) (tTest (tOp r ta tb)) := by
  intro pins s σ H Q I h
  refine wpAny_isTrue_Compare1 (thn (ha pins s σ H _ I h) fun v s1 ⟨x, H1, I1, r1, q1⟩ => thn (hb pins s1 σ H1 _ I1 q1) fun u s2 ⟨y, H2, I2, r2, q2⟩ =>
    thn (ho pins s2 σ H2 x y v u _ I2 r1 r2 q2) fun c s3 ⟨z, H3, I3, r3, k, e, q3⟩ => ?_) hm
  subst e
  cases r3
  exact wpAny_truthy_bool ⟨H3, I3, q3⟩
/-- a op1 b op2 c -/
def tChain (r r' : R2) (ta tb tc : TE) : TE := fun σ H Q => ta σ H fun x H1 => tb σ H1 fun y H2 => r x y H2 fun z H3 => ∃ k, z = .bl k ∧
  (if k = true then tc σ H3 fun w' H4 => r' y w' H4 Q else Q (.bl false) H3)
theorem pe_chain {op op' : CmpOp} {r r' : R2} (ho : OpR X (compareOp op) r) (ho' : OpR X (compareOp op') r') (ha : PE X a ta) (hb : PE X b tb) (hc : PE X c tc)
    (hm : lastMarks [op, op'] [b, c] = false := by with_unfolding_all rfl) : PE X (.Compare a [op, op'] [b, c] pos) (tChain r r' ta tb tc) := by
  intro pins s σ H Q I h
  refine Compare_chain (thn (ha pins s σ H _ I h) fun v s1 ⟨x, H1, I1, r1, q1⟩ => chain_link (thn (hb pins s1 σ H1 _ I1 q1) fun u s2 ⟨y, H2, I2, r2, q2⟩ =>
    thn (ho pins s2 σ H2 x y v u _ I2 r1 r2 q2) fun d s3 ⟨z, H3, I3, r3, k, e, q3⟩ => ?_)) hm
  subst e
  cases r3
  refine wpAny_truthy_bool ?_
  cases k with
  | false => exact ite_ff ⟨.bl false, H3, I3, rfl, q3⟩
  | true => exact ite_tt (chain_last (thn (hc pins s3 σ H3 _ I3 q3) fun w' s4 ⟨z', H4, I4, r4, q4⟩ => ho' pins s4 σ H4 y z' u w' Q I4 r2 r4 q4))
theorem pt_chain {op op' : CmpOp} {r r' : R2} (ho : OpR X (compareOp op) r) (ho' : OpR X (compareOp op') r') (ha : PE X a ta) (hb : PE X b tb) (hc : PE X c tc)
    (hm : lastMarks [op, op'] [b, c] = false := by with_unfolding_all rfl) : PT X (.Compare a [op, op'] [b, c] pos) (tTest (tChain r r' ta tb tc)) := by
  intro pins s σ H Q I h
  refine isTrue_chain (thn (ha pins s σ H _ I h) fun v s1 ⟨x, H1, I1, r1, q1⟩ => test_link (thn (hb pins s1 σ H1 _ I1 q1) fun u s2 ⟨y, H2, I2, r2, q2⟩ =>
    thn (ho pins s2 σ H2 x y v u _ I2 r1 r2 q2) fun d s3 ⟨z, H3, I3, r3, k, e, q3⟩ => ?_)) hm
  subst e
  cases r3
  refine wpAny_truthy_bool ?_
  cases k with
  | false =>
    obtain ⟨k', e', q'⟩ := q3
    cases e'
    exact ite_ff ⟨H3, I3, q'⟩
  | true =>
    refine ite_tt (test_last (thn (hc pins s3 σ H3 _ I3 q3) fun w' s4 ⟨z', H4, I4, r4, q4⟩ => thn (ho' pins s4 σ H4 y z' u w' _ I4 r2 r4 q4) fun d' s5 ⟨z2, H5, I5, r5, k2, e2, q5⟩ => ?_))
    subst e2
    cases r5
    exact wpAny_truthy_bool ⟨H5, I5, q5⟩

/-! ### truth -/
/-- a value's truth by the abstract heap -/
def TruV (K : PySem.W.Frag) (x : V) (H : Hp) (k : Bool) : Prop :=
  match x with
  | .non => k = false
  | .bl b => k = b
  | .int i => k = (i != 0)
  | .str y => y.length ≤ sizeLine ∧ k = ((y.length : Int) != 0)
  | .byt y => y.size ≤ sizeLine ∧ k = ((y.size : Int) != 0)
  | .ref p => (∃ xs, SqL K H p xs ∧ k = !xs.isEmpty) ∨ (∃ xs, SqT K H p xs ∧ k = !xs.isEmpty) ∨ ∃ kvs, H p = some (.dK kvs) ∧ k = !kvs.isEmpty
  | _ => False
theorem isEmpty_kv {κ : Type} {kvs : List (κ × V)} {vs : List (κ × Value)} (r : KV kvs vs) : (!vs.isEmpty) = !kvs.isEmpty := by
  cases r <;> rfl
theorem isEmpty_of {xs : List V} {its : List Value} (r : Vals xs its) : (!its.toArray.isEmpty) = !xs.isEmpty := by
  cases r <;> simp
theorem line63 : (sizeLine : Nat) < 2 ^ 63 := by rw [sizeLine_eq]; decide
theorem tru_ok : TruR X (fun x H Q => ∃ k, TruV X.K x H k ∧ Q k H) := by
  intro pins s σ H x v Q I rx h
  obtain ⟨k, e, q⟩ := h
  have hl := line63
  have hs : sizeLine = 16777216 := sizeLine_eq
  cases x with
  | non =>
    cases rx
    have e' : k = false := e
    subst e'
    exact truthy_none ⟨H, I, q⟩
  | bl b =>
    cases rx
    have e' : k = b := e
    subst e'
    exact wpAny_truthy_bool ⟨H, I, q⟩
  | int i =>
    obtain ⟨t, rfl⟩ := rx
    have e' : k = (i != 0) := e
    subst e'
    exact PySem.P.truthy_int ⟨H, I, q⟩
  | str y =>
    obtain ⟨t, rfl⟩ := rx
    obtain ⟨hy, e'⟩ : y.length ≤ sizeLine ∧ k = ((y.length : Int) != 0) := e
    subst e'
    exact PySem.P.truthy_str (by omega) ⟨H, I.tok _, q⟩
  | byt y =>
    obtain ⟨t, rfl⟩ := rx
    obtain ⟨hy, e'⟩ : y.size ≤ sizeLine ∧ k = ((y.size : Int) != 0) := e
    subst e'
    exact PySem.W.truthy_bytes (by omega) ⟨H, I.tok _, q⟩
  | ref p =>
    cases rx
    have e' : (∃ xs, SqL X.K H p xs ∧ k = !xs.isEmpty) ∨ (∃ xs, SqT X.K H p xs ∧ k = !xs.isEmpty) ∨ ∃ kvs, H p = some (.dK kvs) ∧ k = !kvs.isEmpty := e
    rcases e' with ⟨xs, hx, e'⟩ | ⟨xs, hx, e'⟩ | ⟨kvs, hx, e'⟩
    · subst e'
      obtain ⟨its, r, pl, hz⟩ := I.list hx
      have hlen := r.length
      exact wpAny_truthy_list pl.isList (by simp only [List.size_toArray]; omega) ⟨H, I.tok _, by rw [isEmpty_of r]; exact q⟩
    · subst e'
      obtain ⟨its, r, pl, hz⟩ := I.tuple hx
      have hlen := r.length
      exact truthy_tuple pl (by simp only [List.size_toArray]; omega) ⟨H, I.tok _, by rw [isEmpty_of r]; exact q⟩
    · subst e'
      obtain ⟨hz, hS, vs, r, m⟩ : kvs.length ≤ sizeLine ∧ (p == sysModules) = false ∧ ∃ vs, KV kvs vs ∧ s.heap.DictOf (mixKind X.prog X.w) p vs := I.hok p _ hx
      have hlen : kvs.length = vs.length := Paired.length r
      exact wpAny_truthy_dict hS m (by omega) ⟨H, I.tok _, by rw [isEmpty_kv r]; exact q⟩
  | _ => exact (show False from e).elim
/-- any expression whose test is its value's truth (a name, a call, a subscript, a field ..: he by fun _ => rfl) -/
theorem pt_truth (ha : PE X a ta) (he : ∀ whole, isTrue a X.env whole = (do let v ← whole; standAt a.pos; holding [v] (truthy v))) :
    PT X a (fun σ H Q => ta σ H fun x H' => ∃ k, TruV X.K x H' k ∧ Q k H') := by
  intro pins s σ H Q I h
  exact isTrue_plain (thn (ha pins s σ H _ I h) fun v s1 ⟨x, H1, I1, r1, q1⟩ => tru_ok pins s1 σ H1 x v Q I1 r1 q1) (he _)

/-! ### strs and bytes -/
theorem pe_byt {x : List UInt8} {k : Nat} : PE X (.Constant (.bytes x) k pos) (fun _ H Q => Q (.byt x.toArray) H) := fun _ _ _ H _ I h => PySem.W.Constant_bytes ⟨.byt x.toArray, H, I.tok _, ⟨_, rfl⟩, h⟩
theorem op_add_str : OpR X (binaryOp .Add) (fun x y H Q => ∃ i j, x = .str i ∧ y = .str j ∧ i.length + j.length ≤ sizeLine ∧ Q (.str (i ++ j)) H) := by
  intro pins s σ H x y v u Q I rx ry h
  obtain ⟨i, j, rfl, rfl, hz, q⟩ := h
  obtain ⟨t, rfl⟩ := rx
  obtain ⟨t', rfl⟩ := ry
  exact add_str (fun t' tk => ⟨.str (i ++ j), H, I.tok _, ⟨_, rfl⟩, q⟩) hz
theorem iop_add_str : OpR X (inplaceOp .Add) (fun x y H Q => ∃ i j, x = .str i ∧ y = .str j ∧ i.length + j.length ≤ sizeLine ∧ Q (.str (i ++ j)) H) := by
  intro pins s σ H x y v u Q I rx ry h
  obtain ⟨i, j, rfl, rfl, hz, q⟩ := h
  obtain ⟨t, rfl⟩ := rx
  obtain ⟨t', rfl⟩ := ry
  exact iadd_str (fun t' tk => ⟨.str (i ++ j), H, I.tok _, ⟨_, rfl⟩, q⟩) hz
theorem op_add_byt : OpR X (binaryOp .Add) (fun x y H Q => ∃ i j, x = .byt i ∧ y = .byt j ∧ i.size + j.size ≤ 16777216 ∧ Q (.byt (i ++ j)) H) := by
  intro pins s σ H x y v u Q I rx ry h
  obtain ⟨i, j, rfl, rfl, hz, q⟩ := h
  obtain ⟨t, rfl⟩ := rx
  obtain ⟨t', rfl⟩ := ry
  exact PySem.W.KBy.add_bytes hz (fun t' tk => ⟨.byt (i ++ j), H, I.tok _, ⟨_, rfl⟩, q⟩)

def PlainIxT (b : Expr) : Prop := ∀ o i, subscripted b false o i = operate [o, i] (getItem o i)
/-- s[i], 0 ≤ i < len -/
theorem pe_item_str (ha : PE X a ta) (hb : PE X b tb) (hs : PlainIxT b) :
    PE X (.Subscript a b pos) (tOp (fun x y H Q => ∃ z i c, x = .str z ∧ y = .int i ∧ 0 ≤ i ∧ i < 2 ^ 63 ∧ i < z.length ∧ z.cps[i.toNat]? = some c ∧ Q (.str ⟨#[c]⟩) H) ta tb) := by
  intro pins s σ H Q I h
  refine Subscript_ (binT ha hb I h fun v u s2 x y H2 I2 rx ry q => ?_)
  obtain ⟨z, i, c, rfl, rfl, h0, h63, h1, hc, q⟩ := q
  obtain ⟨t, rfl⟩ := rx
  obtain ⟨t', rfl⟩ := ry
  have e : seqIndex? i z.length = some i.toNat := PySem.StrLaws.seqIndex_nonneg h0 h1
  exact tail_any (typeIs_str s2 z t) slot_str_getitem.lookup (getItem_str (c := c) (by
    have e1 : decide (i < -(2 ^ 63 : Int)) = false := decide_eq_false (by omega)
    have e2 : decide (i ≥ 2 ^ 63) = false := decide_eq_false (by omega)
    rw [e1, e2] <;> rfl) (by rw [e]; exact hc) ⟨.str ⟨#[c]⟩, H2, I2.tok _, ⟨_, rfl⟩, q⟩) (hs _ _)
/-- b[i], 0 ≤ i < len -/
theorem pe_item_byt (ha : PE X a ta) (hb : PE X b tb) (hs : PlainIxT b) :
    PE X (.Subscript a b pos) (tOp (fun x y H Q => ∃ (z : List UInt8) (i : Int), x = .byt z.toArray ∧ y = .int i ∧ z.length ≤ sizeLine ∧ 0 ≤ i ∧ i < z.length ∧ Q (.int ((z.getD i.toNat 0).toNat : Nat)) H) ta tb) := by
  intro pins s σ H Q I h
  refine Subscript_ (binT ha hb I h fun v u s2 x y H2 I2 rx ry q => ?_)
  obtain ⟨z, i, rfl, rfl, hz, h0, h1, q⟩ := q
  obtain ⟨t, rfl⟩ := rx
  obtain ⟨t', rfl⟩ := ry
  have hl : sizeLine = 16777216 := sizeLine_eq
  exact tail_any (PySem.W.typeIs_bytes s2 z.toArray t) PySem.W.FB.slot_bytes_getitem.lookup (PySem.W.getItem_bytes (by omega) h0 h1 ⟨.int ((z.getD i.toNat 0).toNat : Nat), H2, I2.tok _, ⟨_, rfl⟩, q⟩) (hs _ _)

/-! ### scalar builtins, by CallR -/
theorem vals1 {x : V} {us : List Value} (r : Vals [x] us) : ∃ u, us = [u] ∧ RelV x u := by
  cases r with
  | cons r1 r2 => cases r2; exact ⟨_, rfl, r1⟩
theorem vals2 {x y : V} {us : List Value} (r : Vals [x, y] us) : ∃ u w', us = [u, w'] ∧ RelV x u ∧ RelV y w' := by
  cases r with
  | cons r1 r2 =>
    cases r2 with
    | cons r3 r4 => cases r4; exact ⟨_, _, rfl, r1, r3⟩
theorem call_abs : CallR X (.builtin "abs") (fun xs H Q => ∃ i, xs = [.int i] ∧ Q (.int (if i < 0 then -i else i)) H) := by
  intro pins s σ H xs us Q I r h
  obtain ⟨i, rfl, q⟩ := h
  obtain ⟨u, rfl, t, rfl⟩ := vals1 r
  exact call_abs_int fun u tk => ⟨.int (if i < 0 then -i else i), H, I.tok _, ⟨_, rfl⟩, q⟩
theorem call_max2 (hc : X.calm = true) : CallR X (.builtin "max") (fun xs H Q => ∃ i j, xs = [.int i, .int j] ∧ Q (.int (if j > i then j else i)) H) := by
  intro pins s σ H xs us Q I r h
  obtain ⟨i, j, rfl, q⟩ := h
  obtain ⟨u, w', rfl, ⟨t, rfl⟩, ⟨t', rfl⟩⟩ := vals2 r
  refine max_two_ints (I.ok.hd hc) fun h' tk k => ⟨_, H, I.kept k, ?_, q⟩
  by_cases hj : j > i
  · rw [if_pos hj, if_pos hj]; exact ⟨_, rfl⟩
  · rw [if_neg hj, if_neg hj]; exact ⟨_, rfl⟩
theorem call_min2 (hc : X.calm = true) : CallR X (.builtin "min") (fun xs H Q => ∃ i j, xs = [.int i, .int j] ∧ Q (.int (if j < i then j else i)) H) := by
  intro pins s σ H xs us Q I r h
  obtain ⟨i, j, rfl, q⟩ := h
  obtain ⟨u, w', rfl, ⟨t, rfl⟩, ⟨t', rfl⟩⟩ := vals2 r
  refine min_two_ints (I.ok.hd hc) fun h' tk k => ⟨_, H, I.kept k, ?_, q⟩
  by_cases hj : j < i
  · rw [if_pos hj, if_pos hj]; exact ⟨_, rfl⟩
  · rw [if_neg hj, if_neg hj]; exact ⟨_, rfl⟩
theorem call_int1 : CallR X (.type "int") (fun xs H Q => (∃ i, xs = [.int i] ∧ Q (.int i) H) ∨ ∃ k, xs = [.bl k] ∧ Q (.int (if k then 1 else 0)) H) := by
  intro pins s σ H xs us Q I r h
  rcases h with ⟨i, rfl, q⟩ | ⟨k, rfl, q⟩
  · obtain ⟨u, rfl, t, rfl⟩ := vals1 r
    exact call_int_int ⟨.int i, H, I, ⟨_, rfl⟩, q⟩
  · obtain ⟨u, rfl, r1⟩ := vals1 r
    cases r1
    exact call_int_bool ⟨.int (if k then 1 else 0), H, I.tok _, ⟨_, rfl⟩, q⟩
theorem call_bool1 : CallR X (.type "bool") (fun xs H Q => (∃ i, xs = [.int i] ∧ Q (.bl (i != 0)) H) ∨ ∃ k, xs = [.bl k] ∧ Q (.bl k) H) := by
  intro pins s σ H xs us Q I r h
  rcases h with ⟨i, rfl, q⟩ | ⟨k, rfl, q⟩
  · obtain ⟨u, rfl, t, rfl⟩ := vals1 r
    exact call_bool_int ⟨.bl (i != 0), H, I, rfl, q⟩
  · obtain ⟨u, rfl, r1⟩ := vals1 r
    cases r1
    exact call_bool_bool ⟨.bl k, H, I, rfl, q⟩
theorem call_str_int : CallR X (.type "str") (fun xs H Q => ∃ i, xs = [.int i] ∧ i.natAbs.log2 < 1920 ∧ Q (.str (toString i)) H) := by
  intro pins s σ H xs us Q I r h
  obtain ⟨i, rfl, hz, q⟩ := h
  obtain ⟨u, rfl, t, rfl⟩ := vals1 r
  exact PySem.P.str_of_int hz ⟨.str _, H, I.tok _, ⟨_, rfl⟩, q⟩
theorem call_ord : CallR X (.builtin "ord") (fun xs H Q => ∃ x, xs = [.str x] ∧ x.length = 1 ∧ Q (.int (x.cps.getD 0 0 : Nat)) H) := by
  intro pins s σ H xs us Q I r h
  obtain ⟨x, rfl, hz, q⟩ := h
  obtain ⟨u, rfl, t, rfl⟩ := vals1 r
  exact ord_of_one hz ⟨.int _, H, I.tok _, ⟨_, rfl⟩, q⟩
theorem call_chr : CallR X (.builtin "chr") (fun xs H Q => ∃ i, xs = [.int i] ∧ 0 ≤ i ∧ i ≤ 1114111 ∧ Q (.str ⟨#[i.toNat]⟩) H) := by
  intro pins s σ H xs us Q I r h
  obtain ⟨i, rfl, h0, h1, q⟩ := h
  obtain ⟨u, rfl, t, rfl⟩ := vals1 r
  exact chr_of_range h0 h1 ⟨.str _, H, I.tok _, ⟨_, rfl⟩, q⟩
/-- len of a str, a bytes, a list, a tuple -/
def LenV (K : PySem.W.Frag) (x : V) (H : Hp) (n : Nat) : Prop :=
  match x with
  | .str y => y.length ≤ sizeLine ∧ n = y.length
  | .byt y => y.size ≤ sizeLine ∧ n = y.size
  | .ref p => (∃ xs, SqL K H p xs ∧ n = xs.length) ∨ ∃ xs, SqT K H p xs ∧ n = xs.length
  | _ => False
theorem call_len : CallR X (.builtin "len") (fun xs H Q => ∃ x n, xs = [x] ∧ LenV X.K x H n ∧ Q (.int n) H) := by
  intro pins s σ H xs us Q I r h
  obtain ⟨x, n, rfl, e, q⟩ := h
  obtain ⟨u, rfl, rx⟩ := vals1 r
  have hl := line63
  have hs : sizeLine = 16777216 := sizeLine_eq
  cases x with
  | str y =>
    obtain ⟨t, rfl⟩ := rx
    obtain ⟨hy, e'⟩ : y.length ≤ sizeLine ∧ n = y.length := e
    subst e'
    exact len_str (by omega) ⟨.int _, H, I.tok _, ⟨_, rfl⟩, q⟩
  | byt y =>
    obtain ⟨t, rfl⟩ := rx
    obtain ⟨hy, e'⟩ : y.size ≤ sizeLine ∧ n = y.size := e
    subst e'
    exact PySem.W.len_bytes (by omega) ⟨.int _, H, I.tok _, ⟨_, rfl⟩, q⟩
  | ref p =>
    cases rx
    have e' : (∃ xs, SqL X.K H p xs ∧ n = xs.length) ∨ ∃ xs, SqT X.K H p xs ∧ n = xs.length := e
    rcases e' with ⟨xs, hx, e'⟩ | ⟨xs, hx, e'⟩
    · subst e'
      obtain ⟨its, r', pl, hz⟩ := I.list hx
      have hlen := r'.length
      exact Calls.call_len_list pl.isList (by simp only [List.size_toArray]; omega) ⟨.int xs.length, H, I.tok _, ⟨_, by simp only [List.size_toArray]; rw [hlen]⟩, q⟩
    · subst e'
      obtain ⟨its, r', pl, hz⟩ := I.tuple hx
      have hlen := r'.length
      exact len_tuple pl (by simp only [List.size_toArray]; omega) ⟨.int xs.length, H, I.tok _, ⟨_, by simp only [List.size_toArray]; rw [hlen]⟩, q⟩
  | _ => exact (show False from e).elim
/-- divmod: a new tuple -/
theorem call_divmod : CallR X (.builtin "divmod") (fun xs H Q => ∃ i j, xs = [.int i, .int j] ∧ CDiv i j ∧ ∀ p, H p = none → Q (.ref p) (upd H p (.tup [.int (i / j), .int (i % j)]))) := by
  intro pins s σ H xs us Q I r h
  obtain ⟨i, j, rfl, ⟨h1, h2⟩, q⟩ := h
  obtain ⟨u, w', rfl, ⟨t, rfl⟩, ⟨t', rfl⟩⟩ := vals2 r
  refine divmod_int (by omega) ?_ (.inl (PyProof.noPylong_small (by omega)))
  rw [Int.fdiv_eq_ediv_of_nonneg i (by omega), Int.fmod_eq_emod_of_nonneg i (by omega)]
  have hn : H s.heap.objs.size = none := I.hok.fresh (Nat.le_refl _)
  refine ⟨.ref s.heap.objs.size, _, ?_, rfl, q _ hn⟩
  refine I.laid (fun b o e => Heap.get?_push_of_some _ e) (Nat.le_refl _) ⟨by simp only [List.length_cons, List.length_nil]; rw [sizeLine_eq]; decide, [.int (i / j) s.toks, .int (i % j) (s.toks + 1)], .cons ⟨_, rfl⟩ (.cons ⟨_, rfl⟩ .nil), ?_⟩
  exact ⟨_, Heap.get?_push_size s.heap rfl, rfl, 0, rfl⟩
end
end L2

namespace L2
open PySem PySem.Spec PyProof.Rows

/-! ### an instance, its attributes a map -/
structure ObjM (h : Heap) (x dx C : Addr) (mA : Str → Option Value) : Prop where
  obj : h.get? x = some (PySem.W.instObj C dx)
  ns : h.Ns1 dx mA
  ne : dx ≠ x

theorem lookIn_ns {h : Heap} {dx : Addr} {mA : Str → Option Value} (n : h.Ns1 dx mA) : ∃ od, h.get? dx = some od ∧ ∀ name, PySem.W.lookIn name od = some (mA name) := by
  obtain ⟨o, es, ep, ho, hd, hk, _, hm⟩ := n
  refine ⟨o, ho, fun name => ?_⟩
  have e := hm name
  unfold nsFind findBy at e
  rw [← Array.find?_toList] at e
  unfold PySem.W.lookIn
  rw [hd]
  dsimp only
  split
  · rename_i y q
    rw [q] at e
    exact congrArg some e
  · rename_i q
    rw [q] at e
    have a : es.toList.any (·.refKey) = false := by
      rw [List.any_eq_false]
      intro y hy
      obtain ⟨z, t, hkey⟩ := hk y (Array.mem_toList_iff.mp hy)
      simp [DictEntry.refKey, hkey]
    have a' : ¬ es.toList.any (·.refKey) = true := by rw [a]; exact Bool.false_ne_true
    rw [if_neg a']
    exact congrArg some e

theorem ObjM.look {h : Heap} {x dx C : Addr} {mA : Str → Option Value} (I : ObjM h x dx C mA) : ∃ od, PySem.W.InstAt h x (PySem.W.instObj C dx) C (some od) ∧ ∀ name, PySem.W.lookIn name od = some (mA name) :=
  let ⟨od, ho, hl⟩ := lookIn_ns I.ns
  ⟨od, ⟨I.obj, rfl, rfl, ho⟩, hl⟩

section
variable {prog : Program} {w : World} {A : Around} {E : Value → Shared → Prop} {s : Shared} {K : PySem.W.Frag} {x dx C f : Addr} {mA : Str → Option Value} {name : Str} {v : Value}

theorem get_map {expr : Bool} {Q : Value → Shared → Prop} (X : K.In s.heap) (I : ObjM s.heap x dx C mA) (hg : PySem.W.plainGet K C name = true) (hh : PySem.W.hasDictIn K C = true)
    (ha : PySem.W.findIn K (.ref C) name = some none) (hv : mA name = some v) (hv' : PySem.W.handedIn v = true) (h : Q v { s with toks := s.toks + 1 }) :
    wpAny (model prog w) A (getAttr (.ref x) name expr) Q E s := by
  obtain ⟨od, J, hl⟩ := I.look
  exact PySem.W.get_value X J (PySem.W.plainGet_of hg).1 (PySem.W.findObj_own hh ha rfl (by rw [hl, hv])) hv' h

theorem get_const {expr : Bool} {a : Value} {Q : Value → Shared → Prop} (X : K.In s.heap) (I : ObjM s.heap x dx C mA) (hg : PySem.W.plainGet K C name = true) (hh : PySem.W.hasDictIn K C = true)
    (ha : PySem.W.findIn K (.ref C) name = some (some a)) (hn : PySem.W.specialIn K a "__get__" = some none) (hc : PySem.W.copiedNames.contains name = false) (hv : mA name = none) (hv' : PySem.W.handedIn a = true)
    (h : Q a { s with toks := s.toks + 1 }) : wpAny (model prog w) A (getAttr (.ref x) name expr) Q E s := by
  obtain ⟨od, J, hl⟩ := I.look
  exact PySem.W.get_value X J (PySem.W.plainGet_of hg).1 (PySem.W.findObj_cls hh ha hn hv' hc (by rw [hl, hv])) hv' h

theorem get_meth {pl : Sem Bool} {Q : Value × List Value → Shared → Prop} (X : K.In s.heap) (I : ObjM s.heap x dx C mA) (hg : PySem.W.plainGet K C name = true)
    (hf : PySem.W.findIn K (.ref C) name = some (some (.ref f))) (ht : PySem.W.isFn K (.ref f) = true) (hv : mA name = none) (h : Q (.ref f, [.ref x]) s) :
    wpAny (model prog w) A (getMethod (.ref x) name pl) Q E s := by
  obtain ⟨od, J, hl⟩ := I.look
  exact PySem.W.method_fn X J (PySem.W.plainGet_of hg).1 (PySem.W.plainGet_of hg).2 hf (beq_iff_eq.mp ht) (by show (PySem.W.lookIn name od).map (·.isSome) = some false; rw [hl, hv]; rfl) h

theorem set_map {ns : List Str} {Q : Unit → Shared → Prop} (X : K.In s.heap) (I : ObjM s.heap x dx C mA)
    (hs : PySem.W.findIn K (.ref C) "__setattr__" = some (some (.builtin "object.__setattr__"))) (hp : PySem.W.plainOver K C = true) (ht : PySem.W.takerIn K C name = some none) (hh : PySem.W.hasDictIn K C = true)
    (hw : PySem.Within mA ns) (hsz : ns.length ≤ sizeLine)
    (h : ∀ h', ObjM h' x dx C (fun y => if y = name then some v else mA y) → Heap.SameBut dx s.heap h' → Q () { s with heap := h', toks := s.toks + 2 }) :
    wpAny (model prog w) A (setAttr (.ref x) name v) Q E s := by
  obtain ⟨od, J, hl⟩ := I.look
  refine PySem.W.set_plain X J hs (PySem.W.osa_open (s := { s with toks := s.toks + 1 }) (r := none) X J hp ht fun b => ?_)
  obtain ⟨cd, hc, hd'⟩ := PySem.W.any_some hh
  have hx : s.heap.get? x = some ⟨.ref C, some dx, .plain, #[]⟩ := I.obj
  refine wpAny_bind (wpAny_pure (wpAny_bind (wpAny_bind (wpAny_loadPart hx (wpAny_bind (PySem.W.Looks.here (s := { s with toks := s.toks + 1 }) (PySem.W.looks_clsIn X hc) ?_))))))
  rw [hd']
  refine wpAny_pure (a := some dx) (wpAny_bind (wpAny_pure (wpAny_bind ?_)))
  refine wpAny_nsSet1 (s := { s with toks := s.toks + 1 }) I.ns fun h' hn2 hs2 => ?_
  obtain ⟨oD, esD, epD, hoD, hdD, hcD⟩ := hn2.count (PySem.Within.cons name v hw)
  refine wpAny_bind (wpAny_lookBehind hoD (by rw [hdD]; exact pastItsLine_dict (Nat.le_trans hcD (by rw [List.length_cons]; omega))) ?_)
  exact wpAny_pure (h _ ⟨(hs2.2 _ (Ne.symm I.ne)).trans I.obj, hn2, I.ne⟩ hs2)

/-- C(..): the dict at the heap's end, the instance behind it; then its __init__ -/
theorem make_map {R : Result → Shared → Prop} {vs : List Value} {kw : List (Str × Value)} (X : K.In s.heap) (hm : PySem.W.makesIn K C = true)
    (hi : PySem.W.findIn K (.ref C) "__init__" = some (some (.ref f))) (hf : PySem.W.typeIn K (.ref f) = some (.type "function"))
    (h : codeAny (model prog w) (A.under (.builtin "type.__call__" ⟨.ref C :: vs, kw⟩)) (.call (.ref f) ⟨.ref (s.heap.objs.size + 1) :: vs, kw⟩) (PySem.W.InitBack (s.heap.objs.size + 1) R)
      { s with heap := (s.heap.push PySem.W.emptyDict).push (PySem.W.instObj C s.heap.objs.size) }) :
    codeAny (model prog w) A (.call (.ref C) ⟨vs, kw⟩) R s := by
  obtain ⟨hh, g, d, t, os⟩ := s
  exact PySem.W.make_core (PySem.W.makes_of X hm) (PySem.W.looks_findIn X hi) (fun self => PySem.W.bind_fn X self hf) (.inl rfl) h
/-- C() where there is no __init__ but object's -/
theorem make_map0 {R : Result → Shared → Prop} (X : K.In s.heap) (hm : PySem.W.makesIn K C = true)
    (hi : PySem.W.findIn K (.ref C) "__init__" = some (some (.builtin "object.__init__")))
    (hb : ∀ self, PySem.W.Looks (model prog w) s.heap (bindSpecial (.builtin "object.__init__") self) (.builtin "object.__init__", [self]))
    (h : codeAny (model prog w) (A.under (.builtin "type.__call__" ⟨[.ref C], []⟩)) (.call (.builtin "object.__init__") ⟨[.ref (s.heap.objs.size + 1)], []⟩) (PySem.W.InitBack (s.heap.objs.size + 1) R)
      { s with heap := (s.heap.push PySem.W.emptyDict).push (PySem.W.instObj C s.heap.objs.size) }) :
    codeAny (model prog w) A (.call (.ref C) ⟨[], []⟩) R s := by
  obtain ⟨hh, g, d, t, os⟩ := s
  exact PySem.W.make_core (PySem.W.makes_of X hm) (PySem.W.looks_findIn X hi) hb (.inr ⟨rfl, rfl⟩) h
end

/-! ### the attributes as a list of pairs -/
def putF (f : Str) (v : V) : List (Str × V) → List (Str × V)
  | [] => [(f, v)]
  | (g, x) :: r => if g = f then (g, v) :: r else (g, x) :: putF f v r
theorem lookup_putF (f g : Str) (v : V) : ∀ fs : List (Str × V), (putF f v fs).lookup g = if g = f then some v else fs.lookup g
  | [] => by
    show List.lookup g [(f, v)] = _
    by_cases h : g = f
    · have hb : (g == f) = true := beq_iff_eq.mpr h
      simp only [List.lookup, hb, if_pos h]
    · have hb : (g == f) = false := beq_eq_false_iff_ne.mpr h
      simp only [List.lookup, hb, if_neg h]
  | (k, x) :: r => by
    have ih := lookup_putF f g v r
    rw [show putF f v ((k, x) :: r) = (if k = f then (k, v) :: r else (k, x) :: putF f v r) from rfl]
    by_cases hk : k = f
    · rw [if_pos hk]
      by_cases h : g = k
      · have hb : (g == k) = true := beq_iff_eq.mpr h
        simp only [List.lookup, hb, if_pos (h.trans hk)]
      · have hb : (g == k) = false := beq_eq_false_iff_ne.mpr h
        simp only [List.lookup, hb, if_neg (fun e : g = f => h (e.trans hk.symm))]
    · rw [if_neg hk]
      by_cases h : g = k
      · have hb : (g == k) = true := beq_iff_eq.mpr h
        simp only [List.lookup, hb, if_neg (fun e : g = f => hk (h.symm.trans e))]
      · have hb : (g == k) = false := beq_eq_false_iff_ne.mpr h
        simp only [List.lookup, hb]
        exact ih
theorem keys_putF (f : Str) (v : V) : ∀ fs : List (Str × V), f ∈ (putF f v fs).map (·.1) ∧ ∀ g, g ∈ fs.map (·.1) → g ∈ (putF f v fs).map (·.1)
  | [] => ⟨by simp [putF], fun g h => by simp at h⟩
  | (k, x) :: r => by
    obtain ⟨i1, i2⟩ := keys_putF f v r
    rw [show putF f v ((k, x) :: r) = (if k = f then (k, v) :: r else (k, x) :: putF f v r) from rfl]
    by_cases hk : k = f
    · rw [if_pos hk]
      subst hk
      exact ⟨by simp, fun g h => by simpa using h⟩
    · rw [if_neg hk]
      refine ⟨?_, fun g h => ?_⟩
      · rw [List.map_cons]
        exact List.mem_cons_of_mem _ i1
      · rw [List.map_cons] at h ⊢
        rcases List.mem_cons.mp h with e | e
        · exact List.mem_cons.mpr (.inl e)
        · exact List.mem_cons_of_mem _ (i2 g e)
theorem length_putF (f : Str) (v : V) : ∀ fs : List (Str × V), (putF f v fs).length ≤ fs.length + 1
  | [] => by simp [putF]
  | (k, x) :: r => by
    have ih := length_putF f v r
    rw [show putF f v ((k, x) :: r) = (if k = f then (k, v) :: r else (k, x) :: putF f v r) from rfl]
    by_cases hk : k = f
    · rw [if_pos hk, List.length_cons, List.length_cons]; omega
    · rw [if_neg hk, List.length_cons, List.length_cons]; omega

theorem RelO.some_of {v : V} {o : Option Value} (r : RelO (some v) o) : ∃ u, o = some u ∧ RelV v u := by
  cases o with
  | none => exact (show False from r).elim
  | some u => exact ⟨u, rfl, r⟩
theorem RelO.none_of {o : Option Value} (r : RelO none o) : o = none := by
  cases o with
  | none => rfl
  | some u => exact (show False from r).elim
theorem handed_of {v : V} {u : Value} (r : RelV v u) : PySem.W.handedIn u = true := by
  cases v with
  | non => cases (show u = Value.none from r); rfl
  | bl b => cases (show u = Value.bool b from r); rfl
  | int i => obtain ⟨t, e⟩ := (show ∃ t, u = Value.int i t from r); cases e; rfl
  | str x => obtain ⟨t, e⟩ := (show ∃ t, u = Value.str x t from r); cases e; rfl
  | byt b => obtain ⟨t, e⟩ := (show ∃ t, u = Value.bytes b t from r); cases e; rfl
  | flt b => obtain ⟨t, e⟩ := (show ∃ t, u = Value.float b t from r); cases e; rfl
  | ref a => cases (show u = Value.ref a from r); rfl
  | ty n => cases (show u = Value.type n from r); rfl

section
variable {P : Program} {w : World} {H H' : Hp} {h h' : Heap} {a C dx : Addr} {fs fs' : List (Str × V)}
theorem ins_get (hok : HOk P w H h) (e : H a = some (.ins C dx fs)) : ∃ mA, ObjM h a dx C mA ∧ (∀ f, RelO (fs.lookup f) (mA f)) ∧ PySem.Within mA (fs.map (·.1)) ∧ fs.length ≤ 1000 ∧ H dx = some (.own a) := by
  obtain ⟨d, z, ne, ob, mA, n, r, q⟩ := (show ObjOk P w H h a (.ins C dx fs) from hok a _ e)
  exact ⟨mA, ⟨ob, n, ne⟩, r, q, z, d⟩
end

/-! ### what of the text a class must have -/
structure Cls (K : PySem.W.Frag) (C : Addr) : Prop where
  pg : PySem.W.plainGet K C Str.empty = true
  hd : PySem.W.hasDictIn K C = true
  po : PySem.W.plainOver K C = true
  sa : PySem.W.findIn K (.ref C) "__setattr__" = some (some (.builtin "object.__setattr__"))
theorem Cls.get {K : PySem.W.Frag} {C : Addr} (c : Cls K C) (f : Str) : PySem.W.plainGet K C f = true := c.pg
/-- no class of it has the name -/
def NoAttr (K : PySem.W.Frag) (C : Addr) (f : Str) : Prop := PySem.W.findIn K (.ref C) f = some none
theorem NoAttr.taker {K : PySem.W.Frag} {C : Addr} {f : Str} (n : NoAttr K C f) : PySem.W.takerIn K C f = some none := by
  unfold PySem.W.takerIn
  rw [show PySem.W.findIn K (.ref C) f = some none from n]
  rfl
/-- a constant of the class -/
structure Con (K : PySem.W.Frag) (C : Addr) (f : Str) (v : V) (u : Value) : Prop where
  at_ : PySem.W.findIn K (.ref C) f = some (some u)
  rel : RelV v u
  get : PySem.W.specialIn K u "__get__" = some none
  cp : PySem.W.copiedNames.contains f = false
/-- a method: a plain def of the class or of one above it -/
structure Meth (K : PySem.W.Frag) (C : Addr) (m : Str) (f : Addr) : Prop where
  at_ : PySem.W.findIn K (.ref C) m = some (some (.ref f))
  fn : PySem.W.isFn K (.ref f) = true
  kp : PySem.W.keepIn K (.ref f) = true

section
variable {X : Cx} {pins : List (Addr × Obj)} {σ : St} {H : Hp} {s : Shared} {a C dx : Addr} {fs : List (Str × V)} {f : Str} {v : V} {A : Around} {E : Value → Shared → Prop}

theorem getattr_ok {b : Bool} {Q : Value → Shared → Prop} (I : Inv X pins σ H s) (e : H a = some (.ins C dx fs)) (c : Cls X.K C) (n : NoAttr X.K C f) (l : fs.lookup f = some v)
    (h : ∀ u s', Inv X pins σ H s' → RelV v u → Q u s') : wpAny (model X.prog X.w) A (getAttr (.ref a) f b) Q E s := by
  obtain ⟨mA, O, r, _, _, _⟩ := ins_get I.hok e
  obtain ⟨u, hu, ru⟩ := RelO.some_of (v := v) (o := mA f) (by rw [← l]; exact r f)
  exact get_map I.kIn O (c.get f) c.hd n hu (handed_of ru) (h u _ (I.tok _) ru)

theorem getcon_ok {b : Bool} {u : Value} {Q : Value → Shared → Prop} (I : Inv X pins σ H s) (e : H a = some (.ins C dx fs)) (c : Cls X.K C) (k : Con X.K C f v u) (l : fs.lookup f = none)
    (h : ∀ s', Inv X pins σ H s' → Q u s') : wpAny (model X.prog X.w) A (getAttr (.ref a) f b) Q E s := by
  obtain ⟨mA, O, r, _, _, _⟩ := ins_get I.hok e
  have hn : mA f = none := RelO.none_of (by rw [← l]; exact r f)
  exact get_const I.kIn O (c.get f) c.hd k.at_ k.get k.cp hn (handed_of k.rel) (h _ (I.tok _))

theorem getmeth_ok {m : Str} {g : Addr} {pl : Sem Bool} {Q : Value × List Value → Shared → Prop} (I : Inv X pins σ H s) (e : H a = some (.ins C dx fs)) (c : Cls X.K C) (k : Meth X.K C m g) (l : fs.lookup m = none)
    (h : Q (.ref g, [.ref a]) s) : wpAny (model X.prog X.w) A (getMethod (.ref a) m pl) Q E s := by
  obtain ⟨mA, O, r, _, _, _⟩ := ins_get I.hok e
  have hn : mA m = none := RelO.none_of (by rw [← l]; exact r m)
  exact get_meth I.kIn O (c.get m) k.at_ k.fn hn h

theorem setattr_ok {y : V} {u : Value} {Q : Unit → Shared → Prop} (I : Inv X pins σ H s) (e : H a = some (.ins C dx fs)) (c : Cls X.K C) (n : NoAttr X.K C f) (hl : fs.length < 1000) (ry : RelV y u)
    (h : ∀ s', Inv X pins σ (upd H a (.ins C dx (putF f y fs))) s' → Q () s') : wpAny (model X.prog X.w) A (setAttr (.ref a) f u) Q E s := by
  obtain ⟨mA, O, r, wi, _, ho⟩ := ins_get I.hok e
  have hz : (fs.map (·.1)).length ≤ sizeLine := by rw [List.length_map, sizeLine_eq]; omega
  refine set_map I.kIn O c.sa c.po n.taker c.hd wi hz fun h' O' sb => h _ ?_
  have hd : ∃ o, h'.get? dx = some o := let ⟨o, _, _, e', _⟩ := O'.ns; ⟨o, e'⟩
  refine I.write (x := a) (e := dx) (by rw [e]; exact True.intro) (.inr ho) (fun b q hb z => (sb.2 b hb).trans z) hd ?_
  refine ⟨by rw [upd_ne O.ne]; exact ho, ?_, O.ne, O'.obj, _, O'.ns, fun g => ?_, fun g hg => ?_⟩
  · have := length_putF f y fs; omega
  · show RelO ((putF f y fs).lookup g) (if g = f then some u else mA g)
    rw [lookup_putF]
    by_cases q : g = f
    · rw [if_pos q, if_pos q]; exact ry
    · rw [if_neg q, if_neg q]; exact r g
  · by_cases q : g = f
    · rw [q]; exact (keys_putF f y fs).1
    · refine (keys_putF f y fs).2 g (wi g fun z => hg ?_)
      show (if g = f then some u else mA g) = none
      rw [if_neg q]; exact z

/-- a new instance, tracked, without attributes -/
theorem Inv.made (I : Inv X pins σ H s) : Inv X pins σ (upd (upd H s.heap.objs.size (.own (s.heap.objs.size + 1))) (s.heap.objs.size + 1) (.ins C s.heap.objs.size []))
    { s with heap := (s.heap.push PySem.W.emptyDict).push (PySem.W.instObj C s.heap.objs.size) } := by
  have e1 : (s.heap.push PySem.W.emptyDict).get? s.heap.objs.size = some PySem.W.emptyDict := Heap.get?_push_size s.heap rfl
  have e2 : ((s.heap.push PySem.W.emptyDict).push (PySem.W.instObj C s.heap.objs.size)).get? (s.heap.objs.size + 1) = some (PySem.W.instObj C s.heap.objs.size) := by
    have := Heap.get?_push_size (s.heap.push PySem.W.emptyDict) (o := PySem.W.instObj C s.heap.objs.size) rfl
    rwa [Heap.size_push] at this
  have e3 : (s.heap.push PySem.W.emptyDict).Ns s.heap.objs.size (fun _ => none) := ⟨PySem.W.emptyDict, #[], _, e1, rfl, (fun e he => absurd he (by simp)), fun _ => rfl⟩
  have I1 := I.laid (a := s.heap.objs.size) (o := .own (s.heap.objs.size + 1)) (h' := s.heap.push PySem.W.emptyDict) (t' := s.toks) (fun b u q => Heap.get?_push_of_some _ q) (Nat.le_refl _) ⟨_, e1⟩
  refine I1.laid (a := s.heap.objs.size + 1) (o := .ins C s.heap.objs.size []) (t' := s.toks) (fun b u q => Heap.get?_push_of_some _ q) (Nat.le_of_eq (Heap.size_push _ _)) ?_
  have ne : s.heap.objs.size ≠ s.heap.objs.size + 1 := Nat.ne_of_lt (Nat.lt_succ_self _)
  refine ⟨by rw [upd_ne ne, upd_same], Nat.zero_le _, ne, e2, fun _ => none, (Heap.Ns1.of_empty e3).at fun o q => Heap.get?_push_of_some _ q, fun _ => True.intro, fun y hy => absurd rfl hy⟩

/-- e.f where nothing but the object is asked: through attributeBase (super) and the last hold -/
theorem attr_of {prog : Program} {w : World} {env : Env} {e : Expr} {f : Str} {pos : Pos} {s : Shared} {Q : Value → Shared → Prop} (hb : attributeBase e f env (eval e env) = eval e env)
    (h : wpAny (model prog w) A (eval e env) (fun o s₁ => wpAny (model prog w) A (getAttr o f true) Q E s₁) E s) : wpAny (model prog w) A (eval (.Attribute e f pos) env) Q E s :=
  Attribute_any_ h (by rw [arm_eval_Attribute, hb])
end

/-! ### readings and rules -/
/-- e.f, an attribute of the instance -/
def tFld (K : PySem.W.Frag) (ta : TE) (f : Str) : TE := fun σ H Q => ta σ H fun x H1 => ∃ a C dx fs v, x = .ref a ∧ H1 a = some (.ins C dx fs) ∧ Cls K C ∧ NoAttr K C f ∧ fs.lookup f = some v ∧ Q v H1
/-- e.f, a constant of the class -/
def tCon (K : PySem.W.Frag) (ta : TE) (f : Str) : TE := fun σ H Q => ta σ H fun x H1 => ∃ a C dx fs v u, x = .ref a ∧ H1 a = some (.ins C dx fs) ∧ Cls K C ∧ Con K C f v u ∧ fs.lookup f = none ∧ Q v H1
/-- e.f = value -/
def sFld (K : PySem.W.Frag) (ta tv : TE) (f : Str) : TS := fun D σ H => tv σ H fun y H1 => ta σ H1 fun x H2 => ∃ a C dx fs, x = .ref a ∧ H2 a = some (.ins C dx fs) ∧ Cls K C ∧ NoAttr K C f ∧ fs.length < 1000 ∧
  D.nx σ (upd H2 a (.ins C dx (putF f y fs)))
/-- an augmented operator on two values -/
def InOp (X : Cx) (op : Operator) (rd : V → V → Hp → VK → Prop) : Prop :=
  ∀ (pins : List (Addr × Obj)) (s : Shared) (σ : St) (H : Hp) (x y : V) (u v : Value) (Q : VK), Inv X pins σ H s → RelV x u → RelV y v → rd x y H Q → wpAny (model X.prog X.w) X.A (inplaceOp op u v) (EP X pins σ Q) X.xe s
/-- e.f op= value -/
def sFldAug (K : PySem.W.Frag) (ta tv : TE) (rd : V → V → Hp → VK → Prop) (f : Str) : TS := fun D σ H => ta σ H fun x H1 => ∃ a C dx fs v, x = .ref a ∧ H1 a = some (.ins C dx fs) ∧ Cls K C ∧ NoAttr K C f ∧ fs.lookup f = some v ∧
  tv σ H1 fun y H2 => rd v y H2 fun z H3 => ∃ dx' fs', H3 a = some (.ins C dx' fs') ∧ fs'.length < 1000 ∧ D.nx σ (upd H3 a (.ins C dx' (putF f z fs')))

section
variable {X : Cx} {o e value : Expr} {f : Str} {pos pos' tpos : Pos} {ta tv : TE}
theorem pe_fld (he : PE X e ta) (hb : attributeBase e f X.env (eval e X.env) = eval e X.env) : PE X (.Attribute e f pos) (tFld X.K ta f) := by
  intro pins s σ H Q I h
  refine attr_of hb (thn (he pins s σ H _ I h) fun u s1 ⟨x, H1, I1, rx, a, C, dx, fs, v, ex, ea, c, n, l, q⟩ => ?_)
  subst ex
  obtain rfl : u = Value.ref a := rx
  exact getattr_ok I1 ea c n l fun u' s2 I2 ru => ⟨v, H1, I2, ru, q⟩
theorem pe_con (he : PE X e ta) (hb : attributeBase e f X.env (eval e X.env) = eval e X.env) : PE X (.Attribute e f pos) (tCon X.K ta f) := by
  intro pins s σ H Q I h
  refine attr_of hb (thn (he pins s σ H _ I h) fun u s1 ⟨x, H1, I1, rx, a, C, dx, fs, v, u0, ex, ea, c, k, l, q⟩ => ?_)
  subst ex
  obtain rfl : u = Value.ref a := rx
  exact getcon_ok I1 ea c k l fun s2 I2 => ⟨v, H1, I2, k.rel, q⟩
theorem ps_fld (ha : PE X o ta) (hv : PE X value tv) (hs : swapsWith value (some (.Attribute o f pos')) pos.line X.env = pure false) : PS X (.Assign [.Attribute o f pos'] value pos) (sFld X.K ta tv f) := by
  intro pins s σ H D I h
  refine plainObj_wpAny_Assign_Attribute (thn (hv pins s σ H _ I h) fun u s1 ⟨y, H1, I1, ry, q⟩ => thn (ha pins s1 σ H1 _ I1 q) fun ov s2 ⟨x, H2, I2, rx, a, C, dx, fs, ex, ea, c, n, l, q2⟩ => ?_) hs
  subst ex
  obtain rfl : ov = Value.ref a := rx
  exact setattr_ok I2 ea c n l ry fun s3 I3 => ⟨σ, _, I3, q2⟩
theorem ps_fldaug {op : Operator} {rd : V → V → Hp → VK → Prop} (ha : PE X o ta) (hv : PE X value tv) (hop : InOp X op rd) : PS X (.AugAssign (.Attribute o f tpos) op value pos) (sFldAug X.K ta tv rd f) := by
  intro pins s σ H D I h
  refine wpAny_AugAssign_AttributeAny (thn (ha pins s σ H _ I h) fun ov s1 ⟨x, H1, I1, rx, a, C, dx, fs, v, ex, ea, c, n, l, q⟩ => ?_)
  subst ex
  obtain rfl : ov = Value.ref a := rx
  refine getattr_ok I1 ea c n l fun u s2 I2 ru => thn (hv pins s2 σ H1 _ I2 q) fun w3 s3 ⟨y, H2, I3, ry, q3⟩ => thn (hop pins s3 σ H2 v y u w3 _ I3 ru ry q3) fun w4 s4 ⟨z, H3, I4, rz, dx', fs', ea', l', q4⟩ => ?_
  exact setattr_ok I4 ea' c n l' rz fun s5 I5 => ⟨σ, _, I5, q4⟩
def rAdd : V → V → Hp → VK → Prop := fun x y H Q => ∃ i j, x = .int i ∧ y = .int j ∧ Q (.int (i + j)) H
def rSub : V → V → Hp → VK → Prop := fun x y H Q => ∃ i j, x = .int i ∧ y = .int j ∧ Q (.int (i - j)) H
theorem in_add : InOp X .Add rAdd := by
  rintro pins s σ H x y u v Q I rx ry ⟨i, j, rfl, rfl, q⟩
  obtain ⟨t, rfl⟩ := (show ∃ t, u = Value.int i t from rx)
  obtain ⟨t', rfl⟩ := (show ∃ t', v = Value.int j t' from ry)
  exact PyProof.Rows.iadd_int ⟨.int (i + j), H, I.tok _, ⟨_, rfl⟩, q⟩
theorem in_sub : InOp X .Sub rSub := by
  rintro pins s σ H x y u v Q I rx ry ⟨i, j, rfl, rfl, q⟩
  obtain ⟨t, rfl⟩ := (show ∃ t, u = Value.int i t from rx)
  obtain ⟨t', rfl⟩ := (show ∃ t', v = Value.int j t' from ry)
  exact PyProof.Rows.isub_int ⟨.int (i - j), H, I.tok _, ⟨_, rfl⟩, q⟩

/-- what is between an instance and its method: the tree of a method call -/
theorem methcall_of {pl : Sem Bool} {m : Str} {apos : Pos} {args : List Expr} {pins : List (Addr × Obj)} {s : Shared} {σ : St} {H : Hp} {Q : Value → Shared → Prop} {te : TE} (he : PE X e te) (I : Inv X pins σ H s)
    (h : te σ H fun x H1 => ∃ a C dx fs g, x = .ref a ∧ H1 a = some (.ins C dx fs) ∧ Cls X.K C ∧ Meth X.K C m g ∧ fs.lookup m = none ∧
      ∀ s1, Inv X pins σ H1 s1 → wpAny (model X.prog X.w) X.A (callWith pos (.ref g) [.ref a] (backTo pos (starEach args X.env)) (backToKw pos (keywordEach [] X.env))) Q X.xe s1)
    (ht : eval (.Call (.Attribute e m apos) args [] pos) X.env = (do
      let ov ← eval e X.env
      standAt apos.atName
      let (f, first) ← holding [ov] (getMethod ov m pl)
      callWith pos f first (backTo pos (starEach args X.env)) (backToKw pos (keywordEach [] X.env)))) :
    wpAny (model X.prog X.w) X.A (eval (.Call (.Attribute e m apos) args [] pos) X.env) Q X.xe s := by
  refine PySem.W.methodCall_KW (pl := pl) (thn (he pins s σ H _ I h) fun u s1 ⟨x, H1, I1, rx, a, C, dx, fs, g, ex, ea, c, k, l, q⟩ => ?_) ht
  subst ex
  obtain rfl : u = Value.ref a := rx
  exact getmeth_ok I1 ea c k l (q s1 I1)
end

/-! ### isinstance -/
section
variable {X : Cx} {pins : List (Addr × Obj)} {σ : St} {H : Hp} {s : Shared} {A : Around} {E : Value → Shared → Prop} {Q : Value → Shared → Prop} {c : Value} {b : Bool}
/-- the type of a value, as the fragment's deciders take it; for an instance its class -/
inductive TyOf (K : PySem.W.Frag) (H : Hp) : V → Value → Prop where
  | non : TyOf K H .non (.type "NoneType")
  | bl (x : Bool) : TyOf K H (.bl x) (.type "bool")
  | int (i : Int) : TyOf K H (.int i) (.type "int")
  | str (x : Str) : TyOf K H (.str x) (.type "str")
  | flt (x : UInt64) : TyOf K H (.flt x) (.type "float")
  | lst {a : Addr} {xs : List V} (e : H a = some (.lst xs)) : TyOf K H (.ref a) (.type "list")
  | frz {a : Addr} {o : Obj} {xs : List V} (e : H a = some (.frz o (.lst xs))) : TyOf K H (.ref a) (.type "list")
  | tup {a : Addr} {xs : List V} (e : H a = some (.tup xs)) : TyOf K H (.ref a) (.type "tuple")
  | dK {a : Addr} {kvs : List (Key × V)} (e : H a = some (.dK kvs)) : TyOf K H (.ref a) (.type "dict")
  | dT {a : Addr} {kvs : List (List Key × V)} (e : H a = some (.dT kvs)) : TyOf K H (.ref a) (.type "dict")
  | ins {a C dx : Addr} {fs : List (Str × V)} (e : H a = some (.ins C dx fs)) (cl : Cls K C) (ha : PySem.W.findIn K (.ref C) "__class__" = some (some (.builtin "object.__class__")))
      (hn : PySem.W.specialIn K (.builtin "object.__class__") "__get__" = some (some (.builtin "getset_descriptor.__get__"))) (htk : PySem.W.takesIn K (.builtin "object.__class__") = some true)
      (hm : PySem.W.mroIn K C (.type "object") = some true) : TyOf K H (.ref a) (.ref C)
/-- isinstance(x, c) for one class c, a built-in or an own one: kitOne's answer -/
theorem isinst_ok {x : V} {u t : Value} (I : Inv X pins σ H s) (rx : RelV x u) (ty : TyOf X.K H x t) (e : PySem.W.kitOne X.K t c = some b) (h : ∀ tk, Q (.bool b) { s with toks := tk }) :
    wpAny (model X.prog X.w) A (call (.builtin "isinstance") [u, c]) Q E s := by
  cases ty with
  | non => cases (show u = Value.none from rx); exact PySem.W.kia_one PySem.W.kitx_none I.kIn True.intro e (fun z => nomatch z) h
  | bl y => cases (show u = Value.bool y from rx); exact PySem.W.kia_one PySem.W.kitx_bool I.kIn True.intro e (fun z => nomatch z) h
  | int i => obtain ⟨t, q⟩ := (show ∃ t, u = Value.int i t from rx); cases q; exact PySem.W.kia_one PySem.W.kitx_int I.kIn True.intro e (fun z => nomatch z) h
  | str y => obtain ⟨t, q⟩ := (show ∃ t, u = Value.str y t from rx); cases q; exact PySem.W.kia_one PySem.W.kitx_str I.kIn True.intro e (fun z => nomatch z) h
  | flt y => obtain ⟨t, q⟩ := (show ∃ t, u = Value.float y t from rx); cases q; exact PySem.W.kia_one PySem.W.kitx_float I.kIn True.intro e (fun z => nomatch z) h
  | @lst a xs ea =>
    cases (show u = Value.ref a from rx)
    obtain ⟨_, _, n, _, h1⟩ := (show ObjOk X.prog X.w H s.heap a (.lst xs) from I.hok a _ ea)
    exact PySem.W.kia_one PySem.W.kitx_list I.kIn ⟨_, h1, rfl⟩ e (fun z => nomatch z) h
  | @frz a ob xs ea =>
    cases (show u = Value.ref a from rx)
    obtain ⟨_, _, _, n, _, h1⟩ := (show ObjOk X.prog X.w H s.heap a (.frz ob (.lst xs)) from I.hok a _ ea)
    exact PySem.W.kia_one PySem.W.kitx_list I.kIn ⟨_, h1, rfl⟩ e (fun z => nomatch z) h
  | @tup a xs ea =>
    cases (show u = Value.ref a from rx)
    obtain ⟨_, _, _, p⟩ := (show ObjOk X.prog X.w H s.heap a (.tup xs) from I.hok a _ ea)
    obtain ⟨o, h1, h2, _⟩ := p
    exact PySem.W.kia_one PySem.W.kitx_tuple I.kIn ⟨o, h1, h2⟩ e (fun z => nomatch z) h
  | @dK a kvs ea =>
    cases (show u = Value.ref a from rx)
    obtain ⟨_, _, vs, _, p⟩ := (show ObjOk X.prog X.w H s.heap a (.dK kvs) from I.hok a _ ea)
    obtain ⟨o, es, ep, h1, h2, _⟩ := p
    exact PySem.W.kia_one PySem.W.kitx_dict I.kIn ⟨o, h1, h2.1⟩ e (fun z => nomatch z) h
  | @dT a kvs ea =>
    cases (show u = Value.ref a from rx)
    obtain ⟨_, _, xs, _, o, es, ep, h1, h2, _⟩ := (show ObjOk X.prog X.w H s.heap a (.dT kvs) from I.hok a _ ea)
    exact PySem.W.kia_one PySem.W.kitx_dict I.kIn ⟨o, h1, h2.1⟩ e (fun z => nomatch z) h
  | @ins a C dx fs ea cl ha hn htk hm =>
    cases (show u = Value.ref a from rx)
    obtain ⟨mA, O, _⟩ := ins_get I.hok ea
    obtain ⟨od, J, _⟩ := O.look
    exact PySem.W.kia_one (PySem.W.kitx_own (cl.get _) cl.hd ha hn htk hm) I.kIn J e (fun z => nomatch z) h
end
end L2

namespace L2
open PySem PySem.Spec PyProof.Rows

/-! ### room -/
structure Room (k : Nat) (A : Around) : Prop where
  hd : A.handled = none
  dp : A.depth + 3 * k + 5 < recursionLimit
  un : A.units + 16 * k + 200 < cLine
theorem Room.mono {j k : Nat} {A : Around} (r : Room k A) (h : j ≤ k) : Room j A := ⟨r.hd, by have := r.dp; omega, by have := r.un; omega⟩
theorem Room.deeper {k : Nat} {A : Around} (r : Room (k + 1) A) (env : Env) : Room k (A.deeper env) :=
  ⟨r.hd, by have := r.dp; show A.depth + 1 + 3 * k + 5 < _; omega, by have := r.un; show A.units + 3 + 16 * k + 200 < _; omega⟩
theorem Room.in1 {k : Nat} {A : Around} (r : Room (k + 1) A) : Room k A.in1 :=
  ⟨r.hd, by have := r.dp; show A.depth + 3 * k + 5 < _; omega, by have := r.un; show A.units + 1 + 16 * k + 200 < _; omega⟩
theorem make_depth {A : Around} {C : Addr} {us : List Value} {kw : List (Str × Value)} : (A.under (.builtin "type.__call__" ⟨.ref C :: us, kw⟩)).depth = A.depth + 1 := by
  first | rfl | simp [Around.under, Code.weight, Code.isCreation, Code.isGuard, Code.isCaller, Code.frames, Code.isFrame, guardIds]
theorem make_units {A : Around} {C : Addr} {us : List Value} {kw : List (Str × Value)} : (A.under (.builtin "type.__call__" ⟨.ref C :: us, kw⟩)).units = A.units + 1 := by
  first | rfl | simp [Around.under, Code.cUnits, Code.frames, Code.isFrame]
theorem Room.make {k : Nat} {A : Around} (r : Room (k + 1) A) (C : Addr) (us : List Value) (kw : List (Str × Value)) : Room k (A.under (.builtin "type.__call__" ⟨.ref C :: us, kw⟩)) :=
  ⟨r.hd, by have := r.dp; rw [make_depth]; omega, by have := r.un; rw [make_units]; omega⟩
theorem Room.depth {k : Nat} {A : Around} (r : Room k A) : A.depth < recursionLimit := by have := r.dp; omega
theorem Room.units {k : Nat} {A : Around} (r : Room k A) : A.units + 64 < cLine := by have := r.un; omega
theorem Room.units0 {k : Nat} {A : Around} (r : Room k A) : A.units < cLine := by have := r.un; omega

/-! ### argument lists and displays -/
def tNil : TA := fun _ H Q => Q [] H
def tCons (ta : TE) (tr : TA) : TA := fun σ H Q => ta σ H fun x H1 => tr σ H1 fun xs H2 => Q (x :: xs) H2
section
variable {X : Cx} {e : Expr} {es : List Expr} {te : TE} {t : TA} {pos : Pos}
theorem pa_nil : PA X [] tNil := fun _ _ _ _ H Q I h => Calls.spliced_nil ⟨[], H, I, .nil, h⟩
theorem pa_cons (ha : PE X e te) (hr : PA X es t) (hs : starEach (e :: es) X.env = (false, eval e X.env) :: starEach es X.env := by rfl) : PA X (e :: es) (tCons te t) := by
  intro pos pins s σ H Q I h
  rw [hs]
  show wpAny _ _ (spliced ((false, eval e X.env) :: backTo pos (starEach es X.env))) _ _ s
  refine Calls.spliced_cons (thn (ha pins s σ H _ I h) fun u s1 ⟨x, H1, I1, r1, q1⟩ => ?_)
  exact thn (hr pos pins s1 σ H1 _ I1 q1) fun us s2 ⟨xs, H2, I2, r2, q2⟩ => ⟨x :: xs, H2, I2, .cons r1 r2, q2⟩

/-- a tuple, a list of written items -/
def tTup (t : TA) : TE := fun σ H Q => t σ H fun xs H1 => xs.length ≤ sizeLine ∧ ∀ p, H1 p = none → Q (.ref p) (upd H1 p (.tup xs))
def tLst (t : TA) : TE := fun σ H Q => t σ H fun xs H1 => xs.length ≤ sizeLine ∧ ∀ p, H1 p = none → Q (.ref p) (upd H1 p (.lst xs))
theorem pe_tup {x1} (h : PA X es t) : PE X (.Tuple es x1 pos) (tTup t) := by
  intro pins s σ H Q I hq
  refine wpAny_Tuple_spliced (thn (h pos pins s σ H _ I hq) fun us s1 ⟨xs, H1, I1, r, z, q⟩ => ⟨by rw [← r.length]; exact z, ?_⟩)
  have hf : H1 s1.heap.objs.size = none := I1.hok.fresh (Nat.le_refl _)
  refine ⟨.ref s1.heap.objs.size, upd H1 s1.heap.objs.size (.tup xs), I1.laid (t' := s1.toks) (fun b u e => Heap.get?_push_of_some _ e) (Nat.le_refl _) ?_, rfl, q _ hf⟩
  exact ⟨z, us, r, ⟨_, Heap.get?_push_size _ rfl, rfl, _, rfl⟩⟩
theorem pe_lst (h : PA X es t) : PE X (.List es pos) (tLst t) := by
  intro pins s σ H Q I hq
  refine wpAny_List_spliced (thn (h pos pins s σ H _ I hq) fun us s1 ⟨xs, H1, I1, r, z, q⟩ => ⟨by rw [← r.length]; exact z, ?_⟩)
  have hf : H1 s1.heap.objs.size = none := I1.hok.fresh (Nat.le_refl _)
  refine ⟨.ref s1.heap.objs.size, upd H1 s1.heap.objs.size (.lst xs), I1.laid (t' := s1.toks) (fun b u e => Heap.get?_push_of_some _ e) (Nat.le_refl _) ?_, rfl, q _ hf⟩
  exact ⟨z, us, 0, r, Heap.get?_push_size _ rfl⟩
end

/-! ### what a def promises -/
/-- a def's promise: the bound arguments in the parameters' order, the heap, the wanted end, the wanted exception -/
abbrev Sp := List V → Hp → VK → XK → Prop
/-- how an exception lies behind a call (file 08 gives it): the callers' frames, abstract heap and state ahead of the call, the wish, the exception, the state -/
abbrev CXT := List Env → Hp → Shared → XK → Value → Shared → Prop

/-- the state at a call -/
structure Env0 (P : Program) (w : World) (K : PySem.W.Frag) (mg : Str → Option Value) (base : Heap) (A : Around) (outer : List Env) (s : Shared) (H : Hp) : Prop where
  frames : A.frames = some outer
  mod : Mod K mg base
  bs : ∀ b o, base.get? b = some o → s.heap.get? b = some o ∧ H b = none
  bsz : base.objs.size ≤ s.heap.objs.size
  funs : s.heap.FunFrames base outer
  frf : ∀ b ∈ frs outer, H b = none
  hok : HOk P w H s.heap
  bare : AllBare s.gens
/-- a call's end -/
def CE (outer : List Env) (P : Program) (w : World) (H : Hp) (s : Shared) (Q : VK) (u : Value) (s' : Shared) : Prop :=
  ∃ v H', s'.os = s.os ∧ AllBare s'.gens ∧ Un (frs outer) [] H H' s.heap s'.heap ∧ HOk P w H' s'.heap ∧ RelV v u ∧ Q v H'
def CR (CX : CXT) (outer : List Env) (P : Program) (w : World) (H : Hp) (s : Shared) (Q : VK) (E : XK) (r : Result) (s' : Shared) : Prop :=
  match r with
  | .ok (.ret u) => CE outer P w H s Q u s'
  | .ok _ => False
  | .error e => CX outer H s E e s'
structure FnOk (P : Program) (w : World) (K : PySem.W.Frag) (mg : Str → Option Value) (base : Heap) (CX : CXT) (k : Nat) (f : Addr) (fd : FuncData) (ps : List Str) (sp : Sp) : Prop where
  len : ∀ vs H Q E, sp vs H Q E → vs.length = ps.length
  run : ∀ (A : Around) (outer : List Env) (s : Shared) (H : Hp) (args : Args) (us : List Value) (vs : List V) (Q : VK) (E : XK), Room k A → Env0 P w K mg base A outer s H → BindsTo s fd args (ps.zip us) → Vals vs us → sp vs H Q E →
    codeAny (model P w) A (.call (.ref f) args) (CR CX outer P w H s Q E) s
theorem FnOk.mono {P : Program} {w : World} {K : PySem.W.Frag} {mg : Str → Option Value} {base : Heap} {CX : CXT} {j k : Nat} {f : Addr} {fd : FuncData} {ps : List Str} {sp : Sp} (F : FnOk P w K mg base CX j f fd ps sp) (h : j ≤ k) :
    FnOk P w K mg base CX k f fd ps sp := ⟨F.len, fun A outer s H args us vs Q E hr => F.run A outer s H args us vs Q E (hr.mono h)⟩
/-- a weaker promise -/
theorem FnOk.imp {P : Program} {w : World} {K : PySem.W.Frag} {mg : Str → Option Value} {base : Heap} {CX : CXT} {k : Nat} {f : Addr} {fd : FuncData} {ps : List Str} {sp sp' : Sp} (F : FnOk P w K mg base CX k f fd ps sp)
    (h : ∀ vs H Q E, sp' vs H Q E → sp vs H Q E) : FnOk P w K mg base CX k f fd ps sp' :=
  ⟨fun vs H Q E q => F.len vs H Q E (h _ _ _ _ q), fun A outer s H args us vs Q E hr he hb hv hs => F.run A outer s H args us vs Q E hr he hb hv (h _ _ _ _ hs)⟩

theorem Env0.make {P : Program} {w : World} {K : PySem.W.Frag} {mg : Str → Option Value} {base : Heap} {A : Around} {outer : List Env} {s : Shared} {H : Hp} (e : Env0 P w K mg base A outer s H) (C : Addr) (us : List Value) (kw : List (Str × Value)) :
    Env0 P w K mg base (A.under (.builtin "type.__call__" ⟨.ref C :: us, kw⟩)) outer s H := ⟨by first | exact e.frames | (simpa [Around.under, Code.envs, Code.isFrame, pushEnvs] using e.frames), e.mod, e.bs, e.bsz, e.funs, e.frf, e.hok, e.bare⟩
theorem Env0.in1 {P : Program} {w : World} {K : PySem.W.Frag} {mg : Str → Option Value} {base : Heap} {A : Around} {outer : List Env} {s : Shared} {H : Hp} (e : Env0 P w K mg base A outer s H) :
    Env0 P w K mg base A.in1 outer s H := ⟨e.frames, e.mod, e.bs, e.bsz, e.funs, e.frf, e.hok, e.bare⟩

section
variable {X : Cx} {pins : List (Addr × Obj)} {σ : St} {H : Hp} {s s' : Shared}
/-- from a body: what a callee wants -/
theorem Inv.env0 (I : Inv X pins σ H s) : Env0 X.prog X.w X.K X.mg X.base X.A X.stack s H :=
  ⟨I.ok.frames, I.ok.mod, I.bs, Nat.le_trans I.ok.bsz I.sz, I.stack, I.stkFree, I.hok, I.bare⟩
/-- behind a call -/
theorem Inv.after {Q : VK} {u : Value} (I : Inv X pins σ H s) (h : CE X.stack X.prog X.w H s Q u s') : EP X pins σ Q u s' := by
  obtain ⟨v, H', os, bare, un, hok, r, q⟩ := h
  obtain ⟨hh, g, d, t, os'⟩ := s'
  obtain rfl : os' = s.os := os
  exact ⟨v, H', I.call (h' := hh) (g' := g) (d' := d) (t' := t) (ch := []) un hok bare (fun b z => absurd z (by simp)), r, q⟩
end

/-! ### calls -/
/-- f(..): the written arguments, then the defaults dvs; E: what is wanted of an exception -/
def tCall (sp : Sp) (dvs : List V) (E : XK) (t : TA) : TE := fun σ H Q => t σ H fun vs H1 => sp (vs ++ dvs) H1 Q E
/-- o.m(..) of an instance of the class at C -/
def tMeth (C : Addr) (m : Str) (sp : Sp) (dvs : List V) (E : XK) (ta : TE) (t : TA) : TE := fun σ H Q => ta σ H fun x H1 => ∃ a dx fs, x = .ref a ∧ H1 a = some (.ins C dx fs) ∧ fs.lookup m = none ∧
  t σ H1 fun vs H2 => sp (x :: (vs ++ dvs)) H2 Q E
/-- C(..): a new instance and its dict, then __init__ -/
def tMake (C : Addr) (sp : Sp) (dvs : List V) (E : XK) (t : TA) : TE := fun σ H Q => t σ H fun vs H1 => ∀ x dx, H1 x = none → H1 dx = none → dx ≠ x →
  sp (.ref x :: (vs ++ dvs)) (upd (upd H1 dx (.own x)) x (.ins C dx [])) (fun v H2 => v = .non ∧ Q (.ref x) H2) E

/-- how the parameters are bound: us the positional arguments, kw the keywords' values by name, ds the defaults that fill up -/
def Binds (K : PySem.W.Frag) (fd : FuncData) (ps : List Str) (ds : List Value) : Prop :=
  ∀ (s : Shared) (us : List Value), K.In s.heap → (us ++ ds).length = ps.length → BindsTo s fd ⟨us, []⟩ (ps.zip (us ++ ds))
/-- every parameter is given -/
theorem Binds.all {K : PySem.W.Frag} {fd : FuncData} {ps : List Str} (h : ∀ us : List Value, us.length = ps.length → bindArgs fd ⟨us, []⟩ = pure (ps.zip us)) : Binds K fd ps [] := fun s us _ hl => by
  rw [List.append_nil] at hl ⊢
  exact .of_eq (h us hl)

/-- an exception of a callee reaches what this body wants of exceptions -/
def Passes (CX : CXT) (X : Cx) (E : XK) : Prop := ∀ (pins : List (Addr × Obj)) (σ : St) (H : Hp) (s : Shared) (e : Value) (s' : Shared), Inv X pins σ H s → CX X.stack H s E e s' → X.xe e s'

section
variable {X : Cx} {CX : CXT} {k : Nat} {f C : Addr} {fd : FuncData} {ps : List Str} {sp : Sp} {dvs : List V} {ds : List Value} {E : XK} {x m : Str} {p pos apos : Pos} {e o : Expr} {es : List Expr} {ta : TE} {t : TA}

/-- the callee runs -/
theorem run_fn {pins : List (Addr × Obj)} {σ : St} {H : Hp} {s : Shared} {Q : VK} {us : List Value} {vs : List V} (F : FnOk X.prog X.w X.K X.mg X.base CX k f fd ps sp) (hr : Room k X.A) (hb : Binds X.K fd ps ds) (hd : Vals dvs ds) (hx : Passes CX X E)
    (I : Inv X pins σ H s) (r : Vals vs us) (h : sp (vs ++ dvs) H Q E) : wpAny (model X.prog X.w) X.A (call (.ref f) us) (EP X pins σ Q) X.xe s := by
  have r2 : Vals (vs ++ dvs) (us ++ ds) := r.append hd
  have hl : (us ++ ds).length = ps.length := by rw [← r2.length]; exact F.len _ _ _ _ h
  refine wpAny_call (codeAny_mono (F.run X.A X.stack s H ⟨us, []⟩ (us ++ ds) (vs ++ dvs) Q E hr I.env0 (hb s us I.kIn hl) r2 h) fun r s' hq => ?_)
  cases r with
  | error e => exact hx pins σ H s e s' I hq
  | ok fl =>
    cases fl with
    | ret u => exact I.after hq
    | next => exact False.elim hq
    | brk => exact False.elim hq
    | cont => exact False.elim hq

theorem pe_call (F : FnOk X.prog X.w X.K X.mg X.base CX k f fd ps sp) (hr : Room k X.A) (hg : Gl X x) (hm : X.mg x = some (.ref f)) (hk : PySem.W.keepIn X.K (.ref f) = true) (hb : Binds X.K fd ps ds) (hd : Vals dvs ds) (hx : Passes CX X E)
    (ha : PA X (e :: es) t) (hdb : (x == ("__debug__" : Str)) = false := by decide) (he : starEach (e :: es) X.env = (false, eval e X.env) :: starEach es X.env := by rfl) (hpl : (backTo pos (starEach es X.env)).any (·.1) = false := by rfl) :
    PE X (.Call (.Name x p) (e :: es) [] pos) (tCall sp dvs E t) := by
  intro pins s σ H Q I h
  refine wpAny_Call_Name_kw (ld_glob I hg hm ?_ hdb)
  refine PySem.W.callWith_K (h₀ := X.base) I.ok.mod.kin hk (thn (ha pos pins s σ H _ I h) fun us s1 ⟨vs, H1, I1, r, q⟩ => ⟨I1.kIn, ?_⟩) he hpl
  exact run_fn F hr hb hd hx I1 r q
theorem pe_call0 (F : FnOk X.prog X.w X.K X.mg X.base CX k f fd ps sp) (hr : Room k X.A) (hg : Gl X x) (hm : X.mg x = some (.ref f)) (hk : PySem.W.keepIn X.K (.ref f) = true) (hb : Binds X.K fd ps ds) (hd : Vals dvs ds) (hx : Passes CX X E)
    (hdb : (x == ("__debug__" : Str)) = false := by decide) : PE X (.Call (.Name x p) [] [] pos) (tCall sp dvs E tNil) := by
  intro pins s σ H Q I h
  refine wpAny_Call_Name_kw (ld_glob I hg hm ?_ hdb)
  exact PySem.W.callWith_K0 I.kIn hk (run_fn (us := []) F hr hb hd hx I .nil h)

/-- o.m(e, ..) -/
theorem pe_meth {pl : Sem Bool} (he : PE X o ta) (c : Cls X.K C) (hm : Meth X.K C m f) (F : FnOk X.prog X.w X.K X.mg X.base CX k f fd ps sp) (hr : Room k X.A) (hb : Binds X.K fd ps ds) (hd : Vals dvs ds) (hx : Passes CX X E) (ha : PA X (e :: es) t)
    (hst : starEach (e :: es) X.env = (false, eval e X.env) :: starEach es X.env := by rfl) (hpl : (backTo pos (starEach es X.env)).any (·.1) = false := by rfl)
    (ht : eval (.Call (.Attribute o m apos) (e :: es) [] pos) X.env = (do
      let ov ← eval o X.env
      standAt apos.atName
      let (f, first) ← holding [ov] (getMethod ov m pl)
      callWith pos f first (backTo pos (starEach (e :: es) X.env)) (backToKw pos (keywordEach [] X.env))) := by rfl) :
    PE X (.Call (.Attribute o m apos) (e :: es) [] pos) (tMeth C m sp dvs E ta t) := by
  intro pins s σ H Q I h
  refine PySem.W.methodCall_KW (pl := pl) (thn (he pins s σ H _ I h) fun u s1 ⟨x, H1, I1, rx, a, dx, fs, ex, ea, l, q⟩ => ?_) ht
  subst ex
  obtain rfl : u = Value.ref a := rx
  refine getmeth_ok I1 ea c hm l ?_
  refine PySem.W.callWith_K (first := [.ref a]) (h₀ := X.base) I.ok.mod.kin hm.kp (thn (ha pos pins s1 σ H1 _ I1 q) fun us s2 ⟨vs, H2, I2, r, q2⟩ => ⟨I2.kIn, ?_⟩) hst hpl
  exact run_fn (us := .ref a :: us) (vs := .ref a :: vs) F hr hb hd hx I2 (.cons rfl r) q2
/-- o.m() -/
theorem pe_meth0 {pl : Sem Bool} (he : PE X o ta) (c : Cls X.K C) (hm : Meth X.K C m f) (F : FnOk X.prog X.w X.K X.mg X.base CX k f fd ps sp) (hr : Room k X.A) (hb : Binds X.K fd ps ds) (hd : Vals dvs ds) (hx : Passes CX X E)
    (ht : eval (.Call (.Attribute o m apos) [] [] pos) X.env = (do
      let ov ← eval o X.env
      standAt apos.atName
      let (f, first) ← holding [ov] (getMethod ov m pl)
      callWith pos f first (backTo pos (starEach [] X.env)) (backToKw pos (keywordEach [] X.env))) := by rfl) :
    PE X (.Call (.Attribute o m apos) [] [] pos) (tMeth C m sp dvs E ta tNil) := by
  intro pins s σ H Q I h
  refine PySem.W.methodCall_KW (pl := pl) (thn (he pins s σ H _ I h) fun u s1 ⟨x, H1, I1, rx, a, dx, fs, ex, ea, l, q⟩ => ?_) ht
  subst ex
  obtain rfl : u = Value.ref a := rx
  refine getmeth_ok I1 ea c hm l ?_
  exact PySem.W.callWith_K0 (first := [.ref a]) I1.kIn hm.kp (run_fn (us := [.ref a]) (vs := [.ref a]) F hr hb hd hx I1 (.cons rfl .nil) q)

/-- what a class must have to be made -/
structure Mk (K : PySem.W.Frag) (C f : Addr) : Prop where
  makes : PySem.W.makesIn K C = true
  init : PySem.W.findIn K (.ref C) "__init__" = some (some (.ref f))
  fn : PySem.W.isFn K (.ref f) = true
  kp : PySem.W.keepIn K (.ref C) = true

theorem run_make {pins : List (Addr × Obj)} {σ : St} {H : Hp} {s : Shared} {Q : VK} {us : List Value} {vs : List V} (M : Mk X.K C f) (F : FnOk X.prog X.w X.K X.mg X.base CX k f fd ps sp) (hr : Room (k + 1) X.A) (hb : Binds X.K fd ps ds) (hd : Vals dvs ds)
    (hx : Passes CX X E) (I : Inv X pins σ H s) (r : Vals vs us)
    (h : ∀ x dx, H x = none → H dx = none → dx ≠ x → sp (.ref x :: (vs ++ dvs)) (upd (upd H dx (.own x)) x (.ins C dx [])) (fun v H2 => v = .non ∧ Q (.ref x) H2) E) :
    wpAny (model X.prog X.w) X.A (call (.ref C) us) (EP X pins σ Q) X.xe s := by
  have hq := h (s.heap.objs.size + 1) s.heap.objs.size (I.hok.fresh (Nat.le_succ _)) (I.hok.fresh (Nat.le_refl _)) (Nat.ne_of_lt (Nat.lt_succ_self _))
  have I2 := Inv.made (C := C) I
  have r2 : Vals (V.ref (s.heap.objs.size + 1) :: (vs ++ dvs)) (Value.ref (s.heap.objs.size + 1) :: (us ++ ds)) := .cons rfl (r.append hd)
  have hl : (Value.ref (s.heap.objs.size + 1) :: us ++ ds).length = ps.length := by
    have e := r2.length
    rw [F.len _ _ _ _ hq] at e
    exact e.symm
  refine wpAny_call (make_map (f := f) I.kIn M.makes M.init (beq_iff_eq.mp M.fn) (codeAny_mono (F.run _ X.stack _ _ ⟨Value.ref (s.heap.objs.size + 1) :: us, []⟩ (Value.ref (s.heap.objs.size + 1) :: (us ++ ds)) _ _ E (hr.make C us [])
    (I2.env0.make C us []) (hb _ (Value.ref (s.heap.objs.size + 1) :: us) I2.kIn hl) r2 hq) fun r s' hq' => ?_))
  cases r with
  | error e => exact hx pins σ _ _ e s' I2 hq'
  | ok fl =>
    cases fl with
    | ret u =>
      obtain ⟨v, H', I3, rv, ev, q3⟩ := I2.after hq'
      subst ev
      exact ⟨rv, ⟨V.ref (s.heap.objs.size + 1), H', I3, rfl, q3⟩⟩
    | next => exact False.elim hq'
    | brk => exact False.elim hq'
    | cont => exact False.elim hq'
theorem pe_make (M : Mk X.K C f) (F : FnOk X.prog X.w X.K X.mg X.base CX k f fd ps sp) (hr : Room (k + 1) X.A) (hg : Gl X x) (hm : X.mg x = some (.ref C)) (hb : Binds X.K fd ps ds) (hd : Vals dvs ds) (hx : Passes CX X E)
    (ha : PA X (e :: es) t) (hdb : (x == ("__debug__" : Str)) = false := by decide) (he : starEach (e :: es) X.env = (false, eval e X.env) :: starEach es X.env := by rfl) (hpl : (backTo pos (starEach es X.env)).any (·.1) = false := by rfl) :
    PE X (.Call (.Name x p) (e :: es) [] pos) (tMake C sp dvs E t) := by
  intro pins s σ H Q I h
  refine wpAny_Call_Name_kw (ld_glob I hg hm ?_ hdb)
  refine PySem.W.callWith_K (h₀ := X.base) I.ok.mod.kin M.kp (thn (ha pos pins s σ H _ I h) fun us s1 ⟨vs, H1, I1, r, q⟩ => ⟨I1.kIn, ?_⟩) he hpl
  exact run_make M F hr hb hd hx I1 r q
theorem pe_make0 (M : Mk X.K C f) (F : FnOk X.prog X.w X.K X.mg X.base CX k f fd ps sp) (hr : Room (k + 1) X.A) (hg : Gl X x) (hm : X.mg x = some (.ref C)) (hb : Binds X.K fd ps ds) (hd : Vals dvs ds) (hx : Passes CX X E)
    (hdb : (x == ("__debug__" : Str)) = false := by decide) : PE X (.Call (.Name x p) [] [] pos) (tMake C sp dvs E tNil) := by
  intro pins s σ H Q I h
  refine wpAny_Call_Name_kw (ld_glob I hg hm ?_ hdb)
  exact PySem.W.callWith_K0 I.kIn M.kp (run_make (us := []) M F hr hb hd hx I .nil h)
end

/-! ### keywords -/
/-- the values of the keywords, from the left -/
def PK (X : Cx) (kws : List Keyword) (t : TA) : Prop :=
  ∀ (pos : Pos) (pins : List (Addr × Obj)) (s : Shared) (σ : St) (H : Hp) (Q : List V → Hp → Prop), Inv X pins σ H s → t σ H Q → wpAny (model X.prog X.w) X.A (evalAll ((backToKw pos (keywordEach kws X.env)).map (·.2))) (AP X pins σ Q) X.xe s
section
variable {X : Cx} {CX : CXT} {k : Nat} {f C : Addr} {fd : FuncData} {ps ks : List Str} {sp : Sp} {E : XK} {x m : Str} {p pos apos kpos : Pos} {e o : Expr} {es : List Expr} {kws : List Keyword} {te ta : TE} {t tk : TA} {nm : Option Str}
theorem pk_nil : PK X [] tNil := fun _ _ _ _ H Q I h => wpAny_evalAll_nil ⟨[], H, I, .nil, h⟩
theorem pk_cons (ha : PE X e te) (hr : PK X kws t) : PK X (⟨nm, e, kpos⟩ :: kws) (tCons te t) := by
  intro pos pins s σ H Q I h
  show wpAny _ _ (evalAll ((do let v ← eval e X.env; standAt pos; pure v) :: (backToKw pos (keywordEach kws X.env)).map (·.2))) _ _ s
  refine wpAny_evalAll_cons (wpAny_bind (thn (ha pins s σ H _ I h) fun u s1 ⟨x, H1, I1, r1, q1⟩ => wpAny_bind (wpAny_standAt (wpAny_pure ?_))))
  exact thn (hr pos pins s1 σ H1 _ I1 q1) fun us s2 ⟨xs, H2, I2, r2, q2⟩ => ⟨x :: xs, H2, I2, .cons r1 r2, q2⟩

/-- how a call with keywords binds: g puts the positional values us and the keywords' values ws (names ks) in the parameters' order, defaults among them -/
structure KBinds (K : PySem.W.Frag) (fd : FuncData) (ps ks : List Str) (g : List Value → List Value → List Value) (gV : List V → List V → List V) : Prop where
  to : ∀ (s : Shared) (us ws : List Value), K.In s.heap → (g us ws).length = ps.length → BindsTo s fd ⟨us, ks.zip ws⟩ (ps.zip (g us ws))
  rel : ∀ {vs : List V} {us : List Value} {zs : List V} {ws : List Value}, Vals vs us → Vals zs ws → Vals (gV vs zs) (g us ws)
def tCallK (sp : Sp) (gV : List V → List V → List V) (E : XK) (t tk : TA) : TE := fun σ H Q => t σ H fun vs H1 => tk σ H1 fun zs H2 => sp (gV vs zs) H2 Q E
variable {g : List Value → List Value → List Value} {gV : List V → List V → List V}
theorem run_fnk {pins : List (Addr × Obj)} {σ : St} {H : Hp} {s : Shared} {Q : VK} {us ws : List Value} {vs zs : List V} (F : FnOk X.prog X.w X.K X.mg X.base CX k f fd ps sp) (hr : Room k X.A) (hb : KBinds X.K fd ps ks g gV) (hx : Passes CX X E)
    (I : Inv X pins σ H s) (r : Vals vs us) (rz : Vals zs ws) (h : sp (gV vs zs) H Q E) : wpAny (model X.prog X.w) X.A (call (.ref f) us (ks.zip ws)) (EP X pins σ Q) X.xe s := by
  have r2 := hb.rel r rz
  have hl : (g us ws).length = ps.length := by rw [← r2.length]; exact F.len _ _ _ _ h
  refine wpAny_call (codeAny_mono (F.run X.A X.stack s H ⟨us, ks.zip ws⟩ (g us ws) (gV vs zs) Q E hr I.env0 (hb.to s us ws I.kIn hl) r2 h) fun r s' hq => ?_)
  cases r with
  | error e => exact hx pins σ H s e s' I hq
  | ok fl =>
    cases fl with
    | ret u => exact I.after hq
    | next => exact False.elim hq
    | brk => exact False.elim hq
    | cont => exact False.elim hq
/-- f(e, .., k = v, ..) -/
theorem pe_callK (F : FnOk X.prog X.w X.K X.mg X.base CX k f fd ps sp) (hr : Room k X.A) (hg : Gl X x) (hm : X.mg x = some (.ref f)) (hk : PySem.W.keepIn X.K (.ref f) = true) (hb : KBinds X.K fd ps ks g gV) (hx : Passes CX X E)
    (ha : PA X (e :: es) t) (hkw : PK X kws tk) (hall : (backToKw pos (keywordEach kws X.env)).all (·.1.isSome) = true := by rfl) (hks : (backToKw pos (keywordEach kws X.env)).filterMap (·.1) = ks := by rfl)
    (hdb : (x == ("__debug__" : Str)) = false := by decide) (he : starEach (e :: es) X.env = (false, eval e X.env) :: starEach es X.env := by rfl)
    (hpl : ((backTo pos (starEach (e :: es) X.env)).any (·.1) || (backToKw pos (keywordEach kws X.env)).any (·.1.isNone)) = false := by rfl) :
    PE X (.Call (.Name x p) (e :: es) kws pos) (tCallK sp gV E t tk) := by
  intro pins s σ H Q I h
  refine wpAny_Call_Name_kw (ld_glob I hg hm ?_ hdb)
  refine PySem.W.callWith_KW (h₀ := X.base) I.ok.mod.kin hk hall (thn (ha pos pins s σ H _ I h) fun us s1 ⟨vs, H1, I1, r, q⟩ => ?_) hpl he
  refine thn (hkw pos pins s1 σ H1 _ I1 q) fun ws s2 ⟨zs, H2, I2, rz, q2⟩ => ⟨I2.kIn, ?_⟩
  rw [hks]
  exact run_fnk F hr hb hx I2 r rz q2
end

/-! ### a def's body keeps its promise -/
/-- names: the parameters first -/
structure FnScope (N P : List Str) (sc : Scope) : Prop where
  kind : sc.kind = .function
  co : sc.isCoroutine = false
  gen : sc.isGenerator = false
  nd : N.Nodup
  pre : N.take P.length = P
  par : ∀ x ∈ P, sc.names.lookup x = some .local ∨ sc.names.lookup x = some .cell
  nofree : ∀ y ∈ sc.names, y.2 ≠ .free

theorem bindL_out {kindOf : Str → Option NameKind} {x : Str} : ∀ {binds : List (Str × Value)} {m : Str → Option Value}, (∀ v, (x, v) ∉ binds) → bindL kindOf binds m x = m x
  | [], _, _ => rfl
  | (n, v) :: r, m, h => by
    unfold bindL
    rw [bindL_out fun w hw => h w (List.mem_cons_of_mem _ hw)]
    split
    · have : x ≠ n := by rintro rfl; exact h v List.mem_cons_self
      simp [this]
    · rfl
theorem bindC_out {kindOf : Str → Option NameKind} {x : Str} : ∀ {binds : List (Str × Value)} {m : Str → Option Value}, (∀ v, (x, v) ∉ binds) → bindC kindOf binds m x = m x
  | [], _, _ => rfl
  | (n, v) :: r, m, h => by
    unfold bindC
    rw [bindC_out fun w hw => h w (List.mem_cons_of_mem _ hw)]
    split
    · rfl
    · have : x ≠ n := by rintro rfl; exact h v List.mem_cons_self
      simp [this]
theorem bindL_get {kindOf : Str → Option NameKind} {x : Str} {v : Value} : ∀ {P : List Str} {vs : List Value} {i : Nat} {m : Str → Option Value}, P.Nodup → P[i]? = some x → vs[i]? = some v → kindOf x = some .local →
    bindL kindOf (P.zip vs) m x = some v
  | [], _, _, _, _, h, _, _ => by simp at h
  | _ :: _, [], _, _, _, _, h, _ => by simp at h
  | p :: P, w :: vs, 0, m, nd, h1, h2, hk => by
    simp at h1 h2; subst h1; subst h2
    show bindL kindOf ((p, w) :: P.zip vs) m p = _
    unfold bindL
    rw [bindL_out fun v hv => (List.nodup_cons.mp nd).1 (List.of_mem_zip hv).1, if_pos hk]
    simp
  | p :: P, w :: vs, i + 1, m, nd, h1, h2, hk => by
    show bindL kindOf ((p, w) :: P.zip vs) m x = _
    unfold bindL
    exact bindL_get (i := i) (List.nodup_cons.mp nd).2 (by simpa using h1) (by simpa using h2) hk
theorem bindC_get {kindOf : Str → Option NameKind} {x : Str} {v : Value} : ∀ {P : List Str} {vs : List Value} {i : Nat} {m : Str → Option Value}, P.Nodup → P[i]? = some x → vs[i]? = some v → kindOf x ≠ some .local →
    bindC kindOf (P.zip vs) m x = some v
  | [], _, _, _, _, h, _, _ => by simp at h
  | _ :: _, [], _, _, _, _, h, _ => by simp at h
  | p :: P, w :: vs, 0, m, nd, h1, h2, hk => by
    simp at h1 h2; subst h1; subst h2
    show bindC kindOf ((p, w) :: P.zip vs) m p = _
    unfold bindC
    rw [bindC_out fun v hv => (List.nodup_cons.mp nd).1 (List.of_mem_zip hv).1, if_neg hk]
    simp
  | p :: P, w :: vs, i + 1, m, nd, h1, h2, hk => by
    show bindC kindOf ((p, w) :: P.zip vs) m x = _
    unfold bindC
    exact bindC_get (i := i) (List.nodup_cons.mp nd).2 (by simpa using h1) (by simpa using h2) hk

/-- the names' values at the entry -/
def start (N : List Str) (vs : List V) : St := vs.map some ++ List.replicate (N.length - vs.length) none

/-- the context of a def's body, at its entry; an exception leaves the frame, then lies as CX says -/
def cxOf (CX : CXT) (P : Program) (w : World) (K : PySem.W.Frag) (mg : Str → Option Value) (base : Heap) (N : List Str) (qual : Str) (scope : Scope) (f : Addr) (cd : Value) (A : Around) (outer : List Env) (s : Shared) (H : Hp) (E : XK) : Cx where
  prog := P
  w := w
  K := K
  mg := mg
  base := base
  A := A.deeper (envOfC qual scope s.heap.objs.size f cd)
  N := N
  s₀ := s
  H₀ := H
  env := envOfC qual scope s.heap.objs.size f cd
  outer := outer
  stack := envOfC qual scope s.heap.objs.size f cd :: outer
  ex := []
  calm := true
  fn := fun _ => true
  pn := []
  xe := fun e s' => wpAny (model P w) (A.deeper (envOfC qual scope s.heap.objs.size f cd)) (leaving (envOfC qual scope s.heap.objs.size f cd) e) (fun _ s'' => CX outer H s E e s'') (fun e' s'' => CX outer H s E e' s'') s'

theorem cell_has {sc : Scope} {n : Nat} {x : Str} (h : sc.names.lookup x = some .cell) : ∃ c, (cellsFrom n sc.names []).lookup x = some c := by
  have q := PySem.W.cellsFrom_some sc.names n [] (.inl h)
  exact Option.isSome_iff_exists.mp q

theorem inv_start {CX : CXT} {P : Program} {w : World} {K : PySem.W.Frag} {mg : Str → Option Value} {base : Heap} {N ps : List Str} {qual : Str} {scope : Scope} {f : Addr} {cd : Value} {A : Around} {outer : List Env} {s s1 : Shared} {H : Hp} {E : XK} {us : List Value} {vs : List V}
    (S : FnScope N ps scope) (hd : A.handled = none) (e0 : Env0 P w K mg base A outer s H) (hl : vs.length = ps.length) (r : Vals vs us)
    (x : InCallC s s.heap.objs.size (bindL (envOfC qual scope s.heap.objs.size f cd).kindOf (ps.zip us) fun _ => none) (cellsFrom (s.heap.objs.size + 1) scope.names []) (bindC (envOfC qual scope s.heap.objs.size f cd).kindOf (ps.zip us) fun _ => none) s1) :
    Inv (cxOf CX P w K mg base N qual scope f cd A outer s H E) [] (start N vs) H s1 := by
  have hpl : ps.length ≤ N.length := by have := congrArg List.length S.pre; rw [List.length_take] at this; omega
  obtain ⟨h1, tk, rfl, hk⟩ := x.done
  have noA : ∀ b : Addr, b ∉ (cxOf CX P w K mg base N qual scope f cd A outer s H E).ex := fun b z => absurd (show b ∈ ([] : List Addr) from z) (by simp)
  refine ⟨⟨e0.mod, S.kind, rfl, rfl, Nat.le_refl _, fun y z c h1 h2 => ?_, fun y hy => ?_, fun y c _ h => ?_, fun _ => hd, Around.frames_deeper e0.frames, .inr ⟨rfl, rfl⟩, fun b z => absurd z (noA b), e0.bs, e0.bsz, fun b _ _ => noA b, fun b z => absurd z (noA b), e0.funs, e0.frf⟩,
    rfl, e0.bare, Un.kept hk, ⟨_, x.toInCall.ns, fun i y v h1 h2 h3 => ?_⟩, fun y c h => ⟨_, x.cell y c h⟩, e0.hok.fresh (Nat.le_refl _), fun y c h => ?_, fun p hp => absurd (show p ∈ ([] : List (Addr × Obj)) from hp) (by simp), e0.hok.kept hk, ?_⟩
  · exact name_of_addr x.apart (PySem.mem_of_lookup h1) (PySem.mem_of_lookup h2)
  · have hy : scope.names.lookup y = some .cell ∨ scope.names.lookup y = some .free := hy
    rcases hy with hy | hy
    · exact cell_has hy
    · exact absurd rfl (S.nofree _ (PySem.mem_of_lookup hy))
  · exact Nat.le_of_lt (x.above y c (PySem.mem_of_lookup h))
  · have hi : i < vs.length := by
      unfold start at h2
      by_cases hi : i < vs.length
      · exact hi
      · rw [List.getElem?_append_right (by simpa using hi)] at h2
        rw [List.getElem?_replicate] at h2
        split at h2 <;> cases h2
    have ha : vs[i]? = some v := by
      unfold start at h2
      rw [List.getElem?_append_left (by simpa using hi), List.getElem?_map] at h2
      cases e : vs[i]? with
      | none => rw [e] at h2; cases h2
      | some a => rw [e] at h2; cases h2; rfl
    obtain ⟨u, hu, rv⟩ := r.get ha
    have hp : ps[i]? = some y := by
      rw [← S.pre, List.getElem?_take_of_lt (by omega)]; exact h1
    have ndP : ps.Nodup := by rw [← S.pre]; exact S.nd.sublist (List.take_sublist _ _)
    refine ⟨u, rv, ?_⟩
    rcases S.par y (List.mem_of_getElem? hp) with k | k
    · exact .inl ⟨k, bindL_get ndP hp hu k⟩
    · obtain ⟨c, e⟩ := cell_has (n := s.heap.objs.size + 1) k
      refine .inr ⟨.inl k, c, e, ?_⟩
      have q := x.cell y c e
      rw [bindC_get ndP hp hu (by show scope.names.lookup y ≠ _; rw [k]; decide)] at q
      exact q
  · exact e0.hok.fresh (Nat.le_of_lt (x.above y c (PySem.mem_of_lookup h)))
  · unfold start
    show _ = N.length
    rw [List.length_append, List.length_map, List.length_replicate]
    omega

/-- THE RULE: a def (or a method) of the text, by its body. The body's reading t is chosen for each entry; it is run at the parameters' values -/
theorem fn_of {CX : CXT} {P : Program} {w : World} {K : PySem.W.Frag} {mg : Str → Option Value} {base : Heap} {k : Nat} {f : Addr} {name qual : Str} {params : Arguments} {body : List Stmt} {scope : Scope} {dV kV doc pm cdv ct oc : Value} {an od : Option Addr}
    {osl : Array (Option Value)} {N ps : List Str} {sp : Sp} (lk : K.lookup f = some ⟨oc, od, .func (PySem.W.fnOf name qual params body scope dV kV doc pm an cdv ct), osl⟩) (hcd : PySem.W.codeIn K cdv qual = true) (S : FnScope N ps scope)
    (len : ∀ vs H Q E, sp vs H Q E → vs.length = ps.length)
    (hbody : ∀ (A : Around) (outer : List Env) (s : Shared) (H : Hp) (vs : List V) (Q : VK) (E : XK), Room k (A.deeper (envOfC qual scope s.heap.objs.size f cdv)) → sp vs H Q E →
      ∃ t, PSs (cxOf CX P w K mg base N qual scope f cdv A outer s H E) body t ∧ t { nx := fun _ H' => Q .non H', rt := Q } (start N vs) H) :
    FnOk P w K mg base CX (k + 1) f (PySem.W.fnOf name qual params body scope dV kV doc pm an cdv ct) ps sp := by
  refine ⟨len, fun A outer s H args us vs Q E hr e0 hb r hsp => ?_⟩
  have hl := len _ _ _ _ hsp
  have KX : K.In s.heap := e0.mod.kin.keeps fun b o e => (e0.bs b o e).1
  have lim : s.heap.NoLimit := e0.mod.nolimit.keeps fun b o e => (e0.bs b o e).1
  have hkind : ∀ y ∈ ps.zip us, scope.names.lookup y.1 = some .local ∨ (scope.names.lookup y.1 = some .cell ∧ ((cellsFrom (s.heap.objs.size + 1) scope.names []).lookup y.1).isSome = true) := fun ⟨n, v⟩ hy => by
    rcases S.par n (List.of_mem_zip hy).1 with q | q
    · exact .inl q
    · exact .inr ⟨q, PySem.W.cellsFrom_some _ _ _ (.inl q)⟩
  refine codeAny_call_function hr.depth (KX _ _ lk) rfl S.co S.gen rfl (PySem.W.codeRec_of KX hcd) (hb _ _ _ _ ?_)
  refine wpAny_newFunctionEnv_cells S.kind hkind fun env he s1 x => ?_
  subst he
  refine ⟨lim.keeps x.toInCall.keep, codeAny_func ?_⟩
  obtain ⟨t, ht, hq⟩ := hbody A outer s H vs Q E (hr.deeper _) hsp
  have I : Inv (cxOf CX P w K mg base N qual scope f cdv A outer s H E) [] (start N vs) H s1 := inv_start S hr.hd e0 hl r x
  refine wpAny_mono (ht [] s1 (start N vs) H _ I hq) (fun fl s' hs => ?_) fun e s' hs => hs
  have fin : ∀ {σ' : St} {H' : Hp} {v : V} {u : Value}, Inv (cxOf CX P w K mg base N qual scope f cdv A outer s H E) [] σ' H' s' → RelV v u → Q v H' → CE outer P w H s Q u s' :=
    fun {σ' H' v u} J rv q => ⟨v, H', J.os, J.bare, J.base, J.hok, rv, q⟩
  cases fl with
  | ret u =>
    obtain ⟨v, σ', H', J, rv, q⟩ := hs
    exact fin J rv q
  | next =>
    obtain ⟨σ', H', J, q⟩ := hs
    exact fin (v := V.non) (u := Value.none) J rfl q
  | brk =>
    obtain ⟨_, _, _, q⟩ := hs
    exact False.elim q
  | cont =>
    obtain ⟨_, _, _, q⟩ := hs
    exact False.elim q
end L2

namespace L2
open PySem PySem.Spec PyProof.Rows
section
variable {X : Cx} {x : Str} {p pos : Pos} {e : Expr} {es : List Expr} {t : TA} {id T : String} {r : List V → Hp → VK → Prop}

def tCB (r : List V → Hp → VK → Prop) (t : TA) : TE := fun σ H Q => t σ H fun vs H1 => r vs H1 Q
/-- f(e, ..), f a built-in function -/
theorem pe_callB (hc : CallR X (.builtin id) r) (hg : Gl X x) (hm : X.mg x = none) (hv : bootBuiltins x = some (.builtin id)) (ha : PA X (e :: es) t) (hn : x ≠ "__name__" := by decide) (hdb : (x == ("__debug__" : Str)) = false := by decide)
    (he : starEach (e :: es) X.env = (false, eval e X.env) :: starEach es X.env := by rfl) (hpl : (backTo pos (starEach es X.env)).any (·.1) = false := by rfl) : PE X (.Call (.Name x p) (e :: es) [] pos) (tCB r t) := by
  intro pins s σ H Q I h
  refine wpAny_Call_Name_kw (ld_blt I hg hm hv ?_ hn hdb)
  exact PyProof.Rows.callWith_builtin1 (thn (ha pos pins s σ H _ I h) fun us s1 ⟨vs, H1, I1, r1, q1⟩ => hc pins s1 σ H1 vs us Q I1 r1 q1) he hpl
/-- T(e, ..), T a built-in type -/
theorem pe_callTy (hc : CallR X (.type T) r) (hg : Gl X x) (hm : X.mg x = none) (hv : bootBuiltins x = some (.type T)) (ha : PA X (e :: es) t) (hn : x ≠ "__name__" := by decide) (hdb : (x == ("__debug__" : Str)) = false := by decide)
    (he : starEach (e :: es) X.env = (false, eval e X.env) :: starEach es X.env := by rfl) (hpl : (backTo pos (starEach es X.env)).any (·.1) = false := by rfl) : PE X (.Call (.Name x p) (e :: es) [] pos) (tCB r t) := by
  intro pins s σ H Q I h
  refine wpAny_Call_Name_kw (ld_blt I hg hm hv ?_ hn hdb)
  exact PyProof.Rows.callWith_type1 (thn (ha pos pins s σ H _ I h) fun us s1 ⟨vs, H1, I1, r1, q1⟩ => hc pins s1 σ H1 vs us Q I1 r1 q1) he hpl
/-- T() -/
theorem pe_callTy0 (hc : CallR X (.type T) r) (hg : Gl X x) (hm : X.mg x = none) (hv : bootBuiltins x = some (.type T)) (hn : x ≠ "__name__" := by decide) (hdb : (x == ("__debug__" : Str)) = false := by decide) :
    PE X (.Call (.Name x p) [] [] pos) (tCB r tNil) := by
  intro pins s σ H Q I h
  refine wpAny_Call_Name_kw (ld_blt I hg hm hv ?_ hn hdb)
  exact PyProof.Rows.callWith_type0 (hc pins s σ H [] [] Q I .nil h)
end
end L2

namespace HT
open PySem PyProof.Rows

/-- t < u of tuples of ints -/
def lexLt : List Int → List Int → Bool
  | [], [] => false
  | [], _ :: _ => true
  | _ :: _, [] => false
  | x :: xs, y :: ys => if x = y then lexLt xs ys else decide (x < y)
theorem lexLt_cons (x y : Int) (xs ys : List Int) : lexLt (x :: xs) (y :: ys) = if x = y then lexLt xs ys else decide (x < y) := rfl
theorem lexLt_nil_nil : lexLt [] [] = false := rfl
theorem lexLt_nil_cons (y : Int) (ys : List Int) : lexLt [] (y :: ys) = true := rfl
theorem lexLt_cons_nil (x : Int) (xs : List Int) : lexLt (x :: xs) [] = false := rfl

theorem eqAt_int (A : Around) (s : Shared) (a : Int) (t : Tok) (c : Int) (u : Tok) : ∃ e, SeqAt.EqAt A s (.int a t) (.int c u) e ∧ (e = true ↔ a = c) :=
  ⟨(a == c), SeqAt.EqAt.int_int a t c u, by simp⟩
theorem rcLt_int (A : Around) (s : Shared) (a : Int) (t : Tok) (c : Int) (u : Tok) (prog : Program) (w : World) (E : Value → Shared → Prop) (Q : Value → Shared → Prop) (h : Q (.bool (decide (a < c))) s) :
    wpAny (model prog w) A (richCompare .Lt (.int a t) (.int c u)) Q E s :=
  (PyProof.Rows.lt_int h : wpAny (model prog w) A (compareOp .Lt (.int a t) (.int c u)) Q E s)

section
open PySem.SeqAt
open PySem.AutoSeq1 (wpAny_loadPart')
open PySem.MeetsSeq PySem.MeetsSeq2 PySem.MeetsSeq3

theorem tuple_lt_ints (l b : Addr) (items items2 : Array Value) (n n2 : Nat) (dd dd2 : Option Addr) (sl sl2 : Array (Option Value)) (ns ms : List Int) (hi : IntsAre items.toList ns) (hj : IntsAre items2.toList ms) :
    Meets (Builtin.«tuple.__lt__» ⟨[.ref l, .ref b], []⟩)
      (fun _ R s => s.heap.get? l = some { cls := .type "tuple", dict := dd, data := .seq items n, slots := sl } ∧ s.heap.get? b = some { cls := .type "tuple", dict := dd2, data := .seq items2 n2, slots := sl2 } ∧
        R (.ok (.ret (.bool (lexLt ns ms)))) s) :=
  .of_wp fun prog w A R s h => by
    obtain ⟨hp, g, d, tk, os⟩ := s; obtain ⟨hl, hb, h⟩ := h
    have f2 := AutoSeq1.sub_tuple_tuple
    have z1 : items.size = ns.length := by rw [← hi.length]; simp
    have z2 : items2.size = ms.length := by rw [← hj.length]; simp
    wp_walk using wpAny_loadPart' hl, wpAny_loadPart' hb, wpAny_forIn_list _ (fun rest b s' => b.1 = none ∧ s' = ⟨hp, g, d, tk, os⟩ ∧ ∃ (vs ws : List Value) (ns' ms' : List Int), rest = vs.zip ws ∧
      IntsAre vs ns' ∧ IntsAre ws ms' ∧ ns'.length + items2.size = ms'.length + items.size ∧ R (.ok (.ret (.bool (lexLt ns' ms')))) ⟨hp, g, d, tk, os⟩) _
    case turn =>
      rintro ⟨y, x⟩ rest b s' ⟨hb', rfl, vs, ws, ns', ms', hz, hvi, hwi, hlen, hR⟩
      cases hvi with
      | nil => rw [List.zip_nil_left] at hz; cases hz
      | cons a t hvi' =>
        cases hwi with
        | nil => rw [List.zip_nil_right] at hz; cases hz
        | cons c u hwi' =>
          rw [List.zip_cons_cons] at hz
          injection hz with hyx hrest
          injection hyx with hy hx
          subst hy hx
          rw [lexLt_cons] at hR
          simp only [List.length_cons] at hlen
          obtain ⟨e, he, hiff⟩ := eqAt_int A.in1 ⟨hp, g, d, tk, os⟩ a t c u
          refine wpAny_bind (he prog w _ _ ?_)
          cases e with
          | true =>
            rw [if_pos (hiff.mp rfl)] at hR
            wp_walk
            exact ⟨rfl, rfl, _, _, _, _, hrest, hvi', hwi', by omega, hR⟩
          | false =>
            rw [if_neg (fun q => absurd (hiff.mpr q) Bool.false_ne_true)] at hR
            have hri := rcLt_int A.in1 ⟨hp, g, d, tk, os⟩ a t c u prog w
            wp_walk using hri
            exact ⟨_, rfl, by simpa using hR⟩
    case fin =>
      rintro ⟨b1, b2⟩ s' ⟨hb', rfl, vs, ws, ns', ms', hz, hvi, hwi, hlen, hR⟩
      simp only at hb'
      subst hb'
      have hv : lexLt ns' ms' = decide (items.size < items2.size) := by
        cases hvi with
        | nil =>
          cases hwi with
          | nil =>
            simp only [List.length_nil] at hlen
            rw [lexLt_nil_nil]
            exact (decide_eq_false (by omega)).symm
          | cons c u hw =>
            simp only [List.length_nil, List.length_cons] at hlen
            rw [lexLt_nil_cons]
            exact (decide_eq_true (by omega)).symm
        | cons a t hv =>
          cases hwi with
          | nil =>
            simp only [List.length_nil, List.length_cons] at hlen
            rw [lexLt_cons_nil]
            exact (decide_eq_false (by omega)).symm
          | cons c u hw =>
            rw [List.zip_cons_cons] at hz
            cases hz
      rw [hv] at hR
      wp_walk
      exact ⟨_, rfl, by simpa [Builtin.Tuple.tupleCompareSizes] using hR⟩
    case h =>
      exact ⟨rfl, rfl, items.toList, items2.toList, ns, ms, rfl, hi, hj, by omega, h⟩
end

section
variable {prog : Program} {w : World} {A : Around} {E : Value → Shared → Prop} {s : Shared}

theorem lt_tupInts {l b : Addr} {items items2 : Array Value} {ns ms : List Int} {Q : Value → Shared → Prop} (hl : IsTup s.heap l items) (hb : IsTup s.heap b items2) (hi : IntsAre items.toList ns) (hj : IntsAre items2.toList ms)
    (hu : A.units < cLine) (h : Q (.bool (lexLt ns ms)) s) : wpAny (model prog w) A (compareOp .Lt (.ref l) (.ref b)) Q E s := by
  obtain ⟨⟨cls, dd, data, sl⟩, ho, hc, n, hd⟩ := id hl
  obtain ⟨⟨cls2, dd2, data2, sl2⟩, ho2, hc2, n2, hd2⟩ := id hb
  simp only at hc hd hc2 hd2
  subst hc hd hc2 hd2
  exact richCompare_meets_room (op := .Lt) ⟨_, ho, rfl⟩ ⟨_, ho2, rfl⟩ PySem.F.slot_tuple_lt PySem.F.entry_tuple_lt (PySem.F.args_tuple_lt_2 _ _) (tuple_lt_ints l b items items2 n n2 dd dd2 sl sl2 ns ms hi hj)
    ⟨ho, ho2, show Value.bool (lexLt ns ms) ≠ Value.notImplemented ∧ Q (.bool (lexLt ns ms)) s from ⟨(fun x => nomatch x), h⟩⟩ hu

/-- t + u, t not empty -/
theorem cat_tup {t b : Addr} {vs ws : List Value} {Q : Value → Shared → Prop} (ht : IsTup s.heap t vs.toArray) (hb : IsTup s.heap b ws.toArray) (hv : vs ≠ [])
    (h1 : ws = [] → Q (.ref t) s) (h2 : ws ≠ [] → Q (.ref s.heap.objs.size) { s with heap := s.heap.push { cls := .type "tuple", data := .seq (vs ++ ws).toArray } })
    (hsz : vs.length + ws.length ≤ sizeLine) : wpAny (model prog w) A (binaryOp .Add (.ref t) (.ref b)) Q E s := by
  obtain ⟨⟨cls, dd, data, sl⟩, ho, hc, n, hd⟩ := id ht
  obtain ⟨⟨cls2, dd2, data2, sl2⟩, ho2, hc2, n2, hd2⟩ := id hb
  simp only at hc hd hc2 hd2
  subst hc hd hc2 hd2
  have e : vs.toArray ++ ws.toArray = (vs ++ ws).toArray := by simp
  by_cases hw : ws = []
  · exact concat_meets ⟨_, ho, rfl⟩ ⟨_, ho2, rfl⟩ noFill_tuple_add seq_tuple_add PySem.F.slot_tuple_add PySem.F.entry_tuple_add (PySem.F.args_tuple_add_2 _ _)
      (tuple_addW1 t b vs.toArray ws.toArray n n2 dd dd2 sl sl2 (by simpa using hv) (by simp [hw])) ⟨ho, ho2, h1 hw⟩
  · refine concat_meets ⟨_, ho, rfl⟩ ⟨_, ho2, rfl⟩ noFill_tuple_add seq_tuple_add PySem.F.slot_tuple_add PySem.F.entry_tuple_add (PySem.F.args_tuple_add_2 _ _)
      (tuple_addW2 t b vs.toArray ws.toArray n n2 dd dd2 sl sl2 (by simpa using hv) (by simpa using hw) (by rw [List.size_toArray, List.size_toArray]; exact hsz)) ⟨ho, ho2, ?_⟩
    rw [e]
    exact h2 hw

/-! ### t[a:b], not the whole -/
/-- a slice's bound as a place among n (d where it is left out) -/
def sIx (n d : Nat) : Option Int → Nat
  | none => d
  | some v => if v < 0 then (v + (n : Int)).toNat else min v.toNat n
theorem sIx_none (n d : Nat) : sIx n d none = d := rfl
theorem sIx_nat (n d k : Nat) : sIx n d (some (k : Int)) = min k n := by
  show (if (k : Int) < 0 then ((k : Int) + (n : Int)).toNat else min (k : Int).toNat n) = min k n
  rw [if_neg (by omega), Int.toNat_natCast]
theorem sIx_le (n d : Nat) (hd : d ≤ n) (o : Option Int) : sIx n d o ≤ n := by
  cases o with
  | none => exact hd
  | some v =>
    show (if v < 0 then (v + (n : Int)).toNat else min v.toNat n) ≤ n
    by_cases hv : v < 0
    · rw [if_pos hv]; omega
    · rw [if_neg hv]; exact Nat.min_le_right _ _
theorem clip_eq (v : Int) (n d : Nat) : (if v < 0 then max (v + (n : Int)) 0 else min v (n : Int)) = ((sIx n d (some v) : Nat) : Int) := by
  show (if v < 0 then max (v + (n : Int)) 0 else min v (n : Int)) = (((if v < 0 then (v + (n : Int)).toNat else min v.toNat n) : Nat) : Int)
  by_cases hv : v < 0
  · simp only [if_pos hv]; omega
  · simp only [if_neg hv]; omega
theorem adjust_gen (lo hi : Option Int) (n : Nat) : Builtin.Slice.sliceAdjust lo hi 1 (n : Int) = (((sIx n 0 lo : Nat) : Int), ((sIx n n hi : Nat) : Int)) := by
  have h1 : ¬ ((1 : Int) < 0) := by omega
  unfold Builtin.Slice.sliceAdjust
  simp only [h1, if_false]
  refine Prod.ext ?_ ?_
  · cases lo with
    | none => rfl
    | some v => exact clip_eq v n 0
  · cases hi with
    | none => rfl
    | some v => exact clip_eq v n n
theorem places_gen (i j : Nat) : Builtin.Slice.slicePlaces (i : Int) (j : Int) 1 = j - i := by
  unfold Builtin.Slice.slicePlaces
  have h1 : (1 : Int) > 0 := by omega
  simp only [h1, if_true, Int.ediv_one]
  split <;> omega
theorem slicePart_ {v : Value} {o : Option Int} {Q : Option Int → Shared → Prop} (p : IsPart v o) (h : Q o s) : wpAny (model prog w) A (Builtin.Slice.slicePartIndex v) Q E s := by
  cases p with
  | none => exact slicePart_none h
  | int i t => exact slicePart_int h
theorem sliceApplied_gen {sl : Addr} {vl vu : Value} {lo hi : Option Int} {n : Nat} {Q : Int × Int × Nat → Shared → Prop} (hs : s.heap.IsSliceOf sl vl vu .none) (pl : IsPart vl lo) (pu : IsPart vu hi)
    (h : Q (((sIx n 0 lo : Nat) : Int), 1, sIx n n hi - sIx n 0 lo) s) : wpAny (model prog w) A (Builtin.Slice.sliceApplied (.ref sl) (pure (n : Int))) Q E s := by
  obtain ⟨os, hos, hcs, hds⟩ := id hs
  unfold Builtin.Slice.sliceApplied Builtin.Slice.sliceFields
  refine wpAny_bind (wpAny_bind (wpAny_field hos hds (x := vl) rfl (wpAny_bind (wpAny_field hos hds (x := vu) rfl (wpAny_bind (wpAny_field hos hds (x := .none) rfl (wpAny_pure ?_)))))))
  refine wpAny_bind (slicePart_none ?_)
  show wpAny _ _ (if ((1 : Int) == 0) = true then _ else _) _ _ s
  rw [if_neg (by decide)]
  refine wpAny_bind (slicePart_ pl (wpAny_bind (slicePart_ pu (wpAny_bind (wpAny_pure ?_)))))
  show wpAny _ _ (match Builtin.Slice.sliceAdjust lo hi 1 (n : Int) with | (lo, hi) => pure (lo, (1 : Int), Builtin.Slice.slicePlaces lo hi 1)) _ _ s
  rw [adjust_gen lo hi n]
  show wpAny _ _ (pure (((sIx n 0 lo : Nat) : Int), (1 : Int), Builtin.Slice.slicePlaces ((sIx n 0 lo : Nat) : Int) ((sIx n n hi : Nat) : Int) 1)) _ _ s
  rw [places_gen]
  exact wpAny_pure h
theorem pick_gen (xs : Array Value) (i k : Nat) : ((List.range k).filterMap fun (m : Nat) => xs[((i : Int) + (m : Int) * 1).toNat]?).toArray = ((xs.toList.drop i).take k).toArray := by
  have e : (fun (m : Nat) => xs[((i : Int) + (m : Int) * 1).toNat]?) = fun m => xs[i + m]? := by
    funext m
    have : ((i : Int) + (m : Int) * 1).toNat = i + m := by omega
    rw [this]
  rw [e]
  have := pick_run xs i k
  rw [List.filterMap_map] at this
  have e2 : ((fun x => xs[x]?) ∘ fun x => i + x) = fun m => xs[i + m]? := rfl
  rw [e2] at this
  rw [this]

theorem getItem_tuple_cut {t sl : Addr} {items : Array Value} {vl vu : Value} {lo hi : Option Int} {Q : Value → Shared → Prop} (ht : IsTup s.heap t items) (hs : s.heap.IsSliceOf sl vl vu .none) (pl : IsPart vl lo) (pu : IsPart vu hi)
    (hw : ¬ (sIx items.size 0 lo = 0 ∧ sIx items.size items.size hi = items.size))
    (h : Q (.ref s.heap.objs.size) { s with heap := s.heap.push { cls := .type "tuple", data := .seq ((items.toList.drop (sIx items.size 0 lo)).take (sIx items.size items.size hi - sIx items.size 0 lo)).toArray } })
    (hsz : items.size ≤ sizeLine) : wpAny (model prog w) A (getItem (.ref t) (.ref sl)) Q E s := by
  have htake : sizeOk (.seq ((items.toList.drop (sIx items.size 0 lo)).take (sIx items.size items.size hi - sIx items.size 0 lo)).toArray) := by
    show ((items.toList.drop (sIx items.size 0 lo)).take (sIx items.size items.size hi - sIx items.size 0 lo)).toArray.size ≤ sizeLine
    rw [List.size_toArray, List.length_take, List.length_drop, Array.length_toList]
    omega
  have hj : sIx items.size items.size hi ≤ items.size := sIx_le _ _ (Nat.le_refl _) hi
  obtain ⟨os, hos, hcs, hds⟩ := id hs
  have hTs : s.TypeIs (.ref sl) "slice" := ⟨os, hos, hcs⟩
  unfold getItem
  try with_reducible refine wpAny_holding ?_
  first | refine wpAny_bind (wpAny_pure ?_) | skip
  refine wpAny_bind (wpAny_sequenceKey ht.typeIs (by decide) ?_)
  refine wpAny_bind (wpAny_callSpecial?_slot (name := Str.ofString "__getitem__") ht.typeIs PyProof.Rows.slot_tuple_getitem
    (wpAny_call_entry PyProof.Rows.slot_tuple_getitem ht.typeIs entry_tuple_getitem ?_ (args_tuple_getitem _ _)))
  show wpAny _ _ (Builtin.Tuple.tupleItemsOf (.ref t) >>= _) _ _ s
  refine wpAny_bind (tupleItemsOf_ ht ?_)
  refine wpAny_bind (wpAny_typeOf hTs ?_)
  rw [if_pos (by decide)]
  refine wpAny_bind (sliceApplied_gen hs pl pu ?_)
  have hno : ¬ ((((sIx items.size 0 lo : Nat) : Int) == 0 && (1 : Int) == 1 && (sIx items.size items.size hi - sIx items.size 0 lo) == items.size) = true) := by
    intro q
    rw [Bool.and_eq_true, Bool.and_eq_true] at q
    have q1 : ((sIx items.size 0 lo : Nat) : Int) = 0 := eq_of_beq q.1.1
    have q2 : sIx items.size items.size hi - sIx items.size 0 lo = items.size := eq_of_beq q.2
    exact hw ⟨by omega, by omega⟩
  show wpAny _ _ (if (((sIx items.size 0 lo : Nat) : Int) == 0 && (1 : Int) == 1 && (sIx items.size items.size hi - sIx items.size 0 lo) == items.size) = true then _ else _) _ _ s
  rw [if_neg hno, pick_gen]
  first
    | exact wpAny_bind (m := Builtin.Tuple.tupleExact _) (wpAny_newObj_type (wpAny_pure ⟨_, rfl, wpAny_pure h⟩) htake)
    | exact wpAny_bind (m := Builtin.Tuple.tupleExact _) (wpAny_newObj_type (wpAny_bind (wpAny_pure (wpAny_pure ⟨_, rfl, wpAny_pure h⟩))) htake)
    | exact wpAny_bind (wpAny_bind (m := Builtin.Tuple.tupleExact _) (wpAny_newObj_type (wpAny_pure (wpAny_pure ⟨_, rfl, wpAny_pure h⟩)) htake))
    | exact wpAny_bind (wpAny_bind (m := Builtin.Tuple.tupleExact _) (wpAny_newObj_type (wpAny_pure ⟨_, rfl, wpAny_pure h⟩) htake))
end
end HT

namespace L2
open PySem PySem.Spec PyProof.Rows

/-! ### the parts of a slice -/
abbrev TO := St → Hp → (Option Int → Hp → Prop) → Prop
/-- a slice's part (left out, or an int) -/
def PO (X : Cx) (e : Option Expr) (t : TO) : Prop :=
  ∀ (pins : List (Addr × Obj)) (s : Shared) (σ : St) (H : Hp) (Q : Option Int → Hp → Prop), Inv X pins σ H s → t σ H Q →
    wpAny (model X.prog X.w) X.A (evalPart e X.env) (fun u s' => ∃ o H', Inv X pins σ H' s' ∧ IsPart u o ∧ Q o H') X.xe s
def tNoPart : TO := fun _ H Q => Q none H
def tPart (t : TE) : TO := fun σ H Q => t σ H fun x H1 => ∃ i, x = .int i ∧ Q (some i) H1

theorem intsAre_of {ns : List Int} : ∀ {us : List Value}, Vals (ns.map V.int) us → IntsAre us ns := by
  induction ns with
  | nil => intro us r; rw [List.map_nil] at r; cases r; exact .nil
  | cons n ns ih =>
    intro us r
    rw [List.map_cons] at r
    cases r with
    | cons r1 r2 =>
      obtain ⟨t, e⟩ := r1
      subst e
      exact .cons n t (ih r2)

section
variable {X : Cx} {e : Expr} {te : TE} {lo hi : Option Expr} {tl th : TO} {pos p2 : Pos}

theorem po_none : PO X none tNoPart := by
  intro pins s σ H Q I h
  rw [evalPart_none]
  exact wpAny_pure ⟨none, H, I, .none, h⟩
theorem po_some (h : PE X e te) : PO X (some e) (tPart te) := by
  intro pins s σ H Q I hw
  rw [evalPart_some]
  refine thn (h pins s σ H _ I hw) fun u s1 ⟨x, H1, I1, r1, q1⟩ => ?_
  obtain ⟨i, rfl, q⟩ := q1
  obtain ⟨t, rfl⟩ := r1
  exact ⟨some i, H1, I1, .int i t, q⟩

/-- what a slice of a value is, by values: the slice object stands at sl -/
def SlR (X : Cx) (r : V → Option Int → Option Int → Hp → VK → Prop) : Prop :=
  ∀ (pins : List (Addr × Obj)) (s : Shared) (σ : St) (H : Hp) (x : V) (v vl vu : Value) (lo hi : Option Int) (sl : Addr) (Q : VK), Inv X pins σ H s → RelV x v → s.heap.IsSliceOf sl vl vu .none → IsPart vl lo → IsPart vu hi → r x lo hi H Q →
    ∃ T id, typeLookup (.type T) "__getitem__" = pure (some (.builtin id)) ∧ s.TypeIs v T ∧ wpAny (model X.prog X.w) X.A (getItem v (.ref sl)) (EP X pins σ Q) X.xe s
theorem SlR.or {r r' : V → Option Int → Option Int → Hp → VK → Prop} (h : SlR X r) (h' : SlR X r') : SlR X (fun x lo hi H Q => r x lo hi H Q ∨ r' x lo hi H Q) := by
  intro pins s σ H x v vl vu lo hi sl Q I rx hs pl pu q
  rcases q with q | q
  · exact h pins s σ H x v vl vu lo hi sl Q I rx hs pl pu q
  · exact h' pins s σ H x v vl vu lo hi sl Q I rx hs pl pu q
def tSl (r : V → Option Int → Option Int → Hp → VK → Prop) (te : TE) (tl th : TO) : TE := fun σ H Q => te σ H fun x H1 => tl σ H1 fun l H2 => th σ H2 fun u H3 => r x l u H3 Q
/-- a[lo:hi], any a -/
theorem pe_slice {r : V → Option Int → Option Int → Hp → VK → Prop} (hr : SlR X r) (he : PE X e te) (hl : PO X lo tl) (hu : PO X hi th) : PE X (.Subscript e (.Slice lo hi none p2) pos) (tSl r te tl th) := by
  intro pins s σ H Q I h
  refine Subscript_ (thn (he pins s σ H _ I h) fun v s1 ⟨x, H1, I1, r1, q1⟩ => ?_)
  refine wpAny_Slice (thn (hl pins s1 σ H1 _ I1 q1) fun vl s2 ⟨l, H2, I2, pl, q2⟩ => thn (hu pins s2 σ H2 _ I2 q2) fun vu s3 ⟨u, H3, I3, pu, q3⟩ => ?_)
  rw [evalPart_none]
  refine wpAny_pure ?_
  have I4 : Inv X pins σ H3 { s3 with heap := s3.heap.push { cls := .type "slice", data := .fields #[vl, vu, .none] } } := I3.kept (t' := s3.toks) fun b ob q => Heap.get?_push_of_some _ q
  obtain ⟨T, id, hT, ht, hg⟩ := hr pins { s3 with heap := s3.heap.push { cls := .type "slice", data := .fields #[vl, vu, .none] } } σ H3 x v vl vu l u s3.heap.objs.size Q I4 r1 (Heap.IsSliceOf.new ..) pl pu q3
  show wpAny (model X.prog X.w) X.A (subscriptTail e (.Slice lo hi none p2) v (.ref s3.heap.objs.size)) (EP X pins σ Q) X.xe { s3 with heap := s3.heap.push { cls := .type "slice", data := .fields #[vl, vu, .none] } }
  exact tail_any (ops := [.ref s3.heap.objs.size, v]) ht hT hg (by with_unfolding_all rfl)

/-- the items of xs[lo:hi] -/
def cutV (xs : List V) (lo hi : Option Int) : List V := (xs.drop (HT.sIx xs.length 0 lo)).take (HT.sIx xs.length xs.length hi - HT.sIx xs.length 0 lo)
theorem cutV_length (xs : List V) (lo hi : Option Int) : (cutV xs lo hi).length ≤ xs.length := by
  unfold cutV
  rw [List.length_take, List.length_drop]
  omega
/-- t[lo:hi], not the whole of it (the whole would be t itself) -/
def rSlT (K : PySem.W.Frag) : V → Option Int → Option Int → Hp → VK → Prop := fun x lo hi H Q => ∃ a xs, x = .ref a ∧ SqT K H a xs ∧
  ¬ (HT.sIx xs.length 0 lo = 0 ∧ HT.sIx xs.length xs.length hi = xs.length) ∧ ∀ p, H p = none → Q (.ref p) (upd H p (.tup (cutV xs lo hi)))
theorem sl_tup : SlR X (rSlT X.K) := by
  intro pins s σ H x v vl vu lo hi sl Q I rx hs pl pu h
  obtain ⟨a, xs, rfl, hx, hw, q⟩ := h
  cases rx
  obtain ⟨its, r, ht, hz⟩ := I.tuple hx
  have hlen : its.toArray.size = xs.length := by rw [List.size_toArray]; exact r.length.symm
  refine ⟨"tuple", _, PyProof.Rows.slot_tuple_getitem.lookup, ht.typeIs, ?_⟩
  refine HT.getItem_tuple_cut ht hs pl pu (by rw [hlen]; exact hw) ?_ (by rw [hlen]; exact hz)
  rw [hlen]
  refine ⟨.ref s.heap.objs.size, _, I.laid (t' := s.toks) (o := .tup (cutV xs lo hi)) (fun b ob q => Heap.get?_push_of_some _ q) (Nat.le_refl _) ?_, rfl, q _ (I.hok.fresh (Nat.le_refl _))⟩
  exact ⟨Nat.le_trans (cutV_length xs lo hi) hz, _, (r.drop (HT.sIx xs.length 0 lo)).take (HT.sIx xs.length xs.length hi - HT.sIx xs.length 0 lo), IsTup.new _ _⟩

/-! ### t < u, t + u -/
def rLtT (K : PySem.W.Frag) : R2 := fun x y H Q => ∃ a b ns ms, x = .ref a ∧ y = .ref b ∧ SqT K H a (ns.map V.int) ∧ SqT K H b (ms.map V.int) ∧ Q (.bl (HT.lexLt ns ms)) H
theorem op_ltT (hu : X.A.units < cLine) : OpR X (compareOp .Lt) (rLtT X.K) := by
  intro pins s σ H x y v u Q I rx ry h
  obtain ⟨a, b, ns, ms, rfl, rfl, ha, hb, q⟩ := h
  cases rx
  cases ry
  obtain ⟨its, r1, p1, _⟩ := I.tuple ha
  obtain ⟨its2, r2, p2, _⟩ := I.tuple hb
  have i1 : IntsAre its.toArray.toList ns := intsAre_of r1
  have i2 : IntsAre its2.toArray.toList ms := intsAre_of r2
  exact HT.lt_tupInts p1 p2 i1 i2 hu ⟨.bl (HT.lexLt ns ms), H, I, rfl, q⟩
/-- t + u, t not empty: u empty gives t itself -/
def rCatT (K : PySem.W.Frag) : R2 := fun x y H Q => ∃ a b xs ys, x = .ref a ∧ y = .ref b ∧ SqT K H a xs ∧ SqT K H b ys ∧ xs ≠ [] ∧ xs.length + ys.length ≤ sizeLine ∧
  (ys = [] → Q (.ref a) H) ∧ (ys ≠ [] → ∀ p, H p = none → Q (.ref p) (upd H p (.tup (xs ++ ys))))
theorem Vals.nil_iff {xs : List V} {us : List Value} (r : Vals xs us) : us = [] ↔ xs = [] := by
  cases r with
  | nil => simp
  | cons _ _ => simp
theorem op_catT : OpR X (binaryOp .Add) (rCatT X.K) := by
  intro pins s σ H x y v u Q I rx ry h
  obtain ⟨a, b, xs, ys, rfl, rfl, ha, hb, hx, hz, q1, q2⟩ := h
  cases rx
  cases ry
  obtain ⟨its, r1, p1, _⟩ := I.tuple ha
  obtain ⟨its2, r2, p2, _⟩ := I.tuple hb
  refine HT.cat_tup p1 p2 (fun z => hx (r1.nil_iff.mp z)) (fun z => ⟨.ref a, H, I, rfl, q1 (r2.nil_iff.mp z)⟩) (fun z => ?_) (by rw [← r1.length, ← r2.length]; exact hz)
  refine ⟨.ref s.heap.objs.size, _, I.laid (t' := s.toks) (o := .tup (xs ++ ys)) (fun b ob q => Heap.get?_push_of_some _ q) (Nat.le_refl _) ?_, rfl, q2 (fun w => z (r2.nil_iff.mpr w)) _ (I.hok.fresh (Nat.le_refl _))⟩
  exact ⟨by rw [List.length_append]; exact hz, _, r1.append r2, IsTup.new _ _⟩
/-- tuple(t) -/
theorem call_tupleT : CallR X (.type "tuple") (fun xs H Q => ∃ a ys, xs = [.ref a] ∧ SqT X.K H a ys ∧ Q (.ref a) H) := by
  intro pins s σ H xs us Q I r h
  obtain ⟨a, ys, rfl, ha, q⟩ := h
  obtain ⟨u, rfl, ru⟩ := vals1 r
  cases ru
  obtain ⟨its, _, p1, _⟩ := I.tuple ha
  exact call_tuple_same (items := its.toArray) p1 ⟨.ref a, H, I, rfl, q⟩
end
end L2

namespace L2
open PySem PySem.Spec PyProof.Rows

/-! ### places -/
/-- the place that an index of any sign means -/
def ixN (n : Nat) (i : Int) : Option Nat := if 0 ≤ i then (if i < n then some i.toNat else none) else if -(n : Int) ≤ i then some (i + n).toNat else none
def atI {α : Type} (xs : List α) (i : Int) : Option α := (ixN xs.length i).bind fun j => xs[j]?
theorem ixN_seq {n : Nat} {i : Int} {j : Nat} (h : ixN n i = some j) : seqIndex? i n = some j ∧ j < n ∧ -(n : Int) ≤ i ∧ i < n := by
  unfold ixN at h
  by_cases h0 : 0 ≤ i
  · rw [if_pos h0] at h
    by_cases h1 : i < n
    · rw [if_pos h1] at h
      have e : i.toNat = j := Option.some.inj h
      exact ⟨by rw [seqIndex_of h0 h1, e], by omega, by omega, h1⟩
    · rw [if_neg h1] at h; cases h
  · rw [if_neg h0] at h
    by_cases h1 : -(n : Int) ≤ i
    · rw [if_pos h1] at h
      have e : (i + n).toNat = j := Option.some.inj h
      exact ⟨by rw [seqIndex_neg (by omega) h1, e], by omega, h1, by omega⟩
    · rw [if_neg h1] at h; cases h
theorem atI_get {α : Type} {xs : List α} {i : Int} {v : α} (h : atI xs i = some v) : ∃ j, seqIndex? i xs.length = some j ∧ xs[j]? = some v ∧ j < xs.length ∧ -(xs.length : Int) ≤ i ∧ i < xs.length := by
  unfold atI at h
  cases e : ixN xs.length i with
  | none => rw [e] at h; cases h
  | some j =>
    rw [e] at h
    obtain ⟨h1, h2, h3, h4⟩ := ixN_seq e
    exact ⟨j, h1, h, h2, h3, h4⟩
theorem atI_nat {α : Type} {xs : List α} {j : Nat} {v : α} (h : xs[j]? = some v) : atI xs (j : Int) = some v := by
  have hj : j < xs.length := (List.getElem?_eq_some_iff.mp h).1
  have e : ixN xs.length (j : Int) = some j := by
    unfold ixN
    rw [if_pos (by omega), if_pos (by omega)]; simp
  unfold atI; rw [e]; exact h
theorem atI_last {α : Type} (xs : List α) (v : α) : atI (xs ++ [v]) (-1) = some v := by
  have hl : (xs ++ [v]).length = xs.length + 1 := by simp
  have e : ixN (xs ++ [v]).length (-1) = some xs.length := by
    unfold ixN
    rw [hl, if_neg (by decide), if_pos (by omega)]
    congr 1
    omega
  unfold atI
  rw [e]
  show (xs ++ [v])[xs.length]? = some v
  simp

/-! ### what may be subscripted -/
/-- what stands as an index of a plain subscript -/
def PlainIx (b : Expr) : Prop := ∀ o i, subscripted b false o i = operate [o, i] (getItem o i)
/-- a subscript by values -/
def IxR (X : Cx) (r : R2) : Prop :=
  ∀ (value slice : Expr) (pins : List (Addr × Obj)) (s : Shared) (σ : St) (H : Hp) (x y : V) (v u : Value) (Q : VK), Inv X pins σ H s → RelV x v → RelV y u → r x y H Q →
    subscripted slice false v u = operate [v, u] (getItem v u) → wpAny (model X.prog X.w) X.A (subscriptTail value slice v u) (EP X pins σ Q) X.xe s
/-- a call of a builtin's method by values: the receiver, the arguments -/
def MtR (X : Cx) (id : String) (r : V → List V → Hp → VK → Prop) : Prop :=
  ∀ (pins : List (Addr × Obj)) (s : Shared) (σ : St) (H : Hp) (x : V) (xs : List V) (v : Value) (us : List Value) (Q : VK), Inv X pins σ H s → RelV x v → Vals xs us → r x xs H Q →
    wpAny (model X.prog X.w) X.A (call (.builtin id) (v :: us)) (EP X pins σ Q) X.xe s
section
variable {X : Cx} {a b : Expr} {ta tb : TE} {pos : Pos}
theorem IxR.or {r r' : R2} (h : IxR X r) (h' : IxR X r') : IxR X (fun x y H Q => r x y H Q ∨ r' x y H Q) := by
  intro value slice pins s σ H x y v u Q I rx ry q hs
  rcases q with q | q
  · exact h value slice pins s σ H x y v u Q I rx ry q hs
  · exact h' value slice pins s σ H x y v u Q I rx ry q hs
theorem MtR.or {id : String} {r r' : V → List V → Hp → VK → Prop} (h : MtR X id r) (h' : MtR X id r') : MtR X id (fun x xs H Q => r x xs H Q ∨ r' x xs H Q) := by
  intro pins s σ H x xs v us Q I rx rs q
  rcases q with q | q
  · exact h pins s σ H x xs v us Q I rx rs q
  · exact h' pins s σ H x xs v us Q I rx rs q
/-- a[b] -/
theorem pe_ix {r : R2} (hr : IxR X r) (ha : PE X a ta) (hb : PE X b tb) (hs : PlainIx b) : PE X (.Subscript a b pos) (tOp r ta tb) := by
  intro pins s σ H Q I h
  exact Subscript_ (binT ha hb I h fun v u s2 x y H2 I2 rx ry q => hr a b pins s2 σ H2 x y v u Q I2 rx ry q (hs _ _))

def rIxL (K : PySem.W.Frag) : R2 := fun x y H Q => ∃ p xs i v, x = .ref p ∧ y = .int i ∧ SqL K H p xs ∧ atI xs i = some v ∧ Q v H
def rIxT (K : PySem.W.Frag) : R2 := fun x y H Q => ∃ p xs i v, x = .ref p ∧ y = .int i ∧ SqT K H p xs ∧ atI xs i = some v ∧ Q v H
def rIxS : R2 := fun x y H Q => ∃ z i c, x = .str z ∧ y = .int i ∧ z.length ≤ sizeLine ∧ atI z.cps.toList i = some c ∧ Q (.str ⟨#[c]⟩) H
theorem ix_list : IxR X (rIxL X.K) := by
  intro value slice pins s σ H x y v u Q I rx ry h hs
  obtain ⟨p, xs, i, z, rfl, rfl, hq, he, q⟩ := h
  cases rx
  obtain ⟨t, rfl⟩ := ry
  obtain ⟨its, r, pl, hz⟩ := I.list hq
  obtain ⟨j, h1, h2, h3, h4, h5⟩ := atI_get he
  obtain ⟨w, ew, rw'⟩ := r.get h2
  have hl := r.length
  have hn := line63
  have fin : EP X pins σ Q w s := ⟨z, H, I, rw', q⟩
  by_cases h0 : 0 ≤ i
  · have hj : i.toNat = j := by
      rw [seqIndex_of h0 h5] at h1
      exact Option.some.inj h1
    exact item_listR pl.isList h0 (by omega) (by rw [hj]; simpa using ew) fin hs
  · have hj : (i + (its.toArray.size : Int)).toNat = j := by
      rw [seqIndex_neg (by omega) h4] at h1
      rw [List.size_toArray, ← hl]
      exact Option.some.inj h1
    exact subscriptTail_builtinR (x := w) pl.isList.typeIs slot_list_getitem.lookup
      (wpAny_getItem_list_neg (Q := fun r s' => r = w ∧ EP X pins σ Q r s') pl.isList (by omega) (by rw [List.size_toArray] <;> omega) (by omega) (by rw [hj]; simpa using ew) ⟨rfl, fin⟩) hs
theorem ix_tup : IxR X (rIxT X.K) := by
  intro value slice pins s σ H x y v u Q I rx ry h hs
  obtain ⟨p, xs, i, z, rfl, rfl, hq, he, q⟩ := h
  cases rx
  obtain ⟨t, rfl⟩ := ry
  obtain ⟨its, r, pl, hz⟩ := I.tuple hq
  obtain ⟨j, h1, h2, h3, h4, h5⟩ := atI_get he
  obtain ⟨w, ew, rw'⟩ := r.get h2
  have hl := r.length
  have hn := line63
  have fin : EP X pins σ Q w s := ⟨z, H, I, rw', q⟩
  exact subscriptTail_builtinR (x := w) pl.typeIs slot_tuple_getitem.lookup
    (getItem_tuple (j := j) (Q := fun r s' => r = w ∧ EP X pins σ Q r s') pl (by omega) (by omega) (by rw [List.size_toArray, ← hl]; exact h1) (by simpa using ew) ⟨rfl, fin⟩) hs
theorem ix_str : IxR X rIxS := by
  intro value slice pins s σ H x y v u Q I rx ry h hs
  obtain ⟨z, i, c, rfl, rfl, hz, he, q⟩ := h
  obtain ⟨t, rfl⟩ := rx
  obtain ⟨t', rfl⟩ := ry
  obtain ⟨j, h1, h2, h3, h4, h5⟩ := atI_get he
  have hl : z.cps.toList.length = z.length := by simp [Str.length]
  rw [hl] at h1 h4 h5
  have hn := line63
  exact tail_any (typeIs_str s z t) slot_str_getitem.lookup (getItem_str (c := c) (by
    have e1 : decide (i < -(2 ^ 63 : Int)) = false := decide_eq_false (by omega)
    have e2 : decide (i ≥ 2 ^ 63) = false := decide_eq_false (by omega)
    rw [e1, e2, Bool.or_false]) (by rw [h1]; simpa using h2) ⟨.str ⟨#[c]⟩, H, I.tok _, ⟨_, rfl⟩, q⟩) hs
/-- list, tuple or str -/
def rIx (K : PySem.W.Frag) : R2 := fun x y H Q => rIxL K x y H Q ∨ rIxT K x y H Q ∨ rIxS x y H Q
theorem ix_seq : IxR X (rIx X.K) := ix_list.or (ix_tup.or ix_str)

/-! ### xs[i] = v, any sign -/
/-- the list's object behind a store -/
theorem mapSeq_set (its : List Value) (n j : Nat) (u : Value) : Obj.mapSeq (·.setIfInBounds j u) { cls := .type "list", data := .seq its.toArray n } = { cls := .type "list", data := .seq (its.set j u).toArray n } := by
  simp [Obj.mapSeq]
theorem Inv.lst {pins : List (Addr × Obj)} {σ : St} {H : Hp} {s : Shared} {p : Addr} {xs : List V} (I : Inv X pins σ H s) (h : H p = some (.lst xs)) :
    ∃ (its : List Value) (n : Nat), Vals xs its ∧ s.heap.get? p = some { cls := .type "list", data := .seq its.toArray n } ∧ xs.length ≤ sizeLine := by
  obtain ⟨z, its, n, r, e⟩ := I.hok p _ h
  exact ⟨its, n, r, e, z⟩
/-- the list at p is written by an update of its object -/
theorem Inv.lstUpd {pins : List (Addr × Obj)} {σ : St} {H : Hp} {s : Shared} {p : Addr} {xs ys : List V} {its its' : List Value} {n n' : Nat} {f : Obj → Obj} (I : Inv X pins σ H s) (h : H p = some (.lst xs))
    (ho : s.heap.get? p = some { cls := .type "list", data := .seq its.toArray n }) (hf : f { cls := .type "list", data := .seq its.toArray n } = { cls := .type "list", data := .seq its'.toArray n' }) (r : Vals ys its') (hz : ys.length ≤ sizeLine) (t : Nat) :
    Inv X pins σ (upd H p (.lst ys)) { s with heap := s.heap.update p f, toks := t } := by
  have e : (s.heap.update p f).get? p = some { cls := .type "list", data := .seq its'.toArray n' } := by
    rw [Heap.get?_update_self f ho (by rw [hf] <;> rfl), hf]
  refine I.write (x := p) (e := p) (by rw [h]; trivial) (.inl rfl) (fun b u hb q => (Heap.get?_update_other _ _ (Ne.symm hb)).trans q) ⟨_, e⟩ ?_
  exact ⟨hz, its', n', r, e⟩
def rSetL : V → V → V → Hp → (Hp → Prop) → Prop := fun o i v H Q => ∃ p xs k j, o = .ref p ∧ i = .int k ∧ H p = some (.lst xs) ∧ ixN xs.length k = some j ∧ Q (upd H p (.lst (xs.set j v)))
theorem set_list : PSet X rSetL := by
  intro pins s σ H o i v ov iv u Q I ro ri rv h
  obtain ⟨p, xs, k, j, rfl, rfl, hp, hj, q⟩ := h
  cases ro
  obtain ⟨t, rfl⟩ := ri
  obtain ⟨its, n, r, ho, hz⟩ := I.lst hp
  obtain ⟨h1, h2, h3, h4⟩ := ixN_seq hj
  have hl := r.length
  have hn := line63
  have I' : Inv X pins σ (upd H p (.lst (xs.set j v))) { s with heap := s.heap.update p (Obj.mapSeq (·.setIfInBounds j u)) } :=
    I.lstUpd hp ho (mapSeq_set its n j u) (r.set rv j) (by rw [List.length_set]; exact hz) s.toks
  by_cases h0 : 0 ≤ k
  · have hk : k.toNat = j := by
      rw [seqIndex_of h0 h4] at h1
      exact Option.some.inj h1
    exact PySem.W.ki_setAt ho h0 (by omega) (by rw [List.size_toArray, ← hl]; exact h4) (by rw [hk]; exact ⟨_, I', q⟩)
  · have hk : (k + (its.toArray.size : Int)).toNat = j := by
      rw [seqIndex_neg (by omega) h3] at h1
      rw [List.size_toArray, ← hl]
      exact Option.some.inj h1
    exact PySem.W.ki_setBack ho (by omega) (by rw [List.size_toArray, ← hl]; exact h3) (by omega) (by rw [hk]; exact ⟨_, I', q⟩)

/-! ### slices -/
theorem slice_bounds (lo hi : Option Int) (n : Nat) : (sliceBounds lo hi none n).1 = ((HT.sIx n 0 lo : Nat) : Int) ∧ (sliceBounds lo hi none n).2.1 = ((HT.sIx n n hi : Nat) : Int) ∧ (sliceBounds lo hi none n).2.2 = 1 := by
  refine ⟨?_, ?_, rfl⟩
  · cases lo with
    | none => simp [sliceBounds, HT.sIx]
    | some i =>
      simp only [sliceBounds, HT.sIx, Option.getD_none, show (1 : Int) > 0 by decide, if_true]
      by_cases h : i < 0
      · simp only [h, if_true] <;> omega
      · simp only [h, if_false] <;> omega
  · cases hi with
    | none => simp [sliceBounds, HT.sIx]
    | some i =>
      simp only [sliceBounds, HT.sIx, Option.getD_none, show (1 : Int) > 0 by decide, if_true]
      by_cases h : i < 0
      · simp only [h, if_true] <;> omega
      · simp only [h, if_false] <;> omega
theorem slicePick_cut (its : List Value) (lo hi : Option Int) : slicePick its.toArray lo hi none = ((its.drop (HT.sIx its.length 0 lo)).take (HT.sIx its.length its.length hi - HT.sIx its.length 0 lo)).toArray := by
  obtain ⟨h1, h2, h3⟩ := slice_bounds lo hi its.toArray.size
  unfold slicePick
  rw [h1, h2, h3]
  simp only [sliceRange_one, pick_run, List.size_toArray] <;> rfl
/-- xs[lo:hi] of a list: a new list -/
def rSlL (K : PySem.W.Frag) : V → Option Int → Option Int → Hp → VK → Prop := fun x lo hi H Q => ∃ a xs, x = .ref a ∧ SqL K H a xs ∧ ∀ p, H p = none → Q (.ref p) (upd H p (.lst (cutV xs lo hi)))
theorem sl_list : SlR X (rSlL X.K) := by
  intro pins s σ H x v vl vu lo hi sl Q I rx hs pl pu h
  obtain ⟨a, xs, rfl, hx, q⟩ := h
  cases rx
  obtain ⟨its, r, ht, hz⟩ := I.list hx
  have hlen := r.length
  refine ⟨"list", _, slot_list_getitem.lookup, ht.isList.typeIs, ?_⟩
  refine wpAny_getItem_list_slice ht.isList hs pl pu .none (by simp) ?_ (by rw [List.size_toArray] <;> omega)
  rw [slicePick_cut, ← hlen]
  refine ⟨.ref s.heap.objs.size, _, I.laid (t' := s.toks) (o := .lst (cutV xs lo hi)) (fun b ob q => Heap.get?_push_of_some _ q) (Nat.le_refl _) ?_, rfl, q _ (I.hok.fresh (Nat.le_refl _))⟩
  exact ⟨Nat.le_trans (cutV_length xs lo hi) hz, _, 0, (r.drop (HT.sIx xs.length 0 lo)).take (HT.sIx xs.length xs.length hi - HT.sIx xs.length 0 lo), Heap.get?_push_size _ rfl⟩

/-! ### in, not in: flat items -/
def flatV : V → Bool
  | .non => true
  | .bl _ => true
  | .int _ => true
  | .str _ => true
  | _ => false
/-- == of flat values -/
def eqV : V → V → Bool
  | .non, .non => true
  | .bl a, .bl b => a == b
  | .bl a, .int b => (if a then 1 else 0) == b
  | .int a, .bl b => a == (if b then 1 else 0)
  | .int a, .int b => a == b
  | .str a, .str b => a == b
  | _, _ => false
theorem eqAt_V {A : Around} {s : Shared} {y x : V} {u v : Value} (ry : RelV y u) (rx : RelV x v) (fy : flatV y = true) (fx : flatV x = true) : SeqAt.EqAt A s u v (eqV y x) := by
  cases y with
  | non =>
    cases ry
    cases x with
    | non => cases rx; exact SeqAt.EqAt.same _
    | bl b => cases rx; exact SeqAt.EqAt.none_bool b
    | int b => obtain ⟨t, rfl⟩ := rx; exact SeqAt.EqAt.none_int b t
    | str b => obtain ⟨t, rfl⟩ := rx; exact SeqAt.EqAt.none_str b t
    | _ => exact absurd (show false = true from fx) Bool.false_ne_true
  | bl a =>
    cases ry
    cases x with
    | non => cases rx; exact SeqAt.EqAt.bool_none a
    | bl b => cases rx; exact SeqAt.EqAt.bool_bool a b
    | int b => obtain ⟨t, rfl⟩ := rx; exact SeqAt.EqAt.bool_int a b t
    | str b => obtain ⟨t, rfl⟩ := rx; exact SeqAt.EqAt.bool_str a b t
    | _ => exact absurd (show false = true from fx) Bool.false_ne_true
  | int a =>
    obtain ⟨t', rfl⟩ := ry
    cases x with
    | non => cases rx; exact SeqAt.EqAt.int_none a t'
    | bl b => cases rx; exact SeqAt.EqAt.int_bool a t' b
    | int b => obtain ⟨t, rfl⟩ := rx; exact SeqAt.EqAt.int_int a t' b t
    | str b => obtain ⟨t, rfl⟩ := rx; exact SeqAt.EqAt.int_str a t' b t
    | _ => exact absurd (show false = true from fx) Bool.false_ne_true
  | str a =>
    obtain ⟨t', rfl⟩ := ry
    cases x with
    | non => cases rx; exact SeqAt.EqAt.str_none a t'
    | bl b => cases rx; exact SeqAt.EqAt.str_bool a t' b
    | int b => obtain ⟨t, rfl⟩ := rx; exact SeqAt.EqAt.str_int a t' b t
    | str b => obtain ⟨t, rfl⟩ := rx; exact SeqAt.EqAt.str_str a t' b t
    | _ => exact absurd (show false = true from fx) Bool.false_ne_true
  | _ => exact absurd (show false = true from fy) Bool.false_ne_true
/-- the items' answers, read off the values (a value's own answer does not lean on its token) -/
def eqU (x : V) (u : Value) : Bool := match u with
  | .none => eqV .non x
  | .bool b => eqV (.bl b) x
  | .int i _ => eqV (.int i) x
  | .str z _ => eqV (.str z) x
  | _ => false
theorem eqU_of {x y : V} {u : Value} (r : RelV y u) (f : flatV y = true) : eqU x u = eqV y x := by
  cases y with
  | non => cases r; rfl
  | bl b => cases r; rfl
  | int i => obtain ⟨t, rfl⟩ := r; rfl
  | str z => obtain ⟨t, rfl⟩ := r; rfl
  | _ => exact absurd (show false = true from f) Bool.false_ne_true
theorem any_eqU {x : V} : ∀ {xs : List V} {us : List Value}, Vals xs us → xs.all flatV = true → us.any (eqU x) = xs.any fun y => eqV y x
  | _, _, .nil, _ => rfl
  | y :: xs, u :: us, .cons r t, f => by
    rw [List.all_cons, Bool.and_eq_true] at f
    rw [List.any_cons, List.any_cons, eqU_of r f.1, any_eqU t f.2]
theorem mem_eqAt {A : Around} {s : Shared} {x : V} {v : Value} (rx : RelV x v) (fx : flatV x = true) : ∀ {xs : List V} {us : List Value}, Vals xs us → xs.all flatV = true → ∀ u ∈ us, SeqAt.EqAt A s u v (eqU x u)
  | _, _, .nil, _ => fun u hu => by cases hu
  | y :: xs, u :: us, .cons r t, f => fun u' hu => by
    rw [List.all_cons, Bool.and_eq_true] at f
    rcases List.mem_cons.mp hu with rfl | hu
    · rw [eqU_of r f.1]; exact eqAt_V r rx f.1 fx
    · exact mem_eqAt rx fx t f.2 u' hu
def inV (x : V) (xs : List V) : Bool := xs.any fun y => eqV y x
/-- x in a list or tuple of flat items -/
def rIn (K : PySem.W.Frag) (neg : Bool) : R2 := fun x y H Q => ∃ p xs, y = .ref p ∧ (SqL K H p xs ∨ SqT K H p xs) ∧ flatV x = true ∧ xs.all flatV = true ∧ Q (.bl (if neg then !inV x xs else inV x xs)) H
theorem op_in_seq : OpR X (compareOp .In) (rIn X.K false) := by
  intro pins s σ H x y v u Q I rx ry h
  obtain ⟨p, xs, rfl, hq, fx, fs, q⟩ := h
  cases ry
  rcases hq with hq | hq
  · obtain ⟨its, r, pl, hz⟩ := I.list hq
    refine SeqAt.in_listAt (eqU x) pl.isList (fun w hw => mem_eqAt rx fx r fs w (by simpa using hw)) ⟨.bl _, H, I, rfl, ?_⟩
    rw [show its.toArray.any (eqU x) = its.any (eqU x) by simp, any_eqU r fs]
    exact q
  · obtain ⟨its, r, pl, hz⟩ := I.tuple hq
    refine SeqAt.in_tupleAt (eqU x) pl (fun w hw => mem_eqAt rx fx r fs w (by simpa using hw)) ⟨.bl _, H, I, rfl, ?_⟩
    rw [show its.toArray.any (eqU x) = its.any (eqU x) by simp, any_eqU r fs]
    exact q
theorem op_notIn_seq : OpR X (compareOp .NotIn) (rIn X.K true) := by
  intro pins s σ H x y v u Q I rx ry h
  obtain ⟨p, xs, rfl, hq, fx, fs, q⟩ := h
  cases ry
  rcases hq with hq | hq
  · obtain ⟨its, r, pl, hz⟩ := I.list hq
    refine SeqAt.notIn_listAt (eqU x) pl.isList (fun w hw => mem_eqAt rx fx r fs w (by simpa using hw)) ⟨.bl _, H, I, rfl, ?_⟩
    rw [show its.toArray.any (eqU x) = its.any (eqU x) by simp, any_eqU r fs]
    exact q
  · obtain ⟨its, r, pl, hz⟩ := I.tuple hq
    refine SeqAt.notIn_tupleAt (eqU x) pl (fun w hw => mem_eqAt rx fx r fs w (by simpa using hw)) ⟨.bl _, H, I, rfl, ?_⟩
    rw [show its.toArray.any (eqU x) = its.any (eqU x) by simp, any_eqU r fs]
    exact q
theorem op_notIn_str : OpR X (compareOp .NotIn) (fun x y H Q => ∃ i j, x = .str i ∧ y = .str j ∧ Q (.bl (!(!(Builtin.Str.occurrences j i 0 j.length 1).isEmpty))) H) := by
  intro pins s σ H x y v u Q I rx ry h
  obtain ⟨i, j, rfl, rfl, q⟩ := h
  obtain ⟨t, rfl⟩ := rx
  obtain ⟨t', rfl⟩ := ry
  exact notIn_str ⟨.bl _, H, I, rfl, q⟩

/-! ### len, list(x), tuple(x) of any list or tuple that is read -/
theorem call_len_seq : CallR X (.builtin "len") (fun xs H Q => ∃ p ys, xs = [.ref p] ∧ (SqL X.K H p ys ∨ SqT X.K H p ys) ∧ Q (.int ys.length) H) := by
  intro pins s σ H xs us Q I r h
  obtain ⟨p, ys, rfl, hq, q⟩ := h
  obtain ⟨u, rfl, rx⟩ := vals1 r
  cases rx
  have hn := line63
  rcases hq with hq | hq
  · obtain ⟨its, r', pl, hz⟩ := I.list hq
    have hlen := r'.length
    exact Calls.call_len_list pl.isList (by simp only [List.size_toArray] <;> omega) ⟨.int ys.length, H, I.tok _, ⟨s.toks + 1, by rw [List.size_toArray, hlen]⟩, q⟩
  · obtain ⟨its, r', pl, hz⟩ := I.tuple hq
    have hlen := r'.length
    exact len_tuple pl (by simp only [List.size_toArray] <;> omega) ⟨.int ys.length, H, I.tok _, ⟨s.toks + 1, by rw [List.size_toArray, hlen]⟩, q⟩
theorem call_len_str : CallR X (.builtin "len") (fun xs H Q => ∃ z, xs = [.str z] ∧ z.length ≤ sizeLine ∧ Q (.int z.length) H) := by
  intro pins s σ H xs us Q I r h
  obtain ⟨z, rfl, hz, q⟩ := h
  obtain ⟨u, rfl, t, rfl⟩ := vals1 r
  have hn := line63
  exact len_str (by omega) ⟨.int z.length, H, I.tok _, ⟨_, rfl⟩, q⟩
theorem CallR.or {f : Value} {r r' : List V → Hp → VK → Prop} (h : CallR X f r) (h' : CallR X f r') : CallR X f (fun xs H Q => r xs H Q ∨ r' xs H Q) := by
  intro pins s σ H xs us Q I rs q
  rcases q with q | q
  · exact h pins s σ H xs us Q I rs q
  · exact h' pins s σ H xs us Q I rs q
theorem call_list_of : CallR X (.type "list") (fun xs H Q => ∃ p ys, xs = [.ref p] ∧ (SqL X.K H p ys ∨ SqT X.K H p ys) ∧ ∀ l, H l = none → Q (.ref l) (upd H l (.lst ys))) := by
  intro pins s σ H xs us Q I r h
  obtain ⟨p, ys, rfl, hq, q⟩ := h
  obtain ⟨u, rfl, rx⟩ := vals1 r
  cases rx
  have fin : ∀ (its : List Value), Vals ys its → ys.length ≤ sizeLine → ∀ (h' : Heap) (c' : Nat), (∀ b o', s.heap.get? b = some o' → h'.get? b = some o') →
      h'.get? s.heap.objs.size = some { cls := .type "list", dict := none, data := .seq its.toArray c', slots := #[] } → EP X pins σ Q (.ref s.heap.objs.size) { s with heap := h' } := fun its r' hz h' c' kp e =>
    ⟨.ref s.heap.objs.size, _, I.laid (t' := s.toks) kp (Nat.le_refl _) (show ObjOk X.prog X.w _ h' _ (.lst ys) from ⟨hz, its, c', r', e⟩), rfl, q _ (I.hok.fresh (Nat.le_refl _))⟩
  rcases hq with hq | hq
  · obtain ⟨its, r', pl, hz⟩ := I.list hq
    have hlen := r'.length
    obtain ⟨o, ho, hc, n, hd⟩ := pl.isList
    exact call_list_seq p (.inl rfl) ho hc hd (fun h' c' kp e => fin its r' hz h' c' kp e) (by simp only [List.size_toArray] <;> omega)
  · obtain ⟨its, r', pl, hz⟩ := I.tuple hq
    have hlen := r'.length
    obtain ⟨o, ho, hc, n, hd⟩ := pl
    exact call_list_seq p (.inr rfl) ho hc hd (fun h' c' kp e => fin its r' hz h' c' kp e) (by simp only [List.size_toArray] <;> omega)
theorem call_tuple_of : CallR X (.type "tuple") (fun xs H Q => ∃ p ys, xs = [.ref p] ∧ ((SqL X.K H p ys ∧ ∀ l, H l = none → Q (.ref l) (upd H l (.tup ys))) ∨ (SqT X.K H p ys ∧ Q (.ref p) H))) := by
  intro pins s σ H xs us Q I r h
  obtain ⟨p, ys, rfl, h⟩ := h
  obtain ⟨u, rfl, rx⟩ := vals1 r
  cases rx
  rcases h with ⟨hq, q⟩ | ⟨hq, q⟩
  · obtain ⟨its, r', pl, hz⟩ := I.list hq
    have hlen := r'.length
    refine call_tuple_list pl.isList (fun h' kp => ?_) (by simp only [List.size_toArray] <;> omega)
    have I1 : Inv X pins σ H { s with heap := h' } := I.kept (t' := s.toks) kp
    have I2 : Inv X pins σ (upd H h'.objs.size (.tup ys)) { s with heap := h'.push { cls := .type "tuple", data := .seq its.toArray } } :=
      I1.laid (t' := s.toks) (fun b o e => Heap.get?_push_of_some _ e) (Nat.le_refl _) (show ObjOk X.prog X.w _ _ _ (.tup ys) from ⟨hz, its, r', IsTup.new _ _⟩)
    exact ⟨.ref h'.objs.size, _, I2, rfl, q _ (I1.hok.fresh (Nat.le_refl _))⟩
  · obtain ⟨its, r', pl, hz⟩ := I.tuple hq
    exact call_tuple_same pl ⟨.ref p, H, I, rfl, q⟩

/-! ### the call of a builtin's method: o.m(..) -/
/-- the value is of that builtin type -/
def tyV (K : PySem.W.Frag) (T : String) (x : V) (H : Hp) : Prop := match x with
  | .str _ => T = "str"
  | .int _ => T = "int"
  | .ref p => (T = "list" ∧ ∃ xs, SqL K H p xs) ∨ (T = "tuple" ∧ ∃ o, K.lookup p = some o ∧ o.cls = .type "tuple" ∧ o.dict = none) ∨
      (T = "dict" ∧ ((∃ kvs, H p = some (.dK kvs)) ∨ ∃ kvs, H p = some (.dT kvs))) ∨ (T = "set" ∧ ∃ S n, H p = some (.set S n))
  | _ => False
theorem tyV_is {pins : List (Addr × Obj)} {σ : St} {H : Hp} {s : Shared} {T : String} {x : V} {v : Value} (I : Inv X pins σ H s) (r : RelV x v) (ty : tyV X.K T x H) :
    s.TypeIs v T ∧ ∀ a, v = .ref a → ∃ ob, s.heap.get? a = some ob ∧ ob.dict = none := by
  cases x with
  | str z =>
    obtain ⟨t, rfl⟩ := r
    cases (show T = "str" from ty)
    exact ⟨typeIs_str s z t, fun _ e => nomatch e⟩
  | int i =>
    obtain ⟨t, rfl⟩ := r
    cases (show T = "int" from ty)
    exact ⟨typeIs_int s i t, fun _ e => nomatch e⟩
  | ref p =>
    cases r
    rcases ty with ⟨rfl, xs, hq⟩ | ⟨rfl, o, hk, hc, hd⟩ | ⟨rfl, hk⟩ | ⟨rfl, S, n, hk⟩
    · obtain ⟨its, _, pl, _⟩ := I.list hq
      refine ⟨pl.isList.typeIs, fun a e => ?_⟩
      cases e
      obtain ⟨o, n, e, c, hd, _⟩ := pl
      exact ⟨o, e, hd⟩
    · refine ⟨⟨o, I.kIn p o hk, hc⟩, fun a e => ?_⟩
      cases e
      exact ⟨o, I.kIn _ o hk, hd⟩
    · have z : ∃ o, s.heap.get? p = some o ∧ o.ExactDict := by
        rcases hk with ⟨kvs, hk⟩ | ⟨kvs, hk⟩
        · obtain ⟨_, _, _, _, o, _, _, e, ex, _⟩ := I.hok p _ hk
          exact ⟨o, e, ex⟩
        · obtain ⟨_, _, _, _, o, _, _, e, ex, _⟩ := I.hok p _ hk
          exact ⟨o, e, ex⟩
      obtain ⟨o, e, ex⟩ := z
      refine ⟨⟨o, e, ex.1⟩, fun a e2 => ?_⟩
      cases e2
      exact ⟨o, e, ex.2.1⟩
    · obtain ⟨o, _, _, _, e, ex, _⟩ := I.hok p _ hk
      refine ⟨⟨o, e, ex.1⟩, fun a e2 => ?_⟩
      cases e2
      exact ⟨o, e, ex.2.1⟩
  | _ => exact False.elim ty
def tBM0 (K : PySem.W.Frag) (T : String) (r : V → List V → Hp → VK → Prop) (to : TE) : TE := fun σ H Q => to σ H fun x H1 => tyV K T x H1 ∧ r x [] H1 Q
def tBM (K : PySem.W.Frag) (T : String) (r : V → List V → Hp → VK → Prop) (to : TE) (t : TA) : TE := fun σ H Q => to σ H fun x H1 => tyV K T x H1 ∧ t σ H1 fun xs H2 => r x xs H2 Q
variable {o e : Expr} {es : List Expr} {to : TE} {t : TA} {name : Str} {apos cpos : Pos} {T id : String} {r : V → List V → Hp → VK → Prop}
theorem pe_bm0 (pa : PlainAttrs T) (slot : Slot T name id) (hty : typeOf (.builtin id) = pure (.type "method_descriptor")) (hm : MtR X id r) (ho : PE X o to)
    (hbase : attributeBase o name X.env (eval o X.env) = eval o X.env := by rfl) (hline : (apos.endLine == cpos.line) = true := by rfl) : PE X (.Call (.Attribute o name apos) [] [] cpos) (tBM0 X.K T r to) := by
  intro pins s σ H Q I h
  refine wpAny_Call_method0_late hbase hline (thn (ho pins s σ H _ I h) fun v s1 ⟨x, H1, I1, r1, ty, q1⟩ => ?_)
  obtain ⟨h1, h2⟩ := tyV_is I1 r1 ty
  exact ⟨T, id, pa, slot, hty, h1, h2, Calls.callWith_builtin rfl (PySem.evalArgs_none (hm pins s1 σ H1 x [] v [] Q I1 r1 .nil q1))⟩
theorem pe_bm (pa : PlainAttrs T) (slot : Slot T name id) (hty : typeOf (.builtin id) = pure (.type "method_descriptor")) (hm : MtR X id r) (ho : PE X o to) (ha : PA X (e :: es) t)
    (hbase : attributeBase o name X.env (eval o X.env) = eval o X.env := by rfl)
    (hfew : ((backTo cpos (starEach (e :: es) X.env)).all (fun x => !x.1) && (backToKw cpos (keywordEach [] X.env)).all (fun x => x.1.isSome)
      && decide ((e :: es).length + ([] : List Keyword).length + (if ([] : List Keyword).isEmpty then 0 else 1) < 30)) = true := by rfl)
    (hline : (apos.endLine == cpos.line) = true := by rfl) (hs : starEach (e :: es) X.env = (false, eval e X.env) :: starEach es X.env := by rfl) (hplain : (backTo cpos (starEach es X.env)).any (·.1) = false := by rfl) :
    PE X (.Call (.Attribute o name apos) (e :: es) [] cpos) (tBM X.K T r to t) := by
  intro pins s σ H Q I h
  refine wpAny_Call_method_late hbase hfew hline rfl (thn (ho pins s σ H _ I h) fun v s1 ⟨x, H1, I1, r1, ty, q1⟩ => ?_)
  obtain ⟨h1, h2⟩ := tyV_is I1 r1 ty
  refine ⟨T, id, pa, slot, hty, h1, h2, ?_⟩
  have hA := ha cpos pins s1 σ H1 _ I1 q1
  rw [hs] at hA ⊢
  refine Calls.callWith_builtin (by show (false || (backTo cpos (starEach es X.env)).any (·.1)) = false; rw [hplain] <;> rfl) (Calls.evalArgs_plain ?_)
  exact thn hA fun us s2 ⟨vs, H2, I2, r2, q2⟩ => hm pins s2 σ H2 x vs v us Q I2 r1 r2 q2
/- xs.append(e), list.index on a module's tuple .. are MtR facts of 06m -/
end
end L2

namespace L2
open PySem PySem.Spec PyProof.Rows

def MtM (X : Cx) (id : String) (r : V → List V → Hp → VK → Prop) : Prop :=
  ∀ (pins : List (Addr × Obj)) (s : Shared) (σ : St) (H : Hp) (x : V) (xs : List V) (v : Value) (us : List Value) (Q : VK), Inv X pins σ H s → RelV x v → Vals xs us → r x xs H Q →
    wpAny (model X.prog X.w) X.A (call (.builtin id) (v :: us)) (EP X pins σ Q) X.xe s

/-! ### lists of values -/
theorem Vals.one : ∀ {x : V} {us : List Value}, Vals [x] us → ∃ u, us = [u] ∧ RelV x u
  | _, _, .cons r .nil => ⟨_, rfl, r⟩
theorem Vals.two : ∀ {x y : V} {us : List Value}, Vals [x, y] us → ∃ u v, us = [u, v] ∧ RelV x u ∧ RelV y v
  | _, _, _, .cons r (.cons q .nil) => ⟨_, _, rfl, r, q⟩
theorem Vals.zero : ∀ {us : List Value}, Vals [] us → us = []
  | _, .nil => rfl
theorem Vals.dropLast {xs : List V} {us : List Value} (h : Vals xs us) : Vals xs.dropLast us.dropLast := by
  induction h with
  | nil => exact .nil
  | cons r t ih =>
    cases t with
    | nil => exact .nil
    | cons q t' => exact .cons r ih
theorem Vals.eraseIdx : ∀ {xs : List V} {us : List Value} (i : Nat), Vals xs us → Vals (xs.eraseIdx i) (us.eraseIdx i)
  | _, _, _, .nil => .nil
  | _, _, 0, .cons _ t => t
  | _, _, i + 1, .cons r t => .cons r (Vals.eraseIdx i t)
theorem Vals.reverse {xs : List V} {us : List Value} (h : Vals xs us) : Vals xs.reverse us.reverse := by
  induction h with
  | nil => exact .nil
  | cons r t ih => rw [List.reverse_cons, List.reverse_cons]; exact Vals.append ih (.cons r .nil)
theorem Vals.rep {xs : List V} {us : List Value} (h : Vals xs us) : ∀ k : Nat, Vals (List.replicate k xs).flatten (List.replicate k us).flatten
  | 0 => .nil
  | k + 1 => by
    rw [List.replicate_succ, List.replicate_succ, List.flatten_cons, List.flatten_cons]
    exact Vals.append h (Vals.rep h k)
theorem erase_last {α : Type} (l : List α) : l.eraseIdx (l.length - 1) = l.dropLast := by
  induction l with
  | nil => rfl
  | cons a r ih =>
    cases r with
    | nil => rfl
    | cons b r =>
      have e : (a :: b :: r).length - 1 = ((b :: r).length - 1) + 1 := by
        have h1 : (a :: b :: r).length = r.length + 2 := rfl
        have h2 : (b :: r).length = r.length + 1 := rfl
        omega
      rw [e, List.eraseIdx_cons_succ, ih]
      all_goals rfl
theorem len_erase {α : Type} : ∀ (l : List α) (i : Nat), (l.eraseIdx i).length ≤ l.length
  | [], _ => Nat.le_refl _
  | _ :: _, 0 => Nat.le_succ _
  | _ :: r, i + 1 => Nat.succ_le_succ (len_erase r i)
theorem foldl_rep (its : List Value) : ∀ (k : Nat) (acc : List Value),
    List.foldl (fun x1 x2 => x1 ++ x2) acc.toArray (List.replicate k its.toArray) = (acc ++ (List.replicate k its).flatten).toArray
  | 0, acc => by simp
  | k + 1, acc => by
    have e : acc.toArray ++ its.toArray = (acc ++ its).toArray := by simp
    have e2 : (acc ++ its) ++ (List.replicate k its).flatten = acc ++ (List.replicate (k + 1) its).flatten := by
      rw [List.replicate_succ, List.flatten_cons, List.append_assoc]
    rw [← e2, ← foldl_rep its k (acc ++ its), ← e, List.replicate_succ, List.foldl_cons]

section
variable {X : Cx} {pins : List (Addr × Obj)} {σ : St} {H : Hp} {s : Shared} {l b : Addr} {xs ys zs : List V}

/-! ### the two steps: a tracked list is rewritten, a new list is laid -/
theorem Inv.lset {its its' : List Value} {n : Nat} {f : Array Value → Array Value} {t' : Nat} (I : Inv X pins σ H s) (hH : H l = some (.lst xs))
    (e : s.heap.get? l = some { cls := .type "list", data := .seq its.toArray n }) (hf : f its.toArray = its'.toArray) (hv : Vals ys its') (hz : ys.length ≤ sizeLine) :
    Inv X pins σ (upd H l (.lst ys)) { s with heap := s.heap.update l (Obj.mapSeq f), toks := t' } := by
  have q := PySem.IsL.update e f
  rw [hf] at q
  refine I.write (x := l) (e := l) (by rw [hH]; exact trivial) (.inl rfl) (fun b' u hb hu => (Heap.get?_update_other s.heap (Obj.mapSeq f) (Ne.symm hb)).trans hu) ⟨_, q⟩ ?_
  exact ⟨hz, its', _, hv, q⟩
theorem Inv.lnew {its : List Value} {t' : Nat} (I : Inv X pins σ H s) (hv : Vals ys its) (hz : ys.length ≤ sizeLine) :
    Inv X pins σ (upd H s.heap.objs.size (.lst ys)) { s with heap := s.heap.push { cls := .type "list", data := .seq its.toArray }, toks := t' } :=
  I.laid (fun _ _ q => Heap.get?_push_of_some _ q) (Nat.le_refl _) ⟨hz, its, 0, hv, Heap.get?_push_size _ rfl⟩
theorem Inv.fresh (I : Inv X pins σ H s) : H s.heap.objs.size = none := I.hok.fresh (Nat.le_refl _)
theorem Inv.lstM (I : Inv X pins σ H s) (hH : H l = some (.lst xs)) : xs.length ≤ sizeLine ∧ ∃ (its : List Value) (n : Nat), Vals xs its ∧ xs.length = its.length ∧ s.heap.get? l = some { cls := .type "list", data := .seq its.toArray n } := by
  obtain ⟨z, its, n, r, e⟩ := I.hok l _ hH
  exact ⟨z, its, n, r, r.length, e⟩

theorem notLongL {n : Nat} (h : n ≤ sizeLine) : Builtin.List.listTooLong n = false := by
  unfold Builtin.List.listTooLong
  exact decide_eq_false (by omega)
end

section
variable {X : Cx}

/-! ### methods -/
def rAppend : V → List V → Hp → VK → Prop := fun x vs H Q => ∃ l xs y, x = .ref l ∧ vs = [y] ∧ H l = some (.lst xs) ∧ xs.length < sizeLine ∧ Q .non (upd H l (.lst (xs ++ [y])))
theorem mt_append : MtM X "list.append" rAppend := by
  intro pins s σ H x vs v us Q I rx rv h
  obtain ⟨l, xs, y, rfl, rfl, hH, hz, q⟩ := h
  cases rx
  obtain ⟨u, rfl, ru⟩ := rv.one
  obtain ⟨z, its, n, r, hl, e⟩ := I.lstM hH
  refine call_meets F.slot_list_append ⟨_, e, rfl⟩ F.entry_list_append (F.args_list_append_2 _ _) (PySem.list_append l its.toArray n u (by rw [List.size_toArray]; omega)) ⟨e, ?_⟩
  refine ⟨.non, _, I.lset (its' := its ++ [u]) hH e (by simp) (r.append (.cons ru .nil)) ?_, rfl, q⟩
  rw [List.length_append, List.length_singleton]
  omega

def rExtend : V → List V → Hp → VK → Prop := fun x vs H Q => ∃ l b xs zs, x = .ref l ∧ vs = [.ref b] ∧ H l = some (.lst xs) ∧ H b = some (.lst zs) ∧ xs.length + zs.length ≤ sizeLine ∧ Q .non (upd H l (.lst (xs ++ zs)))
theorem mt_extend : MtM X "list.extend" rExtend := by
  intro pins s σ H x vs v us Q I rx rv h
  obtain ⟨l, b, xs, zs, rfl, rfl, hH, hB, hz, q⟩ := h
  cases rx
  obtain ⟨u, rfl, ru⟩ := rv.one
  cases ru
  obtain ⟨z, its, n, r, hl, e⟩ := I.lstM hH
  obtain ⟨z2, its2, n2, r2, hl2, e2⟩ := I.lstM hB
  have hsz : its.toArray.size + its2.toArray.size ≤ sizeLine := by rw [List.size_toArray, List.size_toArray]; omega
  have hlong : ¬ (!its.toArray.isEmpty && Builtin.List.listTooLong (its.toArray.size + its2.toArray.size)) = true := by
    rw [notLongL hsz, Bool.and_false]
    exact Bool.false_ne_true
  refine call_meets F.slot_list_extend ⟨_, e, rfl⟩ F.entry_list_extend (F.args_list_extend_2 _ _)
    (AutoSeq1.list_extend_list_list_0 l its.toArray n b its2.toArray n2 hlong (by rw [List.size_toArray]; omega) (by omega)) ⟨e, e2, ?_⟩
  refine ⟨.non, _, I.lset (its' := its ++ its2) hH e (by simp) (r.append r2) ?_, rfl, q⟩
  rw [List.length_append]
  omega

def rPop : V → List V → Hp → VK → Prop := fun x vs H Q => ∃ l xs y, x = .ref l ∧ vs = [] ∧ H l = some (.lst xs) ∧ xs[xs.length - 1]? = some y ∧ Q y (upd H l (.lst xs.dropLast))
theorem mt_pop : MtM X "list.pop" rPop := by
  intro pins s σ H x vs v us Q I rx rv h
  obtain ⟨l, xs, y, rfl, rfl, hH, hy, q⟩ := h
  cases rx
  have hus := rv.zero
  subst hus
  obtain ⟨z, its, n, r, hl, e⟩ := I.lstM hH
  obtain ⟨u, hu, ru⟩ := r.get hy
  have hy' : its.toArray[its.toArray.size - 1]? = some u := by
    show its.toArray[its.length - 1]? = some u
    rw [← Array.getElem?_toList, ← hl]
    exact hu
  refine call_meets F.slot_list_pop ⟨_, e, rfl⟩ F.entry_list_pop (F.args_list_pop_1 _) (MeetsSeq.list_pop_last l its.toArray n u hy' (by rw [List.size_toArray]; omega)) ⟨e, ?_⟩
  refine ⟨y, _, I.lset (its' := its.dropLast) hH e ?_ r.dropLast ?_, ru, q⟩
  · show its.toArray.eraseIdxIfInBounds (its.toArray.size - 1) = its.dropLast.toArray
    rw [List.size_toArray, List.eraseIdxIfInBounds_toArray, erase_last]
  · rw [List.length_dropLast]
    omega

def rPopAt : V → List V → Hp → VK → Prop := fun x vs H Q => ∃ l xs i k y, x = .ref l ∧ vs = [.int i] ∧ H l = some (.lst xs) ∧ -(2 ^ 63) ≤ i ∧ i < 2 ^ 63 ∧ seqIndex? i xs.length = some k ∧ xs[k]? = some y ∧ Q y (upd H l (.lst (xs.eraseIdx k)))
theorem mt_popAt : MtM X "list.pop" rPopAt := by
  intro pins s σ H x vs v us Q I rx rv h
  obtain ⟨l, xs, i, k, y, rfl, rfl, hH, h1, h2, hk, hy, q⟩ := h
  cases rx
  obtain ⟨u, rfl, ru⟩ := rv.one
  obtain ⟨t, rfl⟩ := ru
  obtain ⟨z, its, n, r, hl, e⟩ := I.lstM hH
  obtain ⟨w, hw, rw'⟩ := r.get hy
  refine call_meets F.slot_list_pop ⟨_, e, rfl⟩ F.entry_list_pop (F.args_list_pop_2 _ _)
    (MeetsSeq.list_pop_at l its.toArray n i t k w (fitsIndex_both h1 h2) (by rw [List.size_toArray, ← hl]; exact hk) (by rw [← Array.getElem?_toList]; exact hw) (by rw [List.size_toArray]; omega)) ⟨e, ?_⟩
  refine ⟨y, _, I.lset (its' := its.eraseIdx k) hH e ?_ (r.eraseIdx k) ?_, rw', q⟩
  · show its.toArray.eraseIdxIfInBounds k = (its.eraseIdx k).toArray
    rw [List.eraseIdxIfInBounds_toArray]
  · have := len_erase xs k
    omega

def rReverse : V → List V → Hp → VK → Prop := fun x vs H Q => ∃ l xs, x = .ref l ∧ vs = [] ∧ H l = some (.lst xs) ∧ Q .non (upd H l (.lst xs.reverse))
theorem mt_reverse : MtM X "list.reverse" rReverse := by
  intro pins s σ H x vs v us Q I rx rv h
  obtain ⟨l, xs, rfl, rfl, hH, q⟩ := h
  cases rx
  have hus := rv.zero
  subst hus
  obtain ⟨z, its, n, r, hl, e⟩ := I.lstM hH
  refine call_meets F.slot_list_reverse ⟨_, e, rfl⟩ F.entry_list_reverse (F.args_list_reverse_1 _) (AutoSeq1.list_reverse_list_0 l its.toArray n (by rw [List.size_toArray]; omega)) ⟨e, ?_⟩
  refine ⟨.non, _, I.lset (its' := its.reverse) hH e (by simp) r.reverse ?_, rfl, q⟩
  rw [List.length_reverse]
  omega

def rClear : V → List V → Hp → VK → Prop := fun x vs H Q => ∃ l xs, x = .ref l ∧ vs = [] ∧ H l = some (.lst xs) ∧ Q .non (upd H l (.lst []))
theorem mt_clear : MtM X "list.clear" rClear := by
  intro pins s σ H x vs v us Q I rx rv h
  obtain ⟨l, xs, rfl, rfl, hH, q⟩ := h
  cases rx
  have hus := rv.zero
  subst hus
  obtain ⟨z, its, n, r, hl, e⟩ := I.lstM hH
  refine call_meets F.slot_list_clear ⟨_, e, rfl⟩ F.entry_list_clear (F.args_list_clear_1 _) (AutoSeq1.list_clear_list_0 l its.toArray n (by rw [List.size_toArray]; omega)) ⟨e, ?_⟩
  exact ⟨.non, _, I.lset (its' := []) (ys := []) hH e rfl .nil (Nat.zero_le _), rfl, q⟩

/-! ### list + list, list += list, list * int -/
def rCat : R2 := fun x y H Q => ∃ l b xs zs, x = .ref l ∧ y = .ref b ∧ H l = some (.lst xs) ∧ H b = some (.lst zs) ∧ xs.length + zs.length ≤ sizeLine ∧ ∀ p, H p = none → Q (.ref p) (upd H p (.lst (xs ++ zs)))
theorem op_cat : OpR X (binaryOp .Add) rCat := by
  intro pins s σ H x y v u Q I rx ry h
  obtain ⟨l, b, xs, zs, rfl, rfl, hH, hB, hz, q⟩ := h
  cases rx
  cases ry
  obtain ⟨z, its, n, r, hl, e⟩ := I.lstM hH
  obtain ⟨z2, its2, n2, r2, hl2, e2⟩ := I.lstM hB
  refine PySem.P.add_list e e2 ?_ (by rw [List.size_toArray, List.size_toArray]; omega)
  have ea : its.toArray ++ its2.toArray = (its ++ its2).toArray := by simp
  rw [ea]
  exact ⟨.ref _, _, I.lnew (t' := s.toks) (r.append r2) (by rw [List.length_append]; omega), rfl, q _ I.fresh⟩
/-- a list times an int (a negative one is nothing) -/
def rRep : R2 := fun x y H Q => ∃ l k xs, x = .ref l ∧ y = .int k ∧ H l = some (.lst xs) ∧ -(2 ^ 63) ≤ k ∧ k < 2 ^ 63 ∧ xs.length * k.toNat ≤ sizeLine ∧
  ∀ p, H p = none → Q (.ref p) (upd H p (.lst (List.replicate k.toNat xs).flatten))
theorem len_rep {α : Type} (xs : List α) (k : Nat) : (List.replicate k xs).flatten.length = k * xs.length := by
  induction k with
  | zero => simp
  | succ k ih => rw [List.replicate_succ, List.flatten_cons, List.length_append, ih, Nat.succ_mul, Nat.add_comm]
theorem op_rep : OpR X (binaryOp .Mult) rRep := by
  intro pins s σ H x y v u Q I rx ry h
  obtain ⟨l, k, xs, rfl, rfl, hH, h1, h2, hz, q⟩ := h
  cases rx
  obtain ⟨t, rfl⟩ := ry
  obtain ⟨z, its, n, r, hl, e⟩ := I.lstM hH
  have hlen : its.toArray.size * k.toNat ≤ sizeLine := by rw [List.size_toArray, ← hl]; exact hz
  have hcap : ¬ its.toArray.size * k.toNat > (2 ^ 63 - 1) / 8 := by
    have : (sizeLine : Nat) ≤ (2 ^ 63 - 1) / 8 := by decide
    omega
  have hfit : ¬ (!Builtin.List.listFitsIndex k) = true := by
    rw [fitsIndex_both h1 h2]
    exact Bool.false_ne_true
  have hlong : ¬ Builtin.List.listTooLong (its.toArray.size * k.toNat) = true := by
    rw [notLongL hlen]
    exact Bool.false_ne_true
  have hnew : List.foldl (fun x1 x2 => x1 ++ x2) #[] (List.replicate (if its.toArray.isEmpty = true then 0 else k.toNat) its.toArray) = (List.replicate k.toNat its).flatten.toArray := by
    have f0 : ∀ m : Nat, List.foldl (fun x1 x2 => x1 ++ x2) #[] (List.replicate m its.toArray) = (List.replicate m its).flatten.toArray := fun m => by
      have := foldl_rep its m []
      rw [List.nil_append] at this
      exact this
    rw [f0]
    cases its with
    | nil => simp
    | cons a r' => rw [if_neg (by simp)]
  refine wpAny_binaryOp_repeat_ref (T := "list") (U := "int") (by decide) ⟨_, e, rfl⟩ (fun s' => typeIs_int s' k t) noFill_list_mul F.fills_int_mul F.slot_int_rmul repeat_list F.slot_int_index.lookup
    (call_meets F.slot_int_rmul (typeIs_int s k t) F.entry_int_rmul (F.args_int_rmul_2 _ _) (int___rmul___int_list k t l its.toArray n)
      ⟨e, rfl, ⟨_, e, rfl⟩, call_meets F.slot_list_mul ⟨_, e, rfl⟩ F.entry_list_mul (F.args_list_mul_2 _ _) (AutoListH.list___mul___list_int_3 l its.toArray n k t hfit hcap hlong) ⟨e, ?_⟩⟩)
  rw [hnew]
  exact ⟨.ref _, _, I.lnew (t' := s.toks) (r.rep k.toNat) (by rw [len_rep, Nat.mul_comm]; exact hz), rfl, q _ I.fresh⟩

/-! ### del xs[i] -/
theorem del_list {pins : List (Addr × Obj)} {s : Shared} {σ : St} {H : Hp} {l : Addr} {xs : List V} {i : Int} {t : Tok} {k : Nat} {Q : Unit → Shared → Prop} (I : Inv X pins σ H s) (hH : H l = some (.lst xs))
    (h1 : -(2 ^ 63) ≤ i) (h2 : i < 2 ^ 63) (hk : seqIndex? i xs.length = some k) (h : ∀ s', Inv X pins σ (upd H l (.lst (xs.eraseIdx k))) s' → Q () s') :
    wpAny (model X.prog X.w) X.A (delItem (.ref l) (.int i t)) Q X.xe s := by
  obtain ⟨z, its, n, r, hl, e⟩ := I.lstM hH
  refine PySem.P.delItem_list (k := k) e (fitsIndex_both h1 h2) (by rw [List.size_toArray, ← hl]; exact hk) (h _ ?_) (by rw [List.size_toArray]; omega)
  refine I.lset (its' := its.eraseIdx k) (t' := s.toks) hH e ?_ (r.eraseIdx k) ?_
  · show its.toArray.eraseIdxIfInBounds k = (its.eraseIdx k).toArray
    rw [List.eraseIdxIfInBounds_toArray]
  · have := len_erase xs k
    omega
end

/-! ### xs[a:b] = ys -/
section
variable {prog : Program} {w : World} {A : Around} {E : Value → Shared → Prop} {s : Shared}
theorem splice_eq (its its2 : List Value) (a c : Nat) : its.toArray.extract 0 a ++ its2.toArray ++ its.toArray.extract c its.toArray.size = (its.take a ++ its2 ++ its.drop c).toArray := by
  apply Array.toList_inj.mp
  first
    | (simp
       exact List.take_of_length_le (by simp))
    | simp [List.take_of_length_le]
    | simp
theorem bounds_run {a c n : Nat} (hac : a ≤ c) (hc : c ≤ n) : sliceBounds (some (a : Int)) (some (c : Int)) none n = ((a : Int), (c : Int), 1) := by
  simp only [sliceBounds, Option.getD_none]
  have h1 : ¬ ((a : Int) < 0) := by omega
  have h2 : ¬ ((c : Int) < 0) := by omega
  simp only [h1, h2, if_false, show (1 : Int) > 0 by decide, if_true]
  congr 1
  · omega
  · congr 1; omega
set_option maxRecDepth 100000 in
/-- list.__setitem__ with a slice of step one and another list -/
theorem setItem_slice {l b sl : Addr} {items new : Array Value} {n n2 : Nat} {vl vu : Value} {a c : Nat} {Q : Unit → Shared → Prop}
    (e : s.heap.get? l = some { cls := .type "list", data := .seq items n }) (e2 : s.heap.get? b = some { cls := .type "list", data := .seq new n2 }) (hne : l ≠ b)
    (hs : s.heap.IsSliceOf sl vl vu .none) (pl : IsPart vl (some (a : Int))) (pu : IsPart vu (some (c : Int))) (hac : a ≤ c) (hc : c ≤ items.size)
    (hsz : items.size + new.size ≤ sizeLine) (h : Q () { s with heap := s.heap.update l (Obj.mapSeq fun xs => xs.extract 0 a ++ new ++ xs.extract c xs.size) }) :
    wpAny (model prog w) A (setItem (.ref l) (.ref sl) (.ref b)) Q E s := by
  have hl : s.heap.IsList l items := PySem.IsL.isList e
  have hb : s.heap.IsList b new := PySem.IsL.isList e2
  obtain ⟨os, hos, hcs, hds⟩ := id hs
  have hTs : s.TypeIs (.ref sl) "slice" := ⟨os, hos, hcs⟩
  have hstep : ¬ ((rawPart none == rawInt 0) = true) := Bool.false_ne_true
  have hsame : Builtin.List.listSameRef (.ref l) (.ref b) = false := by
    unfold Builtin.List.listSameRef
    exact beq_eq_false_iff_ne.mpr hne
  have hmax : (max (a : Int) (c : Int)).toNat = c := by omega
  have hz' : ((fun xs : Array Value => xs.extract 0 a ++ new ++ xs.extract c xs.size) items).size ≤ sizeLine + 1 := by
    simp only [Array.size_append, Array.size_extract]
    omega
  unfold setItem
  try with_reducible refine wpAny_holding ?_
  first | refine wpAny_bind (wpAny_pure ?_) | skip
  refine wpAny_bind (wpAny_sequenceKey hl.typeIs (by decide) ?_)
  refine wpAny_bind (wpAny_callSpecial?_slot (name := Str.ofString "__setitem__") hl.typeIs slot_list_setitem
    (wpAny_call_entry slot_list_setitem hl.typeIs entry_list_setitem ?_ (args_list_setitem _ _ _)))
  show wpAny _ _ (Builtin.List.listSubscript? (.ref sl) >>= _) _ _ s
  refine wpAny_bind ?_
  unfold Builtin.List.listSubscript?
  refine wpAny_bind (wpAny_specialOf hTs slice_no_index ?_)
  simp only [Option.isNone_none, if_true]
  refine wpAny_pure ?_
  show wpAny _ _ (typeOf (.ref sl) >>= _) _ _ s
  refine wpAny_bind (wpAny_typeOf hTs ?_)
  first
    | rw [if_neg (by decide)]
    | refine PySem.W.KFB.if_not (by decide) ?_
  rw [listSliceParts_eq]
  refine wpAny_bind (wpAny_bind (wpAny_field hos hds (x := .none) rfl (wpAny_bind (wpAny_listPart .none ?_))))
  rw [if_neg hstep]
  refine wpAny_bind (wpAny_field hos hds (x := vl) rfl (wpAny_bind (wpAny_listPart pl ?_)))
  refine wpAny_bind (wpAny_field hos hds (x := vu) rfl (wpAny_bind (wpAny_listPart pu (wpAny_pure ?_))))
  first
    | simp only [hsame, Bool.false_eq_true, if_false]
    | refine PySem.W.KFB.if_not hsame ?_
    | (dsimp only
       rw [if_neg (by rw [hsame]; exact Bool.false_ne_true)])
  refine wpAny_bind (m := Builtin.List.listAllItems (.ref b) "must assign iterable to extended slice") ?_
  unfold Builtin.List.listAllItems
  refine wpAny_bind (wpAny_typeOf hb.typeIs ?_)
  first
    | refine PySem.W.KFB.if_so (by decide) ?_
    | rw [if_pos (by decide)]
    | simp only [beq_self_eq_true, Bool.true_or, if_true]
  unfold Builtin.List.listItems
  refine wpAny_bind (wpAny_seqItems e2 rfl (wpAny_pure ?_))
  refine wpAny_bind (wpAny_bind (wpAny_seqItems e rfl (wpAny_pure ?_)))
  refine wpAny_bind (wpAny_of_eq ((sliceIndices_raw (some (a : Int)) (some (c : Int)) none items.size (by simp)).trans (congrArg (pure : Int × Int × Int → Sem (Int × Int × Int)) (bounds_run hac hc))) ?_)
  show wpAny _ _ (if ((1 : Int) == 1) = true then _ else _) _ _ s
  rw [if_pos (by decide)]
  refine wpAny_bind (wpAny_rule ?_)
  first
    | simp only [notLongL hsz, Bool.false_eq_true, if_false]
    | refine PySem.W.KFB.if_not (notLongL hsz) ?_
  first | refine wpAny_bind (wpAny_pure ?_) | skip
  show wpAny _ _ (updateSeq l (fun xs => xs.extract 0 ((a : Int)).toNat ++ new ++ xs.extract (max (a : Int) (c : Int)).toNat xs.size) >>= _) _ _ s
  rw [hmax, Int.toNat_natCast]
  refine wpAny_bind (wpAny_updateSeq (hz := Nat.le_trans (Nat.le_add_right _ _) hsz) (_hz' := hz') e rfl ?_)
  refine wpAny_bind (wpAny_letGo ?_)
  first
    | exact wpAny_bind (wpAny_pure (wpAny_pure ⟨.none, rfl, wpAny_pure h⟩))
    | exact wpAny_pure ⟨.none, rfl, wpAny_pure h⟩
end

section
variable {X : Cx}
/-- xs[a:c] = ys of another list, at the value level: sl is the slice object that was just made -/
theorem set_slice {pins : List (Addr × Obj)} {s : Shared} {σ : St} {H : Hp} {l b sl : Addr} {xs ys : List V} {a c : Int} {vl vu : Value} {Q : Unit → Shared → Prop} (I : Inv X pins σ H s)
    (hH : H l = some (.lst xs)) (hB : H b = some (.lst ys)) (hne : l ≠ b) (hs : s.heap.IsSliceOf sl vl vu .none) (ra : RelV (.int a) vl) (rc : RelV (.int c) vu) (h0 : 0 ≤ a) (hac : a ≤ c) (hc : c ≤ xs.length)
    (hz : xs.length + ys.length ≤ sizeLine) (h : ∀ s', Inv X pins σ (upd H l (.lst (xs.take a.toNat ++ ys ++ xs.drop c.toNat))) s' → Q () s') :
    wpAny (model X.prog X.w) X.A (setItem (.ref l) (.ref sl) (.ref b)) Q X.xe s := by
  obtain ⟨ta, rfl⟩ := ra
  obtain ⟨tc, rfl⟩ := rc
  obtain ⟨z, its, n, r, hl, e⟩ := I.lstM hH
  obtain ⟨z2, its2, n2, r2, hl2, e2⟩ := I.lstM hB
  obtain ⟨a', rfl⟩ := Int.eq_ofNat_of_zero_le h0
  obtain ⟨c', rfl⟩ := Int.eq_ofNat_of_zero_le (Int.le_trans h0 hac)
  simp only [Int.toNat_natCast] at h
  refine setItem_slice (a := a') (c := c') e e2 hne hs (.int _ _) (.int _ _) (by omega) (by rw [List.size_toArray]; omega) (by rw [List.size_toArray, List.size_toArray]; omega) (h _ ?_)
  refine I.lset (its' := its.take a' ++ its2 ++ its.drop c') (t' := s.toks) hH e ?_ (Vals.append (Vals.append (r.take _) r2) (r.drop _)) ?_
  · exact splice_eq its its2 a' c'
  · rw [List.length_append, List.length_append, List.length_take, List.length_drop]
    omega
end
end L2

namespace L2
open PySem PySem.Spec PyProof.Rows

/-! ### lists of pairs as tables -/
section
variable {κ : Type} [DecidableEq κ]
def valV (kvs : List (κ × V)) (k : κ) : Option V := (kvs.find? fun kv => decide (kv.1 = k)).map (·.2)
/-- in its place, or at the end -/
def putK (kvs : List (κ × V)) (k : κ) (v : V) : List (κ × V) :=
  if (kvs.any fun kv => decide (kv.1 = k)) = true then kvs.map (fun kv => if kv.1 = k then (kv.1, v) else kv) else kvs ++ [(k, v)]
def dropK (kvs : List (κ × V)) (k : κ) : List (κ × V) := kvs.filter fun kv => decide (kv.1 ≠ k)

theorem valV_nil {k : κ} : valV ([] : List (κ × V)) k = none := rfl
theorem valV_pos {p : κ × V} {r : List (κ × V)} {k : κ} (e : p.1 = k) : valV (p :: r) k = some p.2 := by simp [valV, List.find?_cons, e]
theorem valV_neg {p : κ × V} {r : List (κ × V)} {k : κ} (e : ¬ p.1 = k) : valV (p :: r) k = valV r k := by simp [valV, List.find?_cons, e]
theorem valV_any (k : κ) : ∀ kvs : List (κ × V), (kvs.any fun kv => decide (kv.1 = k)) = (valV kvs k).isSome
  | [] => rfl
  | p :: r => by
    rw [List.any_cons]
    by_cases e : p.1 = k
    · simp only [valV_pos e, decide_eq_true e, Bool.true_or, Option.isSome_some]
    · rw [valV_neg e, decide_eq_false e, Bool.false_or]; exact valV_any k r
theorem valV_map (k j : κ) (y : V) : ∀ kvs : List (κ × V), valV (kvs.map fun kv => if kv.1 = k then (kv.1, y) else kv) j = (valV kvs j).map fun x => if j = k then y else x
  | [] => rfl
  | p :: r => by
    have ih := valV_map k j y r
    rw [List.map_cons]
    by_cases h : p.1 = k
    · rw [if_pos h]
      by_cases e : p.1 = j
      · rw [valV_pos (p := (p.1, y)) e, valV_pos e, Option.map_some, if_pos (e.symm.trans h)]
      · rw [valV_neg (p := (p.1, y)) e, valV_neg e, ih]
    · rw [if_neg h]
      by_cases e : p.1 = j
      · rw [valV_pos (p := p) e, valV_pos e, Option.map_some, if_neg (fun z => h (e.trans z))]
      · rw [valV_neg (p := p) e, valV_neg e, ih]
theorem valV_snoc (k j : κ) (y : V) : ∀ kvs : List (κ × V), valV kvs k = none → valV (kvs ++ [(k, y)]) j = if j = k then some y else valV kvs j
  | [], _ => by
    by_cases e : k = j
    · rw [if_pos e.symm]; exact valV_pos (p := (k, y)) e
    · rw [if_neg (fun z => e z.symm)]; exact valV_neg (p := (k, y)) e
  | p :: r, hn => by
    rw [List.cons_append]
    have hk : ¬ p.1 = k := fun z => by rw [valV_pos z] at hn; cases hn
    rw [valV_neg hk] at hn
    have ih := valV_snoc k j y r hn
    by_cases e : p.1 = j
    · rw [valV_pos e, valV_pos e, if_neg (fun z => hk (e.trans z))]
    · rw [valV_neg e, valV_neg e, ih]
theorem valV_put (kvs : List (κ × V)) (k j : κ) (y : V) : valV (putK kvs k y) j = if j = k then some y else valV kvs j := by
  unfold putK
  by_cases a : (kvs.any fun kv => decide (kv.1 = k)) = true
  · rw [if_pos a, valV_map]
    rw [valV_any] at a
    by_cases e : j = k
    · obtain ⟨x, hx⟩ := Option.isSome_iff_exists.mp a
      rw [if_pos e, e, hx, Option.map_some, if_pos rfl]
    · rw [if_neg e]
      cases valV kvs j with
      | none => rfl
      | some x => rw [Option.map_some, if_neg e]
  · rw [if_neg a]
    refine valV_snoc k j y kvs ?_
    rw [valV_any] at a
    cases q : valV kvs k with
    | none => rfl
    | some x => rw [q] at a; exact (a rfl).elim
theorem length_putK (kvs : List (κ × V)) (k : κ) (v : V) : (putK kvs k v).length ≤ kvs.length + 1 := by
  unfold putK
  split
  · rw [List.length_map]; omega
  · rw [List.length_append, List.length_cons, List.length_nil]; omega
theorem putK_new {kvs : List (κ × V)} {k : κ} (v : V) (h : valV kvs k = none) : putK kvs k v = kvs ++ [(k, v)] := by
  unfold putK
  rw [valV_any, h]
  exact if_neg (by decide)

theorem RelO.isSome_eq {o : Option V} {u : Option Value} (r : RelO o u) : o.isSome = u.isSome := by
  cases o with
  | none => cases u with
    | none => rfl
    | some _ => exact (show False from r).elim
  | some _ => cases u with
    | none => exact (show False from r).elim
    | some _ => rfl
theorem RelO.getD {o : Option V} {u : Option Value} {d : V} {d' : Value} (r : RelO o u) (rd : RelV d d') : RelV (o.getD d) (u.getD d') := by
  cases o with
  | none => cases u with
    | none => exact rd
    | some _ => exact (show False from r).elim
  | some _ => cases u with
    | none => exact (show False from r).elim
    | some _ => exact r

/-- raw tables of the same keys -/
theorem KV.val {kvs : List (κ × V)} {vs : List (κ × Value)} (r : KV kvs vs) (k : κ) : RelO (valV kvs k) (valueAt vs k) := by
  unfold KV at r
  induction r with
  | nil => exact True.intro
  | @cons p q ps qs h t ih =>
    obtain ⟨h1, h2⟩ := h
    by_cases e : p.1 = k
    · have e' : q.1 = k := h1.symm.trans e
      have b : valueAt (q :: qs) k = some q.2 := by simp [valueAt, List.find?_cons, e']
      rw [valV_pos e, b]; exact h2
    · have e' : ¬ q.1 = k := fun z => e (h1.trans z)
      have b : valueAt (q :: qs) k = valueAt qs k := by simp [valueAt, List.find?_cons, e']
      rw [valV_neg e, b]; exact ih
theorem KV.any {kvs : List (κ × V)} {vs : List (κ × Value)} (r : KV kvs vs) (k : κ) : (kvs.any fun kv => decide (kv.1 = k)) = vs.any fun kv => decide (kv.1 = k) := by
  unfold KV at r
  induction r with
  | nil => rfl
  | cons h t ih => rw [List.any_cons, List.any_cons, ih, h.1]
theorem KV.repl {kvs : List (κ × V)} {vs : List (κ × Value)} (r : KV kvs vs) (k : κ) {y : V} {u : Value} (ry : RelV y u) :
    KV (kvs.map fun kv => if kv.1 = k then (kv.1, y) else kv) (vs.map fun kv => if kv.1 = k then (kv.1, u) else kv) := by
  unfold KV at r ⊢
  induction r with
  | nil => exact .nil
  | @cons p q ps qs h t ih =>
    rw [List.map_cons, List.map_cons]
    refine .cons ?_ ih
    obtain ⟨h1, h2⟩ := h
    by_cases e : p.1 = k
    · rw [if_pos e, if_pos (h1.symm.trans e)]; exact ⟨h1, ry⟩
    · rw [if_neg e, if_neg (fun z => e (h1.trans z))]; exact ⟨h1, h2⟩
theorem KV.put {kvs : List (κ × V)} {vs : List (κ × Value)} (r : KV kvs vs) (k : κ) {y : V} {u : Value} (ry : RelV y u) : KV (putK kvs k y) (stored vs k u) := by
  unfold putK stored
  rw [r.any k]
  by_cases e : (vs.any fun kv => decide (kv.1 = k)) = true
  · rw [if_pos e, if_pos e]; exact r.repl k ry
  · rw [if_neg e, if_neg e]; exact Paired.snoc r ⟨rfl, ry⟩
theorem KV.drop {kvs : List (κ × V)} {vs : List (κ × Value)} (r : KV kvs vs) (k : κ) : KV (dropK kvs k) (without vs k) := by
  unfold KV at r ⊢
  unfold dropK without
  induction r with
  | nil => exact .nil
  | @cons p q ps qs h t ih =>
    obtain ⟨h1, h2⟩ := h
    rw [List.filter_cons, List.filter_cons]
    by_cases e : p.1 = k
    · have a : ¬ decide (p.1 ≠ k) = true := by simp [e]
      have b : ¬ decide (q.1 ≠ k) = true := by simp [h1.symm.trans e]
      rw [if_neg a, if_neg b]; exact ih
    · have e' : ¬ q.1 = k := fun z => e (h1.trans z)
      have a : decide (p.1 ≠ k) = true := by simp [e]
      have b : decide (q.1 ≠ k) = true := by simp [e']
      rw [if_pos a, if_pos b]; exact .cons ⟨h1, h2⟩ ih
theorem KV.keys {kvs : List (κ × V)} {vs : List (κ × Value)} (r : KV kvs vs) : kvs.map (·.1) = vs.map (·.1) := by
  unfold KV at r
  induction r with
  | nil => rfl
  | cons h t ih => rw [List.map_cons, List.map_cons, ih, h.1]
theorem KV.length {kvs : List (κ × V)} {vs : List (κ × Value)} (r : KV kvs vs) : kvs.length = vs.length := Paired.length r
theorem dropK_le (kvs : List (κ × V)) (k : κ) : (dropK kvs k).length ≤ kvs.length := List.length_filter_le _ _
end


/-! ### a tracked dict, its keys ints and texts or tuples of these -/
theorem kV_is {P : Program} {w : World} {k : Key} {u : Value} (r : RelV (kV k) u) : (mixKind P w).is k u = true := by
  cases k with
  | inl i => obtain ⟨t, e⟩ := (show ∃ t, u = Value.int i t from r); subst e; exact mixKind_int P w i t
  | inr x => obtain ⟨t, e⟩ := (show ∃ t, u = Value.str x t from r); subst e; exact mixKind_str P w x t
theorem kV_inj {a b : Key} (e : kV a = kV b) : a = b := by
  cases a with
  | inl i => cases b with
    | inl j => have e' : V.int i = V.int j := e; injection e' with e'; rw [e']
    | inr y => exact nomatch (show V.int i = V.str y from e)
  | inr x => cases b with
    | inl j => exact nomatch (show V.str x = V.int j from e)
    | inr y => have e' : V.str x = V.str y := e; injection e' with e'; rw [e']
theorem kVs_inj : ∀ {a b : List Key}, a.map kV = b.map kV → a = b
  | [], [], _ => rfl
  | [], _ :: _, e => by simp at e
  | _ :: _, [], e => by simp at e
  | x :: xs, y :: ys, e => by
    rw [List.map_cons, List.map_cons] at e
    injection e with e1 e2
    rw [kV_inj e1, kVs_inj e2]
theorem items_are {P : Program} {w : World} : ∀ {ks : List Key} {us : List Value}, Vals (ks.map kV) us → ItemsAre (mixKind P w) ks us
  | [], _, r => by rw [List.map_nil] at r; cases r; exact .nil
  | k :: ks, _, r => by
    rw [List.map_cons] at r
    cases r with
    | cons h t => exact .cons (kV_is h) (items_are t)

/-- raw entries of a dict with tuple keys -/
abbrev KT (H : Hp) : List (List Key × V) → List (List Key × Addr × Value) → Prop := Paired fun p q => p.1 = q.1 ∧ H q.2.1 = some (.tup (p.1.map kV)) ∧ RelV p.2 q.2.2
theorem KT.val {H : Hp} {kvs : List (List Key × V)} {xs : List (List Key × Addr × Value)} (r : KT H kvs xs) (k : List Key) : RelO (valV kvs k) ((atKey xs k).map (·.2)) := by
  induction r with
  | nil => exact True.intro
  | @cons p q ps qs h t ih =>
    obtain ⟨h1, _, h2⟩ := h
    by_cases e : p.1 = k
    · have e' : q.1 = k := h1.symm.trans e
      have b : atKey (q :: qs) k = some q.2 := by simp [atKey, List.find?_cons, e']
      rw [valV_pos e, b]; exact h2
    · have e' : ¬ q.1 = k := fun z => e (h1.trans z)
      have b : atKey (q :: qs) k = atKey qs k := by simp [atKey, List.find?_cons, e']
      rw [valV_neg e, b]; exact ih
theorem KT.repl {H : Hp} {kvs : List (List Key × V)} {xs : List (List Key × Addr × Value)} (r : KT H kvs xs) (k : List Key) {y : V} {u : Value} (ry : RelV y u) :
    KT H (kvs.map fun kv => if kv.1 = k then (kv.1, y) else kv) (xs.map (putAt k u)) := by
  induction r with
  | nil => exact .nil
  | @cons p q ps qs h t ih =>
    rw [List.map_cons, List.map_cons]
    refine .cons ?_ ih
    obtain ⟨h1, h2, h3⟩ := h
    unfold putAt
    by_cases e : p.1 = k
    · rw [if_pos e, if_pos (h1.symm.trans e)]; exact ⟨h1, h2, ry⟩
    · rw [if_neg e, if_neg (fun z => e (h1.trans z))]; exact ⟨h1, h2, h3⟩
theorem KT.put {H : Hp} {kvs : List (List Key × V)} {xs : List (List Key × Addr × Value)} (r : KT H kvs xs) (k : List Key) {b : Addr} {y : V} {u : Value} (hb : H b = some (.tup (k.map kV))) (ry : RelV y u) :
    KT H (putK kvs k y) (storedH xs k b u) := by
  have e : (kvs.any fun kv => decide (kv.1 = k)) = (atKey xs k).isSome := by
    rw [valV_any, (r.val k).isSome_eq, Option.isSome_map]
  unfold putK storedH
  rw [e]
  by_cases q : (atKey xs k).isSome = true
  · rw [if_pos q, if_pos q]; exact r.repl k ry
  · rw [if_neg q, if_neg q]; exact Paired.snoc r ⟨rfl, hb, ry⟩
theorem KT.keeps {H H' : Hp} {kvs : List (List Key × V)} {xs : List (List Key × Addr × Value)} (r : KT H kvs xs) (ht : ∀ b ys, H b = some (.tup ys) → H' b = some (.tup ys)) : KT H' kvs xs :=
  Paired.mapP r fun _ _ z => ⟨z.1, ht _ _ z.2.1, z.2.2⟩

section
variable {P : Program} {w : World} {H : Hp} {h : Heap} {a : Addr}
theorem rd_of {u : HO} (ok : HOk P w H h) (e : Rd H a u) : ObjOk P w H h a u := e.ok ok
theorem dk_rd {kvs : List (Key × V)} (ok : HOk P w H h) (e : Rd H a (.dK kvs)) : kvs.length ≤ sizeLine ∧ (a == sysModules) = false ∧ ∃ vs, KV kvs vs ∧ h.DictOf (mixKind P w) a vs :=
  show ObjOk P w H h a (.dK kvs) from rd_of ok e
theorem dk_of {kvs : List (Key × V)} (ok : HOk P w H h) (e : H a = some (.dK kvs)) : kvs.length ≤ sizeLine ∧ (a == sysModules) = false ∧ ∃ vs, KV kvs vs ∧ h.DictOf (mixKind P w) a vs := dk_rd ok (.inl e)
/-- a tracked tuple of ints and texts is a key -/
theorem key_of {ks : List Key} (ok : HOk P w H h) (e : H a = some (.tup (ks.map kV))) : (tupleKind (mixKind P w)).is h ks a := by
  obtain ⟨_, its, r, o, h1, h2, n, h3⟩ := (show ObjOk P w H h a (.tup (ks.map kV)) from ok a _ e)
  exact ⟨o, its.toArray, n, h1, h2, h3, by simpa using items_are r⟩
theorem dt_rd {kvs : List (List Key × V)} (ok : HOk P w H h) (e : Rd H a (.dT kvs)) : kvs.length ≤ sizeLine ∧ (a == sysModules) = false ∧
    ∃ xs, KT H kvs xs ∧ h.DictOfH (tupleKind (mixKind P w)) a xs := by
  obtain ⟨z, y, xs, r, o, es, ep, h1, h2, h3, h4, h5⟩ := (show ObjOk P w H h a (.dT kvs) from rd_of ok e)
  refine ⟨z, y, xs, r, o, es, ep, h1, h2, h3, h4, fun x hx => ?_, h5⟩
  have all : ∀ {l : List (List Key × V)} {m : List (List Key × Addr × Value)}, KT H l m → ∀ x ∈ m, (tupleKind (mixKind P w)).is h x.1 x.2.1 := by
    intro l m q
    induction q with
    | nil => intro x hx; exact nomatch hx
    | @cons p q ps qs hq t ih =>
      intro x hx
      rcases List.mem_cons.mp hx with e | hx
      · subst e
        exact key_of ok (by rw [← hq.1]; exact hq.2.1)
      · exact ih x hx
  exact all r x hx
theorem dt_of {kvs : List (List Key × V)} (ok : HOk P w H h) (e : H a = some (.dT kvs)) : kvs.length ≤ sizeLine ∧ (a == sysModules) = false ∧
    ∃ xs, KT H kvs xs ∧ h.DictOfH (tupleKind (mixKind P w)) a xs := dt_rd ok (.inl e)
end

/-- what the dict at a holds at the key y -/
def DGet (H : Hp) (a : Addr) (y : V) (r : Option V) : Prop :=
  (∃ kvs k, Rd H a (.dK kvs) ∧ y = kV k ∧ r = valV kvs k) ∨ ∃ kvs k b, Rd H a (.dT kvs) ∧ y = .ref b ∧ H b = some (.tup (k.map kV)) ∧ r = valV kvs k
/-- the heap behind a[y] = v -/
def DPut (H : Hp) (a : Addr) (y v : V) (H' : Hp) : Prop :=
  (∃ kvs k, H a = some (.dK kvs) ∧ y = kV k ∧ kvs.length < sizeLine ∧ H' = upd H a (.dK (putK kvs k v))) ∨
  ∃ kvs k b, H a = some (.dT kvs) ∧ y = .ref b ∧ H b = some (.tup (k.map kV)) ∧ kvs.length < sizeLine ∧ H' = upd H a (.dT (putK kvs k v))
theorem DGet.k {H : Hp} {a : Addr} {kvs : List (Key × V)} {k : Key} (e : H a = some (.dK kvs)) : DGet H a (kV k) (valV kvs k) := .inl ⟨kvs, k, .inl e, rfl, rfl⟩
theorem DGet.t {H : Hp} {a b : Addr} {kvs : List (List Key × V)} {k : List Key} (e : H a = some (.dT kvs)) (eb : H b = some (.tup (k.map kV))) : DGet H a (.ref b) (valV kvs k) := .inr ⟨kvs, k, b, .inl e, rfl, eb, rfl⟩
theorem DPut.k {H : Hp} {a : Addr} {kvs : List (Key × V)} {k : Key} {v : V} (e : H a = some (.dK kvs)) (hl : kvs.length < sizeLine) : DPut H a (kV k) v (upd H a (.dK (putK kvs k v))) := .inl ⟨kvs, k, e, rfl, hl, rfl⟩
theorem DPut.t {H : Hp} {a b : Addr} {kvs : List (List Key × V)} {k : List Key} {v : V} (e : H a = some (.dT kvs)) (eb : H b = some (.tup (k.map kV))) (hl : kvs.length < sizeLine) :
    DPut H a (.ref b) v (upd H a (.dT (putK kvs k v))) := .inr ⟨kvs, k, b, e, rfl, eb, hl, rfl⟩


section
variable {X : Cx} {pins : List (Addr × Obj)} {σ : St} {H : Hp} {s : Shared} {a : Addr} {y v : V} {u r : Value} {o : Option V} {A : Around} {E : Value → Shared → Prop}

theorem Inv.big (I : Inv X pins σ H s) : sysModules < s.heap.objs.size := by
  have h : mainGlobals < s.heap.objs.size := (I.mod.glob.keeps I.bk).lt
  exact Nat.lt_trans (by decide) h

/-- d[y], there -/
theorem d_getItem {Q : Value → Shared → Prop} (hu : A.units + 1 < cLine) (I : Inv X pins σ H s) (g : DGet H a y (some v)) (ry : RelV y u) (h : ∀ w' s', Inv X pins σ H s' → RelV v w' → Q w' s') :
    wpAny (model X.prog X.w) A (getItem (.ref a) u) Q E s := by
  rcases g with ⟨kvs, k, e, ey, l⟩ | ⟨kvs, k, b, e, ey, eb, l⟩
  · subst ey
    obtain ⟨z, hd, vs, rel, dd⟩ := dk_rd I.hok e
    obtain ⟨w', hw, rw'⟩ := RelO.some_of (v := v) (o := valueAt vs k) (by rw [l]; exact rel.val k)
    exact wpAny_getItem_of (kV_is ry) dd.mapOf hw (h w' _ (I.tok _) rw')
  · subst ey
    cases (show u = Value.ref b from ry)
    obtain ⟨z, hd, xs, rel, dd⟩ := dt_rd I.hok e
    obtain ⟨w', hw, rw'⟩ := RelO.some_of (v := v) (o := (atKey xs k).map (·.2)) (by rw [l]; exact rel.val k)
    obtain ⟨p, hp, hp2⟩ := Option.map_eq_some_iff.mp hw
    refine wpAny_getItem_heap (tupleKind_room_in1 hu) (key_of I.hok eb) dd hp ?_
    rw [hp2]
    exact h w' _ (I.tok _) rw'
/-- y in d -/
theorem d_in {Q : Value → Shared → Prop} (hu : A.units + 1 < cLine) (I : Inv X pins σ H s) (g : DGet H a y o) (ry : RelV y u) (h : ∀ s', Inv X pins σ H s' → Q (.bool o.isSome) s') :
    wpAny (model X.prog X.w) A (compareOp .In u (.ref a)) Q E s := by
  rcases g with ⟨kvs, k, e, ey, l⟩ | ⟨kvs, k, b, e, ey, eb, l⟩
  · subst ey
    obtain ⟨z, hd, vs, rel, dd⟩ := dk_rd I.hok e
    refine wpAny_in_of (kV_is ry) hd dd.mapOf ?_
    rw [← (rel.val k).isSome_eq, ← l]
    exact h _ (I.tok _)
  · subst ey
    cases (show u = Value.ref b from ry)
    obtain ⟨z, hd, xs, rel, dd⟩ := dt_rd I.hok e
    refine wpAny_in_heap (tupleKind_room_in1 hu) (key_of I.hok eb) hd dd ?_
    have q := (rel.val k).isSome_eq
    rw [Option.isSome_map] at q
    rw [← q, ← l]
    exact h _ (I.tok _)
theorem d_notIn {Q : Value → Shared → Prop} (hu : A.units + 1 < cLine) (I : Inv X pins σ H s) (g : DGet H a y o) (ry : RelV y u) (h : ∀ s', Inv X pins σ H s' → Q (.bool (!o.isSome)) s') :
    wpAny (model X.prog X.w) A (compareOp .NotIn u (.ref a)) Q E s := by
  rcases g with ⟨kvs, k, e, ey, l⟩ | ⟨kvs, k, b, e, ey, eb, l⟩
  · subst ey
    obtain ⟨z, hd, vs, rel, dd⟩ := dk_rd I.hok e
    refine wpAny_notIn_of (kV_is ry) hd dd.mapOf ?_
    rw [← (rel.val k).isSome_eq, ← l]
    exact h _ (I.tok _)
  · subst ey
    cases (show u = Value.ref b from ry)
    obtain ⟨z, hd, xs, rel, dd⟩ := dt_rd I.hok e
    refine wpAny_notIn_heap (tupleKind_room_in1 hu) (key_of I.hok eb) hd dd ?_
    have q := (rel.val k).isSome_eq
    rw [Option.isSome_map] at q
    rw [← q, ← l]
    exact h _ (I.tok _)
/-- a dict's object is replaced -/
theorem d_write {h' : Heap} {t' : Nat} {ob : HO} (I : Inv X pins σ H s) (mu : Mut (H a)) (hs : Heap.SameBut a s.heap h') (he : ∃ q, h'.get? a = some q) (new : ObjOk X.prog X.w (upd H a ob) h' a ob) :
    Inv X pins σ (upd H a ob) { s with heap := h', toks := t' } :=
  I.write (x := a) (e := a) mu (.inl rfl) (fun b q hb z => (hs.2 b hb).trans z) he new
theorem dk_new {P : Program} {w : World} {H' : Hp} {h' : Heap} {kvs : List (Key × V)} {vs : List (Key × Value)} (z : kvs.length ≤ sizeLine) (hd : (a == sysModules) = false) (rel : KV kvs vs) (dd : h'.DictOf (mixKind P w) a vs) :
    ObjOk P w H' h' a (.dK kvs) := ⟨z, hd, vs, rel, dd⟩
/-- d[y] = v -/
theorem d_setItem {H' : Hp} {Q : Unit → Shared → Prop} (hu : A.units + 1 < cLine) (I : Inv X pins σ H s) (g : DPut H a y v H') (ry : RelV y u) (rv : RelV v r) (h : ∀ s', Inv X pins σ H' s' → Q () s') :
    wpAny (model X.prog X.w) A (setItem (.ref a) u r) Q E s := by
  rcases g with ⟨kvs, k, e, ey, l, eH⟩ | ⟨kvs, k, b, e, ey, eb, l, eH⟩
  · subst ey eH
    obtain ⟨z, hd, vs, rel, dd⟩ := dk_of I.hok e
    have hz : vs.length ≤ sizeLine := by rw [← rel.length]; exact z
    have hl : (putK kvs k v).length ≤ sizeLine := by have := length_putK kvs k v; omega
    refine wpAny_setItem_pairs (hsz := hz) (kV_is ry) dd fun h' dd' hs => h _ ?_
    have he : ∃ q, h'.get? a = some q := let ⟨q, _, _, hq, _⟩ := dd'; ⟨q, hq⟩
    exact d_write I (by rw [e]; exact True.intro) hs he (dk_new hl hd (rel.put k rv) dd')
  · subst ey eH
    cases (show u = Value.ref b from ry)
    obtain ⟨z, hd, xs, rel, dd⟩ := dt_of I.hok e
    have hz : xs.length ≤ sizeLine := by rw [← Paired.length rel]; exact z
    have hl : (putK kvs k v).length ≤ sizeLine := by have := length_putK kvs k v; omega
    refine wpAny_setItem_heap (hsz := hz) (tupleKind_room_in1 hu) (key_of I.hok eb) dd fun h' dd' hs => h _ ?_
    obtain ⟨q, es, ep, hq, h2, h3, h4, _, h5⟩ := dd'
    refine d_write I (by rw [e]; exact True.intro) hs ⟨q, hq⟩ ⟨hl, hd, _, (rel.put k eb rv).keeps fun c ys ec => ?_, q, es, ep, hq, h2, h3, h4, h5⟩
    rw [upd_ne (ne_of ec e (fun z => nomatch z))]
    exact ec
end

section
variable {X : Cx} {pins : List (Addr × Obj)} {σ : St} {H : Hp} {s : Shared} {a : Addr} {kvs : List (Key × V)} {k : Key} {u : Value} {A : Around} {E : Value → Shared → Prop}
/-- del d[k] -/
theorem d_delItem {Q : Unit → Shared → Prop} (I : Inv X pins σ H s) (e : H a = some (.dK kvs)) (ry : RelV (kV k) u) (l : (valV kvs k).isSome = true) (h : ∀ s', Inv X pins σ (upd H a (.dK (dropK kvs k))) s' → Q () s') :
    wpAny (model X.prog X.w) A (delItem (.ref a) u) Q E s := by
  obtain ⟨z, hd, vs, rel, dd⟩ := dk_of I.hok e
  refine wpAny_delItem_slot dd.typeIs (by decide) PySem.F.slot_dict_delitem
    (call_meetsIn PySem.F.slot_dict_delitem dd.typeIs PySem.F.entry_dict_delitem (PySem.F.args_dict_delitem_2 _ _) (meets_dict_delitem_pairs (mixKind X.prog X.w) a (kV_is ry)) ⟨vs, dd, by rw [← rel.length]; exact z, by rw [← (rel.val k).isSome_eq]; exact l, fun h' dd' hs => h _ ?_⟩)
  have he : ∃ q, h'.get? a = some q := let ⟨q, _, _, hq, _⟩ := dd'; ⟨q, hq⟩
  exact d_write I (by rw [e]; exact True.intro) hs he (dk_new (Nat.le_trans (dropK_le kvs k) z) hd (rel.drop k) dd')
/-- d.pop(k[, x]), there -/
theorem d_pop {v : V} {more : List Value} {Q : Value → Shared → Prop} (I : Inv X pins σ H s) (e : H a = some (.dK kvs)) (ry : RelV (kV k) u) (l : valV kvs k = some v) (hm : more = [] ∨ ∃ x, more = [x])
    (h : ∀ w' s', Inv X pins σ (upd H a (.dK (dropK kvs k))) s' → RelV v w' → Q w' s') : wpAny (model X.prog X.w) A (call (.builtin "dict.pop") (.ref a :: u :: more)) Q E s := by
  obtain ⟨z, hd, vs, rel, dd⟩ := dk_of I.hok e
  obtain ⟨w', hw, rw'⟩ := RelO.some_of (v := v) (o := valueAt vs k) (by rw [← l]; exact rel.val k)
  have hp : (keyPart u).isSome = true := by
    cases k with
    | inl i => obtain ⟨t, q⟩ := (show ∃ t, u = Value.int i t from ry); subst q; rfl
    | inr x => obtain ⟨t, q⟩ := (show ∃ t, u = Value.str x t from ry); subst q; rfl
  have ha : argsOk "dict.pop" ⟨.ref a :: u :: more, []⟩ := by
    rcases hm with q | ⟨x, q⟩
    · subst q; exact PySem.F.args_dict_pop_2 _ _
    · subst q; exact PySem.F.args_dict_pop_3 _ _ _
  refine call_meetsIn PySem.F.slot_dict_pop dd.typeIs PySem.F.entry_dict_pop ha (meets_dict_pop_there (mixKind X.prog X.w) a (kV_is ry) more hm hp)
    ⟨vs, w', dd, by rw [← rel.length]; exact z, hw, fun h' dd' hs => h w' _ ?_ rw'⟩
  have he : ∃ q, h'.get? a = some q := let ⟨q, _, _, hq, _⟩ := dd'; ⟨q, hq⟩
  exact d_write I (by rw [e]; exact True.intro) hs he (dk_new (Nat.le_trans (dropK_le kvs k) z) hd (rel.drop k) dd')
/-- d.pop(k, x), not there -/
theorem d_popD {r : Value} {Q : Value → Shared → Prop} (I : Inv X pins σ H s) (e : H a = some (.dK kvs)) (ry : RelV (kV k) u) (l : valV kvs k = none) (h : ∀ s', Inv X pins σ H s' → Q r s') :
    wpAny (model X.prog X.w) A (call (.builtin "dict.pop") [.ref a, u, r]) Q E s := by
  obtain ⟨z, hd, vs, rel, dd⟩ := dk_of I.hok e
  have hn : valueAt vs k = none := RelO.none_of (by rw [← l]; exact rel.val k)
  have hp : (keyPart u).isSome = true := by
    cases k with
    | inl i => obtain ⟨t, q⟩ := (show ∃ t, u = Value.int i t from ry); subst q; rfl
    | inr x => obtain ⟨t, q⟩ := (show ∃ t, u = Value.str x t from ry); subst q; rfl
  exact call_meetsIn PySem.F.slot_dict_pop dd.typeIs PySem.F.entry_dict_pop (PySem.F.args_dict_pop_3 _ _ _) (meets_dict_pop_default (mixKind X.prog X.w) a (kV_is ry) hd hp r) ⟨vs, dd, hn, h _ (I.tok _)⟩
/-- d.clear() -/
theorem d_clear {Q : Value → Shared → Prop} (I : Inv X pins σ H s) (e : H a = some (.dK kvs)) (h : ∀ s', Inv X pins σ (upd H a (.dK [])) s' → Q .none s') : wpAny (model X.prog X.w) A (call (.builtin "dict.clear") [.ref a]) Q E s := by
  obtain ⟨z, hd, vs, rel, dd⟩ := dk_of I.hok e
  refine call_meetsIn PySem.F.slot_dict_clear dd.typeIs PySem.F.entry_dict_clear (PySem.F.args_dict_clear_1 _) (meets_dict_clear (mixKind X.prog X.w) a) ⟨vs, dd, by rw [← rel.length]; exact z, fun h' dd' hs => h _ ?_⟩
  have he : ∃ q, h'.get? a = some q := let ⟨q, _, _, hq, _⟩ := dd'; ⟨q, hq⟩
  exact d_write (t' := s.toks) I (by rw [e]; exact True.intro) hs he (dk_new (Nat.zero_le _) hd .nil dd')
/-- len(d) -/
theorem d_len {Q : Value → Shared → Prop} (I : Inv X pins σ H s) (e : Rd H a (.dK kvs)) (h : ∀ t s', Inv X pins σ H s' → Q (.int kvs.length t) s') : wpAny (model X.prog X.w) A (call (.builtin "len") [.ref a]) Q E s := by
  obtain ⟨z, hd, vs, rel, dd⟩ := dk_rd I.hok e
  refine call_len_dict hd dd (by rw [← rel.length]; rw [sizeLine_eq] at z; omega) ?_
  rw [← rel.length]
  exact h _ _ (I.tok _)
/-- if d -/
theorem d_truth {Q : Bool → Shared → Prop} (I : Inv X pins σ H s) (e : Rd H a (.dK kvs)) (h : ∀ s', Inv X pins σ H s' → Q (!kvs.isEmpty) s') : wpAny (model X.prog X.w) A (truthy (.ref a)) Q E s := by
  obtain ⟨z, hd, vs, rel, dd⟩ := dk_rd I.hok e
  refine wpAny_truthy_dict hd dd (by rw [← rel.length]; rw [sizeLine_eq] at z; omega) ?_
  have q : kvs.isEmpty = vs.isEmpty := by cases rel <;> rfl
  rw [← q]
  exact h _ (I.tok _)
end


/-! ### readings and rules -/
/-- the element of a subscription, not a slice -/
def NoSl (i : Expr) : Prop := ∀ ov iv, subscripted i false ov iv = operate [ov, iv] (getItem ov iv)
theorem subD_of {prog : Program} {w : World} {A : Around} {E : Value → Shared → Prop} {s : Shared} {env : Env} {value slice : Expr} {pos : Pos} {T id : String} {Q : Value → Shared → Prop}
    (hl : typeLookup (.type T) "__getitem__" = pure (some (.builtin id))) (hs : NoSl slice)
    (h : wpAny (model prog w) A (eval value env) (fun o s₁ => wpAny (model prog w) A (eval slice env) (fun i s₂ => s₂.TypeIs o T ∧ wpAny (model prog w) A (getItem o i) Q E s₂) E s₁) E s) :
    wpAny (model prog w) A (eval (.Subscript value slice pos) env) Q E s := by
  refine Subscript_ (wpAny_mono h (fun o s₁ h₁ => wpAny_mono h₁ (fun i s₂ h₂ => ?_) fun _ _ x => x) fun _ _ x => x)
  obtain ⟨hT, h₂⟩ := h₂
  unfold subscriptTail
  refine wpAny_bind ?_
  rw [getitemInPython_of_ne hT.not_modules]
  refine wpAny_bind (wpAny_specialOf hT hl ?_)
  have fin : wpAny (model prog w) A (subscripted slice false o i) (fun r s₃ => wpAny (model prog w) A (letTemporaryGo value o r >>= fun _ => pure r) Q E s₃) E s₂ := by
    rw [hs o i]
    exact wpAny_operating (wpAny_mono h₂ (fun r s₃ h₃ => wpAny_bind (wpAny_letTemporaryGo (wpAny_pure h₃))) fun _ _ x => x)
  first
    | exact wpAny_pure (wpAny_bind fin)
    | exact wpAny_bind (wpAny_pure (wpAny_bind fin))
    | exact wpAny_bind fin

theorem dict_typeIs {X : Cx} {pins : List (Addr × Obj)} {σ : St} {H : Hp} {s : Shared} {a : Addr} {y : V} {o : Option V} (I : Inv X pins σ H s) (g : DGet H a y o) : s.TypeIs (.ref a) "dict" := by
  rcases g with ⟨kvs, k, e, _, _⟩ | ⟨kvs, k, b, e, _, _, _⟩
  · obtain ⟨_, _, vs, _, dd⟩ := dk_rd I.hok e
    exact dd.typeIs
  · obtain ⟨_, _, xs, _, dd⟩ := dt_rd I.hok e
    exact dd.typeIs
theorem dict_noDict {X : Cx} {pins : List (Addr × Obj)} {σ : St} {H : Hp} {s : Shared} {a : Addr} {y : V} {o : Option V} (I : Inv X pins σ H s) (g : DGet H a y o) :
    ∀ b, Value.ref a = .ref b → ∃ ob, s.heap.get? b = some ob ∧ ob.dict = none := fun b q => by
  cases q
  rcases g with ⟨kvs, k, e, _, _⟩ | ⟨kvs, k, b, e, _, _, _⟩
  · obtain ⟨_, _, vs, _, ob, _, _, h1, h2, _⟩ := dk_rd I.hok e
    exact ⟨ob, h1, h2.2.1⟩
  · obtain ⟨_, _, xs, _, ob, _, _, h1, h2, _⟩ := dt_rd I.hok e
    exact ⟨ob, h1, h2.2.1⟩

/-- d[y] -/
def tDGet (td ty : TE) : TE := fun σ H Q => td σ H fun x H1 => ty σ H1 fun y H2 => ∃ a v, x = .ref a ∧ DGet H2 a y (some v) ∧ Q v H2
/-- y in d, y not in d -/
def tDIn (ty td : TE) : TE := fun σ H Q => ty σ H fun y H1 => td σ H1 fun x H2 => ∃ a o, x = .ref a ∧ DGet H2 a y o ∧ Q (.bl o.isSome) H2
def tDNotIn (ty td : TE) : TE := fun σ H Q => ty σ H fun y H1 => td σ H1 fun x H2 => ∃ a o, x = .ref a ∧ DGet H2 a y o ∧ Q (.bl (!o.isSome)) H2
/-- d[y] = v -/
def sDPut (td ty tv : TE) : TS := fun D σ H => tv σ H fun v H1 => td σ H1 fun x H2 => ty σ H2 fun y H3 => ∃ a H4, x = .ref a ∧ DPut H3 a y v H4 ∧ D.nx σ H4
/-- d[y] op= v -/
def sDAug (td ty tv : TE) (rd : V → V → Hp → VK → Prop) : TS := fun D σ H => td σ H fun x H1 => ty σ H1 fun y H2 => ∃ a v, x = .ref a ∧ DGet H2 a y (some v) ∧
  tv σ H2 fun y2 H3 => rd v y2 H3 fun z H4 => ∃ H5, DPut H4 a y z H5 ∧ D.nx σ H5
/-- del d[y] -/
def sDDel (td ty : TE) : TS := fun D σ H => td σ H fun x H1 => ty σ H1 fun y H2 => ∃ a kvs k, x = .ref a ∧ H2 a = some (.dK kvs) ∧ y = kV k ∧ (valV kvs k).isSome = true ∧ D.nx σ (upd H2 a (.dK (dropK kvs k)))

section
variable {X : Cx} {o i e value : Expr} {pos pos' tpos : Pos} {td ty tv : TE}
theorem pe_dget (hu : X.A.units + 1 < cLine) (ho : PE X o td) (hi : PE X i ty) (hs : NoSl i) : PE X (.Subscript o i pos) (tDGet td ty) := by
  intro pins s σ H Q I h
  refine subD_of PySem.F.slot_dict_getitem.lookup hs (thn (ho pins s σ H _ I h) fun u s1 ⟨x, H1, I1, rx, q1⟩ => thn (hi pins s1 σ H1 _ I1 q1) fun iv s2 ⟨y, H2, I2, ry, a, v, ex, g, q2⟩ => ?_)
  subst ex
  obtain rfl : u = Value.ref a := rx
  exact ⟨dict_typeIs I2 g, d_getItem hu I2 g ry fun w' s3 I3 rw' => ⟨v, H2, I3, rw', q2⟩⟩
theorem pc_din (hu : X.A.units + 1 < cLine) (hi : PE X i ty) (ho : PE X o td) : PC X .In i o (tDIn ty td) := by
  intro pins s σ H Q I h
  refine thn (hi pins s σ H _ I h) fun iv s1 ⟨y, H1, I1, ry, q1⟩ => thn (ho pins s1 σ H1 _ I1 q1) fun u s2 ⟨x, H2, I2, rx, a, ov, ex, g, q2⟩ => ?_
  subst ex
  obtain rfl : u = Value.ref a := rx
  exact d_in hu I2 g ry fun s3 I3 => ⟨.bl ov.isSome, H2, I3, rfl, q2⟩
theorem pc_dnotin (hu : X.A.units + 1 < cLine) (hi : PE X i ty) (ho : PE X o td) : PC X .NotIn i o (tDNotIn ty td) := by
  intro pins s σ H Q I h
  refine thn (hi pins s σ H _ I h) fun iv s1 ⟨y, H1, I1, ry, q1⟩ => thn (ho pins s1 σ H1 _ I1 q1) fun u s2 ⟨x, H2, I2, rx, a, ov, ex, g, q2⟩ => ?_
  subst ex
  obtain rfl : u = Value.ref a := rx
  exact d_notIn hu I2 g ry fun s3 I3 => ⟨.bl (!ov.isSome), H2, I3, rfl, q2⟩
theorem ps_dput (hu : X.A.units + 1 < cLine) (ho : PE X o td) (hi : PE X i ty) (hv : PE X value tv) (hs : swapsWith value (some (.Subscript o i pos')) pos.line X.env = pure false) :
    PS X (.Assign [.Subscript o i pos'] value pos) (sDPut td ty tv) := by
  intro pins s σ H D I h
  refine wpAny_Assign_Subscript (thn (hv pins s σ H _ I h) fun r s1 ⟨v, H1, I1, rv, q1⟩ => thn (ho pins s1 σ H1 _ I1 q1) fun u s2 ⟨x, H2, I2, rx, q2⟩ => thn (hi pins s2 σ H2 _ I2 q2) fun iv s3 ⟨y, H3, I3, ry, a, H4, ex, g, q3⟩ => ?_) hs
  subst ex
  obtain rfl : u = Value.ref a := rx
  exact d_setItem hu I3 g ry rv fun s4 I4 => ⟨σ, H4, I4, q3⟩
theorem ps_daug {op : Operator} {rd : V → V → Hp → VK → Prop} (hu : X.A.units + 1 < cLine) (ho : PE X o td) (hi : PE X i ty) (hv : PE X value tv) (hop : InOp X op rd)
    (ha : ∀ ov iv new, augStore i ov iv new = (do holding [new, ov, iv] (setItem ov iv new); release [new, ov, iv] []; pure .next)) : PS X (.AugAssign (.Subscript o i tpos) op value pos) (sDAug td ty tv rd) := by
  intro pins s σ H D I h
  refine wpAny_AugAssign_SubscriptAny (thn (ho pins s σ H _ I h) fun u s1 ⟨x, H1, I1, rx, q1⟩ => thn (hi pins s1 σ H1 _ I1 q1) fun iv s2 ⟨y, H2, I2, ry, a, v, ex, g, q2⟩ => ?_) ha
  subst ex
  obtain rfl : u = Value.ref a := rx
  refine d_getItem hu I2 g ry fun w' s3 I3 rw' => thn (hv pins s3 σ H2 _ I3 q2) fun w2 s4 ⟨y2, H3, I4, ry2, q3⟩ => thn (hop pins s4 σ H3 v y2 w' w2 _ I4 rw' ry2 q3) fun w3 s5 ⟨z, H4, I5, rz, H5, g5, q4⟩ => ?_
  exact d_setItem hu I5 g5 ry rz fun s6 I6 => ⟨σ, H5, I6, q4⟩
theorem ps_ddel (ho : PE X o td) (hi : PE X i ty) : PS X (.Delete [.Subscript o i tpos] pos) (sDDel td ty) := by
  intro pins s σ H D I h
  refine wpAny_Delete (wpAny_deleteEach_cons (wpAny_delete_Subscript (thn (ho pins s σ H _ I h) fun u s1 ⟨x, H1, I1, rx, q1⟩ => thn (hi pins s1 σ H1 _ I1 q1) fun iv s2 ⟨y, H2, I2, ry, a, kvs, k, ex, e, ey, l, q2⟩ => ?_)))
  subst ex ey
  obtain rfl : u = Value.ref a := rx
  exact d_delItem I2 e ry l fun s3 I3 => wpAny_deleteEach_nil ⟨σ, _, I3, q2⟩
end


/-! ### displays -/
theorem dk_empty {P : Program} {w : World} {H : Hp} (h : Heap) (hb : sysModules < h.objs.size) : ObjOk P w H (h.push { cls := .type "dict", data := .dict #[] }) h.objs.size (.dK []) :=
  ⟨Nat.zero_le _, beq_eq_false_iff_ne.mpr (Ne.symm (Nat.ne_of_lt hb)), [], .nil, Heap.DictOf.new h⟩
theorem dt_empty {P : Program} {w : World} {H : Hp} (h : Heap) (hb : sysModules < h.objs.size) : ObjOk P w H (h.push { cls := .type "dict", data := .dict #[] }) h.objs.size (.dT []) :=
  ⟨Nat.zero_le _, beq_eq_false_iff_ne.mpr (Ne.symm (Nat.ne_of_lt hb)), [], .nil, _, #[], 0, Heap.get?_push_size _ rfl, ⟨rfl, rfl, rfl⟩, rfl, rfl, List.nodup_nil⟩
/-- {}, to be a dict of the kind that is wanted -/
def tDNewK : TE := fun _ H Q => ∀ p, H p = none → Q (.ref p) (upd H p (.dK []))
def tDNewT : TE := fun _ H Q => ∀ p, H p = none → Q (.ref p) (upd H p (.dT []))
section
variable {X : Cx} {pos : Pos}
theorem pe_dnewK : PE X (.Dict [] [] pos) tDNewK := fun pins s σ H Q I h =>
  wpAny_Dict_empty ⟨.ref s.heap.objs.size, _, I.laid (a := s.heap.objs.size) (o := .dK []) (t' := s.toks) (fun _ _ q => Heap.get?_push_of_some _ q) (Nat.le_refl _) (dk_empty s.heap I.big), rfl, h _ (I.hok.fresh (Nat.le_refl _))⟩
theorem pe_dnewT : PE X (.Dict [] [] pos) tDNewT := fun pins s σ H Q I h =>
  wpAny_Dict_empty ⟨.ref s.heap.objs.size, _, I.laid (a := s.heap.objs.size) (o := .dT []) (t' := s.toks) (fun _ _ q => Heap.get?_push_of_some _ q) (Nat.le_refl _) (dt_empty s.heap I.big), rfl, h _ (I.hok.fresh (Nat.le_refl _))⟩
end

/-- the pairs of a display, from the left -/
def tPairs : List (TE × TE) → St → Hp → (List (V × V) → Hp → Prop) → Prop
  | [], _, H, Q => Q [] H
  | (tk, tv) :: r, σ, H, Q => tk σ H fun x H1 => tv σ H1 fun y H2 => tPairs r σ H2 fun ps H3 => Q ((x, y) :: ps) H3
abbrev VV : List (V × V) → List (Value × Value) → Prop := Paired fun p q => RelV p.1 q.1 ∧ RelV p.2 q.2
def PPs (X : Cx) (pos : Pos) (keys : List (Option Expr)) (values : List Expr) (trs : List (TE × TE)) : Prop :=
  ∀ (pins : List (Addr × Obj)) (s : Shared) (σ : St) (H : Hp) (Q : List (V × V) → Hp → Prop), Inv X pins σ H s → tPairs trs σ H Q →
    wpAny (model X.prog X.w) X.A (evalPairs (pairTrees keys values X.env pos)) (fun vs s' => ∃ ps H', Inv X pins σ H' s' ∧ VV ps vs ∧ Q ps H') X.xe s
theorem pps_nil {X : Cx} {pos : Pos} : PPs X pos [] [] [] := fun pins s σ H Q I h => pairTrees_nil_walk ⟨[], H, I, .nil, h⟩
theorem pps_cons {X : Cx} {pos : Pos} {k v : Expr} {ks : List (Option Expr)} {vs : List Expr} {tk tv : TE} {trs : List (TE × TE)} (hk : PE X k tk) (hv : PE X v tv) (hr : PPs X pos ks vs trs) :
    PPs X pos (some k :: ks) (v :: vs) ((tk, tv) :: trs) := fun pins s σ H Q I h =>
  pairTrees_cons_walk (thn (hk pins s σ H _ I h) fun u s1 ⟨x, H1, I1, rx, q1⟩ => thn (hv pins s1 σ H1 _ I1 q1) fun w2 s2 ⟨y, H2, I2, ry, q2⟩ =>
    thn (hr pins s2 σ H2 _ I2 q2) fun ws s3 ⟨ps, H3, I3, rel, q3⟩ => ⟨(x, y) :: ps, H3, I3, .cons ⟨rx, ry⟩ rel, q3⟩)

def mergeK (kvs more : List (Key × V)) : List (Key × V) := more.foldl (fun acc kv => putK acc kv.1 kv.2) kvs
theorem KV.merge : ∀ {more : List (Key × V)} {rs : List (Key × Value)} {kvs : List (Key × V)} {vs : List (Key × Value)}, KV more rs → KV kvs vs → KV (mergeK kvs more) (merged vs rs) := by
  intro more rs kvs vs r
  unfold KV at r
  induction r generalizing kvs vs with
  | nil => intro q; exact q
  | @cons p q ps qs h t ih =>
    intro r0
    have e : KV (putK kvs p.1 p.2) (stored vs q.1 q.2) := by
      have := r0.put p.1 h.2
      rw [← h.1]; exact this
    exact ih e
theorem length_mergeK : ∀ (more kvs : List (Key × V)), (mergeK kvs more).length ≤ kvs.length + more.length
  | [], kvs => by show kvs.length ≤ kvs.length + 0; omega
  | p :: r, kvs => by
    have h1 := length_mergeK r (putK kvs p.1 p.2)
    have h2 := length_putK kvs p.1 p.2
    show (mergeK (putK kvs p.1 p.2) r).length ≤ _
    rw [List.length_cons]; omega
theorem carries_of {P : Program} {w : World} : ∀ {kvs : List (Key × V)} {ws : List (Value × Value)}, VV (kvs.map fun kv => (kV kv.1, kv.2)) ws → ∃ rs, Carries (mixKind P w) ws rs ∧ KV kvs rs
  | [], _, r => by rw [List.map_nil] at r; cases r; exact ⟨[], True.intro, .nil⟩
  | p :: kvs, _, r => by
    rw [List.map_cons] at r
    cases r with
    | @cons a b as bs h t =>
      obtain ⟨rs, c, q⟩ := carries_of (P := P) (w := w) t
      obtain ⟨b1, b2⟩ := b
      exact ⟨(p.1, b2) :: rs, ⟨kV_is h.1, rfl, c⟩, .cons ⟨rfl, h.2⟩ q⟩
/-- {k: v, ..} with keys ints and texts; the new dict stands empty while the pairs are made -/
def tDisp (trs : List (TE × TE)) : TE := fun σ H Q => ∀ p, H p = none → tPairs trs σ (upd H p (.dK [])) fun ps H2 => H2 p = some (.dK []) ∧ ∃ kvs : List (Key × V), ps = kvs.map (fun kv => (kV kv.1, kv.2)) ∧ kvs.length ≤ 15 ∧ Q (.ref p) (upd H2 p (.dK (mergeK [] kvs)))
theorem pe_disp {X : Cx} {pos : Pos} {keys : List (Option Expr)} {values : List Expr} {trs : List (TE × TE)} (h : PPs X pos keys values trs) (hall : keys.all (·.isSome) = true) (hl : keys.length = values.length) (h0 : keys ≠ [])
    (h15 : keys.length ≤ 15) : PE X (.Dict keys values pos) (tDisp trs) := by
  intro pins s σ H Q I q
  have hn := I.hok.fresh (Nat.le_refl s.heap.objs.size)
  have I1 := I.laid (a := s.heap.objs.size) (o := .dK []) (h' := s.heap.push { cls := .type "dict", data := .dict #[] }) (t' := s.toks) (fun _ _ q => Heap.get?_push_of_some _ q) (Nat.le_refl _) (dk_empty s.heap I.big)
  refine wpAny_Dict_walk (knd := mixKind X.prog X.w) hall hl h0 h15 (thn (h pins _ σ _ _ I1 (q _ hn)) fun ws s2 ⟨ps, H2, I2, rel, e, kvs, ep, lk, q2⟩ => ?_)
  subst ep
  obtain ⟨rs, c, rk⟩ := carries_of (P := X.prog) (w := X.w) rel
  obtain ⟨z, hd, vs0, r0, dd⟩ := dk_of I2.hok e
  cases r0
  refine ⟨rs, c, dd, fun h' dd' hs => ⟨.ref s.heap.objs.size, _, ?_, rfl, q2⟩⟩
  have hz : (mergeK [] kvs).length ≤ sizeLine := by
    have h1 := length_mergeK kvs []
    rw [List.length_nil] at h1
    rw [sizeLine_eq]; omega
  have he : ∃ q, h'.get? s.heap.objs.size = some q := let ⟨q, _, _, hq, _⟩ := dd'; ⟨q, hq⟩
  exact d_write I2 (by rw [e]; exact True.intro) hs he (dk_new hz hd (rk.merge .nil) dd')


/-! ### methods -/
/-- a method call o.m(e) of a built-in, with one argument: what must be seen of the text -/
structure M1 (X : Cx) (o : Expr) (m : Str) (apos : Pos) (e : Expr) (cpos : Pos) : Prop where
  base : attributeBase o m X.env (eval o X.env) = eval o X.env
  few : ((backTo cpos (starEach [e] X.env)).all (fun x => !x.1) && (backToKw cpos (keywordEach [] X.env)).all (fun x => x.1.isSome)
    && decide (([e] : List Expr).length + ([] : List Keyword).length + (if ([] : List Keyword).isEmpty then 0 else 1) < 30)) = true
  line : (apos.endLine == cpos.line) = true
  trees : backTo cpos (starEach [e] X.env) = [(false, eval e X.env)]
structure M2 (X : Cx) (o : Expr) (m : Str) (apos : Pos) (e f : Expr) (cpos : Pos) : Prop where
  base : attributeBase o m X.env (eval o X.env) = eval o X.env
  few : ((backTo cpos (starEach [e, f] X.env)).all (fun x => !x.1) && (backToKw cpos (keywordEach [] X.env)).all (fun x => x.1.isSome)
    && decide (([e, f] : List Expr).length + ([] : List Keyword).length + (if ([] : List Keyword).isEmpty then 0 else 1) < 30)) = true
  line : (apos.endLine == cpos.line) = true
  trees : backTo cpos (starEach [e, f] X.env) = [(false, eval e X.env), (false, eval f X.env)]

/-- a is a dict, whatever its keys -/
def IsD (H : Hp) (a : Addr) : Prop := (∃ kvs, Rd H a (.dK kvs)) ∨ ∃ kvs, Rd H a (.dT kvs)
theorem isD_at {X : Cx} {pins : List (Addr × Obj)} {σ : St} {H : Hp} {s : Shared} {a : Addr} (I : Inv X pins σ H s) (d : IsD H a) :
    s.TypeIs (.ref a) "dict" ∧ (∀ b, Value.ref a = .ref b → ∃ ob, s.heap.get? b = some ob ∧ ob.dict = none) ∧ (a == sysModules) = false := by
  rcases d with ⟨kvs, e⟩ | ⟨kvs, e⟩
  · obtain ⟨_, hd, vs, _, dd⟩ := dk_rd I.hok e
    refine ⟨dd.typeIs, fun b q => ?_, hd⟩
    cases q
    obtain ⟨ob, _, _, h1, h2, _⟩ := dd
    exact ⟨ob, h1, h2.2.1⟩
  · obtain ⟨_, hd, xs, _, dd⟩ := dt_rd I.hok e
    refine ⟨dd.typeIs, fun b q => ?_, hd⟩
    cases q
    obtain ⟨ob, _, _, h1, h2, _⟩ := dd
    exact ⟨ob, h1, h2.2.1⟩

section
variable {X : Cx} {pins : List (Addr × Obj)} {σ : St} {H : Hp} {s : Shared} {a : Addr} {y d : V} {u r : Value} {o : Option V} {A : Around} {E : Value → Shared → Prop}
/-- d.get(y) -/
theorem d_get1 {Q : Value → Shared → Prop} (hu : A.units + 1 < cLine) (I : Inv X pins σ H s) (g : DGet H a y o) (ry : RelV y u) (h : ∀ w' s', Inv X pins σ H s' → RelV (o.getD .non) w' → Q w' s') :
    wpAny (model X.prog X.w) A (call (.builtin "dict.get") [.ref a, u]) Q E s := by
  rcases g with ⟨kvs, k, e, ey, l⟩ | ⟨kvs, k, b, e, ey, eb, l⟩
  · subst ey
    obtain ⟨z, hd, vs, rel, dd⟩ := dk_rd I.hok e
    refine call_meetsIn PySem.F.slot_dict_get dd.typeIs PySem.F.entry_dict_get (PySem.F.args_dict_get_2 _ _) (meets_dict_get (mixKind X.prog X.w) a (kV_is ry) hd) ⟨_, dd.mapOf, h _ _ (I.tok _) ?_⟩
    rw [l]
    exact (rel.val k).getD rfl
  · subst ey
    cases (show u = Value.ref b from ry)
    obtain ⟨z, hd, xs, rel, dd⟩ := dt_rd I.hok e
    refine call_meetsIn PySem.F.slot_dict_get dd.typeIs PySem.F.entry_dict_get (PySem.F.args_dict_get_2 _ _) (meetsH_dict_get (tupleKind (mixKind X.prog X.w)) a b hd) ⟨tupleKind_room_in1 hu, k, xs, key_of I.hok eb, dd, h _ _ (I.tok _) ?_⟩
    rw [l]
    exact (rel.val k).getD rfl
/-- d.get(y, x) -/
theorem d_get2 {Q : Value → Shared → Prop} (hu : A.units + 1 < cLine) (I : Inv X pins σ H s) (g : DGet H a y o) (ry : RelV y u) (rd : RelV d r) (h : ∀ w' s', Inv X pins σ H s' → RelV (o.getD d) w' → Q w' s') :
    wpAny (model X.prog X.w) A (call (.builtin "dict.get") [.ref a, u, r]) Q E s := by
  rcases g with ⟨kvs, k, e, ey, l⟩ | ⟨kvs, k, b, e, ey, eb, l⟩
  · subst ey
    obtain ⟨z, hd, vs, rel, dd⟩ := dk_rd I.hok e
    refine call_meetsIn PySem.F.slot_dict_get dd.typeIs PySem.F.entry_dict_get (PySem.F.args_dict_get_3 _ _ _) (meets_dict_get_default (mixKind X.prog X.w) a (kV_is ry) hd r) ⟨_, dd.mapOf, h _ _ (I.tok _) ?_⟩
    rw [l]
    exact (rel.val k).getD rd
  · subst ey
    cases (show u = Value.ref b from ry)
    obtain ⟨z, hd, xs, rel, dd⟩ := dt_rd I.hok e
    refine call_meetsIn PySem.F.slot_dict_get dd.typeIs PySem.F.entry_dict_get (PySem.F.args_dict_get_3 _ _ _) (meetsH_dict_get_default (tupleKind (mixKind X.prog X.w)) a b hd r) ⟨tupleKind_room_in1 hu, k, xs, key_of I.hok eb, dd, h _ _ (I.tok _) ?_⟩
    rw [l]
    exact (rel.val k).getD rd
end

def tDGet1 (td ty : TE) : TE := fun σ H Q => td σ H fun x H1 => ∃ a, x = .ref a ∧ IsD H1 a ∧ ty σ H1 fun y H2 => ∃ o, DGet H2 a y o ∧ Q (o.getD .non) H2
def tDGet2 (td ty tx : TE) : TE := fun σ H Q => td σ H fun x H1 => ∃ a, x = .ref a ∧ IsD H1 a ∧ ty σ H1 fun y H2 => tx σ H2 fun z H3 => ∃ o, DGet H3 a y o ∧ Q (o.getD z) H3
/-- d.pop(k): there; d.pop(k, x): there or not -/
def tDPop1 (td ty : TE) : TE := fun σ H Q => td σ H fun x H1 => ∃ a, x = .ref a ∧ IsD H1 a ∧ ty σ H1 fun y H2 => ∃ kvs k v, H2 a = some (.dK kvs) ∧ y = kV k ∧ valV kvs k = some v ∧ Q v (upd H2 a (.dK (dropK kvs k)))
def tDPop2 (td ty tx : TE) : TE := fun σ H Q => td σ H fun x H1 => ∃ a, x = .ref a ∧ IsD H1 a ∧ ty σ H1 fun y H2 => tx σ H2 fun z H3 => ∃ kvs k, H3 a = some (.dK kvs) ∧ y = kV k ∧
  (∀ v, valV kvs k = some v → Q v (upd H3 a (.dK (dropK kvs k)))) ∧ (valV kvs k = none → Q z H3)
section
variable {X : Cx} {o e f : Expr} {apos cpos : Pos} {td ty tx : TE}
theorem pe_dget1 (hu : X.A.units + 1 < cLine) (ho : PE X o td) (he : PE X e ty) (m : M1 X o "get" apos e cpos) : PE X (.Call (.Attribute o "get" apos) [e] [] cpos) (tDGet1 td ty) := by
  intro pins s σ H Q I h
  refine wpAny_Call_method m.base m.few m.line PySem.F.plainAttrs_dict PySem.F.slot_dict_get PySem.F.type_dict_get (thn (ho pins s σ H _ I h) fun u s1 ⟨x, H1, I1, rx, a, ex, d, q1⟩ => ?_)
  subst ex
  obtain rfl : u = Value.ref a := rx
  obtain ⟨t1, t2, _⟩ := isD_at I1 d
  refine ⟨t1, t2, ?_⟩
  rw [m.trees]
  refine Calls.callWith_builtin rfl (Calls.evalArgs_plain (Calls.spliced_cons (thn (he pins s1 σ H1 _ I1 q1) fun iv s2 ⟨y, H2, I2, ry, ov, g, q2⟩ => Calls.spliced_nil ?_)))
  exact d_get1 hu I2 g ry fun w' s3 I3 rw' => ⟨_, H2, I3, rw', q2⟩
theorem pe_dget2 (hu : X.A.units + 1 < cLine) (ho : PE X o td) (he : PE X e ty) (hf : PE X f tx) (m : M2 X o "get" apos e f cpos) : PE X (.Call (.Attribute o "get" apos) [e, f] [] cpos) (tDGet2 td ty tx) := by
  intro pins s σ H Q I h
  refine wpAny_Call_method m.base m.few m.line PySem.F.plainAttrs_dict PySem.F.slot_dict_get PySem.F.type_dict_get (thn (ho pins s σ H _ I h) fun u s1 ⟨x, H1, I1, rx, a, ex, d, q1⟩ => ?_)
  subst ex
  obtain rfl : u = Value.ref a := rx
  obtain ⟨t1, t2, _⟩ := isD_at I1 d
  refine ⟨t1, t2, ?_⟩
  rw [m.trees]
  refine Calls.callWith_builtin rfl (Calls.evalArgs_plain (Calls.spliced_cons (thn (he pins s1 σ H1 _ I1 q1) fun iv s2 ⟨y, H2, I2, ry, q2⟩ =>
    Calls.spliced_cons (thn (hf pins s2 σ H2 _ I2 q2) fun fv s3 ⟨z, H3, I3, rz, ov, g, q3⟩ => Calls.spliced_nil ?_))))
  exact d_get2 hu I3 g ry rz fun w' s4 I4 rw' => ⟨_, H3, I4, rw', q3⟩
theorem pe_dpop1 (ho : PE X o td) (he : PE X e ty) (m : M1 X o "pop" apos e cpos) : PE X (.Call (.Attribute o "pop" apos) [e] [] cpos) (tDPop1 td ty) := by
  intro pins s σ H Q I h
  refine wpAny_Call_method m.base m.few m.line PySem.F.plainAttrs_dict PySem.F.slot_dict_pop PySem.F.type_dict_pop (thn (ho pins s σ H _ I h) fun u s1 ⟨x, H1, I1, rx, a, ex, d, q1⟩ => ?_)
  subst ex
  obtain rfl : u = Value.ref a := rx
  obtain ⟨t1, t2, _⟩ := isD_at I1 d
  refine ⟨t1, t2, ?_⟩
  rw [m.trees]
  refine Calls.callWith_builtin rfl (Calls.evalArgs_plain (Calls.spliced_cons (thn (he pins s1 σ H1 _ I1 q1) fun iv s2 ⟨y, H2, I2, ry, kvs, k, v, ea, ey, l, q2⟩ => Calls.spliced_nil ?_)))
  subst ey
  exact d_pop I2 ea ry l (.inl rfl) fun w' s3 I3 rw' => ⟨v, _, I3, rw', q2⟩
theorem pe_dpop2 (ho : PE X o td) (he : PE X e ty) (hf : PE X f tx) (m : M2 X o "pop" apos e f cpos) : PE X (.Call (.Attribute o "pop" apos) [e, f] [] cpos) (tDPop2 td ty tx) := by
  intro pins s σ H Q I h
  refine wpAny_Call_method m.base m.few m.line PySem.F.plainAttrs_dict PySem.F.slot_dict_pop PySem.F.type_dict_pop (thn (ho pins s σ H _ I h) fun u s1 ⟨x, H1, I1, rx, a, ex, d, q1⟩ => ?_)
  subst ex
  obtain rfl : u = Value.ref a := rx
  obtain ⟨t1, t2, _⟩ := isD_at I1 d
  refine ⟨t1, t2, ?_⟩
  rw [m.trees]
  refine Calls.callWith_builtin rfl (Calls.evalArgs_plain (Calls.spliced_cons (thn (he pins s1 σ H1 _ I1 q1) fun iv s2 ⟨y, H2, I2, ry, q2⟩ =>
    Calls.spliced_cons (thn (hf pins s2 σ H2 _ I2 q2) fun fv s3 ⟨z, H3, I3, rz, kvs, k, ea, ey, q3, q4⟩ => Calls.spliced_nil ?_))))
  subst ey
  cases l : valV kvs k with
  | some v => exact d_pop I3 ea ry l (.inr ⟨fv, rfl⟩) fun w' s4 I4 rw' => ⟨v, _, I4, rw', q3 v l⟩
  | none => exact d_popD I3 ea ry l fun s4 I4 => ⟨z, H3, I4, rz, q4 l⟩
end

/-! ### dict(d): a copy -/
section
variable {X : Cx} {pins : List (Addr × Obj)} {σ : St} {H : Hp} {s : Shared} {a : Addr} {kvs : List (Key × V)} {A : Around} {E : Value → Shared → Prop}
theorem d_copyOf {Q : Value → Shared → Prop} (I : Inv X pins σ H s) (e : Rd H a (.dK kvs)) (h : ∀ p s', H p = none → Inv X pins σ (upd H p (.dK kvs)) s' → Q (.ref p) s') : wpAny (model X.prog X.w) A (call (.type "dict") [.ref a]) Q E s := by
  obtain ⟨z, hd, vs, rel, dd⟩ := dk_rd I.hok e
  refine kt_call_dict hd dd (by rw [← rel.length]; exact z) fun h' dd' hs => ?_
  refine h _ _ (I.hok.fresh (Nat.le_refl _)) (I.laid (a := s.heap.objs.size) (o := .dK kvs) (t' := s.toks) (fun b q hq => ?_) (Nat.le_refl _) (dk_new z (beq_eq_false_iff_ne.mpr (Ne.symm (Nat.ne_of_lt I.big))) rel dd'))
  exact (hs.2 b (Nat.ne_of_lt (Heap.lt_size hq))).trans (Heap.get?_push_of_some _ hq)
end


section
variable {X : Cx} {pins : List (Addr × Obj)} {σ : St} {H : Hp} {s : Shared} {a : Addr} {y : V} {u : Value} {A : Around} {E : Value → Shared → Prop}
/-- d[y], not there: a KeyError -/
theorem d_missing {Q : Value → Shared → Prop} (hu : A.units + 1 < cLine) (hh : A.handled = none) (I : Inv X pins σ H s) (g : DGet H a y none) (ry : RelV y u)
    (h : ∀ h' e t', Heap.NewExc s.heap h' e "KeyError" → E (.ref e) { s with heap := h', toks := t' }) : wpAny (model X.prog X.w) A (getItem (.ref a) u) Q E s := by
  rcases g with ⟨kvs, k, e, ey, l⟩ | ⟨kvs, k, b, e, ey, eb, l⟩
  · subst ey
    obtain ⟨z, hd, vs, rel, dd⟩ := dk_rd I.hok e
    have hn : valueAt vs k = none := RelO.none_of (by rw [l]; exact rel.val k)
    exact wpAny_getItem_missing_of (kV_is ry) hd hh dd.mapOf hn fun h' ex ne => h h' ex _ ne
  · subst ey
    cases (show u = Value.ref b from ry)
    obtain ⟨z, hd, xs, rel, dd⟩ := dt_rd I.hok e
    have hn : (atKey xs k).map (·.2) = none := RelO.none_of (by rw [l]; exact rel.val k)
    exact wpAny_getItem_missing_heap (tupleKind_room_in1 hu) (key_of I.hok eb) hd hh dd (Option.map_eq_none_iff.mp hn) fun h' ex ne => h h' ex _ ne
end
end L2


namespace Att
open PySem PySem.W PySem.Calls PyProof.Rows

/-! ### the script -/
theorem ints_of_wellAll {P : Params} {h : Heap} : ∀ (ns : List Int) (vs : List Value), WellAll P h vs (ns.map WData.int) → IntsAre vs ns := by
  intro ns
  induction ns with
  | nil =>
    intro vs w
    rw [List.map_nil] at w
    cases w
    exact .nil
  | cons n ns ih =>
    intro vs w
    rw [List.map_cons] at w
    cases w with
    | cons a b =>
      cases a
      exact .cons _ _ (ih _ b)

theorem script_of {l : OpenLaw} {n : Nat} (hn : l.most = some n) {P : Params} {h : Heap} {args : List WData} {vals : List Value}
    (hpre : l.row.toRowW.claim.pre args = true) (hwl : WellAll P h vals args) :
    ∃ a vs ns, vals = [Value.ref a] ∧ args = [WData.list (ns.map WData.int)] ∧ h.get? a = some { cls := .type "list", data := .seq vs.toArray } ∧ IntsAre vs ns ∧ ns.length ≤ n := by
  have hsh : WShape.hasAll [] args [.list .int] = true := (pre_splitW hpre).1
  have hc : l.pre.holds [] { args := args } = true := (pre_splitW hpre).2
  obtain ⟨d, r, rfl, h1, h2⟩ := hasAllW_cons hsh
  obtain rfl := hasAllW_nil h2
  obtain ⟨xs, rfl, h3⟩ := hasW_list h1
  obtain ⟨ns, rfl⟩ := items_int h3
  have hlen : ns.length ≤ n := by
    unfold OpenLaw.pre at hc
    have h4 : (WTm.not (.lt (.lit (.int (n : Int))) (.len (.arg 0)))).holds [] { args := [.list (ns.map .int)] } = true := by
      have h4 := (holds_andW hc).1
      rw [hn] at h4
      exact h4
    have h5 := condW_of h4 (w_not (w_lt w_lit (w_len_list (w_arg rfl))))
    rw [List.length_map] at h5
    refine Nat.le_of_not_lt fun q => ?_
    have q' : (n : Int) < ((ns.length : Nat) : Int) := by omega
    first
      | (rw [decide_eq_true q'] at h5; exact absurd h5 (by decide))
      | (simp at h5; omega)
  cases hwl with
  | cons w1 w2 =>
    cases w2
    cases w1 with
    | list ho hall => exact ⟨_, _, ns, rfl, rfl, ho, ints_of_wellAll ns _ hall, hlen⟩

theorem post_true (l : OpenLaw) (args : List WData) : l.row.toRowW.claim.post args (.bool true) args = true :=
  postW_of (r := l.row.toRowW) (X := (true == true))
    (show WShape.has [] (.bool true) .bool = true by first | rfl | decide | simp [WShape.has, WShape.arms, WShape.armsAll])
    (show (WTm.eq .res (.lit (.bool true))).value [] { args := args, res := some (.bool true), after := args } = some (.bool (true == true)) from w_eq_bool (w_res rfl) w_lit) rfl

/-! ### the attachment: holds_open's last premise (the goal 'hc' behind k_head) from a wpAny of the law's body -/
theorem attach {l : OpenLaw} {n : Nat} {q : Program} {loose : List Str} {XP : (Str → Option Value) → Heap → Prop} {YP : World → Heap → Prop} {d : DefRec} {x : Str}
    (hn : l.most = some n) (hdf : d.params.defaults = [])
    (hbind : ∀ pm cd doc v : Value, bindArgs (docDef d.name d.params d.body d.scope pm cd doc) ⟨[v], []⟩ = pure [(x, v)])
    (hx : d.scope.names.lookup x = some .local ∨ d.scope.names.lookup x = some .cell)
    (hk : d.scope.kind = .function) (hco : d.scope.isCoroutine = false) (hgen : d.scope.isGenerator = false)
    (body : ∀ (w : World) (s₀ s₁ s : Shared) (mg mb : Str → Option Value) (fa : Addr) (o : Obj) (pm cd doc : Value) (a : Addr) (vs : List Value) (ns : List Int),
      Ground q loose [] XP w s₀ mg mb s₁.heap → YP w s₁.heap →
      s₁.heap.get? fa = some o → o.data = .func (docDef d.name d.params d.body d.scope pm cd doc) → s₁.heap.CodeRec cd d.name → mg d.name = some (.ref fa) →
      s₁.heap.get? a = some { cls := .type "list", data := .seq vs.toArray } → IntsAre vs ns → ns.length ≤ n →
      s.gens = #[] → s.os = s₁.os →
      Fr s₁.heap s₁.heap.objs.size s.heap (bindL (envOfC d.name d.scope s₁.heap.objs.size fa cd).kindOf [(x, .ref a)] fun _ => none) →
      Cl s₁.heap.objs.size (cellsFrom (s₁.heap.objs.size + 1) d.scope.names []) s.heap (bindC (envOfC d.name d.scope s₁.heap.objs.size fa cd).kindOf [(x, .ref a)] fun _ => none) →
      wpAny (model l.prog w) (callerA.deeper (envOfC d.name d.scope s₁.heap.objs.size fa cd)) (execs d.body (envOfC d.name d.scope s₁.heap.objs.size fa cd))
        (fun f s' => f = .ret (.bool true) ∧ OldK s₁.heap s'.heap ∧ s'.os = s₁.os ∧ AllBare s'.gens) (fun _ _ => False) s) :
    WalkO q loose XP YP l.row.toRowW d [] (fun f vs => PySem.call f vs) := by
  intro w s₀ s₁ mg mb G Y fa o pm cd doc dV kV ho hd hcd hD hmg hg args vals as hpre hlay hrd hwl hlo
  obtain rfl : dV = .none := Dflts.none hD hdf
  obtain rfl : kV = .none := Dflts.noKw hD
  obtain ⟨a, vs, ns, rfl, rfl, hobj, hints, hlen⟩ := script_of hn hpre hwl
  refine enter_call ?_
  refine call_cells_ret (o := o) (by rw [depth_caller]; decide) ho (fd_plain hd) G.T.nolimit hcd (hbind pm cd doc (.ref a)) (fun y hy => ?_) (fun h₁ tk F X => ?_) hco hgen hk
  · obtain rfl : y = (x, Value.ref a) := List.mem_singleton.mp hy
    rcases hx with e | e
    · exact .inl e
    · exact .inr ⟨e, cellsFrom_some _ _ _ (.inl e)⟩
  · refine wpAny_mono (body w s₀ s₁ { s₁ with heap := h₁, toks := tk } mg mb fa o pm cd doc a vs ns G Y ho (fd_plain hd) hcd hmg hobj hints hlen hg rfl F X) (fun f s' hq => ?_) (fun _ _ hq => hq)
    obtain ⟨rfl, h2, h3, h4⟩ := hq
    exact ⟨.inl ⟨.bool true, .bool true, [], rfl, fun _ => rfl, .bool true, post_true l _, fun _ => ⟨List.Pairwise.nil, fun _ hm => (nomatch hm)⟩⟩, h2, h3, h4⟩

/-- the same from a codeAny of the CALL (for a layer whose function contracts speak of calls) -/
theorem attach_call {l : OpenLaw} {n : Nat} {q : Program} {loose : List Str} {XP : (Str → Option Value) → Heap → Prop} {YP : World → Heap → Prop} {d : DefRec}
    (hn : l.most = some n) (hdf : d.params.defaults = [])
    (call : ∀ (w : World) (s₀ s₁ : Shared) (mg mb : Str → Option Value) (fa : Addr) (o : Obj) (pm cd doc : Value) (a : Addr) (vs : List Value) (ns : List Int),
      Ground q loose [] XP w s₀ mg mb s₁.heap → YP w s₁.heap →
      s₁.heap.get? fa = some o → o.data = .func (docDef d.name d.params d.body d.scope pm cd doc) → s₁.heap.CodeRec cd d.name → mg d.name = some (.ref fa) →
      s₁.heap.get? a = some { cls := .type "list", data := .seq vs.toArray } → IntsAre vs ns → ns.length ≤ n → s₁.gens = #[] →
      codeAny (model l.prog w) callerA (.call (.ref fa) ⟨[.ref a], []⟩) (fun r s' => r = .ok (.ret (.bool true)) ∧ OldK s₁.heap s'.heap ∧ s'.os = s₁.os ∧ AllBare s'.gens) s₁) :
    WalkO q loose XP YP l.row.toRowW d [] (fun f vs => PySem.call f vs) := by
  intro w s₀ s₁ mg mb G Y fa o pm cd doc dV kV ho hd hcd hD hmg hg args vals as hpre hlay hrd hwl hlo
  obtain rfl : dV = .none := Dflts.none hD hdf
  obtain rfl : kV = .none := Dflts.noKw hD
  obtain ⟨a, vs, ns, rfl, rfl, hobj, hints, hlen⟩ := script_of hn hpre hwl
  refine enter_call (codeAny_mono (call w s₀ s₁ mg mb fa o pm cd doc a vs ns G Y ho (fd_plain hd) hcd hmg hobj hints hlen hg) fun r s' hq => ?_)
  obtain ⟨rfl, h2, h3, h4⟩ := hq
  exact ⟨.inl ⟨.bool true, .bool true, [], rfl, fun _ => rfl, .bool true, post_true l _, fun _ => ⟨List.Pairwise.nil, fun _ hm => (nomatch hm)⟩⟩, h2, h3, h4⟩

/-- the same where the top left finished generators (o_head chose holds_openN): nothing may have changed at all and no generator may be left -/
theorem attachN {l : OpenLaw} {n : Nat} {q : Program} {loose : List Str} {XP : (Str → Option Value) → Heap → Prop} {YP : World → Heap → Prop} {d : DefRec} {x : Str}
    (hn : l.most = some n) (hdf : d.params.defaults = [])
    (hbind : ∀ pm cd doc v : Value, bindArgs (docDef d.name d.params d.body d.scope pm cd doc) ⟨[v], []⟩ = pure [(x, v)])
    (hx : d.scope.names.lookup x = some .local ∨ d.scope.names.lookup x = some .cell)
    (hk : d.scope.kind = .function) (hco : d.scope.isCoroutine = false) (hgen : d.scope.isGenerator = false)
    (body : ∀ (w : World) (s₀ s₁ s : Shared) (mg mb : Str → Option Value) (fa : Addr) (o : Obj) (pm cd doc : Value) (a : Addr) (vs : List Value) (ns : List Int),
      Ground q loose [] XP w s₀ mg mb s₁.heap → YP w s₁.heap →
      s₁.heap.get? fa = some o → o.data = .func (docDef d.name d.params d.body d.scope pm cd doc) → s₁.heap.CodeRec cd d.name → mg d.name = some (.ref fa) →
      s₁.heap.get? a = some { cls := .type "list", data := .seq vs.toArray } → IntsAre vs ns → ns.length ≤ n →
      s.gens = #[] → s.os = s₁.os →
      Fr s₁.heap s₁.heap.objs.size s.heap (bindL (envOfC d.name d.scope s₁.heap.objs.size fa cd).kindOf [(x, .ref a)] fun _ => none) →
      Cl s₁.heap.objs.size (cellsFrom (s₁.heap.objs.size + 1) d.scope.names []) s.heap (bindC (envOfC d.name d.scope s₁.heap.objs.size fa cd).kindOf [(x, .ref a)] fun _ => none) →
      wpAny (model l.prog w) (callerA.deeper (envOfC d.name d.scope s₁.heap.objs.size fa cd)) (execs d.body (envOfC d.name d.scope s₁.heap.objs.size fa cd))
        (fun f s' => f = .ret (.bool true) ∧ (∀ b o, s₁.heap.get? b = some o → s'.heap.get? b = some o) ∧ s'.os = s₁.os ∧ s'.gens = #[]) (fun _ _ => False) s) :
    WalkN q loose XP YP l.row.toRowW d [] (fun f vs => PySem.call f vs) := by
  intro w s₀ s₁ mg mb G Y fa o pm cd doc dV kV ho hd hcd hD hmg hg args vals as hpre hlay hrd hwl hlo
  obtain rfl : dV = .none := Dflts.none hD hdf
  obtain rfl : kV = .none := Dflts.noKw hD
  obtain ⟨a, vs, ns, rfl, rfl, hobj, hints, hlen⟩ := script_of hn hpre hwl
  refine enter_callW ?_
  refine call_cells_ret (o := o) (by rw [depth_caller]; decide) ho (fd_plain hd) G.T.nolimit hcd (hbind pm cd doc (.ref a)) (fun y hy => ?_) (fun h₁ tk F X => ?_) hco hgen hk
  · obtain rfl : y = (x, Value.ref a) := List.mem_singleton.mp hy
    rcases hx with e | e
    · exact .inl e
    · exact .inr ⟨e, cellsFrom_some _ _ _ (.inl e)⟩
  · refine wpAny_mono (body w s₀ s₁ { s₁ with heap := h₁, toks := tk } mg mb fa o pm cd doc a vs ns G Y ho (fd_plain hd) hcd hmg hobj hints hlen hg rfl F X) (fun f s' hq => ?_) (fun _ _ hq => hq)
    obtain ⟨rfl, h2, h3, h4⟩ := hq
    exact ⟨.inl ⟨.bool true, .bool true, [], rfl, fun _ => rfl, .bool true, post_true l _, fun _ => ⟨List.Pairwise.nil, fun _ hm => (nomatch hm)⟩⟩, h2, h3, h4⟩

/-! ### rules over ANY heap (no ledger) from facts about the written part K: the library's own take a ledger (News) for what they write -/
section
variable {prog : Program} {w : World} {A : Around} {E : Value → Shared → Prop} {s : Shared} {K : Frag}

/-- a def of the module, or a method (qual 'C.m'), entered: the frame is the next address; cells behind it -/
theorem call_fn {R : Result → Shared → Prop} {name qual : Str} {params : Arguments} {body : List Stmt} {scope : Scope} {dV kV doc pm cdv ct oc : Value} {an od : Option Addr} {osl : Array (Option Value)} {f : Addr} {args : Args} {binds : List (Str × Value)}
    (X : K.In s.heap) (hlim : s.heap.NoLimit) (ho : K.lookup f = some ⟨oc, od, .func (fnOf name qual params body scope dV kV doc pm an cdv ct), osl⟩) (hcd : codeIn K cdv qual = true) (hroom : A.depth < recursionLimit)
    (hbind : BindsTo s (fnOf name qual params body scope dV kV doc pm an cdv ct) args binds)
    (hkind : (binds.all fun y => scope.names.lookup y.1 == some .local || scope.names.lookup y.1 == some .cell) = true)
    (h : ∀ s₁, InCallC s s.heap.objs.size (bindL (envOfC qual scope s.heap.objs.size f cdv).kindOf binds fun _ => none) (cellsFrom (s.heap.objs.size + 1) scope.names [])
        (bindC (envOfC qual scope s.heap.objs.size f cdv).kindOf binds fun _ => none) s₁ →
      wpAny (model prog w) (A.deeper (envOfC qual scope s.heap.objs.size f cdv)) (execs body (envOfC qual scope s.heap.objs.size f cdv))
        (fun fl s' => R (.ok (.ret (match fl with | .ret v => v | _ => .none))) s')
        (fun e s' => wpAny (model prog w) (A.deeper (envOfC qual scope s.heap.objs.size f cdv)) (leaving (envOfC qual scope s.heap.objs.size f cdv) e) (fun _ s'' => R (.error e) s'') (fun e' s'' => R (.error e') s'') s') s₁)
    (hco : scope.isCoroutine = false) (hgen : scope.isGenerator = false) (hk : scope.kind = .function) : codeAny (model prog w) A (.call (.ref f) args) R s := by
  refine codeAny_call_function hroom (X _ _ ho) rfl hco hgen rfl (codeRec_of X hcd) (hbind _ _ _ _ ?_)
  refine wpAny_newFunctionEnv_cells hk (kindsX hkind _) fun env he s₁ x => ?_
  subst he
  exact ⟨hlim.keeps x.toInCall.keep, codeAny_func (h s₁ x)⟩

/-- C(..): dict at size, instance at size + 1, then __init__ -/
theorem make_obj {R : Result → Shared → Prop} {C fI : Addr} {rest : List Value} {kw : List (Str × Value)}
    (X : K.In s.heap) (hm : makesIn K C = true) (hi : findIn K (.ref C) "__init__" = some (some (.ref fI))) (hf : isFn K (.ref fI) = true)
    (h : codeAny (model prog w) (A.under (.builtin "type.__call__" ⟨.ref C :: rest, kw⟩)) (.call (.ref fI) ⟨.ref (s.heap.objs.size + 1) :: rest, kw⟩) (InitBack (s.heap.objs.size + 1) R)
      { s with heap := (s.heap.push emptyDict).push (instObj C s.heap.objs.size) }) : codeAny (model prog w) A (.call (.ref C) ⟨rest, kw⟩) R s := by
  obtain ⟨hh, g, d, t, os⟩ := s
  exact make_core (makes_of X hm) (looks_findIn X hi) (fun self => bind_fn X self (beq_iff_eq.mp hf)) (.inl rfl) h

/-- x.name where the instance's dict holds the name and the class does not -/
theorem get_field {x C : Addr} {ox : Obj} {es : List DictEntry} {n : Nat} {name : Str} {expr : Bool} {v : Value} {Q : Value → Shared → Prop}
    (X : K.In s.heap) (I : PySem.W.InstAt s.heap x ox C (some (dictOf es n))) (hg : plainGet K C name = true) (hh : hasDictIn K C = true) (ha : findIn K (.ref C) name = some none)
    (hl : getL name es = some (some v)) (hv : handedIn v = true) (h : Q v { s with toks := s.toks + 1 }) : wpAny (model prog w) A (getAttr (.ref x) name expr) Q E s :=
  get_value X I (plainGet_of hg).1 (findObj_own hh ha rfl hl) hv h

/-- x.m(..): the method found in the class -/
theorem get_method {x C f : Addr} {ox : Obj} {es : List DictEntry} {n : Nat} {name : Str} {pl : Sem Bool} {Q : Value × List Value → Shared → Prop}
    (X : K.In s.heap) (I : PySem.W.InstAt s.heap x ox C (some (dictOf es n))) (hg : plainGet K C name = true) (hf : findIn K (.ref C) name = some (some (.ref f))) (ht : isFn K (.ref f) = true)
    (hl : getL name es = some none) (h : Q (.ref f, [.ref x]) s) : wpAny (model prog w) A (getMethod (.ref x) name pl) Q E s :=
  method_fn X I (plainGet_of hg).1 (plainGet_of hg).2 hf (beq_iff_eq.mp ht) (by show (lookIn name (dictOf es n)).map _ = _; rw [lookIn_dict, hl]; rfl) h

/-! the whole heap as the ledger: makes every rule that writes through a ledger a rule over any heap -/
def noObjs (h : Heap) : Heap := { h with objs := #[] }
theorem noObjs_get (h : Heap) (b : Addr) : (noObjs h).get? b = none := by
  cases e : (noObjs h).get? b with
  | none => rfl
  | some o => exact absurd (Heap.lt_size e) (Nat.not_lt_zero _)
def ledger (h : Heap) (L d : Addr) : List (Addr × Obj) := (List.range h.objs.size).filterMap fun a => if a = L ∨ a = d then none else (h.get? a).map fun o => (a, o)
theorem mem_ledger {h : Heap} {L d a : Addr} {o : Obj} : (a, o) ∈ ledger h L d ↔ a ≠ L ∧ a ≠ d ∧ h.get? a = some o := by
  unfold ledger
  rw [List.mem_filterMap]
  constructor
  · rintro ⟨b, _, e⟩
    split at e
    · cases e
    · rename_i hb
      obtain ⟨o', ho, e'⟩ := Option.map_eq_some_iff.mp e
      cases e'
      exact ⟨fun q => hb (.inl q), fun q => hb (.inr q), ho⟩
  · rintro ⟨n1, n2, ho⟩
    refine ⟨a, List.mem_range.mpr (Heap.lt_size ho), ?_⟩
    rw [if_neg (show ¬ (a = L ∨ a = d) from fun q => q.elim n1 n2), ho] <;> rfl
theorem news_ledger {h : Heap} {L d : Addr} {od : Obj} (hne : d ≠ L) (ho : h.get? d = some od) : News (noObjs h) L h ([] ++ (d, od) :: ledger h L d) := by
  rintro ⟨a, o⟩ hp
  rcases List.mem_cons.mp hp with e | hp
  · cases e
    exact ⟨ho, hne, noObjs_get _ _⟩
  · obtain ⟨n1, n2, e⟩ := mem_ledger.mp hp
    exact ⟨e, n1, noObjs_get _ _⟩
theorem fr_all {h : Heap} {L : Addr} {m : Str → Option Value} (n : h.Ns L m) : Fr (noObjs h) L h m :=
  ⟨n, fun b o e => (by rw [noObjs_get] at e; cases e), Nat.zero_le _⟩
/-- Upd of the head entry (for append_K, setItem_K ..) -/
theorem upd_ledger {h : Heap} {L d : Addr} {o o' : Obj} : Upd d o o' ((d, o) :: ledger h L d) ((d, o') :: ledger h L d) :=
  .head fun ⟨_, _⟩ hp => (mem_ledger.mp hp).2.1

/-- x.name = v over any heap: L is any namespace of the heap (the frame's, say): its map stays, its object is not told; all else but the dict stays -/
theorem set_field {x C dx L : Addr} {ox : Obj} {m : Str → Option Value} {es es' : List DictEntry} {n n' : Nat} {name : Str} {v : Value} {Q : Unit → Shared → Prop}
    (X : K.In s.heap) (I : PySem.W.InstAt s.heap x ox C (some (dictOf es n))) (hd : ox.dict = some dx) (hL : s.heap.Ns L m) (hne : dx ≠ L)
    (hs : findIn K (.ref C) "__setattr__" = some (some (.builtin "object.__setattr__"))) (hp : plainOver K C = true) (ht : takerIn K C name = some none) (hh : hasDictIn K C = true) (hl : (getL name es).isSome = true)
    (e : (putL name (PyData.keyHash w.params name) (.str name (s.toks + 1)) v es, putN name es n) = (es', n')) (hz : es'.length ≤ 1000)
    (h : ∀ h' : Heap, h'.Ns L m → h'.get? dx = some (dictOf es' n') → (∀ b o, b ≠ dx → b ≠ L → s.heap.get? b = some o → h'.get? b = some o) → Q () { s with heap := h', toks := s.toks + 2 }) :
    wpAny (model prog w) A (setAttr (.ref x) name v) Q E s := by
  obtain ⟨e1, e2⟩ := Prod.mk.inj e
  have hdx : s.heap.get? dx = some (dictOf es n) := by
    have := I.dict
    rw [hd] at this
    exact this
  refine set_plain X I hs (osa_dict (s := { s with toks := s.toks + 1 }) (h₀ := noObjs s.heap) (L := L) (m := m) (od := dictOf es n) (od' := dictOf es' n') (es := es') (n := n') (pre := []) (post := ledger s.heap L dx)
    (fr_all hL) (news_ledger hne hdx) X I hd hp ht hh hl (fun _ q => nomatch q) (fun ⟨_, _⟩ q => (mem_ledger.mp q).2.1) (by rw [putName_dict, e1, e2]) rfl hz fun h' F' N' => ?_)
  exact h h' F'.ns (N'.get (List.Mem.head _)) fun b o n1 n2 ho => N'.get (List.Mem.tail _ (mem_ledger.mpr ⟨n2, n1, ho⟩))
end
end Att

namespace L2
open PySem PySem.Spec PyProof.Rows

theorem vals_ints : ∀ {vs : List Value} {ns : List Int}, IntsAre vs ns → Vals (ns.map V.int) vs
  | _, _, .nil => .nil
  | _, _, .cons n t h => .cons ⟨t, rfl⟩ (vals_ints h)

/-- nothing is tracked but the script, known to the object (or it is an object of the module) -/
def Only (H : Hp) : Prop := ∀ b, H b = none ∨ ∃ o xs, H b = some (.frz o (.lst xs))

/-- THE HEAD: the law's promise, at the heap behind the top. F, the promise of the law's def, may use that base is part of the heap (so K.In base, base.Ns mainGlobals mg stand in Mod) -/
theorem law_call {P : Program} {w : World} {K : PySem.W.Frag} {mg mb : Str → Option Value} {CX : CXT} {k : Nat} {fa a : Addr} {fd : FuncData} {x : Str} {sp : Sp} {s₁ : Shared} {vs : List Value} {ns : List Int}
    (KX : K.In s₁.heap) (hns : s₁.heap.Ns mainGlobals mg) (hb : s₁.heap.Ns builtinsNs mb) (hbb : ∀ x : Str, x ≠ "__name__" → mb x = bootBuiltins x) (hlim : s₁.heap.NoLimit) (hg : s₁.gens = #[])
    (ha : s₁.heap.get? a = some { cls := .type "list", data := .seq vs.toArray }) (hi : IntsAre vs ns) (hl : ns.length ≤ sizeLine) (hr : Room k callerA)
    (F : ∀ base : Heap, K.In base → base.Ns mainGlobals mg → FnOk P w K mg base CX k fa fd [x] sp) (hbind : ∀ (s : Shared) (u : Value), BindsTo s fd ⟨[u], []⟩ [(x, u)])
    (hsp : ∀ H : Hp, Only H → SqL K H a (ns.map V.int) → sp [.ref a] H (fun v _ => v = .bl true) fun _ _ _ => False)
    (hCX : ∀ H e s', CX [] H s₁ (fun _ _ _ => False) e s' → False) :
    codeAny (model P w) callerA (.call (.ref fa) ⟨[.ref a], []⟩) (fun r s' => r = .ok (.ret (.bool true)) ∧ OldK s₁.heap s'.heap ∧ s'.os = s₁.os ∧ AllBare s'.gens) s₁ := by
  have rv := vals_ints hi
  have lenV := hi.length
  -- from an abstract heap in which nothing but the script may be tracked
  have core : ∀ H : Hp, Only H → SqL K H a (ns.map V.int) → HOk P w H s₁.heap → (∀ b, H b ≠ none → b = a) → (H a ≠ none → K.lookup a = none) →
      codeAny (model P w) callerA (.call (.ref fa) ⟨[.ref a], []⟩) (fun r s' => r = .ok (.ret (.bool true)) ∧ OldK s₁.heap s'.heap ∧ s'.os = s₁.os ∧ AllBare s'.gens) s₁ := by
    intro H hO hS hok hA hK
    have base_of : ∀ {b : Addr} {o : Obj}, s₁.heap.get? b = some o → H b = none → (hidT s₁.heap H).get? b = some o := fun e n => hidT_get e n
    have noA : ∀ {b : Addr} {o : Obj} {es : Array DictEntry} {ep : Nat}, s₁.heap.get? b = some o → o.data = .dict es ep → H b = none := fun {b o es ep} e d => by
      cases q : H b with
      | none => rfl
      | some u =>
        have e' : b = a := hA b (by rw [q]; simp)
        subst e'
        rw [ha] at e; cases e
        have d' : Data.seq vs.toArray _ = Data.dict es ep := d
        cases d'
    have nsK : ∀ {b : Addr} {m : Str → Option Value}, s₁.heap.Ns b m → (hidT s₁.heap H).Ns b m := fun {b m} ⟨o, es, ep, e, d, r⟩ => ⟨o, es, ep, base_of e (noA e d), d, r⟩
    have hKb : K.In (hidT s₁.heap H) := fun b o e => base_of (KX b o e) (by
      cases q : H b with
      | none => rfl
      | some u =>
        have e' : b = a := hA b (by rw [q]; simp)
        subst e'
        rw [hK (by rw [q]; simp)] at e; cases e)
    have hM : Mod K mg (hidT s₁.heap H) := ⟨hKb, nsK hns, ⟨mb, nsK hb, hbb⟩, let ⟨mc, h1, h2⟩ := hlim; ⟨mc, nsK h1, h2⟩⟩
    have e0 : Env0 P w K mg (hidT s₁.heap H) callerA [] s₁ H := ⟨rfl, hM, fun b o e => of_hidT e, Nat.le_of_eq (hidT_size _ _), trivial, fun b hb => absurd (show b ∈ ([] : List Addr) from hb) (by simp), hok, .of_eq hg⟩
    refine codeAny_mono ((F _ hKb (nsK hns)).run callerA [] s₁ H ⟨[.ref a], []⟩ [.ref a] [.ref a] _ _ hr e0 (hbind s₁ (.ref a)) (.cons rfl .nil) (hsp H hO hS)) fun r s' h => ?_
    cases r with
    | error e => exact (hCX H e s' h).elim
    | ok fl =>
      cases fl with
      | next => exact False.elim h
      | brk => exact False.elim h
      | cont => exact False.elim h
      | ret u =>
        obtain ⟨v, H', os, bare, un, hok', r', q⟩ := h
        have q' : v = .bl true := q
        subst q'
        obtain rfl : u = Value.bool true := r'
        refine ⟨rfl, OldK.of_keep fun b o e => ?_, os, bare⟩
        cases q : H b with
        | none => exact un.keep b o e q (by intro z; exact absurd (show b ∈ ([] : List Addr) from z) (by simp)) (by simp)
        | some u =>
          rcases hO b with z | ⟨ob, xs, z⟩
          · rw [q] at z; cases z
          · have z2 := un.frzs b ob _ z
            obtain ⟨e1, _⟩ := hok b _ z
            obtain ⟨e2, _⟩ := hok' b _ z2
            rw [e] at e1; cases e1
            exact e2
  cases hk : K.lookup a with
  | some o =>
    -- the script is one of the module's own objects
    have e := KX a o hk
    rw [ha] at e
    cases e
    refine core (fun _ => none) (fun _ => .inl rfl) (.inr ⟨_, vs.toArray, _, hk, rfl, rfl, rfl, by rw [List.size_toArray, lenV]; exact hl, by simpa using rv⟩) (fun b u z => by have z' : (none : Option HO) = some u := z; cases z') (fun b z => absurd rfl z) fun z => absurd rfl z
  | none =>
    refine core (fun b => if b = a then some (.frz { cls := .type "list", data := .seq vs.toArray } (.lst (ns.map V.int))) else none) (fun b => ?_) (.inl (.inr ⟨{ cls := .type "list", data := .seq vs.toArray }, if_pos rfl⟩)) (fun b u z => ?_) (fun b z => ?_) fun _ => hk
    · by_cases hb : b = a
      · exact .inr ⟨_, _, if_pos hb⟩
      · exact .inl (if_neg hb)
    · by_cases hb : b = a
      · have z' := (if_pos hb).symm.trans z
        cases z'
        subst hb
        exact ⟨ha, by rw [List.length_map]; exact hl, vs, _, rv, ha⟩
      · have z' := (if_neg hb).symm.trans z
        cases z'
    · by_cases hb : b = a
      · exact hb
      · exact absurd (if_neg hb) z
end L2

namespace L2
open PySem PySem.Spec PyProof.Rows

abbrev KOf {K : PySem.W.Frag} {h : Heap} (_ : K.In h) : PySem.W.Frag := K

/-- the goal that k_head leaves (case hc), from the law's promise. F gives the function object fd (K's own) once, then the promise over every base -/
theorem walk_of {l : PySem.W.OpenLaw} {n k : Nat} {q : Program} {loose : List Str} {XP : (Str → Option Value) → Heap → Prop} {YP : World → Heap → Prop} {d : DefRec} {K : Params → PySem.W.Frag} {CX : World → CXT} {sp : World → Sp} {x : Str}
    (hn : l.most = some n) (hn2 : n ≤ sizeLine) (hdf : d.params.defaults = []) (hr : Room k callerA)
    (hY : ∀ (w : World) (h : Heap), YP w h → (K w.params).In h)
    (F : ∀ (w : World) (mg : Str → Option Value) (fa : Addr) (h : Heap), (K w.params).In h → h.Ns mainGlobals mg → mg d.name = some (.ref fa) →
      ∃ fd : FuncData, (∀ (s : Shared) (u : Value), BindsTo s fd ⟨[u], []⟩ [(x, u)]) ∧
        ∀ base : Heap, (K w.params).In base → base.Ns mainGlobals mg → FnOk l.prog w (K w.params) mg base (CX w) k fa fd [x] (sp w))
    (hsp : ∀ (w : World) (H : Hp) (a : Addr) (ns : List Int), ns.length ≤ n → Only H → SqL (K w.params) H a (ns.map V.int) → sp w [.ref a] H (fun v _ => v = .bl true) fun _ _ _ => False)
    (hCX : ∀ (w : World) (H : Hp) (s : Shared) (e : Value) (s' : Shared), CX w [] H s (fun _ _ _ => False) e s' → False) :
    PySem.W.WalkO q loose XP YP l.row.toRowW d [] (fun f vs => PySem.call f vs) := by
  refine Att.attach_call hn hdf fun w s₀ s₁ mg mb fa o pm cd doc a vs ns G Y ho hd hcd hmg hobj hints hlen hg => ?_
  have KX := hY w _ Y
  obtain ⟨fd, hb, hF⟩ := F w mg fa _ KX G.T.g hmg
  exact law_call KX G.T.g G.T.b G.T.builtins G.T.nolimit hg hobj hints (Nat.le_trans hlen hn2) hr hF hb (fun H hO hS => hsp w H a ns hlen hO hS) fun H e s' => hCX w H s₁ e s'
/-- the same where the promise hangs on the written part alone: (sp := My.sp_law), no hole under a binder -/
theorem walk_ofK {l : PySem.W.OpenLaw} {n k : Nat} {q : Program} {loose : List Str} {XP : (Str → Option Value) → Heap → Prop} {YP : World → Heap → Prop} {d : DefRec} {K : Params → PySem.W.Frag} {CX : CXT} {sp : PySem.W.Frag → Sp} {x : Str}
    (hn : l.most = some n) (hn2 : n ≤ sizeLine) (hdf : d.params.defaults = []) (hr : Room k callerA)
    (hY : ∀ (w : World) (h : Heap), YP w h → (K w.params).In h)
    (F : ∀ (w : World) (mg : Str → Option Value) (fa : Addr) (h : Heap), (K w.params).In h → h.Ns mainGlobals mg → mg d.name = some (.ref fa) →
      ∃ fd : FuncData, (∀ (s : Shared) (u : Value), BindsTo s fd ⟨[u], []⟩ [(x, u)]) ∧
        ∀ base : Heap, (K w.params).In base → base.Ns mainGlobals mg → FnOk l.prog w (K w.params) mg base CX k fa fd [x] (sp (K w.params)))
    (hsp : ∀ (K : PySem.W.Frag) (H : Hp) (a : Addr) (ns : List Int), ns.length ≤ n → Only H → SqL K H a (ns.map V.int) → sp K [.ref a] H (fun v _ => v = .bl true) fun _ _ _ => False)
    (hCX : ∀ (H : Hp) (s : Shared) (e : Value) (s' : Shared), CX [] H s (fun _ _ _ => False) e s' → False) :
    PySem.W.WalkO q loose XP YP l.row.toRowW d [] (fun f vs => PySem.call f vs) :=
  walk_of (K := K) (CX := fun _ => CX) (sp := fun w => sp (K w.params)) hn hn2 hdf hr hY F (fun w H a ns h1 h2 h3 => hsp (K w.params) H a ns h1 h2 h3) fun _ H s e s' => hCX H s e s'
end L2



/-! SHORT WORDS over the layer: a def of the text, its body, what a loop and a test want. -/
namespace L2
open PySem PySem.Spec PyProof.Rows

/-! ### the text by places -/
/-- the j-th statement of a class's body -/
def inClass (s : Stmt) (j : Nat) : Stmt := match s with
  | .ClassDef _ _ _ body _ _ _ _ _ _ _ => body.getD j (.Pass ⟨0, 0, 0, 0⟩)
  | _ => .Pass ⟨0, 0, 0, 0⟩
def defArgs (s : Stmt) : Arguments := match s with
  | .FunctionDef _ a _ _ _ _ _ _ _ _ => a
  | _ => { posonlyargs := [], args := [], vararg := none, kwonlyargs := [], kw_defaults := [], kwarg := none, defaults := [] }
def defBody (s : Stmt) : List Stmt := match s with
  | .FunctionDef _ _ b _ _ _ _ _ _ _ => b
  | _ => []
def defScope (s : Stmt) : Scope := match s with
  | .FunctionDef _ _ _ _ _ _ sc _ _ _ => sc
  | _ => { kind := .function, names := [], isGenerator := false, isCoroutine := false }

/-! ### no exception leaves a def -/
abbrev CX0 : CXT := fun _ _ _ _ _ _ => False
abbrev E0 : XK := fun _ _ _ => False
theorem pass0 {X : Cx} : Passes CX0 X E0 := fun _ _ _ _ _ _ _ h => h.elim

/-! ### a def (or method) of the text as it stands behind the top -/
structure Fun (K : PySem.W.Frag) (x qual : Str) (st : Stmt) (f : Addr) (fd : FuncData) : Prop where
  ex : ∃ (oc : Value) (od : Option Addr) (kV doc pm : Value) (an : Option Addr) (cdv ct : Value) (osl : Array (Option Value)),
    fd = PySem.W.fnOf x qual (defArgs st) (defBody st) (defScope st) .none kV doc pm an cdv ct ∧ K.lookup f = some ⟨oc, od, .func fd, osl⟩ ∧ PySem.W.codeIn K cdv qual = true
  kp : PySem.W.keepIn K (.ref f) = true
section
variable {P : Program} {w : World} {K : PySem.W.Frag} {mg : Str → Option Value} {base : Heap}
/-- THE RULE for a def: its body as a term of rules, and the reading of that term -/
theorem Fun.ok {x qual : Str} {st : Stmt} {f : Addr} {fd : FuncData} {N ps : List Str} {k : Nat} {sp : Sp} (F : Fun K x qual st f fd) (S : FnScope N ps (defScope st)) (len : ∀ vs H Q E, sp vs H Q E → vs.length = ps.length)
    (hbody : ∀ (cdv : Value) (A : Around) (outer : List Env) (s : Shared) (H : Hp) (vs : List V) (Q : VK) (E : XK), Room k (A.deeper (envOfC qual (defScope st) s.heap.objs.size f cdv)) → sp vs H Q E →
      ∃ t, PSs (cxOf CX0 P w K mg base N qual (defScope st) f cdv A outer s H E).nox (defBody st) t ∧ t { nx := fun _ H' => Q .non H', rt := Q } (start N vs) H) : FnOk P w K mg base CX0 (k + 1) f fd ps sp := by
  obtain ⟨oc, od, kV, doc, pm, an, cdv, ct, osl, rfl, lk, hcd⟩ := F.ex
  refine fn_of lk hcd S len fun A outer s H vs Q E hr hsp => ?_
  obtain ⟨t, h, q⟩ := hbody cdv A outer s H vs Q E hr hsp
  exact ⟨t, h.nox, q⟩
/-- how its arguments bind (no defaults): h is «fun _ _ _ _ _ _ us hl => match us, hl with | [_, _], _ => rfl», one _ a parameter -/
theorem Fun.binds {x qual : Str} {st : Stmt} {f : Addr} {fd : FuncData} {ps : List Str} (F : Fun K x qual st f fd)
    (h : ∀ (kV doc pm : Value) (an : Option Addr) (cdv ct : Value) (us : List Value), us.length = ps.length → bindArgs (PySem.W.fnOf x qual (defArgs st) (defBody st) (defScope st) .none kV doc pm an cdv ct) ⟨us, []⟩ = pure (ps.zip us)) : Binds K fd ps [] := by
  obtain ⟨oc, od, kV, doc, pm, an, cdv, ct, osl, rfl, lk, hcd⟩ := F.ex
  exact .all (h kV doc pm an cdv ct)
theorem fun_mk {x qual : Str} {st : Stmt} {f : Addr} {oc : Value} {od an : Option Addr} {osl : Array (Option Value)} {kV doc pm cdv ct : Value} (l : K.lookup f = some ⟨oc, od, .func (PySem.W.fnOf x qual (defArgs st) (defBody st) (defScope st) .none kV doc pm an cdv ct), osl⟩)
    (c : PySem.W.codeIn K cdv qual = true) (k : PySem.W.keepIn K (.ref f) = true) : Fun K x qual st f (PySem.W.fnOf x qual (defArgs st) (defBody st) (defScope st) .none kV doc pm an cdv ct) := ⟨⟨oc, od, kV, doc, pm, an, cdv, ct, osl, rfl, l, c⟩, k⟩
end
theorem hu_of {A : Around} {k : Nat} (hr : Room k A) : A.units + 1 < cLine := Nat.lt_of_le_of_lt (Nat.add_le_add_left (by decide : 1 ≤ 64) _) hr.units
theorem small1000 {n : Nat} (h : n ≤ 1000) : n < sizeLine := Nat.lt_of_le_of_lt h (by decide)

/-! ### expressions in short: the name that stands in the i-th slot -/
section
variable {X : Cx}
theorem pv (i : Nat) {x : Str} {pos : Pos} (hN : X.N[i]? = some x := by rfl) (hv : Vis X.env.scope x := by first | exact Or.inl rfl | exact Or.inr (Or.inl rfl) | exact Or.inr (Or.inr rfl)) (hd : (x == ("__debug__" : Str)) = false := by decide)
    (hcd : (x == ("__classdict__" : Str)) = false := by decide) : PE X (.Name x pos) (tVar i) := pe_var hN hv hd hcd
end

/-! ### tests -/
theorem iteF {A B : Prop} (h : B) : if false = true then A else B := by
  rw [if_neg Bool.false_ne_true]
  exact h
theorem iteT {A B : Prop} (h : A) : if true = true then A else B := by
  rw [if_pos rfl]
  exact h
theorem ite2 {c A B : Prop} [Decidable c] (h1 : c → A) (h2 : ¬ c → B) : if c then A else B := by
  by_cases h : c
  · rw [if_pos h]
    exact h1 h
  · rw [if_neg h]
    exact h2 h
theorem iteNS {c A B : Prop} [Decidable c] (hc : c) (h : B) : if (!decide c) = true then A else B := by
  rw [decide_eq_true hc]
  exact iteF h

/-! ### heaps -/
/-- all that was tracked is as it was -/
def Same (H H' : Hp) : Prop := ∀ b o, H b = some o → H' b = some o
theorem Same.refl (H : Hp) : Same H H := fun _ _ h => h
theorem Same.trans {H H1 H2 : Hp} (a : Same H H1) (b : Same H1 H2) : Same H H2 := fun c o h => b c o (a c o h)
theorem Same.free {H H' : Hp} (e : Same H H') {l : Addr} (h : H' l = Option.none) : H l = Option.none := by
  cases q : H l with
  | none => rfl
  | some o =>
    rw [e l o q] at h
    cases h
theorem Same.seq {K : PySem.W.Frag} {H H' : Hp} {a : Addr} {xs : List V} (e : Same H H') (h : SqL K H a xs) : SqL K H' a xs := by
  rcases h with (h | ⟨o, h⟩) | h
  · exact .inl (.inl (e _ _ h))
  · exact .inl (.inr ⟨o, e _ _ h⟩)
  · exact .inr h

end L2
namespace L2
open PySem PySem.Spec PyProof.Rows
section
variable {X : Cx}
/-- len of a dict -/
theorem call_lenD : CallR X (.builtin "len") (fun xs H Q => ∃ a kvs, xs = [V.ref a] ∧ H a = some (.dK kvs) ∧ Q (.int kvs.length) H) := by
  intro pins s σ H xs us Q I r h
  obtain ⟨a, kvs, rfl, ha, q⟩ := h
  obtain ⟨u, rfl, ru⟩ := vals1 r
  cases ru
  exact d_len I (.inl ha) fun t s' I' => ⟨.int kvs.length, H, I', ⟨t, rfl⟩, q⟩
end
/-! ### a dict's pairs: keys that differ -/
section
variable {κ : Type} [DecidableEq κ]
theorem valV_not {kvs : List (κ × V)} {k : κ} (h : valV kvs k = none) : ¬ k ∈ kvs.map (·.1) := by
  intro m
  obtain ⟨p, hp, e⟩ := List.mem_map.mp m
  have q : (kvs.any fun kv => decide (kv.1 = k)) = true := List.any_eq_true.mpr ⟨p, hp, decide_eq_true e⟩
  rw [valV_any, h] at q
  exact absurd q (by simp)
theorem valV_in {kvs : List (κ × V)} {k : κ} {v : V} (h : valV kvs k = some v) : k ∈ kvs.map (·.1) := by
  have q : (kvs.any fun kv => decide (kv.1 = k)) = true := by
    rw [valV_any, h]
    all_goals rfl
  obtain ⟨p, hp, e⟩ := List.any_eq_true.mp q
  exact List.mem_map.mpr ⟨p, hp, of_decide_eq_true e⟩
theorem nd_snoc : ∀ {l : List κ} {k : κ}, l.Nodup → ¬ k ∈ l → (l ++ [k]).Nodup
  | [], k, _, _ => by simp
  | a :: r, k, h, hk => by
    obtain ⟨h1, h2⟩ := List.nodup_cons.mp h
    show (a :: (r ++ [k])).Nodup
    refine List.nodup_cons.mpr ⟨fun m => ?_, nd_snoc h2 fun m => hk (List.mem_cons.mpr (Or.inr m))⟩
    rcases List.mem_append.mp m with q | q
    · exact h1 q
    · exact hk (List.mem_cons.mpr (Or.inl (List.mem_singleton.mp q).symm))
theorem nd_putK {kvs : List (κ × V)} {k : κ} (v : V) (hn : (kvs.map (·.1)).Nodup) (h : valV kvs k = none) : ((putK kvs k v).map (·.1)).Nodup := by
  rw [putK_new v h, List.map_append]
  exact nd_snoc hn (valV_not h)
theorem dropK_pos {p : κ × V} {r : List (κ × V)} {k : κ} (e : p.1 = k) : dropK (p :: r) k = dropK r k := by
  unfold dropK
  rw [List.filter_cons, if_neg (by simp [e])]
theorem dropK_neg {p : κ × V} {r : List (κ × V)} {k : κ} (e : ¬ p.1 = k) : dropK (p :: r) k = p :: dropK r k := by
  unfold dropK
  rw [List.filter_cons, if_pos (by simp [e])]
theorem dropK_no : ∀ {kvs : List (κ × V)} {k : κ}, ¬ k ∈ kvs.map (·.1) → dropK kvs k = kvs
  | [], _, _ => rfl
  | p :: r, k, h => by
    have h' : ¬ k ∈ r.map (·.1) := fun m => by
      obtain ⟨q, hq, e⟩ := List.mem_map.mp m
      exact h (List.mem_map.mpr ⟨q, List.mem_cons.mpr (Or.inr hq), e⟩)
    rw [dropK_neg fun e => h (List.mem_map.mpr ⟨p, List.mem_cons.mpr (Or.inl rfl), e⟩), dropK_no h']
theorem dropK_mem {kvs : List (κ × V)} {k : κ} {p : κ × V} (h : p ∈ dropK kvs k) : p ∈ kvs := (List.mem_filter.mp h).1
theorem nd_dropK : ∀ {kvs : List (κ × V)} {k : κ}, (kvs.map (·.1)).Nodup → ((dropK kvs k).map (·.1)).Nodup
  | [], _, _ => List.nodup_nil
  | p :: r, k, h => by
    have h : (p.1 :: r.map (·.1)).Nodup := h
    obtain ⟨h1, h2⟩ := List.nodup_cons.mp h
    by_cases e : p.1 = k
    · rw [dropK_pos e]
      exact nd_dropK h2
    · rw [dropK_neg e]
      show (p.1 :: (dropK r k).map (·.1)).Nodup
      refine List.nodup_cons.mpr ⟨fun m => h1 ?_, nd_dropK h2⟩
      obtain ⟨q, hq, eq⟩ := List.mem_map.mp m
      exact List.mem_map.mpr ⟨q, dropK_mem hq, eq⟩
theorem dropK_len : ∀ {kvs : List (κ × V)} {k : κ}, (kvs.map (·.1)).Nodup → k ∈ kvs.map (·.1) → (dropK kvs k).length + 1 = kvs.length
  | [], _, _, m => by simp at m
  | p :: r, k, h, m => by
    have h : (p.1 :: r.map (·.1)).Nodup := h
    have m : k = p.1 ∨ k ∈ r.map (·.1) := List.mem_cons.mp m
    obtain ⟨h1, h2⟩ := List.nodup_cons.mp h
    by_cases e : p.1 = k
    · subst e
      rw [dropK_pos rfl, dropK_no h1]
      all_goals rfl
    · have m' : k ∈ r.map (·.1) := m.resolve_left fun z => e z.symm
      have q := dropK_len h2 m'
      rw [dropK_neg e, List.length_cons, List.length_cons]
      omega
end
end L2

set_option Elab.async false
set_option linter.all false
set_option maxRecDepth 100000
set_option maxHeartbeats 4000000
namespace L2
open PySem PySem.Spec PyProof.Rows

/-! ### comprehensions -/
/-- the context within a comprehension: its block's names, the walked iterator's records at fp may turn, no exception leaves -/
def Cx.comp (X : Cx) (scope : Scope) (cl : List (Str × Addr)) (C : Addr) (N : List Str) (fp : List Addr) (s : Shared) (H : Hp) : Cx :=
  { X with env := compEnvC scope cl C X.env, N := N, s₀ := s, H₀ := H, outer := X.stack, ex := fp, fn := fun _ => false, pn := [], xe := fun _ _ => False }
/-- how the block's names stand to those around it; ix: the slots of the names that it takes from there -/
structure CompScope (X : Cx) (scope : Scope) (cl : List (Str × Addr)) (ix : List Nat) : Prop where
  clos : closureFor scope X.env = pure cl
  nocell : ∀ y ∈ scope.names, y.2 ≠ .cell
  kind : scope.kind = .function
  names : ∀ y ∈ scope.names, y.2 = .local → scope.names.lookup y.1 = some .local
  sub : ∀ y c, cl.lookup y = some c → X.env.cells.lookup y = some c
  has : ∀ y, ((relabel scope X.env).names.lookup y = some .cell ∨ (relabel scope X.env).names.lookup y = some .free) → ∃ c, cl.lookup y = some c
  cap : ∀ i ∈ ix, ∃ y, X.N[i]? = some y ∧ (X.env.kindOf y = some .cell ∨ X.env.kindOf y = some .free) ∧ ((relabel scope X.env).names.lookup y = some .cell ∨ (relabel scope X.env).names.lookup y = some .free)
/-- the cells that a block takes from around it -/
def closOf (scope : Scope) (env : Env) : List (Str × Addr) := scope.names.foldl (fun cs y => if y.2 == .free then (y.1, (env.cells.lookup y.1).getD 0) :: cs else cs) []
/-- what must be true of the block's names: osc the scope around it, N the names there, ix the slots of those that it takes -/
def compD (osc : Scope) (N : List Str) (sc : Scope) (ix : List Nat) : Bool :=
  sc.kind == .function && sc.names.all (fun y => y.2 != .cell && (y.2 != .local || sc.names.lookup y.1 == some .local) && (y.2 != .free || osc.names.lookup y.1 == some .cell || osc.names.lookup y.1 == some .free)) &&
    ix.all fun i => match N[i]? with
      | some y => sc.names.lookup y == some .free
      | none => false
theorem mem_of_look {l : List (Str × NameKind)} {y : Str} {k : NameKind} (h : l.lookup y = some k) : (y, k) ∈ l := PySem.mem_of_lookup h
theorem relabel_look {env : Env} : ∀ {names : List (Str × NameKind)} {x : Str} {k : NameKind}, (names.map fun (n, k) => if (k == NameKind.free && env.scope.kind == .function && env.kindOf n == some .cell) then (n, NameKind.cell) else (n, k)).lookup x = some k →
    ∃ k', names.lookup x = some k' ∧ (k' = .free ∨ k' = k)
  | [], _, _, h => by simp at h
  | (n, k') :: r, x, k, h => by
    have ih := @relabel_look env r x k
    rw [List.map_cons] at h
    cases hx : x == n with
    | true =>
      by_cases hc : (k' == NameKind.free && env.scope.kind == .function && env.kindOf n == some .cell) = true
      · have e : k' = .free := by
          have := (Bool.and_eq_true _ _ ▸ (Bool.and_eq_true _ _ ▸ hc).1).1
          simpa using this
        exact ⟨k', by simp [List.lookup_cons, hx], .inl e⟩
      · simp only [if_neg hc, List.lookup_cons, hx] at h
        exact ⟨k', by simp [List.lookup_cons, hx], .inr (Option.some.inj h)⟩
    | false =>
      have h' : (r.map fun (n, k) => if (k == NameKind.free && env.scope.kind == .function && env.kindOf n == some .cell) then (n, NameKind.cell) else (n, k)).lookup x = some k := by
        by_cases hc : (k' == NameKind.free && env.scope.kind == .function && env.kindOf n == some .cell) = true
        · simp only [if_pos hc, List.lookup_cons, hx] at h; exact h
        · simp only [if_neg hc, List.lookup_cons, hx] at h; exact h
      obtain ⟨q, e, r'⟩ := ih h'
      exact ⟨q, by simp only [List.lookup_cons, hx]; exact e, r'⟩
theorem relabel_free {env : Env} : ∀ {names : List (Str × NameKind)} {x : Str}, names.lookup x = some .free →
    ((names.map fun (n, k) => if (k == NameKind.free && env.scope.kind == .function && env.kindOf n == some .cell) then (n, NameKind.cell) else (n, k)).lookup x = some .cell ∨
      (names.map fun (n, k) => if (k == NameKind.free && env.scope.kind == .function && env.kindOf n == some .cell) then (n, NameKind.cell) else (n, k)).lookup x = some .free)
  | [], _, h => by simp at h
  | (n, k') :: r, x, h => by
    have ih := @relabel_free env r x
    rw [List.map_cons]
    cases hx : x == n with
    | true =>
      simp only [List.lookup_cons, hx] at h
      cases h
      by_cases hc : (NameKind.free == NameKind.free && env.scope.kind == .function && env.kindOf n == some .cell) = true
      · left; simp only [if_pos hc, List.lookup_cons, hx]
      · right; simp only [if_neg hc, List.lookup_cons, hx]
    | false =>
      simp only [List.lookup_cons, hx] at h
      by_cases hc : (k' == NameKind.free && env.scope.kind == .function && env.kindOf n == some .cell) = true
      · simp only [if_pos hc, List.lookup_cons, hx]; exact ih h
      · simp only [if_neg hc, List.lookup_cons, hx]; exact ih h
theorem clos_fold {env : Env} : ∀ (l : List (Str × NameKind)) (cs : List (Str × Addr)), (∀ y ∈ l, y.2 = .free → ∃ c, env.cells.lookup y.1 = some c) →
    (∀ y c, cs.lookup y = some c → env.cells.lookup y = some c) → ∀ y c, (l.foldl (fun cs y => if y.2 == .free then (y.1, (env.cells.lookup y.1).getD 0) :: cs else cs) cs).lookup y = some c → env.cells.lookup y = some c
  | [], _, _, h, y, c, e => h y c e
  | z :: r, cs, hl, h, y, c, e => by
    rw [List.foldl_cons] at e
    refine clos_fold r _ (fun y hy => hl y (List.mem_cons_of_mem _ hy)) (fun y' c' e' => ?_) y c e
    by_cases hz : z.2 = .free
    · obtain ⟨c0, h0⟩ := hl z List.mem_cons_self hz
      have hb : (z.2 == NameKind.free) = true := by simpa using hz
      rw [if_pos hb, h0, List.lookup_cons] at e'
      cases hq : y' == z.1 with
      | true =>
        rw [hq] at e'
        have e2 : y' = z.1 := by simpa using hq
        cases e'
        rw [e2]; exact h0
      | false => rw [hq] at e'; exact h _ _ e'
    · have hb : (z.2 == NameKind.free) = false := by simpa using hz
      rw [hb] at e'
      exact h _ _ e'
theorem clos_has {env : Env} : ∀ (l : List (Str × NameKind)) (cs : List (Str × Addr)) (y : Str), ((∃ c, cs.lookup y = some c) ∨ (y, NameKind.free) ∈ l) →
    ∃ c, (l.foldl (fun cs y => if y.2 == .free then (y.1, (env.cells.lookup y.1).getD 0) :: cs else cs) cs).lookup y = some c
  | [], _, _, h => h.elim id fun z => nomatch z
  | z :: r, cs, y, h => by
    rw [List.foldl_cons]
    refine clos_has r _ y ?_
    rcases h with ⟨c, h⟩ | h
    · left
      by_cases hz : (z.2 == NameKind.free) = true
      · rw [if_pos hz, List.lookup_cons]
        cases y == z.1 with
        | true => exact ⟨_, rfl⟩
        | false => exact ⟨c, h⟩
      · rw [if_neg hz]; exact ⟨c, h⟩
    · rcases List.mem_cons.mp h with h | h
      · left
        subst h
        rw [if_pos (by rfl), List.lookup_cons]
        simp
      · exact .inr h
theorem clos_eq {env : Env} : ∀ (l : List (Str × NameKind)) (cs : List (Str × Addr)), (∀ y ∈ l, y.2 = .free → ∃ c, env.cells.lookup y.1 = some c) →
    forIn (m := Sem) l cs (fun x r => match x with | (name, kind) => if (kind == NameKind.free) = true then do let c ← cellOf env name; pure (ForInStep.yield ((name, c) :: r)) else pure (ForInStep.yield r)) =
      pure (l.foldl (fun cs y => if y.2 == .free then (y.1, (env.cells.lookup y.1).getD 0) :: cs else cs) cs)
  | [], _, _ => rfl
  | (n, k) :: r, cs, h => by
    rw [List.forIn_cons, List.foldl_cons]
    by_cases hz : (k == NameKind.free) = true
    · obtain ⟨c, hc⟩ := h (n, k) List.mem_cons_self (by simpa using hz)
      have e : cellOf env n = pure c := by unfold cellOf; rw [hc]
      simp only [hz, if_true, e, pure_bind]
      rw [clos_eq r _ fun y hy => h y (List.mem_cons_of_mem _ hy)]
      simp only [hc, Option.getD_some]
    · simp only [hz, if_false, pure_bind]
      exact clos_eq r _ fun y hy => h y (List.mem_cons_of_mem _ hy)
theorem compScope_of {X : Cx} {osc scope : Scope} {N : List Str} {ix : List Nat} (ok : X.Ok) (h : compD osc N scope ix = true) (hs : X.env.scope = osc) (hN : X.N = N) : CompScope X scope (closOf scope X.env) ix := by
  subst hs hN
  unfold compD at h
  rw [Bool.and_eq_true, Bool.and_eq_true, List.all_eq_true, List.all_eq_true] at h
  obtain ⟨⟨h1, h2⟩, h3⟩ := h
  have p : ∀ y ∈ scope.names, y.2 ≠ .cell ∧ (y.2 = .local → scope.names.lookup y.1 = some .local) ∧ (y.2 = .free → X.env.kindOf y.1 = some .cell ∨ X.env.kindOf y.1 = some .free) := fun y hy => by
    have q := h2 y hy
    rw [Bool.and_eq_true, Bool.and_eq_true] at q
    obtain ⟨⟨q1, q2⟩, q3⟩ := q
    refine ⟨by simpa using q1, fun e => ?_, fun e => ?_⟩
    · rw [e] at q2; simpa using q2
    · rw [e] at q3
      have q3' : X.env.scope.names.lookup y.1 = some .cell ∨ X.env.scope.names.lookup y.1 = some .free := by simpa using q3
      exact q3'
  have f : ∀ y ∈ scope.names, y.2 = .free → ∃ c, X.env.cells.lookup y.1 = some c := fun y hy e => ok.has y.1 ((p y hy).2.2 e)
  refine ⟨?_, fun y hy => (p y hy).1, by simpa using h1, fun y hy => (p y hy).2.1, fun y c e => clos_fold scope.names [] f (fun _ _ z => by simp at z) y c e, fun y hy => ?_, fun i hi => ?_⟩
  · have e := clos_eq scope.names [] f
    unfold closureFor closOf
    refine Eq.trans (congrArg (fun m => m >>= fun s => (pure s : Sem (List (Str × Addr)))) e) ?_
    rw [pure_bind]
  · refine clos_has scope.names [] y (.inr ?_)
    rcases hy with hy | hy
    · obtain ⟨k', e, z | z⟩ := relabel_look hy
      · subst z; exact mem_of_look e
      · subst z; exact absurd rfl (p _ (mem_of_look e)).1
    · obtain ⟨k', e, z | z⟩ := relabel_look hy
      · subst z; exact mem_of_look e
      · subst z; exact mem_of_look e
  · have q := h3 i hi
    cases hy : X.N[i]? with
    | none => rw [hy] at q; cases q
    | some y =>
      rw [hy] at q
      have q' : scope.names.lookup y = some .free := by simpa using q
      exact ⟨y, rfl, (p _ (mem_of_look q')).2.2 rfl, relabel_free q'⟩
/-- the values of the slots at ix -/
def capV (ix : List Nat) (σ : St) : St := ix.map fun i => (σ[i]?).getD none
def capN (ix : List Nat) (N : List Str) : List Str := ix.map fun i => (N[i]?).getD ""

section
variable {X : Cx} {pins : List (Addr × Obj)} {σ : St} {H : Hp} {s : Shared} {scope : Scope} {cl : List (Str × Addr)} {ix : List Nat} {fp : List Addr} {C : Addr} {xs : List Str}
theorem Inv.compOk (I : Inv X pins σ H s) (S : CompScope X scope cl ix) (hC : C = s.heap.objs.size) (hf : ∀ b ∈ fp, FpOk X pins H b) (hl : ∀ b ∈ fp, b < s.heap.objs.size) (N' : List Str) :
    (X.comp scope cl C N' fp s H).Ok where
  mod := I.ok.mod
  kind := S.kind
  glob := I.ok.glob
  blt := I.ok.blt
  above := Nat.le_of_eq hC.symm
  inj := fun x y c h1 h2 => I.ok.inj x y c (S.sub x c h1) (S.sub y c h2)
  has := fun x hx => S.has x hx
  cab := fun x c h1 _ => nomatch h1
  hd := I.ok.hd
  frames := I.ok.frames
  stk := .inl rfl
  exf := fun b hb => ⟨fun z => absurd (hl b hb) (by rw [z]; show ¬ C < _; rw [hC]; exact Nat.lt_irrefl _), fun x c h => (hf b hb).2.2.2.2.1 x c (S.sub x c h)⟩
  bs := I.bs
  bsz := Nat.le_trans I.ok.bsz I.sz
  noex := fun b o e hb => by
    rcases (hf b hb).2.2.2.1 with z | z
    · exact I.ok.noex b o e z
    · exact absurd (Nat.lt_of_lt_of_le (Heap.lt_size e) (Nat.le_trans I.ok.bsz z)) (Nat.lt_irrefl _)
  exfs := fun b hb z => by
    rcases List.mem_cons.mp (I.stkSub b z) with e | e
    · exact (hf b hb).2.1 e
    · exact (hf b hb).2.2.1 e
  funs := I.stack
  frf := I.stkFree

theorem Inv.comp {h₁ : Heap} {m₁ : Str → Option Value} {t' : Nat} (I : Inv X pins σ H s) (S : CompScope X scope cl ix) (hC : C = s.heap.objs.size) (hf : ∀ b ∈ fp, FpOk X pins H b) (hl : ∀ b ∈ fp, b < s.heap.objs.size)
    (hn : h₁.Ns C m₁) (hk : ∀ b o, s.heap.get? b = some o → h₁.get? b = some o) :
    Inv (X.comp scope cl C (xs ++ capN ix X.N) fp s H) [] (List.replicate xs.length none ++ capV ix σ) H { s with heap := h₁, toks := t' } where
  ok := I.compOk S hC hf hl _
  os := rfl
  bare := I.bare
  base := Un.kept hk
  loc := by
    refine ⟨m₁, hn, fun i y v e1 e2 e3 => ?_⟩
    by_cases hi : i < xs.length
    · rw [List.getElem?_append_left (by simpa using hi), List.getElem?_replicate, if_pos hi] at e2
      cases e2
    · have e1' : (xs ++ capN ix X.N)[i]? = some y := e1
      rw [List.getElem?_append_right (by omega)] at e1'
      rw [List.getElem?_append_right (by rw [List.length_replicate]; omega), List.length_replicate] at e2
      generalize i - xs.length = j at e1' e2
      unfold capN at e1'
      unfold capV at e2
      rw [List.getElem?_map] at e1' e2
      cases hj : ix[j]? with
      | none => rw [hj] at e1'; cases e1'
      | some k =>
        rw [hj] at e1' e2
        obtain ⟨y', c1, c2, c3⟩ := S.cap k (List.mem_of_getElem? hj)
        have ey : y' = y := by
          have q : (X.N[k]?).getD "" = y := Option.some.inj e1'
          rw [c1] at q
          exact q
        subst ey
        have ev : σ[k]? = some (some v) := by
          have q : (σ[k]?).getD none = some v := Option.some.inj e2
          cases hs : σ[k]? with
          | none => rw [hs] at q; cases q
          | some o => rw [hs] at q; exact congrArg some q
        obtain ⟨m, hm, hv⟩ := I.loc
        obtain ⟨u, r, l⟩ := hv k y' v c1 ev (c2.elim (fun z => .inr (.inl z)) fun z => .inr (.inr z))
        refine ⟨u, r, .inr ⟨c3, ?_⟩⟩
        rcases l with ⟨l1, _⟩ | ⟨_, c, lc, ⟨o, ho, hd⟩⟩
        · rcases c2 with z | z <;> (rw [l1] at z; cases z)
        · obtain ⟨c', hc'⟩ := S.has y' c3
          have e := S.sub _ _ hc'
          rw [lc] at e
          cases e
          exact ⟨c, hc', o, hk _ _ ho, hd⟩
  cell := fun x c e => by
    obtain ⟨v, o, ho, hd⟩ := I.cell x c (S.sub x c e)
    exact ⟨v, o, hk _ _ ho, hd⟩
  free := I.hok.fresh (Nat.le_of_eq hC.symm)
  freeC := fun x c e => I.freeC x c (S.sub x c e)
  pin := fun p hp => absurd (show p ∈ ([] : List (Addr × Obj)) from hp) (by simp)
  hok := I.hok.kept hk
  len := by
    show (List.replicate xs.length none ++ capV ix σ).length = (xs ++ capN ix X.N).length
    rw [List.length_append, List.length_append, List.length_replicate, capV, capN, List.length_map, List.length_map]
/-- behind the block: the block's own dict may have been emptied -/
theorem Inv.uncomp {s' : Shared} {σ' : St} {H' : Hp} {N' : List Str} {h' : Heap} (I : Inv X pins σ H s) (hC : C = s.heap.objs.size) (hf : ∀ b ∈ fp, FpOk X pins H b)
    (J : Inv (X.comp scope cl C N' fp s H) [] σ' H' s') (hb : Heap.SameBut C s'.heap h') : Inv X pins σ H' { s' with heap := h' } := by
  have lt : ∀ b o, s.heap.get? b = some o → b ≠ C := fun b o e => by
    rw [hC]; exact Nat.ne_of_lt (Heap.lt_size e)
  have B : Un (frs X.stack) fp H H' s.heap s'.heap := J.base
  refine I.call' (s' := { s' with heap := h' }) (ch := fp) J.os ?_ ?_ J.bare ?_
  · exact ⟨fun b o e n h1 h2 => (hb.2 b (lt b o e)).trans (B.keep b o e n h1 h2), fun b o e n h1 h2 => by
      obtain ⟨sl, q⟩ := B.slot b o e n h1 h2
      exact ⟨sl, (hb.2 b (lt b o e)).trans q⟩, B.free, fun b o e h1 => by
      obtain ⟨o', q⟩ := B.there b o e h1
      exact ⟨o', (hb.2 b (lt b o e)).trans q⟩, B.tups, B.frzs, B.tbls⟩
  · intro b o e
    refine (J.hok b o e).stay (fun c u hc q => (hb.2 c ?_).trans q) (fun _ q => q) fun _ _ q => q
    have hC0 : H' C = none := J.free
    rintro rfl
    rcases hc with rfl | hc
    · rw [hC0] at e; cases e
    · rw [hC0] at hc; cases hc
  · intro b hb'
    obtain ⟨f0, f1, f2, f3, f4, f5⟩ := hf b hb'
    exact ⟨f3, f1, f4, f5⟩
end

/-- the tests behind a comprehension's for -/
def PTs (X : Cx) (ifs : List Expr) (t : TT) : Prop :=
  ∀ (pins : List (Addr × Obj)) (s : Shared) (σ : St) (H : Hp) (Q : Bool → Hp → Prop), Inv X pins σ H s → t σ H Q →
    wpAny (model X.prog X.w) X.A (forIn ifs true fun c r => if r = true then do let ok ← isTrue c X.env (eval c X.env); pure (ForInStep.yield ok) else pure (ForInStep.yield r)) (TP X pins σ Q) X.xe s
def tYes : TT := fun _ H Q => Q true H
theorem pts_nil {X : Cx} : PTs X [] tYes := fun _ _ _ H _ I h => wpAny_tests_nil ⟨H, I, h⟩
theorem pts_one {X : Cx} {c : Expr} {t : TT} (h : PT X c t) : PTs X [c] t := fun pins s σ H Q I q => wpAny_tests_one (h pins s σ H Q I q)

section
variable {prog : Program} {w : World} {A : Around} {R : Result → Shared → Prop} {s : Shared}
theorem compLoop_any {elt target iter : Expr} {ifs : List Expr} {scope : Scope} {pos : Pos} {it acc : Value} {env : Env} (W : Nat → Shared → Prop) {EE : Value → Shared → Prop}
    (hE : ∀ e s', EE e s' → notedBy (model prog w) A env (fun e s' => R (.error e) s') e s')
    (turn : ∀ n s, W n s → wpAny (model prog w) A (pyNext it) (fun r s₁ => match r with
      | none => R (.ok .next) s₁
      | some v => wpAny (model prog w) A (letOwnedTupleGo target it v) (fun _ t₁ => wpAny (model prog w) A (assign target env v) (fun _ s₂ =>
          wpAny (model prog w) A (forIn ifs true fun c r => if r = true then do let ok ← isTrue c env (eval c env); pure (ForInStep.yield ok) else pure (ForInStep.yield r)) (fun ok s₃ =>
            if ok = true then wpAny (model prog w) A (eval elt env) (fun x s₄ => wpAny (model prog w) A (call (.builtin "list.append") [acc, x]) (fun _ s₅ => ∃ m, m < n ∧ W m s₅) EE s₄) EE s₃
            else ∃ m, m < n ∧ W m s₃) EE s₂) EE t₁) EE s₁) EE s)
    (n : Nat) (h : W n s) : codeAny (model prog w) A (.compLoop (.ListComp elt [⟨target, iter, ifs, 0⟩] scope pos) 0 it acc env) R s := by
  refine codeAny_loop rfl W (fun n s hW => ?_) n h
  show wpAny _ A ((compTurn (.ListComp elt [⟨target, iter, ifs, 0⟩] scope pos) 0 it acc env).onRaise (fun x => do noteFrame x env; theTreesLotGoes x)) _ _ s
  refine wpAny_noted (wpAny_mono ?_ (fun _ _ q => q) hE)
  rw [compTurn_list]
  refine wpAny_bind (wpAny_standAt (wpAny_bind (thn (turn n s hW) fun r s₁ h₁ => ?_)))
  cases r with
  | none => exact wpAny_pure h₁
  | some v =>
    refine wpAny_bind (thn h₁ fun _ t₁ k₁ => ?_)
    refine wpAny_bind (thn k₁ fun _ s₂ h₂ => wpAny_bind (thn h₂ fun ok s₃ h₃ => ?_))
    cases ok with
    | false => exact wpAny_pure ⟨rfl, h₃⟩
    | true => exact wpAny_bind (wpAny_bind (thn h₃ fun x s₄ h₄ => wpAny_bind (thn h₄ fun _ s₅ h₅ => wpAny_pure (wpAny_pure ⟨rfl, h₅⟩))))
end

/-- [elt for g in wi if tt]: the list at D grows; W: what holds between the turns, by the turn, a measure, the list -/
def tComp (wi : TI) (g : TG) (tt : TT) (te : TE) (k : Nat) (ix : List Nat) : TE := fun σ H Q => wi σ H fun J H1 => ∀ D, H1 D = none →
  ∃ W : Nat → Nat → List V → St → Hp → Prop, (∃ m, W 0 m [] (List.replicate k none ++ capV ix σ) (upd H1 D (.lst []))) ∧ ∀ i m ys τ H, W i m ys τ H → H D = some (.lst ys) ∧
    ((J.stop i H ∧ Q (.ref D) H) ∨ (J.go i H ∧ ys.length < sizeLine ∧ ∃ N : V → St → Hp → Prop,
      (∀ v τ' H', N v τ' H' → H' D = some (.lst ys) ∧ ∃ m', m' < m ∧ W (i + 1) m' (ys ++ [v]) τ' (upd H' D (.lst (ys ++ [v])))) ∧ ∃ Nf : St → Hp → Prop, (∀ τ' H', Nf τ' H' → ∃ m', m' < m ∧ W (i + 1) m' ys τ' H') ∧
      ∀ x H', J.yld i H x H' → g x τ H' fun τ2 H2 => tt τ2 H2 fun b H3 => if b = true then te τ2 H3 fun v H4 => N v τ2 H4 else Nf τ2 H3))
section
variable {X : Cx} {elt iter tg : Expr} {ifs : List Expr} {scope : Scope} {pos : Pos} {cl : List (Str × Addr)} {ix : List Nat} {xs : List Str} {wi : TI} {g : TG} {tt : TT} {te : TE}
/-- the block, whatever is wanted behind it -/
theorem comp_block (S : CompScope X scope cl ix) (hc : X.calm = true) (hi : PI X tg iter wi)
    (hg : ∀ C fp s H, PG (X.comp scope cl C (xs ++ capN ix X.N) fp s H) tg g) (ht : ∀ C fp s H, PTs (X.comp scope cl C (xs ++ capN ix X.N) fp s H) ifs tt)
    (he : ∀ C fp s H, PE (X.comp scope cl C (xs ++ capN ix X.N) fp s H) elt te)
    {pins : List (Addr × Obj)} {s : Shared} {σ : St} {H : Hp} {Q : VK} (I : Inv X pins σ H s) (h : tComp wi g tt te xs.length ix σ H Q) {RR : Value → Addr → Result → Shared → Prop}
    (hR : ∀ v u s' C, RelV v u → (∃ H', Q v H' ∧ (∃ m, s'.heap.Ns C m) ∧ (∀ h', Heap.SameBut C s'.heap h' → Inv X pins σ H' { s' with heap := h' }) ∧ FpOk X pins H' C) → RR u C (.ok .next) s') :
    wpAny (model X.prog X.w) X.A (eval iter X.env) (fun x s₁ => wpAny (model X.prog X.w) X.A (pyIter x) (fun it s₂ => wpAny (model X.prog X.w) X.A (newList []) (fun acc s₃ =>
      wpAny (model X.prog X.w) X.A (newFunctionEnv scope X.env.globals cl [] X.env.qual none .none (some X.env)) (fun cenv s₄ =>
        codeAny (model X.prog X.w) X.A (.compStart (.ListComp elt [⟨tg, iter, ifs, 0⟩] scope pos) 0 it acc { cenv with scope := relabel scope X.env }) (RR acc cenv.locals) s₄) X.xe s₃) X.xe s₂) X.xe s₁) X.xe s := by
  refine thn (hi pins s σ H _ I h) fun v s1 h1 => thn h1 fun itv s2 h2 => ?_
  obtain ⟨it, fp, tn, J, H2, e, I2, T, st2, f2, hW⟩ := h2
  subst e
  refine wpAny_newObj_type (wpAny_newFunctionEnv S.nocell (fun y hy => nomatch hy) (fun h₁ hns₁ hsb₁ => ?_) S.kind)
  dsimp only at hns₁ hsb₁ ⊢
  obtain ⟨W, ⟨m0, w0⟩, turn⟩ := hW s2.heap.objs.size I2.fresh
  have I3 := I2.lnew (t' := s2.toks) (ys := []) (its := []) .nil (Nat.zero_le _)
  have hl3 : ∀ b ∈ fp, b < s2.heap.objs.size := fun b hb => by
    obtain ⟨o, e, _⟩ := T.obj _ _ st2 b hb
    exact Heap.lt_size e
  generalize hs3 : ({ s2 with heap := s2.heap.push { cls := .type "list", data := .seq ([] : List Value).toArray }, toks := s2.toks } : Shared) = s3 at I3
  have hs3h : s3.heap = s2.heap.push { cls := .type "list", data := .seq ([] : List Value).toArray } := by rw [← hs3]
  have hsz : s3.heap.objs.size = s2.heap.objs.size + 1 := by rw [hs3h, Heap.size_push]
  have f3 : ∀ b ∈ fp, FpOk X pins (upd H2 s2.heap.objs.size (.lst [])) b := fun b hb => by
    obtain ⟨q0, q⟩ := f2 b hb
    exact ⟨by rw [upd_ne (Nat.ne_of_lt (hl3 b hb))]; exact q0, q⟩
  have hl3' : ∀ b ∈ fp, b < s3.heap.objs.size := fun b hb => by rw [hsz]; exact Nat.lt_succ_of_lt (hl3 b hb)
  rw [← hs3h] at hns₁ hsb₁ ⊢
  have hk : ∀ b o, s3.heap.get? b = some o → h₁.get? b = some o := fun b o e => (hsb₁.2 b (Nat.ne_of_lt (Heap.lt_size e))).trans (Heap.get?_push_of_some _ e)
  have hk2 : ∀ b o, s2.heap.get? b = some o → s3.heap.get? b = some o := fun b o e => by rw [hs3h]; exact Heap.get?_push_of_some _ e
  have J0 := I3.comp (xs := xs) (t' := s2.toks) (C := s3.heap.objs.size) S rfl f3 hl3' hns₁ hk
  have st3 : tn 0 h₁ := T.keep _ _ _ st2 fun b _ o e => hk b o (hk2 b o e)
  have loop : ∀ tk, codeAny (model X.prog X.w) X.A (.compLoop (.ListComp elt [⟨tg, iter, ifs, 0⟩] scope pos) 0 (.ref it) (.ref s2.heap.objs.size) (compEnvC scope cl s3.heap.objs.size X.env))
      (RR (.ref s2.heap.objs.size) s3.heap.objs.size) { s3 with heap := h₁, toks := tk } := by
    intro tk
    refine compLoop_any (EE := fun _ _ => False) (fun n s' => ∃ i ys τ H', Inv (X.comp scope cl s3.heap.objs.size (xs ++ capN ix X.N) fp s3 (upd H2 s2.heap.objs.size (.lst []))) [] τ H' s' ∧ tn i s'.heap ∧ (∀ b ∈ fp, H' b = none) ∧ W i n ys τ H')
      (fun _ _ z => z.elim) ?_ m0 ⟨0, [], _, _, J0.tok tk, st3, fun b hb => (f3 b hb).1, w0⟩
    rintro n s' ⟨i, ys, τ, H', I', st', fr', w'⟩
    have stat : ∀ {H' : Hp}, (∀ b ∈ fp, H' b = none) → ∀ b ∈ fp, FpOk (X.comp scope cl s3.heap.objs.size (xs ++ capN ix X.N) fp s3 (upd H2 s2.heap.objs.size (.lst []))) [] H' b := fun hn b hb =>
      ⟨hn b hb, (I'.ok.exf b hb).1, I'.ok.exfs b hb, .inl hb, (I'.ok.exf b hb).2, fun p hp => absurd (show p ∈ ([] : List (Addr × Obj)) from hp) (by simp)⟩
    obtain ⟨hD, ⟨stop, q⟩ | ⟨go, hz, N, hN, Nf, hNf, step⟩⟩ := turn i n ys τ H' w'
    · refine thn (T.done (X.comp scope cl s3.heap.objs.size (xs ++ capN ix X.N) fp s3 (upd H2 s2.heap.objs.size (.lst []))) rfl rfl rfl hc i [] s' τ H' _ I' (stat fr') st' stop) fun r s4 ⟨hr, I4⟩ => ?_
      subst hr
      refine hR (.ref s2.heap.objs.size) _ s4 _ rfl ⟨H', q, ?_, fun h' hb => I3.uncomp rfl f3 I4 hb, I3.fpOk (Nat.le_refl _) I4.free⟩
      obtain ⟨m, hn, _⟩ := I4.loc
      exact ⟨m, hn⟩
    · refine thn (T.item (X.comp scope cl s3.heap.objs.size (xs ++ capN ix X.N) fp s3 (upd H2 s2.heap.objs.size (.lst []))) rfl rfl rfl hc i [] s' τ H' _ I' (stat fr') st' go) fun r s4 ⟨u, hr, h4⟩ => ?_
      subst hr
      refine thn h4 fun _ s5 ⟨x, H5, I5, r5, y5, st5, fr5⟩ => ?_
      have I5' := I5.pinned (stat fr5) (T.obj _ _ st5)
      refine thn (hg _ _ _ _ _ s5 τ H5 x u _ I5' r5 (step x H5 y5)) fun _ s6 ⟨τ6, H6, I6, q6⟩ => ?_
      refine thn (ht _ _ _ _ _ s6 τ6 H6 _ I6 q6) fun ok s7 ⟨H7, I7, q7⟩ => ?_
      have back : ∀ {s8 : Shared} {H8 : Hp} {m : Nat} {zs : List V}, Inv (X.comp scope cl s3.heap.objs.size (xs ++ capN ix X.N) fp s3 (upd H2 s2.heap.objs.size (.lst []))) ([] ++ pinsAt fp s5.heap) τ6 H8 s8 → W (i + 1) m zs τ6 H8 →
          ∃ i ys τ H', Inv (X.comp scope cl s3.heap.objs.size (xs ++ capN ix X.N) fp s3 (upd H2 s2.heap.objs.size (.lst []))) [] τ H' s8 ∧ tn i s8.heap ∧ (∀ b ∈ fp, H' b = none) ∧ W i m ys τ H' := fun {s8 H8 m zs} I8 w8 => by
        refine ⟨i + 1, zs, τ6, H8, I8.unpinned, T.keep _ _ _ st5 fun b hb o e => (I8.pin (b, o) (List.mem_append_right _ (List.mem_append_right _ (mem_pinsAt hb e)))).1, fun b hb => ?_, w8⟩
        obtain ⟨o, e, d⟩ := T.obj _ _ st5 b hb
        exact (I8.pin (b, o) (List.mem_append_right _ (List.mem_append_right _ (mem_pinsAt hb e)))).2.1
      cases ok with
      | false =>
        rw [if_neg Bool.false_ne_true] at q7 ⊢
        obtain ⟨m', hm, w7⟩ := hNf _ _ q7
        exact ⟨m', hm, back I7 w7⟩
      | true =>
        rw [if_pos rfl] at q7 ⊢
        refine thn (he _ _ _ _ _ s7 τ6 H7 _ I7 q7) fun y s8 ⟨v8, H8, I8, r8, n8⟩ => ?_
        obtain ⟨hD8, m', hm, w8⟩ := hN _ _ _ n8
        refine thn (mt_append _ s8 τ6 H8 (.ref s2.heap.objs.size) [v8] (.ref s2.heap.objs.size) [y] (fun _ Hn => ∃ m, m < n ∧ W (i + 1) m (ys ++ [v8]) τ6 Hn) I8 rfl (.cons r8 .nil) ⟨_, ys, v8, rfl, rfl, hD8, hz, m', hm, w8⟩) fun _ s9 ⟨_, H9, I9, _, m9, hm9, w9⟩ => ?_
        exact ⟨m9, hm9, back I9 w9⟩
  have e3 : ∀ tk, ({ s3 with heap := h₁, toks := tk } : Shared) = { s2 with heap := h₁, toks := tk } := fun tk => by rw [← hs3]
  have loop' : ∀ tk, codeAny (model X.prog X.w) X.A (.compLoop (.ListComp elt [⟨tg, iter, ifs, 0⟩] scope pos) 0 (.ref it) (.ref s2.heap.objs.size) (compEnvC scope cl s3.heap.objs.size X.env))
      (RR (.ref s2.heap.objs.size) s3.heap.objs.size) { s2 with heap := h₁, toks := tk } := fun tk => by rw [← e3]; exact loop tk
  exact codeAny_compStart_list (loop' _) (T.self _ 0 _ _ _ st3 (loop' _))
theorem pe_comp {osc : Scope} {N : List Str} (hc : X.calm = true) (hD : compD osc N scope ix = true) (hi : PI X tg iter wi)
    (hg : ∀ C fp s H, PG (X.comp scope (closOf scope X.env) C (xs ++ capN ix X.N) fp s H) tg g) (ht : ∀ C fp s H, PTs (X.comp scope (closOf scope X.env) C (xs ++ capN ix X.N) fp s H) ifs tt)
    (he : ∀ C fp s H, PE (X.comp scope (closOf scope X.env) C (xs ++ capN ix X.N) fp s H) elt te) (hsc : X.env.scope = osc := by rfl) (hN : X.N = N := by rfl) (hs : ∀ x, foldedSetIterable iter X.env x = pure x := by intro _; rfl) :
    PE X (.ListComp elt [⟨tg, iter, ifs, 0⟩] scope pos) (tComp wi g tt te xs.length ix) := by
  intro pins s σ H Q I h
  have S := compScope_of I.ok hD hsc hN
  rw [eval_ListComp]
  refine wpAny_comprehension_free (use := none) rfl hs S.clos S.kind S.names (comp_block S hc hi hg ht he I h (RR := fun acc C => compPost (model X.prog X.w) X.A X.xe none (EP X pins σ Q) acc C) ?_)
  rintro v u s' C r ⟨H', q, ⟨m, hn⟩, hI, _⟩
  exact ⟨m, hn, fun h' hb => ⟨v, H', hI h' hb, r, q⟩⟩
/-- y = [..] -/
theorem ps_setComp {osc : Scope} {N : List Str} {y : Str} {py : Pos} {j : Nat} {spos : Pos} (hNd : X.N.Nodup) (hj : X.N[j]? = some y) (hc : X.calm = true) (hy : Loc X.env.scope y) (hD : compD osc N scope ix = true) (hi : PI X tg iter wi)
    (hg : ∀ C fp s H, PG (X.comp scope (closOf scope X.env) C (xs ++ capN ix X.N) fp s H) tg g) (ht : ∀ C fp s H, PTs (X.comp scope (closOf scope X.env) C (xs ++ capN ix X.N) fp s H) ifs tt)
    (he : ∀ C fp s H, PE (X.comp scope (closOf scope X.env) C (xs ++ capN ix X.N) fp s H) elt te) (hsc : X.env.scope = osc := by rfl) (hN : X.N = N := by rfl)
    (hsw : swapsWith (.ListComp elt [⟨tg, iter, ifs, 0⟩] scope pos) (some (.Name y py)) spos.line X.env = pure true := by rfl)
    (hs : ∀ x, foldedSetIterable iter X.env x = pure x := by intro _; rfl) (hf : X.fn y = true ∨ X.env.scope.names.lookup y = some .local := by first | exact .inl rfl | exact .inr rfl | assumption) :
    PS X (.Assign [.Name y py] (.ListComp elt [⟨tg, iter, ifs, 0⟩] scope pos) spos) (tAsg (tComp wi g tt te xs.length ix) (gName j)) := by
  intro pins s σ H D I h
  have S := compScope_of I.ok hD hsc hN
  rw [exec_Assign_Name_used _ _ _ _ hsw]
  refine wpAny_bind (wpAny_standAt (wpAny_bind ?_))
  show wpAny _ X.A (do let _ ← comprehension (.ListComp elt [⟨tg, iter, ifs, 0⟩] scope pos) scope X.env _ (newList []) false (eval iter X.env) (some (assign (.Name y py) X.env))) _ _ s
  refine wpAny_bind (thn (wpAny_comprehension_free (use := some (assign (.Name y py) X.env)) (Q := fun _ s' => SP X pins D .next s') rfl hs S.clos S.kind S.names
    (comp_block S hc hi hg ht he I h (RR := fun acc C => compPost (model X.prog X.w) X.A X.xe (some (assign (.Name y py) X.env)) (fun _ s' => SP X pins D .next s') acc C) ?_)) fun _ s' hq => wpAny_pure (wpAny_pure hq))
  rintro v u s' C r ⟨H', q, ⟨m, hn⟩, hI, f0, f1, f2, f3, f4, f5⟩
  have I' : Inv X pins σ H' s' := hI s'.heap (.refl ..)
  show wpAny _ X.A (assign (.Name y py) X.env u) _ _ _
  refine wpAny_assign_Name (store_ok2 I' hNd hj hy r (fun s2 I2 hx => ?_) hf)
  obtain ⟨a, hb, ha⟩ := hx
  have hCa : C ≠ a := by
    rcases ha with rfl | ha
    · exact f1
    · exact Ne.symm (f4 _ _ ha)
  refine ⟨m, hn.sameBut hb hCa, fun h' hb' => ⟨_, H', ?_, q⟩⟩
  exact I2.turned (t' := s2.toks) (fun b o hne e => (hb'.2 b hne).trans e) f0 f1 f3 f4 f5
end
end L2

namespace L2
open PySem PySem.Spec PyProof.Rows
/-! ### readings: short names -/
abbrev rAddS : R2 := fun x y H Q => ∃ i j, x = .str i ∧ y = .str j ∧ i.length + j.length ≤ sizeLine ∧ Q (.str (i ++ j)) H
abbrev rInS : R2 := fun x y H Q => ∃ i j, x = .str i ∧ y = .str j ∧ Q (.bl (!(Builtin.Str.occurrences j i 0 j.length 1).isEmpty)) H
abbrev rNotInS : R2 := fun x y H Q => ∃ i j, x = .str i ∧ y = .str j ∧ Q (.bl (!(!(Builtin.Str.occurrences j i 0 j.length 1).isEmpty))) H
abbrev rIsB : R2 := fun x y H Q => ∃ a b, x = .bl a ∧ y = .bl b ∧ Q (.bl (a == b)) H
abbrev rIsNotB : R2 := fun x y H Q => ∃ a b, x = .bl a ∧ y = .bl b ∧ Q (.bl (a != b)) H
abbrev rIsN : R2 := fun x y H Q => y = .non ∧ Q (.bl (decide (x = .non))) H
abbrev rNotN : R2 := fun x y H Q => y = .non ∧ Q (.bl (!decide (x = .non))) H
abbrev RC := List V → Hp → VK → Prop
abbrev cLen (K : PySem.W.Frag) : RC := fun xs H Q => ∃ x n, xs = [x] ∧ LenV K x H n ∧ Q (.int n) H
abbrev cIsi (K : PySem.W.Frag) : RC := fun xs H Q => ∃ x c t b, xs = [x, c] ∧ TyOf K H x t ∧ (∃ T, c = .ty T ∧ PySem.W.kitOne K t (.type T) = some b) ∧ Q (.bl b) H
abbrev cAll (K : PySem.W.Frag) : RC := fun xs H Q => ∃ (a : Addr) (bs : List Bool), xs = [.ref a] ∧ SqL K H a (bs.map V.bl) ∧ Q (.bl (bs.all id)) H
abbrev cAbs : RC := fun xs H Q => ∃ i, xs = [.int i] ∧ Q (.int (if i < 0 then -i else i)) H
abbrev cStr : RC := fun xs H Q => ∃ i, xs = [.int i] ∧ i.natAbs.log2 < 1920 ∧ Q (.str (toString i)) H
abbrev RM := V → List V → Hp → VK → Prop
abbrev r_mt_startswith : RM := fun x xs H Q => ∃ a b, x = .str a ∧ xs = [.str b] ∧ Q (.bl (0 + b.length ≤ a.length && Builtin.Str.subAt a b 0)) H
/-! ### promises -/
/-- what is asked of the arguments and the heap; what is told; all that was tracked stays -/
def spP (pre : List V → Hp → Prop) (post : List V → Hp → V → Hp → Prop) : Sp := fun vs H Q _ => pre vs H ∧ ∀ r H', post vs H r H' → Same H H' → Q r H'
abbrev cInt : RC := fun xs H Q => ∃ (x : Str) (n : Int), xs = [.str x] ∧ PySem.intText? x = some n ∧ x.length ≤ 640 ∧ Q (.int n) H
abbrev r_mt_upper : RM := fun x xs H Q => ∃ a : Str, x = .str a ∧ xs = [] ∧ (∀ c ∈ a.cps.toList, c < 128) ∧ a.length ≤ sizeLine ∧ ∀ y : Str, y.length = a.length → Q (.str y) H
theorem new_obj {H : Hp} {p : Addr} {o : HO} (h : H p = none) : ∃ H', H' = upd H p o ∧ Same H H' ∧ H' p = some o :=
  ⟨_, rfl, fun b u e => by rw [upd_ne (ne_of_none e h)]; exact e, upd_same⟩
theorem isV (p : Addr) {H : Hp} {o : HO} (h : H p = none) : Same H (upd H p o) := fun b u e => by rw [upd_ne (ne_of_none e h)]; exact e
theorem small_size {n : Nat} (h : n ≤ 100000) : n ≤ sizeLine := Nat.le_trans h (by decide)
/-! ### the built-in names -/
theorem bt_len : bootBuiltins "len" = some (.builtin "len") := by decide +kernel
theorem bt_abs : bootBuiltins "abs" = some (.builtin "abs") := by decide +kernel
theorem bt_isinstance : bootBuiltins "isinstance" = some (.builtin "isinstance") := by decide +kernel
theorem bt_all : bootBuiltins "all" = some (.builtin "all") := by decide +kernel
theorem bt_any : bootBuiltins "any" = some (.builtin "any") := by decide +kernel
theorem bt_max : bootBuiltins "max" = some (.builtin "max") := by decide +kernel
theorem bt_min : bootBuiltins "min" = some (.builtin "min") := by decide +kernel
theorem bt_ord : bootBuiltins "ord" = some (.builtin "ord") := by decide +kernel
theorem bt_chr : bootBuiltins "chr" = some (.builtin "chr") := by decide +kernel
theorem bt_sorted : bootBuiltins "sorted" = some (.builtin "sorted") := by decide +kernel
theorem bt_sum : bootBuiltins "sum" = some (.builtin "sum") := by decide +kernel
theorem bt_zip : bootBuiltins "zip" = some (.type "zip") := by decide +kernel
theorem bt_reversed : bootBuiltins "reversed" = some (.type "reversed") := by decide +kernel
theorem bt_enumerate : bootBuiltins "enumerate" = some (.type "enumerate") := by decide +kernel
theorem bt_repr : bootBuiltins "repr" = some (.builtin "repr") := by decide +kernel
theorem bt_range : bootBuiltins "range" = some (.type "range") := by decide +kernel
theorem bt_str : bootBuiltins "str" = some (.type "str") := by decide +kernel
theorem bt_int : bootBuiltins "int" = some (.type "int") := by decide +kernel
theorem bt_bool : bootBuiltins "bool" = some (.type "bool") := by decide +kernel
theorem bt_list : bootBuiltins "list" = some (.type "list") := by decide +kernel
theorem bt_tuple : bootBuiltins "tuple" = some (.type "tuple") := by decide +kernel
theorem bt_dict : bootBuiltins "dict" = some (.type "dict") := by decide +kernel
theorem bt_set : bootBuiltins "set" = some (.type "set") := by decide +kernel
theorem bt_bytes : bootBuiltins "bytes" = some (.type "bytes") := by decide +kernel
theorem bt_float : bootBuiltins "float" = some (.type "float") := by decide +kernel
theorem bt_object : bootBuiltins "object" = some (.type "object") := by decide +kernel
theorem bt_type : bootBuiltins "type" = some (.type "type") := by decide +kernel
theorem bt_ValueError : bootBuiltins "ValueError" = some (.type "ValueError") := by decide +kernel
section
variable {X : Cx}

/-! ### bigger numbers -/
def big : Int := 10 ^ 200
def CDivB (_ j : Int) : Prop := 0 < j ∧ j < big
def CMulB (i j : Int) : Prop := (-big < i ∧ i < big) ∧ (-big < j ∧ j < big)
theorem log2_big {j : Int} (h : j.natAbs < 10 ^ 200) : j.natAbs.log2 < 700 := by
  by_cases h0 : j.natAbs = 0
  · rw [h0]; decide
  · exact (Nat.log2_lt h0).mpr (Nat.lt_of_lt_of_le h (by decide +kernel))
theorem abs_big {j : Int} (h : -big < j ∧ j < big) : j.natAbs < 10 ^ 200 := by
  have e : big = ((10 ^ 200 : Nat) : Int) := by decide +kernel
  rw [e] at h
  omega
theorem CMulB.ok {i j : Int} (h : CMulB i j) : IntMulOk i j := by
  have b : ∀ k : Int, (-big < k ∧ k < big) → Builtin.Int.intBits k ≤ 2 ^ 20 := fun k hk => by
    have q := log2_big (abs_big hk)
    unfold Builtin.Int.intBits
    split <;> omega
  exact .of_bits (b i h.1) (b j h.2)
theorem op_mulB : OpR X (binaryOp .Mult) (rI CMulB fun i j => .int (i * j)) := opI fun _ _ _ _ _ _ _ hc q => mul_int q hc.ok
theorem op_fdivB : OpR X (binaryOp .FloorDiv) (rI CDivB fun i j => .int (i / j)) := opI fun i j _ _ _ _ _ hc q => by
  have h1 : (0 : Int) < j := hc.1
  refine floordiv_int (by omega) ?_ (.inl (PyProof.noPylong_of_log2 (Nat.lt_trans (log2_big (abs_big ⟨by have := hc.2; omega, hc.2⟩)) (by decide))))
  rw [Int.fdiv_eq_ediv_of_nonneg i (by omega)]
  exact q

/-! ### is, of truths -/
theorem op_is_bl : OpR X (compareOp .Is) (fun x y H Q => ∃ a b, x = .bl a ∧ y = .bl b ∧ Q (.bl (a == b)) H) := by
  intro pins s σ H x y v u Q I rx ry h
  obtain ⟨a, b, rfl, rfl, q⟩ := h
  cases rx
  cases ry
  exact is_bool ⟨.bl (a == b), H, I, rfl, q⟩
theorem op_isnot_bl : OpR X (compareOp .IsNot) (fun x y H Q => ∃ a b, x = .bl a ∧ y = .bl b ∧ Q (.bl (a != b)) H) := by
  intro pins s σ H x y v u Q I rx ry h
  obtain ⟨a, b, rfl, rfl, q⟩ := h
  cases rx
  cases ry
  exact isnot_bool ⟨.bl (a != b), H, I, rfl, q⟩

/-! ### isinstance -/
theorem call_isi : CallR X (.builtin "isinstance") (cIsi X.K) := by
  intro pins s σ H xs us Q I r h
  obtain ⟨x, c, t, b, rfl, ty, ⟨T, rfl, e⟩, q⟩ := h
  obtain ⟨u, w', rfl, r1, r2⟩ := vals2 r
  cases r2
  exact isinst_ok I r1 ty e fun tk => ⟨.bl b, H, I.tok tk, rfl, q⟩

/-! ### signs of a text -/
def Its (x : Str) : It := ⟨fun i _ => i < x.cps.size, fun i H v H' => H' = H ∧ ∃ c, x.cps[i]? = some c ∧ v = .str ⟨#[c]⟩, fun i _ => x.cps.size ≤ i⟩
theorem turn_str {P : Program} {w : World} {K : PySem.W.Frag} {tg : Expr} {it : Addr} {x : Str} {t : Tok} {ty : String} (hty : ["enumerate", "zip", "dict_itemiterator", "dict_reverseitemiterator", "odict_iterator", "itertools.zip_longest", "itertools.pairwise"].contains ty = false)
    (W : ∀ A : Around, A.handled = none → Walks P w A it [it] [it] x.cps.size (SignAt x) (fun i h => h.IsStrIter it ty x t i))
    (self : ∀ (A : Around) (i : Nat) (s : Shared) (Q : Value → Shared → Prop) (E : Value → Shared → Prop), s.heap.IsStrIter it ty x t i → Q (.ref it) s → wpAny (model P w) A (pyIter (.ref it)) Q E s) :
    Turn P w K tg (Its x) [it] it (fun i h => i ≤ x.cps.size ∧ h.IsStrIter it ty x t i) where
  mem := by simp
  obj := fun i h st b hb => by
    have e : b = it := by simpa using hb
    subst e
    obtain ⟨_, o, e, c, d⟩ := st
    exact ⟨o, e, fun v z => by rw [d] at z; cases z⟩
  keep := fun i h h' st k => by
    obtain ⟨hi, o, e, r⟩ := st
    exact ⟨hi, o, k it (by simp) o e, r⟩
  item := by
    intro X hP hw hK hc i pins s σ H E I hf st hg
    subst hP hw hK
    obtain ⟨f0, f1, f2, f3, f4, f5⟩ := hf it (by simp)
    refine (W X.A (I.ok.hd hc)).item i s _ _ hg st.2 fun v h' tk hv st' kk => ?_
    obtain ⟨c, u, hc', rfl⟩ := hv
    have I1 : Inv X pins σ H { s with heap := h', toks := tk } := I.turned (fun b o hb e => kk b o (by simpa using hb) e) f0 f1 f3 f4 f5
    obtain ⟨o, e, c1, d1⟩ := id st'
    exact ⟨_, rfl, go_of (s := { s with heap := h', toks := tk }) e c1 d1 hty ⟨.str ⟨#[c]⟩, H, I1, ⟨u, rfl⟩, ⟨rfl, c, hc', rfl⟩, ⟨hg, st'⟩, fun b hb => (hf b hb).1⟩⟩
  done := by
    intro X hP hw hK hc i pins s σ H E I hf st hg
    subst hP hw hK
    obtain ⟨f0, f1, f2, f3, f4, f5⟩ := hf it (by simp)
    have e : i = x.cps.size := Nat.le_antisymm st.1 hg
    subst e
    exact (W X.A (I.ok.hd hc)).done s _ _ st.2 fun h' tk kk => ⟨rfl, I.turned (fun b o hb e => kk b o (by simpa using hb) e) f0 f1 f3 f4 f5⟩
  self := fun A i s Q E st h => self A i s Q E st.2 h
def iStr (tl : TE) : TI := fun σ H R => tl σ H fun x H1 => ∃ z, x = .str z ∧ R (Its z) H1
theorem pi_str {l tg : Expr} {tl : TE} (hl : PE X l tl) : PI X tg l (iStr tl) := by
  intro pins s σ H R I h
  refine thn (hl pins s σ H _ I h) fun v s1 ⟨x, H1, I1, r1, q1⟩ => ?_
  obtain ⟨z, rfl, q⟩ := q1
  obtain ⟨t, rfl⟩ := r1
  have new : ∀ b ∈ [s1.heap.objs.size], FpOk X pins H1 b := fun b hb => by
    have e : b = s1.heap.objs.size := by simpa using hb
    subst e
    exact I1.fpOk (Nat.le_refl _) (I1.hok.fresh (Nat.le_refl _))
  cases ha : z.cps.all (· < 128)
  · refine wpAny_pyIter_wide ha ?_
    exact ⟨s1.heap.objs.size, [s1.heap.objs.size], _, _, H1, rfl, I1.kept (t' := s1.toks) fun b o e => Heap.get?_push_of_some _ e,
      turn_str (t := t) (by decide) (fun A hA => Walks.strWide hA _ z t) fun A i s Q E st h => wpAny_pyIter_striter_wide st h, ⟨Nat.zero_le _, _, Heap.get?_push_size _ rfl, rfl, rfl⟩, new, q⟩
  · refine wpAny_pyIter_ascii ha ?_
    exact ⟨s1.heap.objs.size, [s1.heap.objs.size], _, _, H1, rfl, I1.kept (t' := s1.toks) fun b o e => Heap.get?_push_of_some _ e,
      turn_str (t := t) (by decide) (fun A hA => Walks.strAscii hA _ z t) fun A i s Q E st h => wpAny_pyIter_striter_ascii st h, ⟨Nat.zero_le _, _, Heap.get?_push_size _ rfl, rfl, rfl⟩, new, q⟩

/-! ### all of a list of truths -/
theorem call_allL (hc : X.calm = true) : CallR X (.builtin "all") (cAll X.K) := by
  intro pins s σ H xs us Q I r h
  obtain ⟨a, bs, rfl, hq, q⟩ := h
  obtain ⟨u, rfl, r1⟩ := vals1 r
  cases r1
  obtain ⟨its, rv, p, hz⟩ := I.list hq
  have hl := rv.length
  rw [List.length_map] at hl
  have hne : a ≠ s.heap.objs.size := by
    obtain ⟨o, n, e, _⟩ := p
    exact Nat.ne_of_lt (Heap.lt_size e)
  refine call_all_walk (wpAny_pyIter_list p.isList ?_)
  refine ⟨s.heap.objs.size, _, _, its.toArray.size, fun i v => its.toArray[i]? = some v, _, fun i => bs.getD i false, rfl, Walks.list (A := X.A.in1) (I.ok.hd hc) _ a hne its.toArray, ?_, ?_, fun h' tk k => ?_⟩
  · refine ⟨⟨_, Heap.get?_push_size _ rfl, rfl, rfl⟩, ?_⟩
    exact p.isList.at fun o e => Heap.get?_push_of_some _ e
  · intro i v s' Q' E' hv hQ
    have hv' : its[i]? = some v := by simpa using hv
    have hi : i < bs.length := by
      rw [hl]
      exact (List.getElem?_eq_some_iff.mp hv').1
    obtain ⟨u', hu, ru⟩ := rv.get (i := i) (x := V.bl bs[i]) (by simp [hi])
    rw [hv'] at hu
    cases hu
    cases ru
    have e : bs.getD i false = bs[i] := by simp [hi]
    have hQ' : Q' (bs.getD i false) s' := hQ
    rw [e] at hQ'
    exact wpAny_truthy_bool hQ'
  · have e : (List.range its.toArray.size).all (fun i => bs.getD i false) = bs.all id := by
      rw [List.size_toArray, ← hl]
      have : bs.map id = (List.range bs.length).map fun i => bs.getD i false := by
        apply List.ext_getElem?
        intro i
        by_cases hi : i < bs.length <;> simp [hi]
      have h2 : bs.all id = (bs.map id).all id := by simp
      rw [h2, this, List.all_map]
      rfl
    rw [e]
    refine ⟨.bl (bs.all id), H, ?_, rfl, q⟩
    exact I.kept fun b o e => k b o (by
      have := Nat.ne_of_lt (Heap.lt_size e)
      simpa using this) (Heap.get?_push_of_some _ e)

/-! ### texts -/
theorem mt_startswith : MtR X "str.startswith" r_mt_startswith := by
  intro pins s σ H x xs v us Q I rx rs h
  obtain ⟨a, b, rfl, rfl, q⟩ := h
  obtain ⟨t, rfl⟩ := rx
  obtain ⟨u, rfl, t', rfl⟩ := vals1 rs
  exact call_meets F.slot_str_startswith (typeIs_str s a t) F.entry_str_startswith (F.args_str_startswith_2 _ _) (gives_str_startswith a b t t').meets (show _ from ⟨.bl _, H, I, rfl, q⟩)
def rSlS : V → Option Int → Option Int → Hp → VK → Prop := fun x lo hi H Q => ∃ z, x = .str z ∧ z.length ≤ sizeLine ∧ Q (.str (Txt.slice z lo hi)) H
theorem sl_str : SlR X rSlS := by
  intro pins s σ H x v vl vu lo hi sl Q I rx hs pl pu h
  obtain ⟨z, rfl, hz, q⟩ := h
  obtain ⟨t, rfl⟩ := rx
  obtain ⟨o, ho, hc, hd⟩ := hs
  refine ⟨"str", _, F.slot_str_getitem.lookup, typeIs_str _ _ _, ?_⟩
  obtain ⟨l, e1, e2⟩ : ∃ l : Option (Int × Tok), vl = partValue l ∧ lo = l.map (·.1) := by
    cases pl with
    | none => exact ⟨none, rfl, rfl⟩
    | int i t => exact ⟨some (i, t), rfl, rfl⟩
  obtain ⟨u, e3, e4⟩ : ∃ l : Option (Int × Tok), vu = partValue l ∧ hi = l.map (·.1) := by
    cases pu with
    | none => exact ⟨none, rfl, rfl⟩
    | int i t => exact ⟨some (i, t), rfl, rfl⟩
  subst e1 e2 e3 e4
  exact wpAny_getItem_str_slice (l := l) (u := u) (st := none) ⟨o, ho, hc, hd⟩ rfl
    (post_val_or_str ⟨Nat.le_trans (Txt.slice_le z _ _) hz, fun t' k => ⟨.str (Txt.slice z (l.map (·.1)) (u.map (·.1))), H, I.tok k, ⟨t', rfl⟩, q⟩⟩)
theorem call_int_str : CallR X (.type "int") cInt := by
  intro pins s σ H xs us Q I r h
  obtain ⟨x, n, rfl, hn, hl, q⟩ := h
  obtain ⟨u, rfl, t, rfl⟩ := vals1 r
  exact PySem.W.KIN.call_text hn hl ⟨.int n, H, I.tok _, ⟨_, rfl⟩, q⟩
theorem mt_upper : MtR X "str.upper" r_mt_upper := by
  intro pins s σ H x xs v us Q I rx rs h
  obtain ⟨a, rfl, rfl, hA, hl, q⟩ := h
  obtain ⟨t, rfl⟩ := rx
  have e0 : us = [] := Vals.zero rs
  subst e0
  have e : Txt.upper a = ⟨a.cps.map up1⟩ := upper_ascii hA
  have e1 : (Txt.upper a).length = a.length := by rw [e]; simp [Str.length]
  have e2 : Builtin.Str.tooLong (placed a fun _ c => Unicode.upperOf c).size = false := by
    have : (placed a fun _ c => Unicode.upperOf c).size = a.length := e1
    rw [this]
    unfold Builtin.Str.tooLong
    exact decide_eq_false (by omega)
  exact call_meets F.slot_str_upper (typeIs_str s a t) F.entry_str_upper (F.args_str_upper_1 _) (gives_str_upper a t e2).meets ⟨by show (Txt.upper a).length ≤ _; omega, ⟨.str (Txt.upper a), H, I.tok _, ⟨_, rfl⟩, q _ e1⟩⟩
end
end L2

namespace L2
open PySem PySem.Spec PyProof.Rows

/-! ### exceptions of the text's own classes -/
theorem ObjOk.there {P : Program} {w : World} {H : Hp} {h : Heap} {a : Addr} {o : HO} (x : ObjOk P w H h a o) : ∃ u, h.get? a = some u := by
  cases o with
  | lst xs => obtain ⟨_, _, _, _, e⟩ := x; exact ⟨_, e⟩
  | tup xs => obtain ⟨_, _, _, o, e, _⟩ := x; exact ⟨_, e⟩
  | dK kvs => obtain ⟨_, _, _, _, o, _, _, e, _⟩ := x; exact ⟨_, e⟩
  | dT kvs => obtain ⟨_, _, _, _, o, _, _, e, _⟩ := x; exact ⟨_, e⟩
  | set S n => obtain ⟨o, _, _, _, e, _⟩ := x; exact ⟨_, e⟩
  | ins C dx fs => obtain ⟨_, _, _, e, _⟩ := x; exact ⟨_, e⟩
  | own y => exact x
  | xd fs => obtain ⟨_, ⟨o, _, _, e, _⟩, _⟩ := x; exact ⟨_, e⟩
  | rng lo hi => obtain ⟨_, _, _, e⟩ := x; exact ⟨_, e⟩
  | frz ob u => obtain ⟨e, _⟩ := x; exact ⟨_, e⟩
  | tbl ps => exact ⟨_, (show h.get? a = some _ from x)⟩
  | met f y => exact ⟨_, (show h.get? a = some _ from x)⟩
  | ext φ => obtain ⟨_, e, _⟩ := x; exact e
/-- an exception that flies: its record and its traceback's newest entry, both new since g, not tracked -/
def XF (g h : Heap) (H : Hp) (e : Addr) (cls : Value) : Prop :=
  ∃ oe vs a0 T oT ts, h.get? e = some oe ∧ (oe.cls = cls ∧ vs[0]? = some a0) ∧ oe.data = .fields vs ∧ vs[1]? = some (.ref T) ∧ T ≠ e ∧ h.get? T = some oT ∧ oT.data = .fields ts ∧ ts[3]? = some .none ∧
    g.get? e = none ∧ g.get? T = none ∧ H e = none ∧ H T = none
def CX1 (P : Program) (w : World) : CXT := fun outer H s E ev s' => ∃ e cls H', ev = .ref e ∧ s'.os = s.os ∧ AllBare s'.gens ∧ Un (frs outer) [] H H' s.heap s'.heap ∧ HOk P w H' s'.heap ∧ XF s.heap s'.heap H' e cls ∧ E cls none H'
theorem none_back {g h : Heap} (k : ∀ b o, g.get? b = some o → ∃ o', h.get? b = some o') {b : Addr} (e : h.get? b = none) : g.get? b = none := by
  cases q : g.get? b with
  | none => rfl
  | some o =>
    obtain ⟨o', z⟩ := k b o q
    rw [e] at z; cases z
theorem XF.older {g g' h : Heap} {H : Hp} {e : Addr} {cls : Value} (x : XF g h H e cls) (k : ∀ b o, g'.get? b = some o → ∃ o', g.get? b = some o') : XF g' h H e cls := by
  obtain ⟨oe, vs, a0, T, oT, ts, h1, h2, h3, h4, h5, h6, h7, h8, h9, h10, h11, h12⟩ := x
  exact ⟨oe, vs, a0, T, oT, ts, h1, h2, h3, h4, h5, h6, h7, h8, none_back k h9, none_back k h10, h11, h12⟩

section
variable {X : Cx} {pins : List (Addr × Obj)} {σ : St} {H : Hp} {s : Shared}
theorem Inv.stackFields (J : Inv X pins σ H s) {b : Addr} (hb : b ∈ frs X.stack) : ∃ o, s.heap.get? b = some o ∧ ∀ vs, o.data ≠ .fields vs := (J.stack.mem hb).2
theorem Inv.there0 (hex : X.ex = []) (J : Inv X pins σ H s) : ∀ b o, X.s₀.heap.get? b = some o → ∃ o', s.heap.get? b = some o' := fun b o e => J.base.there b o e (by rw [hex]; simp)
/-- the heap behind an exception's way through this frame: the frames up to their slots, the records at cs apart -/
theorem Inv.behind {h2 : Heap} {cs : List Addr} (hex : X.ex = []) (J : Inv X pins σ H s) (hcs : ∀ b ∈ cs, H b = none ∧ X.s₀.heap.get? b = none)
    (hB : ∀ b o, s.heap.get? b = some o → b ∉ frs X.stack → b ∉ cs → h2.get? b = some o) (hF : ∀ b o, s.heap.get? b = some o → b ∈ frs X.stack → ∃ sl, h2.get? b = some { o with slots := sl }) :
    Un X.fs [] X.H₀ H X.s₀.heap h2 ∧ HOk X.prog X.w H h2 := by
  have B : Un X.fs [] X.H₀ H X.s₀.heap s.heap := by have := J.base; rw [hex] at this; exact this
  have nL : ∀ b o, X.s₀.heap.get? b = some o → b ≠ X.env.locals := fun b o e => Nat.ne_of_lt (Nat.lt_of_lt_of_le (Heap.lt_size e) J.ok.above)
  have nC : ∀ b o, X.s₀.heap.get? b = some o → b ∉ cs := fun b o e z => by rw [(hcs b z).2] at e; cases e
  have any : ∀ b o, s.heap.get? b = some o → b ∉ cs → ∃ sl, h2.get? b = some { o with slots := sl } := fun b o e n => by
    by_cases hb : b ∈ frs X.stack
    · exact hF b o e hb
    · exact ⟨o.slots, hB b o e hb n⟩
  refine ⟨⟨fun b o e n h1 _ => ?_, fun b o e n h1 _ => ?_, B.free, fun b o e h1 => ?_, B.tups, B.frzs, B.tbls⟩, fun b u e => ?_⟩
  · refine hB b o (B.keep b o e n h1 (by simp)) (fun z => ?_) (nC b o e)
    rcases List.mem_cons.mp (J.stkSub b z) with q | q
    · exact nL b o e q
    · exact h1 q
  · obtain ⟨sl, q⟩ := B.slot b o e n h1 (by simp)
    obtain ⟨sl', q'⟩ := any b _ q (nC b o e)
    exact ⟨sl', q'⟩
  · obtain ⟨o', q⟩ := B.there b o e (by simp)
    obtain ⟨sl, q'⟩ := any b o' q (nC b o e)
    exact ⟨_, q'⟩
  · refine (J.hok b u e).stay (fun c v hc q => ?_) (fun _ q => q) fun _ _ q => q
    have hn : H c ≠ none := by
      rcases hc with rfl | hc
      · rw [e]; simp
      · rw [hc]; simp
    exact hB c v q (fun z => hn (J.stkFree c z)) fun z => hn (hcs c z).1
/-- .. and the exception itself, by what the library's stations say of it -/
theorem Inv.flown {B h2 : Heap} {cs : List Addr} {e : Addr} {cls a0 : Value} (hex : X.ex = []) (J : Inv X pins σ H s) (hcs : ∀ b ∈ cs, H b = none ∧ X.s₀.heap.get? b = none)
    (hB : ∀ b o, s.heap.get? b = some o → b ∉ frs X.stack → b ∉ cs → B.get? b = some o) (hF : ∀ b o, s.heap.get? b = some o → b ∈ frs X.stack → ∃ sl, h2.get? b = some { o with slots := sl })
    (he : H e = none) (he0 : X.s₀.heap.get? e = none) (kb : B.StaysIn h2) (tr : h2.TracedW B e cls a0) :
    Un X.fs [] X.H₀ H X.s₀.heap h2 ∧ HOk X.prog X.w H h2 ∧ XF X.s₀.heap h2 H e cls := by
  have hk := J.behind (h2 := h2) hex hcs (fun b o q n1 n2 => kb b o (hB b o q n1 n2)) hF
  refine ⟨hk.1, hk.2, ?_⟩
  obtain ⟨oe, vs, T, oT, ts, h1, h2', h3, h4, h5, h6, h7, h8, h9⟩ := tr
  have noT : ∀ o, s.heap.get? T = some o → T ∈ cs := fun o q => by
    by_cases hb : T ∈ frs X.stack
    · obtain ⟨o', q', nf⟩ := J.stackFields hb
      obtain ⟨sl, z⟩ := hF T o' q' hb
      rw [h7] at z
      have z' : oT = { o' with slots := sl } := Option.some.inj z
      exact absurd (by rw [← h8, z']) (nf ts)
    · by_cases hc : T ∈ cs
      · exact hc
      · rw [hB T o q hb hc] at h5; cases h5
  refine ⟨oe, vs, a0, T, oT, ts, h1, h2', h3, h4, h6, h7, h8, h9, he0, ?_, he, ?_⟩
  · cases q : X.s₀.heap.get? T with
    | none => rfl
    | some o =>
      obtain ⟨o', q'⟩ := J.there0 hex T o q
      rw [(hcs T (noT o' q')).2] at q; cases q
  · cases q : H T with
    | none => rfl
    | some u =>
      obtain ⟨o, z⟩ := (J.hok T u q).there
      rw [(hcs T (noT o z)).1] at q; cases q

/-- an exception just made leaves the frame -/
theorem leave_new {h' : Heap} {e : Addr} {cls : Value} {vs : List Value} {E : XK} {EE : Value → Shared → Prop} (hst : X.stack = X.env :: X.outer ∧ X.env.frame = some X.env.locals) (hex : X.ex = []) (J : Inv X pins σ H s) (hx : Heap.MadeExcOf s.heap h' e cls vs) (hE : E cls none H) :
    wpAny (model X.prog X.w) X.A (leaving X.env (.ref e)) (fun _ s2 => CX1 X.prog X.w X.outer X.H₀ X.s₀ E (.ref e) s2) EE { s with heap := h' } := by
  have fr : s.heap.FunFrames (PySem.W.hideAll s.heap (frs X.stack)) (X.env :: X.outer) := by
    have q := PySem.W.funFrames_hide (as := frs X.stack) J.stack fun env he a ha => List.mem_filterMap.mpr ⟨env, he, ha⟩
    rw [hst.1] at q ⊢
    exact q
  refine wpAny_leaves_madeW (s := { s with heap := h' }) (base := PySem.W.hideAll s.heap (frs X.stack)) (h := s.heap) (by rw [J.ok.frames, hst.1]) hst.2 (fun b o q => PySem.W.of_hideAll _ q) fr hx fun h2 t hfl _ _ hup => ?_
  obtain ⟨f1, f2, f3, f4⟩ := hfl
  have hF : ∀ b o, s.heap.get? b = some o → b ∈ frs X.stack → ∃ sl, h2.get? b = some { o with slots := sl } := fun b o q hb => by
    obtain ⟨o', q', nf⟩ := J.stackFields hb
    rw [q] at q'; cases q'
    exact hup b o (hx.keeps b o q) nf
  obtain ⟨r1, r2, r3⟩ := J.flown (cs := []) hex (fun b z => nomatch z) (fun b o q n _ => PySem.W.hideAll_get _ q n) hF
    (by
      cases q : H e with
      | none => rfl
      | some u =>
        obtain ⟨o, z⟩ := (J.hok e u q).there
        rw [hx.new] at z; cases z)
    (none_back (J.there0 hex) hx.new) f1 f4
  exact ⟨e, cls, H, rfl, J.os, J.bare, r1, r2, r3, hE⟩
/-- one that came from a callee leaves this frame too -/
theorem leave_on {e : Addr} {cls : Value} {E : XK} {EE : Value → Shared → Prop} (hst : X.stack = X.env :: X.outer ∧ X.env.frame = some X.env.locals) (hex : X.ex = []) (J : Inv X pins σ H s) (xf : XF X.s₀.heap s.heap H e cls) (hE : E cls none H) :
    wpAny (model X.prog X.w) X.A (leaving X.env (.ref e)) (fun _ s2 => CX1 X.prog X.w X.outer X.H₀ X.s₀ E (.ref e) s2) EE s := by
  obtain ⟨oe, vs, a0, T, oT, ts, h1, h2, h3, h4, h5, h6, h7, h8, h9, h10, h11, h12⟩ := id xf
  have fr : s.heap.FunFrames (PySem.W.hideAll s.heap (frs X.stack ++ [e, T])) (X.env :: X.outer) := by
    have q := PySem.W.funFrames_hide (as := frs X.stack ++ [e, T]) J.stack fun env he a ha => List.mem_append_left _ (List.mem_filterMap.mpr ⟨env, he, ha⟩)
    rw [hst.1] at q ⊢
    exact q
  refine wpAny_leaves_onW (base := PySem.W.hideAll s.heap (frs X.stack ++ [e, T])) (a0 := a0) (by rw [J.ok.frames, hst.1]) hst.2
    ⟨fun b o q => PySem.W.of_hideAll _ q, PySem.W.hideAll_none _ (List.mem_append_right _ (by simp)), fr, oe, vs, T, oT, ts, h1, h2, h3, h4, PySem.W.hideAll_none _ (List.mem_append_right _ (by simp)), h5, h6, h7, h8⟩ fun h2' hfl hup => ?_
  obtain ⟨f1, f2, f3, f4⟩ := hfl
  have hF : ∀ b o, s.heap.get? b = some o → b ∈ frs X.stack → ∃ sl, h2'.get? b = some { o with slots := sl } := fun b o q hb => by
    obtain ⟨o', q', nf⟩ := J.stackFields hb
    rw [q] at q'; cases q'
    exact hup b o q nf
  obtain ⟨r1, r2, r3⟩ := J.flown (cs := [e, T]) hex (fun b z => by
      have z' : b = e ∨ b = T := by simpa using z
      rcases z' with rfl | rfl
      · exact ⟨h11, h9⟩
      · exact ⟨h12, h10⟩) (fun b o q n n2 => PySem.W.hideAll_get _ q fun z => (List.mem_append.mp z).elim n n2) hF h11 h9 f1 f4
  exact ⟨e, cls, H, rfl, J.os, J.bare, r1, r2, r3, hE⟩
end

/-- an exception that a raise makes reaches what this body wants of exceptions -/
def Raises (X : Cx) (E : XK) : Prop := ∀ (pins : List (Addr × Obj)) (σ : St) (H : Hp) (s : Shared) (h' : Heap) (e : Addr) (cls : Value) (vs : List Value), Inv X pins σ H s → Heap.MadeExcOf s.heap h' e cls vs → E cls none H → X.xe (.ref e) { s with heap := h' }
section
variable {P : Program} {w : World} {K : PySem.W.Frag} {mg : Str → Option Value} {base : Heap} {N : List Str} {qual : Str} {scope : Scope} {f : Addr} {cd : Value} {A : Around} {outer : List Env} {s₀ : Shared} {H₀ : Hp} {E : XK}
theorem pass1 : Passes (CX1 P w) (cxOf (CX1 P w) P w K mg base N qual scope f cd A outer s₀ H₀ E) E := by
  intro pins σ H s ev s' I hcx
  obtain ⟨e, cls, H', rfl, os, bare, un, hok, xf, hE⟩ := hcx
  have J := I.call' (ch := []) os un hok bare (fun b z => nomatch z)
  exact leave_on (X := cxOf (CX1 P w) P w K mg base N qual scope f cd A outer s₀ H₀ E) ⟨rfl, rfl⟩ rfl J (xf.older (I.there0 rfl)) hE
theorem raises1 : Raises (cxOf (CX1 P w) P w K mg base N qual scope f cd A outer s₀ H₀ E) E := by
  intro pins σ H s h' e cls vs I hx hE
  exact leave_new (X := cxOf (CX1 P w) P w K mg base N qual scope f cd A outer s₀ H₀ E) ⟨rfl, rfl⟩ rfl I hx hE
theorem own1 : PassesOwn (model P w) (cxOf (CX1 P w) P w K mg base N qual scope f cd A outer s₀ H₀ E).A (cxOf (CX1 P w) P w K mg base N qual scope f cd A outer s₀ H₀ E).env (cxOf (CX1 P w) P w K mg base N qual scope f cd A outer s₀ H₀ E).xe := PassesOwn.leaving
end

/-! ### raise -/
abbrev bmVal : List Value := [.type "ValueError", .type "Exception", .type "BaseException", .type "object"]
abbrev newVal : String := "ValueError.__new__"
def tRaise (C : Addr) (ta : TA) (E : XK) : TS := fun _ σ H => ta σ H fun vs H1 => vs.length ≤ sizeLine ∧ E (.ref C) none H1
theorem own_cls {K : PySem.W.Frag} {h : Heap} {C : Addr} {bmB : List Value} {newId : String} (X : K.In h) (q : PySem.W.excIn K C bmB newId = true) :
    ∃ bm N nm qn bs hdct sn sub ab col dd k0 k1 k2 k3 k5 mN, h.get? C = some (excClassObj nm qn C N bs bm hdct sn sub ab col dd k0 k1 k2 k3 k5 newId) ∧ h.Ns N mN ∧ mN "__init__" = none ∧ OwnTail h bmB bm := by
  unfold PySem.W.excIn at q
  split at q
  case h_2 => cases q
  rename_i dd cd sl ho
  split at q
  case h_2 => cases q
  rename_i C' bm k0 k1 k2 k3 n k5 hm hs
  rw [Bool.and_eq_true, Bool.and_eq_true, Bool.and_eq_true, Bool.and_eq_true, Bool.and_eq_true] at q
  obtain ⟨⟨⟨⟨⟨q1, q2⟩, q3⟩, q4⟩, q5⟩, q6⟩ := q
  obtain rfl : C' = C := by simpa using q1
  obtain rfl : n = newId := by simpa using q2
  obtain ⟨nm, bs, mro, ns, qn, hd, sn, sub, ab, col, del⟩ := cd
  have hdel : del = false := by simpa using q3
  have hm' : mro = .ref C' :: bm := hm
  subst hdel hm'
  have hsl : sl = #[k0, k1, k2, k3, some (.builtin n), k5] := by
    apply Array.ext'
    exact hs
  subst hsl
  exact ⟨bm, ns, nm, qn, bs, hd, sn, sub, ab, col, dd, k0, k1, k2, k3, k5, _, X _ _ ho, .of_isNs (PySem.W.isNs_of_in X q5), PySem.W.nsMap_none_of_in X q5 (by simpa using q6), PySem.W.tail_of_in X q4⟩
section
variable {X : Cx} {x : Str} {C : Addr} {np cpos pos : Pos} {e₀ : Expr} {rest : List Expr} {ta : TA} {E : XK}
theorem ps_raise (hc : X.calm = true) (q : PySem.W.excIn X.K C bmVal newVal = true) (hr : Raises X E) (hg : Gl X x) (hm : X.mg x = some (.ref C)) (ha : PA X (e₀ :: rest) ta)
    (he : starEach (e₀ :: rest) X.env = (false, eval e₀ X.env) :: starEach rest X.env := by rfl) (hp : (backTo cpos (starEach rest X.env)).any (·.1) = false := by rfl) (hd : (x == ("__debug__" : Str)) = false := by decide) :
    PS X (.Raise (some (.Call (.Name x np) (e₀ :: rest) [] cpos)) none pos) (tRaise C ta E) := by
  intro pins s σ H D I h
  obtain ⟨tl, N, nm, qn, bs, hdct, sn, sub, ab, col, dd, k0, k1, k2, k3, k5, mN, hC, hN, hni, T⟩ := own_cls I.ok.mod.kin q
  refine wpAny_Raise_call_subT (C := C) (nm := nm) (q := qn) (N := N) (bs := bs) (bm := tl) (hdct := hdct) (sn := sn) (sub := sub) (ab := ab) (col := col) (dd := dd) (k0 := k0) (k1 := k1) (k2 := k2) (k3 := k3) (k5 := k5) (newId := newVal)
    PySem.F.excBase_ValueError (mN := mN) (T.hasType PySem.F.excBase_ValueError.hasBase) (I.ok.hd hc) (by rw [he]; exact hp) hni (ld_glob I hg hm ⟨rfl, ?_⟩ hd)
  have hA := ha cpos pins s σ H _ I h
  rw [he] at hA ⊢
  refine Calls.evalArgs_plain (thn hA fun us s2 ⟨vs, H2, I2, r2, z2, q2⟩ => ?_)
  exact ⟨rfl, by rw [← r2.length]; exact z2, I2.bk _ _ hC, hN.keeps I2.bk, T.keeps I2.bk, fun h' e hm => hr pins σ H2 s2 h' e _ _ I2 hm q2⟩
end

/-! ### texts of messages -/
/-- signs that a text may have -/
def Asc (x : Str) : Prop := ∀ c ∈ x.cps.toList, c < 128
section
variable {X : Cx} {e : Expr} {te : TE} {a : Str} {j : Nat} {p1 p2 p3 : Pos}
/-- f'.. {e!r}' -/
def tMsgR (te : TE) : TE := fun σ H Q => te σ H fun v H1 => ∃ x : Str, v = .str x ∧ x.length ≤ 100000 ∧ Asc x ∧ ∀ y : Str, Q (.str y) H1
theorem pe_msgR (he : PE X e te) (hl : a.length ≤ 1000 := by decide +kernel) : PE X (.JoinedStr [.Constant (.str a) j p1, .FormattedValue e 114 none p2] p3) (tMsgR te) := by
  intro pins s σ H Q I h
  refine wpAny_JoinedStr ?_
  show wpAny _ _ (eval (.Constant (.str a) j p1) X.env) _ _ s
  have e0 : (Str.empty ++ a).length = a.length := by rw [Str.length_append]; simp [Str.empty, Str.length]
  refine Calls.Constant_str ⟨a, _, rfl, by rw [e0]; exact small_size (by omega), ?_⟩
  show wpAny _ _ (eval (.FormattedValue e 114 none p2) X.env) _ _ _
  refine wpAny_FormattedValue_repr (thn (he pins _ σ H _ (I.tok _) h) fun v s1 ⟨x, H1, I1, r1, z, ex, hz, hA, q⟩ => ?_)
  subst ex
  obtain ⟨t, rfl⟩ := r1
  have hr : (reprText z).length ≤ 10 * z.length + 2 := StrLaws.reprText_len z fun c hc => Nat.lt_trans (hA c hc) (by decide)
  have hs : sizeLine = 16777216 := sizeLine_eq
  refine wpAny_pyReprObj_gives (typeIs_str _ z t) PySem.F.slot_str_repr PySem.F.entry_str_repr (PySem.F.args_str_repr_1 _) (gives_str_repr z t) ?_ rfl (by omega)
  have fin : ∀ (t' : Tok) (tk : Nat), ∃ y u, Value.str (reprText z) t' = Value.str y u ∧ (Str.empty ++ a ++ y).length ≤ sizeLine ∧ Joins (model X.prog X.w) X.A X.xe (evalEach [] X.env) (Str.empty ++ a ++ y) (fun out s₁ => out.length ≤ sizeLine ∧ EP X pins σ Q (.str out s₁.toks) { s₁ with toks := s₁.toks + 1 }) { s1 with toks := tk } := fun t' tk => by
    have hz2 : (Str.empty ++ a ++ reprText z).length ≤ sizeLine := by rw [Str.length_append, e0]; omega
    exact ⟨_, _, rfl, hz2, hz2, .str _, H1, I1.tok _, ⟨_, rfl⟩, q _⟩
  exact wpAny_formatField_str (fin _ _) (fin _ _) (by omega)
/-- f'{e} ..' -/
def tMsgS (te : TE) : TE := fun σ H Q => te σ H fun v H1 => ∃ x : Str, v = .str x ∧ x.length ≤ 100000 ∧ ∀ y : Str, Q (.str y) H1
theorem pe_msgS (he : PE X e te) (hl : a.length ≤ 1000 := by decide +kernel) : PE X (.JoinedStr [.FormattedValue e (-1) none p2, .Constant (.str a) j p1] p3) (tMsgS te) := by
  intro pins s σ H Q I h
  refine wpAny_JoinedStr ?_
  show wpAny _ _ (eval (.FormattedValue e (-1) none p2) X.env) _ _ s
  refine wpAny_FormattedValue_plain (thn (he pins _ σ H _ I h) fun v s1 ⟨x, H1, I1, r1, z, ex, hz, q⟩ => ?_)
  subst ex
  obtain ⟨t, rfl⟩ := r1
  have hs : sizeLine = 16777216 := sizeLine_eq
  have e0 : (Str.empty ++ z).length = z.length := by rw [Str.length_append]; simp [Str.empty, Str.length]
  have fin : ∀ (t' : Tok) (tk : Nat), ∃ y u, Value.str z t' = Value.str y u ∧ (Str.empty ++ y).length ≤ sizeLine ∧ Joins (model X.prog X.w) X.A X.xe (evalEach [.Constant (.str a) j p1] X.env) (Str.empty ++ y) (fun out s₁ => out.length ≤ sizeLine ∧ EP X pins σ Q (.str out s₁.toks) { s₁ with toks := s₁.toks + 1 }) { s1 with toks := tk } := fun t' tk => by
    refine ⟨_, _, rfl, by rw [e0]; omega, ?_⟩
    show wpAny _ _ (eval (.Constant (.str a) j p1) X.env) _ _ _
    have hz2 : (Str.empty ++ z ++ a).length ≤ sizeLine := by rw [Str.length_append, e0]; omega
    refine Calls.Constant_str ⟨a, _, rfl, hz2, hz2, .str _, H1, I1.tok _, ⟨_, rfl⟩, q _⟩
  exact wpAny_formatField_str (fin _ _) (fin _ _) (by omega)
end
end L2

namespace L2
open PySem PySem.Spec PyProof.Rows
structure ExC (K : PySem.W.Frag) (C : Addr) : Prop where
  ga : PySem.W.findIn K (.ref C) "__getattribute__" = some (some (.builtin "BaseException.__getattribute__"))
  gx : PySem.W.findIn K (.ref C) "__getattr__" = some none
  cl : PySem.W.findIn K (.ref C) "__class__" = some (some (.builtin "object.__class__"))
  ob : PySem.W.mroIn K C (.type "object") = some true
  be : PySem.W.mroIn K C (.type "BaseException") = some true
  ge : PySem.W.specialIn K (.builtin "object.__class__") "__get__" = some (some (.builtin "getset_descriptor.__get__"))
  tk : PySem.W.takesIn K (.builtin "object.__class__") = some true
section
variable {prog : Program} {w : World} {A : Around} {E : Value → Shared → Prop} {K : PySem.W.Frag} {e C : Addr} {s : Shared}
theorem exc_find {M : Model} {h : Heap} (X : K.In h) (c : ExC K C) : PySem.W.Looks M h (PySem.Builtin.ObjectAttr.find (.ref e) (.ref C) "__class__") (.bind (.builtin "getset_descriptor.__get__") (.builtin "object.__class__")) := by
  have l1 := PySem.W.looks_findIn (M := M) X c.cl
  have l2 : PySem.W.Looks M h (PySem.Builtin.ObjectAttr.getOf (some (.builtin "object.__class__"))) (some (.builtin "getset_descriptor.__get__")) := PySem.W.looks_specialIn X c.ge
  have l3 := PySem.W.looks_takesIn (M := M) X c.tk
  refine l1.andThen (l2.andThen ?_)
  exact (show PySem.W.Looks M h (PySem.Builtin.ObjectAttr.dataDescriptor? (some (.builtin "object.__class__")) (some (.builtin "getset_descriptor.__get__"))) (some ((.builtin "getset_descriptor.__get__"), (.builtin "object.__class__"))) from l3.andThen .now).andThen (PySem.W.Looks.tag .now)
open PySem.Builtin PySem.Builtin.Getset_descriptor in
theorem exc_get {R : Result → Shared → Prop} {tp : Value} (X : K.In s.heap) (c : ExC K C) (t0 : PySem.W.Looks (model prog w) s.heap (typeOf (.ref e)) (.ref C)) (hr : R (.ok (.ret (.ref C))) s) :
    codeAny (model prog w) A (.call (.builtin "getset_descriptor.__get__") ⟨[.builtin "object.__class__", .ref e, tp], []⟩) R s := by
  obtain ⟨hh, gs, dr, tt, os⟩ := s
  have t5 := PySem.W.looks_mroIn (M := model prog w) X c.ob
  refine codeAny_call_builtin PySem.W.KF.slot_gs.plain PySem.W.KF.entry_gs (PySem.W.KF.slot_gs.check _ _ _ _ _ _ _ _ PySem.W.KF.type_class (PySem.W.KF.args_gs _ _ _) ?_)
  unfold Builtin.«getset_descriptor.__get__» descrGet
  rw [PySem.W.dga_obj]
  refine wpAny_bind (wpAny_pure ?_)
  unfold descrGetter descrCheckInstance descrNameAndClass isInstance
  simp only [PySem.W.KF.owner_class]
  repeat lk
  refine ⟨Code.quiet_builtin _ (by decide +kernel), codeAny_builtin PySem.W.KF.entry_class ?_⟩
  unfold Builtin.«object.__class__» shownTypeOf
  repeat lk
  exact hr
theorem exc_class {Q : Option Value → Shared → Prop} (X : K.In s.heap) (c : ExC K C) (LT : ∀ M : Model, PySem.W.Looks M s.heap (typeOf (.ref e)) (.ref C)) (hq : Q (some (.ref C)) { s with toks := s.toks + 1 }) :
    wpAny (model prog w) A (getAttr? (.ref e) "__class__") Q E s := by
  obtain ⟨hh, gs, dr, tt, os⟩ := s
  have t0 := LT (model prog w)
  have t1 := PySem.W.looks_findIn (M := model prog w) X c.ga
  have t2 := PySem.W.looks_findIn (M := model prog w) X c.gx
  have t3 := PySem.W.looks_mroIn (M := model prog w) X c.be
  have t4 := exc_find (M := model prog w) (e := e) X c
  have t5 := PySem.W.looks_mroIn (M := model prog w) X c.ob
  have t6 : bindSpecial (.builtin "BaseException.__getattribute__") (.ref e) = pure (.builtin "BaseException.__getattribute__", [.ref e]) := F.excAttr_ValueError.ga.bind (.ref e)
  have b2 : (Value.builtin "BaseException.__getattribute__" == Value.builtin "object.__getattribute__") = false := by decide +kernel
  unfold getAttr? getAttrBy? getAttrBy
  refine wpAny_bind (wpAny_mkText (wpAny_bind (wpAny_attempt (wpAny_holding (wpAny_bind (t0.at (wpAny_bind (t1.at ?_))))))))
  simp only [b2, Bool.and_false, Bool.false_eq_true, if_false]
  unfold getAttrByItsOwn hookBefore
  refine wpAny_bind (t2.at ?_)
  unfold callGetattribute boundAndCalled
  simp only [Bool.false_and, Bool.false_eq_true, if_false, Option.toList, t6]
  refine wpAny_bind (wpAny_attempt (wpAny_holding (wpAny_bind (wpAny_pure (wpAny_call ?_)))))
  refine codeAny_call_builtin F.excAttr_ValueError.ga.plain F.entry_bexc_ga ?_
  have k1 : builtinKind "BaseException.__getattribute__" = some .slot := by decide +kernel
  have k2 : splitId "BaseException.__getattribute__" = some ("BaseException", "__getattribute__") := by decide +kernel
  have k3 := F.args_bexc_ga (.ref e) (.str "__class__" tt)
  simp only [checkBuiltinCall, k1, k2]
  refine wpAny_bind (?_ : wpAny _ _ (isInstance (.ref e) (.type "BaseException")) _ _ _)
  have k4 : PySem.W.Looks (model prog w) hh (isInstance (.ref e) (.type "BaseException")) true := t0.andThen t3
  refine k4.at ?_
  simp only [Bool.not_true, Bool.false_eq_true, if_false, List.cons_append, List.nil_append]
  refine wpAny_of_eq (show _ = pure () from k3) ?_
  refine wpAny_bind (wpAny_pure (wpAny_bind (wpAny_pure (wpAny_bind (t0.at (wpAny_bind (t4.at ?_)))))))
  show wpAny _ _ (holding [.builtin "object.__class__"] (call (.builtin "getset_descriptor.__get__") [.builtin "object.__class__", .ref e, .ref C]) >>= ret) _ _ _
  refine wpAny_bind (wpAny_holding (wpAny_call (exc_get X c t0 (wpAny_pure ?_))))
  exact PySem.W.handed_on rfl (wpAny_pure hq)
theorem kitx_exc {a : Addr} (c : ExC K C) (hc : (PySem.W.clsIn K C).isSome = true) : PySem.W.KitX K (.ref a) (.ref C) (fun h => ∃ o, h.get? a = some o ∧ o.cls = .ref C) where
  ty := fun M h _ p => by
    obtain ⟨o, p1, p2⟩ := p
    exact p2 ▸ (PySem.W.Looks.ld p1).andThen .now
  it := fun _ _ X _ => by
    obtain ⟨cd, z⟩ := Option.isSome_iff_exists.mp hc
    unfold PySem.W.clsIn at z
    split at z
    · rename_i y
      intro A' Q' E' s' k q
      unfold isType loadHead
      exact wpAny_bind (wpAny_loadPart (k _ _ (X _ _ y)) (wpAny_pure q))
    · cases z
  ne := fun h tp dd its n sl X p => by
    obtain ⟨cd, z⟩ := Option.isSome_iff_exists.mp hc
    refine Bool.eq_false_iff.mpr fun q => ?_
    obtain rfl : C = tp := Value.ref.inj (beq_iff_eq.mp q)
    unfold PySem.W.clsIn at z
    split at z
    · rename_i y
      cases (X _ _ y).symm.trans p
    · cases z
  ca := fun X p k => by
    obtain ⟨o, p1, p2⟩ := p
    exact exc_class X c (fun M => p2 ▸ (PySem.W.Looks.ld p1).andThen .now) k
end
end L2

namespace L2
open PySem PySem.Spec PyProof.Rows
/-! ### try, except C as n -/
section
variable {X : Cx} {pins : List (Addr × Obj)} {σ : St} {H : Hp} {s : Shared}
/-- the records at cs (an exception's) have changed, frames' slots too -/
theorem Inv.land {h2 : Heap} {cs : List Addr} (hex : X.ex = []) (I : Inv X pins σ H s) (hcs : ∀ b ∈ cs, H b = none ∧ X.s₀.heap.get? b = none) (hcp : ∀ b ∈ cs, ∀ p ∈ X.pn ++ pins, p.1 ≠ b)
    (hB : ∀ b o, s.heap.get? b = some o → b ∉ frs X.stack → b ∉ cs → h2.get? b = some o) (sm : s.heap.UpToSlots h2) : Inv X pins σ H { s with heap := h2 } := by
  have hF : ∀ b o, s.heap.get? b = some o → b ∈ frs X.stack → ∃ sl, h2.get? b = some { o with slots := sl } := fun b o q hb => by
    obtain ⟨o', q', nf⟩ := I.stackFields hb
    rw [q] at q'; cases q'
    exact sm b o q nf
  obtain ⟨r1, r2⟩ := I.behind hex hcs hB hF
  have ce : ∀ c v, s.heap.IsCell c v → h2.IsCell c v := fun c v ⟨o, ho, hd⟩ => by
    obtain ⟨sl, q⟩ := sm c o ho fun vs z => by rw [hd] at z; cases z
    exact ⟨_, q, hd⟩
  refine ⟨I.ok, I.os, I.bare, by rw [hex]; exact r1, ?_, fun x c e => ?_, I.free, I.freeC, fun p hp => ?_, r2, I.len⟩
  · obtain ⟨m, hn, hl⟩ := I.loc
    refine ⟨m, sm.ns hn, fun i x v e1 e2 e3 => ?_⟩
    obtain ⟨u, r, l⟩ := hl i x v e1 e2 e3
    refine ⟨u, r, ?_⟩
    rcases l with l | ⟨k, c, e, z⟩
    · exact .inl l
    · exact .inr ⟨k, c, e, ce c _ z⟩
  · obtain ⟨v, z⟩ := I.cell x c e
    exact ⟨v, ce c v z⟩
  · obtain ⟨e, n, ne, nf, d⟩ := I.pin p hp
    exact ⟨hB _ _ e (fun z => (List.mem_cons.mp (I.stkSub _ z)).elim ne nf) fun z => hcp _ z p hp rfl, n, ne, nf, d⟩
/-- an object that is there is tracked from here on -/
theorem Inv.track {e : Addr} {φ : Heap → Prop} (I : Inv X pins σ H s) (hn : H e = none) (h0 : X.s₀.heap.get? e = none) (hex : X.ex = []) (hL : e ≠ X.env.locals) (hc : ∀ x c, X.env.cells.lookup x = some c → c ≠ e) (hp : ∀ p ∈ X.pn ++ pins, p.1 ≠ e)
    (ok : φ s.heap ∧ (∃ o, s.heap.get? e = some o) ∧ ∀ h1 h2 : Heap, φ h1 → (∀ o, h1.get? e = some o → h2.get? e = some o) → φ h2) : Inv X pins σ (upd H e (.ext φ)) s := by
  have ne : ∀ b u, H b = some u → b ≠ e := fun b u q z => by rw [z, hn] at q; cases q
  have B := I.base
  refine ⟨I.ok, I.os, I.bare, ⟨B.keep, B.slot, fun b o q n x => ?_, B.there, fun b xs q => ?_, fun b o u q => ?_, fun b ps q => ?_⟩, I.loc, I.cell, ?_, fun x c q => ?_, fun p q => ?_, fun b u q => ?_, I.len⟩
  · rw [upd_ne fun z => by rw [z, h0] at q; cases q]; exact B.free b o q n x
  · have z := B.tups b xs q
    rw [upd_ne (ne _ _ z)]; exact z
  · have z := B.frzs b o u q
    rw [upd_ne (ne _ _ z)]; exact z
  · obtain ⟨m, z⟩ := B.tbls b ps q
    exact ⟨m, by rw [upd_ne (ne _ _ z)]; exact z⟩
  · rw [upd_ne (Ne.symm hL)]; exact I.free
  · rw [upd_ne (hc x c q)]; exact I.freeC x c q
  · obtain ⟨z1, z2, z3, z4, z5⟩ := I.pin p q
    exact ⟨z1, by rw [upd_ne (hp p q)]; exact z2, z3, z4, z5⟩
  · by_cases hb : b = e
    · subst hb
      rw [upd_same] at q; cases q
      exact ok
    · rw [upd_ne hb] at q
      exact (I.hok b u q).stay (fun c v _ z => z) (fun c z => by rw [upd_ne (ne _ _ z)]; exact z) fun c xs z => by rw [upd_ne (ne _ _ z)]; exact z
/-- a name goes -/
theorem Inv.forget {h' : Heap} {t' : Nat} {i : Nat} {n : Str} {m : Str → Option Value} {v : Option Value} (I : Inv X pins σ H s) (hN : X.N.Nodup) (hi : X.N[i]? = some n)
    (hm : s.heap.Ns X.env.locals m) (hl : ∀ (i : Nat) (x : Str) (v : V), X.N[i]? = some x → σ[i]? = some (some v) → Vis X.env.scope x → ∃ u, RelV v u ∧ Look X.env s.heap m x u)
    (hn : h'.Ns X.env.locals (fun x => if x = n then v else m x)) (hs : Heap.SameBut X.env.locals s.heap h') : Inv X pins (σ.set i none) H { s with heap := h', toks := t' } := by
  have nL : ∀ b o, X.s₀.heap.get? b = some o → b ≠ X.env.locals := fun b o e => Nat.ne_of_lt (Nat.lt_of_lt_of_le (Heap.lt_size e) I.ok.above)
  have hiσ : i < σ.length := by rw [I.len]; exact (List.getElem?_eq_some_iff.mp hi).1
  refine ⟨I.ok, I.os, I.bare, ⟨fun b o e n hb hx => (hs.2 b (nL b o e)).trans (I.base.keep b o e n hb hx), fun b o e n hb hx => ?_, I.base.free, fun b o e hx => ?_, I.base.tups, I.base.frzs, I.base.tbls⟩, ⟨_, hn, fun j y w e1 e2 e3 => ?_⟩, fun y c e => ?_, I.free, I.freeC, fun p hp => ?_, fun b u e => ?_, by simpa using I.len⟩
  · obtain ⟨sl, e1⟩ := I.base.slot b o e n hb hx
    exact ⟨sl, (hs.2 b (nL b o e)).trans e1⟩
  · obtain ⟨o', e1⟩ := I.base.there b o e hx
    exact ⟨o', (hs.2 b (nL b o e)).trans e1⟩
  · by_cases hj : j = i
    · subst hj
      rw [List.getElem?_set_self hiσ] at e2
      cases e2
    · rw [List.getElem?_set_ne (Ne.symm hj)] at e2
      obtain ⟨u, r, q⟩ := hl j y w e1 e2 e3
      refine ⟨u, r, ?_⟩
      rcases q with ⟨k, e⟩ | ⟨k, c, e, z⟩
      · have : y ≠ n := fun e => hj (nodup_ix hN e1 (e ▸ hi))
        exact .inl ⟨k, by simp [this, e]⟩
      · exact .inr ⟨k, c, e, z.sameBut hs (I.cne y c e)⟩
  · obtain ⟨w', z⟩ := I.cell y c e
    exact ⟨w', z.sameBut hs (I.cne y c e)⟩
  · obtain ⟨e, n, ne, nf, d⟩ := I.pin p hp
    exact ⟨(hs.2 p.1 ne).trans e, n, ne, nf, d⟩
  · refine (I.hok b u e).stay (fun c w' hc q => (hs.2 c ?_).trans q) (fun _ q => q) fun _ _ q => q
    rintro rfl
    rcases hc with rfl | hc
    · rw [I.free] at e; cases e
    · rw [I.free] at hc; cases hc
end
/-- what stands where an exception lies that is held by a name -/
def exO (e C : Addr) : HO := .ext fun h => ∃ o, h.get? e = some o ∧ o.cls = .ref C
/-- the context of an except suite -/
abbrev Cx.sub (X : Cx) (e : Addr) : Cx := { X with A := X.A.mark (some (.ref e)), calm := false, xe := fun _ _ => False }
section
variable {X : Cx} {pins : List (Addr × Obj)} {σ : St} {H : Hp} {s : Shared} {e : Addr}
theorem Inv.toSub (I : Inv X pins σ H s) : Inv (X.sub e) pins σ H s :=
  ⟨⟨I.ok.mod, I.ok.kind, I.ok.glob, I.ok.blt, I.ok.above, I.ok.inj, I.ok.has, I.ok.cab, (fun z => nomatch z), I.ok.frames, I.ok.stk, I.ok.exf, I.ok.bs, I.ok.bsz, I.ok.noex, I.ok.exfs, I.ok.funs, I.ok.frf⟩, I.os, I.bare, I.base, I.loc, I.cell, I.free, I.freeC, I.pin, I.hok, I.len⟩
theorem Inv.ofSub {J : Inv X pins σ H s} {σ' : St} {H' : Hp} {s' : Shared} (I : Inv (X.sub e) pins σ' H' s') : Inv X pins σ' H' s' :=
  ⟨J.ok, I.os, I.bare, I.base, I.loc, I.cell, I.free, I.freeC, I.pin, I.hok, I.len⟩
end
abbrev EXK := Value → St → Hp → Prop
/-- an exception that came from a call -/
def PX (X : Cx) (pins : List (Addr × Obj)) (EX : EXK) : Value → Shared → Prop := fun ev s' => ∃ e cls σ s1 H1 H', ev = .ref e ∧ Inv X pins σ H1 s1 ∧ Inv X pins σ H' s' ∧ XF s1.heap s'.heap H' e cls ∧ EX cls σ H'
def PEX (X : Cx) (ex : Expr) (t : EXK → TE) : Prop :=
  ∀ (pins : List (Addr × Obj)) (s : Shared) (σ : St) (H : Hp) (Q : VK) (EX : EXK), Inv X pins σ H s → t EX σ H Q → wpAny (model X.prog X.w) X.A (eval ex X.env) (EP X pins σ Q) (PX X pins EX) s
def PSX (X : Cx) (st : Stmt) (t : EXK → TS) : Prop :=
  ∀ (pins : List (Addr × Obj)) (s : Shared) (σ : St) (H : Hp) (D : Ends) (EX : EXK), Inv X pins σ H s → t EX D σ H → wpAny (model X.prog X.w) X.A (exec st X.env) (SP X pins D) (PX X pins EX) s
section
variable {X : Cx} {k : Nat} {f : Addr} {fd : FuncData} {ps : List Str} {sp : Sp} {x : Str} {p pos : Pos} {e : Expr} {es : List Expr} {t : TA}
def tCallX (sp : Sp) (ta : TA) (EX : EXK) : TE := fun σ H Q => ta σ H fun vs H1 => sp (vs ++ []) H1 Q fun cls _ H2 => EX cls σ H2
theorem pex_call (F : FnOk X.prog X.w X.K X.mg X.base (CX1 X.prog X.w) k f fd ps sp) (hr : Room k X.A) (hg : Gl X x) (hm : X.mg x = some (.ref f)) (hk : PySem.W.keepIn X.K (.ref f) = true) (hb : Binds X.K fd ps []) 
    (ha : PA X.nox (e :: es) t) (hdb : (x == ("__debug__" : Str)) = false := by decide) (he : starEach (e :: es) X.env = (false, eval e X.env) :: starEach es X.env := by rfl) (hpl : (backTo pos (starEach es X.env)).any (·.1) = false := by rfl) :
    PEX X (.Call (.Name x p) (e :: es) [] pos) (tCallX sp t) := by
  intro pins s σ H Q EX I h
  refine wpAny_Call_Name_kw (ld_glob I hg hm ?_ hdb)
  refine PySem.W.callWith_K (h₀ := X.base) I.ok.mod.kin hk (wpAny_mono (ha pos pins s σ H _ (I.wish _) h) (fun us s1 ⟨vs, H1, I1', r, q⟩ => ⟨I1'.kIn, ?_⟩) fun _ _ z => False.elim z) he hpl
  have I1 := I1'.unwish
  have r2 : Vals (vs ++ []) (us ++ []) := r.append .nil
  have hl : (us ++ []).length = ps.length := by rw [← r2.length]; exact F.len _ _ _ _ q
  refine wpAny_call (codeAny_mono (F.run X.A X.stack s1 H1 ⟨us, []⟩ (us ++ []) (vs ++ []) _ _ hr I1.env0 (hb s1 us I1.kIn hl) r2 q) fun r s' hq => ?_)
  cases r with
  | error ev =>
    obtain ⟨e, cls, H', rfl, os, bare, un, hok, xf, hE⟩ := hq
    exact ⟨e, cls, σ, s1, H1, H', rfl, I1, I1.call' (ch := []) os un hok bare (fun b z => nomatch z), xf, hE⟩
  | ok fl =>
    cases fl with
    | ret u => exact I1.after hq
    | next => exact False.elim hq
    | brk => exact False.elim hq
    | cont => exact False.elim hq
end
section
variable {X : Cx} {ex : Expr} {tx : EXK → TE} {pos p1 : Pos} {i : Nat} {y : Str}
def tDropX (tx : EXK → TE) (EX : EXK) : TS := fun D σ H => tx EX σ H fun _ H1 => D.nx σ H1
theorem psx_expr (he : PEX X ex tx) (hs : swapsWith ex none pos.line X.env = pure false := by rfl) : PSX X (.Expr ex pos) (tDropX tx) := by
  intro pins s σ H D EX I h
  exact wpAny_Expr_any (thn (he pins s σ H _ EX I h) fun v s1 ⟨x, H1, I1, r1, q1⟩ => ⟨σ, H1, I1, q1⟩) I.quiet hs
def tRetX (tx : EXK → TE) (EX : EXK) : TS := fun D σ H => tx EX σ H D.rt
theorem psx_ret (he : PEX X ex tx) : PSX X (.Return (some ex) pos) (tRetX tx) := by
  intro pins s σ H D EX I h
  exact wpAny_Return_some (thn (he pins s σ H _ EX I h) fun v s1 ⟨x, H1, I1, r1, q1⟩ => ⟨x, σ, H1, I1, r1, q1⟩)
def tAsgX (tx : EXK → TE) (i : Nat) (EX : EXK) : TS := fun D σ H => tx EX σ H fun v H1 => D.nx (σ.set i (some v)) H1
theorem psx_set {pos' : Pos} (hN : X.N.Nodup) (hi : X.N[i]? = some y) (hx : Loc X.env.scope y) (he : PEX X ex tx) (hs : swapsWith ex (some (.Name y pos')) pos.line X.env = pure false := by rfl) (hf : X.fn y = true ∨ X.env.scope.names.lookup y = some .local := by first | exact .inl rfl | exact .inr rfl | assumption) :
    PSX X (.Assign [.Name y pos'] ex pos) (tAsgX tx i) := by
  intro pins s σ H D EX I h
  refine wpAny_Assign_Name (thn (he pins s σ H _ EX I h) fun v s1 ⟨x, H1, I1, r1, q1⟩ => ?_) hs
  exact store_ok I1 hN hi hx r1 (fun s2 I2 => ⟨_, H1, I2, q1⟩) hf
end
/-- all that a class must have so that its exceptions are looked at -/
structure ExK (K : PySem.W.Frag) (C : Addr) : Prop extends ExC K C where
  has : (PySem.W.clsIn K C).isSome = true
/-- the ends of an except suite: the name goes -/
def endT (i : Nat) (D : Ends) : Ends := { nx := fun σ H => D.nx (σ.set i none) H, rt := D.rt, bk := fun σ H => D.bk (σ.set i none) H, ct := fun σ H => D.ct (σ.set i none) H }
def tTry (K : PySem.W.Frag) (tb : EXK → TS) (C0 : Addr) (i : Nat) (th : TS) : TS := fun D σ H => tb (fun cls σ1 H1 => ∃ C, cls = .ref C ∧ ExK K C ∧ PySem.W.exmOne K (.ref C) (.ref C0) = some true ∧
  ∀ e, H1 e = none → th (endT i D) (σ1.set i (some (.ref e))) (upd H1 e (exO e C))) D σ H
section
variable {X : Cx} {st b₀ : Stmt} {suite : List Stmt} {tb : EXK → TS} {th : TS} {c n : Str} {C0 : Addr} {i : Nat} {np hpos pos : Pos}
theorem ps_try (hst : X.stack = X.env :: X.outer ∧ X.env.frame = some X.env.locals) (hex : X.ex = []) (hN : X.N.Nodup) (hb : PSX X st tb) (hg : Gl X c) (hm : X.mg c = some (.ref C0)) (hi : X.N[i]? = some n) (hl : X.env.scope.names.lookup n = some .local)
    (hs : ∀ e, PSs (X.sub e) (b₀ :: suite) th) (hdb : (c == ("__debug__" : Str)) = false := by decide) :
    PS X (.Try [st] [.ExceptHandler (some (.Name c np)) (some n) (b₀ :: suite) hpos] [] [] pos) (tTry X.K tb C0 i th) := by
  intro pins s σ H D I h
  refine wpAny_Try_except (wpAny_execs_cons (wpAny_mono (hb pins s σ H D _ I h) (fun f s1 q => ?_) fun ev s1 q => ?_))
  · cases f with
    | next => exact wpAny_execs_nil (wpAny_execs_nil q)
    | ret v => exact q
    | brk => exact q
    | cont => exact q
  obtain ⟨e, cls, σ1, s0, H0, H1, rfl, I0, I1, xf, C, rfl, ek, hx, hth⟩ := q
  obtain ⟨oe, vs, a0, T, oT, ts, h1, h2, h3, h4, h5, h6, h7, h8, h9, h10, h11, h12⟩ := xf
  have fr : s1.heap.FunFrames (PySem.W.hideAll s1.heap (frs X.stack ++ [e, T])) (X.env :: X.outer) := by
    have q := PySem.W.funFrames_hide (as := frs X.stack ++ [e, T]) I1.stack fun env he a ha => List.mem_append_left _ (List.mem_filterMap.mpr ⟨env, he, ha⟩)
    rw [hst.1] at q ⊢
    exact q
  have two : ∀ b ∈ [e, T], s0.heap.get? b = none ∧ H1 b = none := fun b z => by
    have z' : b = e ∨ b = T := by simpa using z
    rcases z' with rfl | rfl
    · exact ⟨h9, h11⟩
    · exact ⟨h10, h12⟩
  have hcs : ∀ b ∈ [e, T], H1 b = none ∧ X.s₀.heap.get? b = none := fun b z => ⟨(two b z).2, none_back (I0.there0 hex) (two b z).1⟩
  have hcp : ∀ b ∈ [e, T], ∀ p ∈ X.pn ++ pins, p.1 ≠ b := fun b z p hp q => by
    have := (I0.pin p hp).1
    rw [q, (two b z).1] at this; cases this
  refine wpAny_looks_onW (base := PySem.W.hideAll s1.heap (frs X.stack ++ [e, T])) (a0 := a0) (cls := .ref C) (by rw [I1.ok.frames, hst.1]) hst.2
    ⟨fun b o q => PySem.W.of_hideAll _ q, PySem.W.hideAll_none _ (List.mem_append_right _ (by simp)), fr, oe, vs, T, oT, ts, h1, h2, h3, h4, PySem.W.hideAll_none _ (List.mem_append_right _ (by simp)), h5, h6, h7, h8⟩ fun g4 held4 sm4 => ?_
  refine wpAny_landsW held4 fun g5 fly5 sm5 => ?_
  have hB : ∀ {g : Heap}, (PySem.W.hideAll s1.heap (frs X.stack ++ [e, T])).StaysIn g → ∀ b o, s1.heap.get? b = some o → b ∉ frs X.stack → b ∉ [e, T] → g.get? b = some o :=
    fun {g} k b o q n1 n2 => k b o (PySem.W.hideAll_get _ q fun z => (List.mem_append.mp z).elim n1 n2)
  have I5 : Inv X pins σ1 H1 { s1 with heap := g5 } := I1.land hex hcs hcp (hB fly5.1) (sm4.trans sm5)
  have K5 := I5.kIn
  refine wpAny_handleBy_cons (codeAny_handlers_test ?_) (by intro q; cases q)
  refine ld_glob (X := X.sub e) (I5.toSub (e := e)) hg hm ?_ hdb
  have ty5 : PySem.W.Looks (model X.prog X.w) g5 (typeOf (.ref e)) (.ref C) := by
    obtain ⟨o, p1, p2⟩ := fly5.there
    exact p2 ▸ (PySem.W.Looks.ld p1).andThen .now
  refine (PySem.W.exm_one K5 ty5 hx).here ?_
  refine codeAny_handlers_suite_as ?_
  refine lands_againW fly5 fun g6 fly6 sm6 => ?_
  have I6 : Inv X pins σ1 H1 { s1 with heap := g6 } := I1.land hex hcs hcp (hB fly6.1) ((sm4.trans sm5).trans sm6)
  have neL : e ≠ X.env.locals := fun z => by
    obtain ⟨m, ⟨o, _, _, ho, _⟩, _⟩ := I0.loc
    rw [← z, h9] at ho; cases ho
  have neC : ∀ x c, X.env.cells.lookup x = some c → c ≠ e := fun x c q z => by
    obtain ⟨v, o, ho, _⟩ := I0.cell x c q
    rw [z, h9] at ho; cases ho
  obtain ⟨o6, p6, q6⟩ := fly6.there
  have I7 : Inv X pins σ1 (upd H1 e (exO e C)) { s1 with heap := g6 } := I6.track h11 (hcs e (by simp)).2 hex neL neC (hcp e (by simp))
    ⟨⟨o6, p6, q6⟩, ⟨o6, p6⟩, fun a b ⟨o, z1, z2⟩ k => ⟨o, k o z1, z2⟩⟩
  refine store_ok (X := X) (v := .ref e) I7 hN hi (.inl hl) rfl (fun s8 I8 => ?_) (.inr hl)
  refine wpAny_mono (hs e pins s8 _ _ _ I8.toSub (hth e h11)) (fun f s9 q => ?_) fun _ _ z => False.elim z
  have hcls : (X.env.scope.kind == .class || (X.env.scope.kind == .module && X.env.locals != X.env.globals)) = false := by rw [I.ok.kind]; rfl
  have go : ∀ {σ9 : St} {H9 : Hp} {R : Shared → Prop}, Inv (X.sub e) pins σ9 H9 s9 → (∀ s', Inv X pins (σ9.set i none) H9 s' → R s') →
      wpAny (model X.prog X.w) X.A (do bindName X.env n .none; unbindBehindTheSuite X.env n hpos) (fun _ s3 => R s3) X.xe s9 := fun {σ9 H9 R} J k => by
    have J' : Inv X pins σ9 H9 s9 := Inv.ofSub (J := I) J
    obtain ⟨m, hm9, hl9⟩ := J'.loc
    exact wpAny_nameGoes_keeps (Q := fun _ s3 => R s3) hl hm9 hcls fun h' v a b => k _ (J'.forget hN hi hm9 hl9 a b)
  cases f with
  | next =>
    obtain ⟨σ9, H9, J, z⟩ := q
    exact go (R := fun s3 => SP X pins D .next s3) J fun s' J' => ⟨_, _, J', z⟩
  | brk =>
    obtain ⟨σ9, H9, J, z⟩ := q
    exact go (R := fun s3 => SP X pins D .brk s3) J fun s' J' => ⟨_, _, J', z⟩
  | cont =>
    obtain ⟨σ9, H9, J, z⟩ := q
    exact go (R := fun s3 => SP X pins D .cont s3) J fun s' J' => ⟨_, _, J', z⟩
  | ret u =>
    obtain ⟨v, σ9, H9, J, r, z⟩ := q
    exact go (R := fun s3 => SP X pins D (.ret u) s3) J fun s' J' => ⟨v, _, _, J', r, z⟩
end
end L2

namespace L2
open PySem PySem.Spec PyProof.Rows
/-! ### isinstance of an exception -/
def clsV : V → Option Value
  | .ty T => some (.type T)
  | .ref D => some (.ref D)
  | _ => none
abbrev cIsx (K : PySem.W.Frag) : RC := fun xs H Q => ∃ a C c cv b, xs = [.ref a, c] ∧ H a = some (exO a C) ∧ ExK K C ∧ clsV c = some cv ∧ PySem.W.kitOne K (.ref C) cv = some b ∧ Q (.bl b) H
abbrev cIsxT (K : PySem.W.Frag) : RC := fun xs H Q => ∃ a C p, ∃ cs : List Addr, ∃ b, xs = [.ref a, .ref p] ∧ H a = some (exO a C) ∧ ExK K C ∧ H p = some (.tup (cs.map V.ref)) ∧ PySem.W.kitAny K (.ref C) (cs.map Value.ref) = some b ∧ Q (.bl b) H
theorem vals_refs : ∀ {cs : List Addr} {us : List Value}, Vals (cs.map V.ref) us → us = cs.map Value.ref
  | [], _, .nil => rfl
  | c :: r, _, .cons h t => by rw [vals_refs t]; cases h; rfl
section
variable {X : Cx}
theorem exO_at {P : Program} {w : World} {H : Hp} {h : Heap} {a C : Addr} (k : HOk P w H h) (e : H a = some (exO a C)) : ∃ o, h.get? a = some o ∧ o.cls = .ref C := (k a _ e).1
theorem call_isx : CallR X (.builtin "isinstance") (cIsx X.K) := by
  intro pins s σ H xs us Q I r h
  obtain ⟨a, C, c, cv, b, rfl, ha, ek, hc, hk, q⟩ := h
  obtain ⟨u, w', rfl, r1, r2⟩ := vals2 r
  cases r1
  have e2 : w' = cv := by
    cases c <;> simp only [clsV, Option.some.injEq, reduceCtorEq] at hc
    · subst hc; exact r2
    · subst hc; exact r2
  subst e2
  exact PySem.W.kia_one (kitx_exc ek.toExC ek.has) I.kIn (exO_at I.hok ha) hk (fun z => nomatch z) fun tk => ⟨.bl b, H, I.tok _, rfl, q⟩
theorem call_isxT : CallR X (.builtin "isinstance") (cIsxT X.K) := by
  intro pins s σ H xs us Q I r h
  obtain ⟨a, C, p, cs, b, rfl, ha, ek, hp, hk, q⟩ := h
  obtain ⟨u, w', rfl, r1, r2⟩ := vals2 r
  cases r1
  cases r2
  obtain ⟨_, its, rv, o, o1, o2, n, o3⟩ := (show ObjOk X.prog X.w H s.heap p (.tup (cs.map V.ref)) from I.hok p _ hp)
  obtain rfl := vals_refs rv
  obtain ⟨oc, od, oda, osl⟩ := o
  obtain rfl : oc = .type "tuple" := o2
  obtain rfl : oda = .seq (cs.map Value.ref).toArray n := o3
  exact PySem.W.kia_tup (kitx_exc ek.toExC ek.has) I.kIn (exO_at I.hok ha) o1 hk (fun z => nomatch z) fun tk => ⟨.bl b, H, I.tok _, rfl, q⟩
end
/-! ### defs over CX1 -/
theorem pass10 {P : Program} {w : World} {X : Cx} : Passes (CX1 P w) X E0 := fun _ _ _ _ _ _ _ h => by
  obtain ⟨_, _, _, _, _, _, _, _, _, z⟩ := h
  exact z.elim
section
variable {P : Program} {w : World} {K : PySem.W.Frag} {mg : Str → Option Value} {base : Heap}
/-- a def that lets exceptions out -/
theorem Fun.ok1 {x qual : Str} {st : Stmt} {f : Addr} {fd : FuncData} {N ps : List Str} {k : Nat} {sp : Sp} (F : Fun K x qual st f fd) (S : FnScope N ps (defScope st)) (len : ∀ vs H Q E, sp vs H Q E → vs.length = ps.length)
    (hbody : ∀ (cdv : Value) (A : Around) (outer : List Env) (s : Shared) (H : Hp) (vs : List V) (Q : VK) (E : XK), Room k (A.deeper (envOfC qual (defScope st) s.heap.objs.size f cdv)) → sp vs H Q E →
      ∃ t, PSs (cxOf (CX1 P w) P w K mg base N qual (defScope st) f cdv A outer s H E) (defBody st) t ∧ t { nx := fun _ H' => Q .non H', rt := Q } (start N vs) H) : FnOk P w K mg base (CX1 P w) (k + 1) f fd ps sp := by
  obtain ⟨oc, od, kV, doc, pm, an, cdv, ct, osl, rfl, lk, hcd⟩ := F.ex
  exact fn_of lk hcd S len fun A outer s H vs Q E hr hsp => hbody cdv A outer s H vs Q E hr hsp
/-- a def out of which none comes -/
theorem Fun.ok0 {x qual : Str} {st : Stmt} {f : Addr} {fd : FuncData} {N ps : List Str} {k : Nat} {sp : Sp} (F : Fun K x qual st f fd) (S : FnScope N ps (defScope st)) (len : ∀ vs H Q E, sp vs H Q E → vs.length = ps.length)
    (hbody : ∀ (cdv : Value) (A : Around) (outer : List Env) (s : Shared) (H : Hp) (vs : List V) (Q : VK) (E : XK), Room k (A.deeper (envOfC qual (defScope st) s.heap.objs.size f cdv)) → sp vs H Q E →
      ∃ t, PSs (cxOf (CX1 P w) P w K mg base N qual (defScope st) f cdv A outer s H E).nox (defBody st) t ∧ t { nx := fun _ H' => Q .non H', rt := Q } (start N vs) H) : FnOk P w K mg base (CX1 P w) (k + 1) f fd ps sp :=
  F.ok1 S len fun cdv A outer s H vs Q E hr h => let ⟨t, a, b⟩ := hbody cdv A outer s H vs Q E hr h; ⟨t, a.nox, b⟩
end
theorem walk_ofX {l : PySem.W.OpenLaw} {n k : Nat} {q : Program} {loose : List Str} {XP : (Str → Option Value) → Heap → Prop} {YP : World → Heap → Prop} {d : DefRec} {K : Params → PySem.W.Frag} {sp : PySem.W.Frag → Sp} {x : Str}
    (hn : l.most = some n) (hn2 : n ≤ sizeLine) (hdf : d.params.defaults = []) (hr : Room k callerA)
    (hY : ∀ (w : World) (h : Heap), YP w h → (K w.params).In h)
    (F : ∀ (w : World) (mg : Str → Option Value) (fa : Addr) (h : Heap), (K w.params).In h → h.Ns mainGlobals mg → mg d.name = some (.ref fa) →
      ∃ fd : FuncData, (∀ (s : Shared) (u : Value), BindsTo s fd ⟨[u], []⟩ [(x, u)]) ∧
        ∀ base : Heap, (K w.params).In base → base.Ns mainGlobals mg → FnOk l.prog w (K w.params) mg base (CX1 l.prog w) k fa fd [x] (sp (K w.params)))
    (hsp : ∀ (K : PySem.W.Frag) (H : Hp) (a : Addr) (ns : List Int), ns.length ≤ n → Only H → SqL K H a (ns.map V.int) → sp K [.ref a] H (fun v _ => v = .bl true) fun _ _ _ => False) :
    PySem.W.WalkO q loose XP YP l.row.toRowW d [] (fun f vs => PySem.call f vs) :=
  walk_of (K := K) (CX := fun w => CX1 l.prog w) (sp := fun w => sp (K w.params)) hn hn2 hdf hr hY F (fun w H a ns h1 h2 h3 => hsp (K w.params) H a ns h1 h2 h3) fun _ _ _ _ _ z => by
    obtain ⟨_, _, _, _, _, _, _, _, _, y⟩ := z
    exact y
end L2

namespace L2
open PySem
/-! ### loops, as they stand behind the unfolding of their readings -/
section
variable {σ : St} {H : Hp} {nx : St → Hp → Prop} {B : V → St → Hp → (St → Hp → Prop) → Prop}
theorem loop_range {lo : Int} {n : Nat} (Pv : Nat → St → Hp → Prop) (h0 : Pv 0 σ H) (hs : ∀ i σ H, i < n → Pv i σ H → B (.int (lo + i)) σ H (Pv (i + 1))) (hd : ∀ σ H, Pv n σ H → nx σ H) :
    ∃ W : Nat → Nat → St → Hp → Prop, (∃ m, W 0 m σ H) ∧ ∀ i m σ H, W i m σ H → ((Itr lo n).stop i H ∧ nx σ H) ∨ ((Itr lo n).go i H ∧ ∃ N : St → Hp → Prop, (∀ σ' H', N σ' H' → ∃ m', m' < m ∧ W (i + 1) m' σ' H') ∧ ∀ x H', (Itr lo n).yld i H x H' → B x σ H' N) := by
  refine ⟨fun i m σ H => m = n - i ∧ i ≤ n ∧ Pv i σ H, ⟨n, by simp, Nat.zero_le _, h0⟩, ?_⟩
  rintro i m σ H ⟨rfl, hi, p⟩
  by_cases hlt : i < n
  · refine .inr ⟨hlt, Pv (i + 1), fun σ' H' p' => ⟨n - (i + 1), by omega, rfl, hlt, p'⟩, ?_⟩
    rintro x H' ⟨rfl, rfl⟩
    exact hs i σ _ hlt p
  · obtain rfl : i = n := by omega
    exact .inl ⟨Nat.le_refl _, hd σ H p⟩
theorem loop_list {K : PySem.W.Frag} {a : Addr} (xs : List V) (Pv : Nat → St → Hp → Prop) (h0 : Pv 0 σ H) (hl : ∀ i σ H, Pv i σ H → SqL K H a xs) (hs : ∀ i x σ H, xs[i]? = some x → Pv i σ H → B x σ H (Pv (i + 1))) (hd : ∀ σ H, Pv xs.length σ H → nx σ H) :
    ∃ W : Nat → Nat → St → Hp → Prop, (∃ m, W 0 m σ H) ∧ ∀ i m σ H, W i m σ H → ((Itl K a).stop i H ∧ nx σ H) ∨ ((Itl K a).go i H ∧ ∃ N : St → Hp → Prop, (∀ σ' H', N σ' H' → ∃ m', m' < m ∧ W (i + 1) m' σ' H') ∧ ∀ x H', (Itl K a).yld i H x H' → B x σ H' N) := by
  refine ⟨fun i m σ H => m = xs.length - i ∧ i ≤ xs.length ∧ Pv i σ H, ⟨xs.length, by simp, Nat.zero_le _, h0⟩, ?_⟩
  rintro i m σ H ⟨rfl, hi, p⟩
  have q := hl i σ H p
  by_cases hlt : i < xs.length
  · refine .inr ⟨⟨xs, xs[i], q, by simp [hlt]⟩, Pv (i + 1), fun σ' H' p' => ⟨xs.length - (i + 1), by omega, rfl, hlt, p'⟩, ?_⟩
    rintro x H' ⟨rfl, y⟩
    exact hs i x σ _ (y xs q) p
  · obtain rfl : i = xs.length := by omega
    exact .inl ⟨⟨xs, q, Nat.le_refl _⟩, hd σ H p⟩
theorem loop_tup {K : PySem.W.Frag} {a : Addr} (xs : List V) (Pv : Nat → St → Hp → Prop) (h0 : Pv 0 σ H) (hl : ∀ i σ H, Pv i σ H → SqT K H a xs) (hs : ∀ i x σ H, xs[i]? = some x → Pv i σ H → B x σ H (Pv (i + 1))) (hd : ∀ σ H, Pv xs.length σ H → nx σ H) :
    ∃ W : Nat → Nat → St → Hp → Prop, (∃ m, W 0 m σ H) ∧ ∀ i m σ H, W i m σ H → ((Itt K a).stop i H ∧ nx σ H) ∨ ((Itt K a).go i H ∧ ∃ N : St → Hp → Prop, (∀ σ' H', N σ' H' → ∃ m', m' < m ∧ W (i + 1) m' σ' H') ∧ ∀ x H', (Itt K a).yld i H x H' → B x σ H' N) := by
  refine ⟨fun i m σ H => m = xs.length - i ∧ i ≤ xs.length ∧ Pv i σ H, ⟨xs.length, by simp, Nat.zero_le _, h0⟩, ?_⟩
  rintro i m σ H ⟨rfl, hi, p⟩
  have q := hl i σ H p
  by_cases hlt : i < xs.length
  · refine .inr ⟨⟨xs, xs[i], q, by simp [hlt]⟩, Pv (i + 1), fun σ' H' p' => ⟨xs.length - (i + 1), by omega, rfl, hlt, p'⟩, ?_⟩
    rintro x H' ⟨rfl, y⟩
    exact hs i x σ _ (y xs q) p
  · obtain rfl : i = xs.length := by omega
    exact .inl ⟨⟨xs, q, Nat.le_refl _⟩, hd σ H p⟩
theorem loop_str {z : Str} (Pv : Nat → St → Hp → Prop) (h0 : Pv 0 σ H) (hs : ∀ i c σ H, z.cps[i]? = some c → Pv i σ H → B (.str ⟨#[c]⟩) σ H (Pv (i + 1))) (hd : ∀ σ H, Pv z.cps.size σ H → nx σ H) :
    ∃ W : Nat → Nat → St → Hp → Prop, (∃ m, W 0 m σ H) ∧ ∀ i m σ H, W i m σ H → ((Its z).stop i H ∧ nx σ H) ∨ ((Its z).go i H ∧ ∃ N : St → Hp → Prop, (∀ σ' H', N σ' H' → ∃ m', m' < m ∧ W (i + 1) m' σ' H') ∧ ∀ x H', (Its z).yld i H x H' → B x σ H' N) := by
  refine ⟨fun i m σ H => m = z.cps.size - i ∧ i ≤ z.cps.size ∧ Pv i σ H, ⟨z.cps.size, by simp, Nat.zero_le _, h0⟩, ?_⟩
  rintro i m σ H ⟨rfl, hi, p⟩
  by_cases hlt : i < z.cps.size
  · refine .inr ⟨hlt, Pv (i + 1), fun σ' H' p' => ⟨z.cps.size - (i + 1), by omega, rfl, hlt, p'⟩, ?_⟩
    rintro x H' ⟨rfl, c, hc, rfl⟩
    exact hs i c σ _ hc p
  · obtain rfl : i = z.cps.size := by omega
    exact .inl ⟨Nat.le_refl _, hd σ H p⟩
end
/-- a comprehension over anything that yields n items, the i-th with G i; each turn tells a value with R i, and leaves what is tracked; no test -/
theorem comp_gen {J : It} {D : Addr} {τ₀ : St} {H1 : Hp} {Q : Hp → Prop} {B : V → St → Hp → (V → St → Hp → Prop) → (St → Hp → Prop) → Prop} (n : Nat) (hn : n ≤ 1000000) (C : St → Prop) (R : Nat → V → Prop) (hC : C τ₀)
    (go : ∀ i H, Same H1 H → i < n → J.go i H) (stop : ∀ H, Same H1 H → J.stop n H) (hD : H1 D = none)
    (hs : ∀ i x τ H H', C τ → Same H1 H → i < n → J.yld i H x H' → B x τ H' (fun v τ' H4 => C τ' ∧ R i v ∧ Same H H4) (fun _ _ => False))
    (hd : ∀ ys H, ys.length = n → (∀ i v, ys[i]? = some v → R i v) → Same H1 H → H D = some (.lst ys) → Q H) :
    ∃ W : Nat → Nat → List V → St → Hp → Prop, (∃ m, W 0 m [] τ₀ (upd H1 D (.lst []))) ∧ ∀ i m ys τ H, W i m ys τ H → H D = some (.lst ys) ∧
    ((J.stop i H ∧ Q H) ∨ (J.go i H ∧ ys.length < sizeLine ∧ ∃ N : V → St → Hp → Prop,
      (∀ v τ' H', N v τ' H' → H' D = some (.lst ys) ∧ ∃ m', m' < m ∧ W (i + 1) m' (ys ++ [v]) τ' (upd H' D (.lst (ys ++ [v])))) ∧ ∃ Nf : St → Hp → Prop, (∀ τ' H', Nf τ' H' → ∃ m', m' < m ∧ W (i + 1) m' ys τ' H') ∧
      ∀ x H', J.yld i H x H' → B x τ H' N Nf)) := by
  have ext : ∀ {H : Hp} {o : HO}, Same H1 H → Same H1 (upd H D o) := fun {H o} h b u e => by
    rw [upd_ne (ne_of_none e hD)]; exact h b u e
  refine ⟨fun i m ys τ H => m = n - i ∧ i ≤ n ∧ ys.length = i ∧ (∀ j v, ys[j]? = some v → R j v) ∧ Same H1 H ∧ H D = some (.lst ys) ∧ C τ, ⟨n, by simp, Nat.zero_le _, rfl, by simp, ext (Same.refl _), upd_same, hC⟩, ?_⟩
  rintro i m ys τ H ⟨rfl, hi, hl, hR, hS, hy, hc⟩
  refine ⟨hy, ?_⟩
  by_cases hlt : i < n
  · refine .inr ⟨go i H hS hlt, Nat.lt_of_le_of_lt (by omega : ys.length ≤ 1000000) (by decide), (fun v τ' H4 => C τ' ∧ R i v ∧ Same H H4), ?_, (fun _ _ => False), fun _ _ z => z.elim, fun x H' y => hs i x τ H H' hc hS hlt y⟩
    rintro v τ' H4 ⟨c4, r4, s4⟩
    refine ⟨s4 _ _ hy, n - (i + 1), by omega, rfl, hlt, by simp [hl], fun j u hj => ?_, ext (hS.trans s4), upd_same, c4⟩
    rcases Nat.lt_trichotomy j ys.length with h | h | h
    · exact hR j u (by rwa [List.getElem?_append_left h] at hj)
    · subst h
      simp at hj
      subst hj
      rw [hl]; exact r4
    · rw [List.getElem?_eq_none (by simp; omega)] at hj; cases hj
  · obtain rfl : i = n := by omega
    exact .inl ⟨stop H hS, hd ys H hl hR hS hy⟩
/-! ### texts as lists of codes -/
theorem sIx_eq (n d : Nat) (v : Int) : max (0 : Int) (min (if v < 0 then v + n else v) n) = ((HT.sIx n d (some v) : Nat) : Int) := by
  show _ = (((if v < 0 then (v + (n : Int)).toNat else min v.toNat n) : Nat) : Int)
  by_cases hv : v < 0
  · simp only [if_pos hv]; omega
  · simp only [if_neg hv]; omega
theorem rng_one (a b : Nat) : sliceRange (a : Int) (b : Int) 1 = (List.range (b - a)).map fun k => a + k := by
  simp only [sliceRange, show ((1 : Int) > 0) = True from by simp, if_true]
  by_cases hlt : (a : Int) < b
  · have e3 : (((b : Int) - a + 1 - 1) / 1).toNat = b - a := by rw [Int.ediv_one]; omega
    simp only [hlt, if_true, e3]
    refine List.map_congr_left fun k _ => ?_
    omega
  · have : b - a = 0 := by omega
    simp [hlt, this]
theorem slice_ix (lo hi : Option Int) (n : Nat) : Builtin.Str.strSliceIndices lo hi 1 n = (List.range (HT.sIx n n hi - HT.sIx n 0 lo)).map fun k => HT.sIx n 0 lo + k := by
  rw [← rng_one]
  unfold Builtin.Str.strSliceIndices
  simp only [show ((1 : Int) > 0) = True from by simp, if_true]
  cases lo with
  | none =>
    cases hi with
    | none => rfl
    | some v => simp only [sIx_eq n n v]; rfl
  | some u =>
    cases hi with
    | none => simp only [sIx_eq n 0 u]; rfl
    | some v => simp only [sIx_eq n n v, sIx_eq n 0 u]
theorem slice_cps (x : Str) (lo hi : Option Int) : (Txt.slice x lo hi).cps.toList = (x.cps.toList.drop (HT.sIx x.length 0 lo)).take (HT.sIx x.length x.length hi - HT.sIx x.length 0 lo) := by
  have hb := HT.sIx_le x.length x.length (Nat.le_refl _) hi
  have hn : x.cps.toList.length = x.length := by simp [Str.length]
  unfold Txt.slice
  rw [slice_ix]
  split
  · rename_i h
    have h' : HT.sIx x.length x.length hi - HT.sIx x.length 0 lo = x.length := by simpa using h
    have e0 : HT.sIx x.length 0 lo = 0 ∨ x.length = 0 := by omega
    rcases e0 with e0 | e0
    · rw [e0, List.drop_zero, List.take_of_length_le]
      omega
    · rw [List.eq_nil_of_length_eq_zero (by omega : x.cps.toList.length = 0)]; simp
  · by_cases hab : HT.sIx x.length 0 lo ≤ HT.sIx x.length x.length hi
    · have h := StrLaws.picks x.cps.toList (HT.sIx x.length x.length hi - HT.sIx x.length 0 lo) (HT.sIx x.length 0 lo) (by omega)
      simpa using h
    · have : HT.sIx x.length x.length hi - HT.sIx x.length 0 lo = 0 := by omega
      rw [this]; simp
theorem slice_from (x : Str) (k : Nat) : (Txt.slice x (some (k : Int)) none).cps.toList = x.cps.toList.drop k := by
  rw [slice_cps, HT.sIx_none, HT.sIx_nat]
  have hn : x.cps.toList.length = x.length := by simp [Str.length]
  by_cases h : k ≤ x.length
  · rw [Nat.min_eq_left h, List.take_of_length_le (by rw [List.length_drop]; omega)]
  · rw [List.drop_eq_nil_of_le (by omega : x.cps.toList.length ≤ k), Nat.min_eq_right (by omega), List.drop_eq_nil_of_le (by omega)]; simp
theorem slice_to (x : Str) (k : Nat) : (Txt.slice x none (some (k : Int))).cps.toList = x.cps.toList.take k := by
  rw [slice_cps, HT.sIx_none, HT.sIx_nat, List.drop_zero, Nat.sub_zero]
  have hn : x.cps.toList.length = x.length := by simp [Str.length]
  by_cases h : k ≤ x.length
  · rw [Nat.min_eq_left h]
  · rw [Nat.min_eq_right (by omega), List.take_of_length_le (by omega), List.take_of_length_le (by omega)]
theorem str_ext {x y : Str} (h : x.cps.toList = y.cps.toList) : x = y := by
  obtain ⟨a⟩ := x
  obtain ⟨b⟩ := y
  have : a = b := Array.toList_inj.mp h
  rw [this]
theorem cps_app (x y : Str) : (x ++ y).cps.toList = x.cps.toList ++ y.cps.toList := by
  show (x.cps ++ y.cps).toList = _
  simp
theorem starts_eq (x y : Str) : (0 + y.length ≤ x.length && Builtin.Str.subAt x y 0) = (x.cps.toList.take y.length == y.cps.toList) := by
  rw [StrLaws.subAt_eq, List.drop_zero]
  have hn : x.cps.toList.length = x.length := by simp [Str.length]
  have hm : y.cps.toList.length = y.length := by simp [Str.length]
  by_cases h : y.length ≤ x.length
  · simp [h]
  · have e : (x.cps.toList.take y.length == y.cps.toList) = false := by
      rw [beq_eq_false_iff_ne]
      intro e
      have := congrArg List.length e
      rw [List.length_take] at this
      omega
    rw [e]; simp
/-! ### numerals -/
open PySem.NumText in
section
def numS (w : Int) : Str := Str.ofString (toString w)
def dg (m : Nat) : List Nat := (Nat.toDigits 10 m).map Char.toNat
theorem dg_small {m : Nat} (h : m < 10) : dg m = [48 + m] := by
  unfold dg
  rw [Nat.toDigits_of_lt_base h]
  have : ∀ d : Nat, d < 10 → (Nat.digitChar d).toNat = 48 + d := by decide
  simp [this m h]
theorem dg_step {m : Nat} (h : 10 ≤ m) : dg m = dg (m / 10) ++ [48 + m % 10] := by
  have hm : m % 10 < 10 := Nat.mod_lt m (by decide)
  have t : Nat.toDigits 10 (m / 10) ++ Nat.toDigits 10 (m % 10) = Nat.toDigits 10 (10 * (m / 10) + m % 10) := Nat.toDigits_append_toDigits (by decide) (by omega) hm
  rw [Nat.div_add_mod] at t
  rw [← dg_small hm]
  unfold dg
  rw [← t, List.map_append]
theorem dg_all (m : Nat) : AllDigits (dg m) := by
  induction m using Nat.strongRecOn with
  | _ m ih =>
    by_cases h : m < 10
    · rw [dg_small h]
      intro c hc
      have e : c = 48 + m := by simpa using hc
      omega
    · rw [dg_step (by omega)]
      intro c hc
      rcases List.mem_append.mp hc with hc | hc
      · exact ih (m / 10) (by omega) c hc
      · have e : c = 48 + m % 10 := by simpa using hc
        omega
theorem dg_ne (m : Nat) : dg m ≠ [] := by
  by_cases h : m < 10
  · rw [dg_small h]; simp
  · rw [dg_step (by omega)]; simp
theorem dg_val (m : Nat) : digitsVal (dg m) = m := by
  induction m using Nat.strongRecOn with
  | _ m ih =>
    by_cases h : m < 10
    · rw [dg_small h]
      show 0 * 10 + (48 + m - 48) = m
      omega
    · rw [dg_step (by omega), digitsVal_snoc, ih (m / 10) (by omega)]
      omega
theorem dg_len : ∀ (k m : Nat), m < 10 ^ (k + 1) → (dg m).length ≤ k + 1
  | 0, m, h => by rw [dg_small (by simpa using h)]; simp
  | k + 1, m, h => by
    by_cases hm : m < 10
    · rw [dg_small hm]; simp
    · rw [dg_step (by omega), List.length_append]
      have := dg_len k (m / 10) (by rw [Nat.pow_succ] at h; omega)
      simp only [List.length_cons, List.length_nil]
      omega
theorem numS_nat (m : Nat) : (numS (m : Int)).cps.toList = dg m := by
  unfold numS
  rw [Str.ofString_eq_toList]
  show (Nat.repr m).toList.map Char.toNat = _
  rw [Nat.toList_repr]
  rfl
theorem numS_neg {m : Nat} (h : 0 < m) : (numS (-(m : Int))).cps.toList = 45 :: dg m := by
  obtain ⟨k, rfl⟩ : ∃ k, m = k + 1 := ⟨m - 1, by omega⟩
  have e : (-((k + 1 : Nat) : Int)) = Int.negSucc k := by omega
  rw [e]
  unfold numS
  rw [Str.ofString_eq_toList]
  show (("-" ++ Nat.repr (k + 1)) : String).toList.map Char.toNat = _
  rw [String.toList_append, List.map_append, Nat.toList_repr]
  rfl
theorem len_cps (x : Str) : x.length = x.cps.toList.length := by simp [Str.length]
theorem numS_len {w : Int} {k : Nat} (h : w.natAbs < 10 ^ (k + 1)) : (numS w).length ≤ k + 2 := by
  rw [len_cps]
  rcases Int.lt_or_le w 0 with h0 | h0
  · obtain ⟨m, rfl, hm⟩ : ∃ m : Nat, w = -(m : Int) ∧ 0 < m := ⟨w.natAbs, by omega, by omega⟩
    rw [numS_neg hm, List.length_cons]
    have := dg_len k m (by omega)
    omega
  · obtain ⟨m, rfl⟩ : ∃ m : Nat, w = (m : Int) := ⟨w.natAbs, by omega⟩
    rw [numS_nat]
    have := dg_len k m (by omega)
    omega
theorem numS_reads {w : Int} (h : w.natAbs < 10 ^ 100) : intText? (numS w) = some w := by
  have hl : (numS w).length ≤ 4300 := Nat.le_trans (numS_len (k := 99) h) (by decide)
  rcases Int.lt_or_le w 0 with h0 | h0
  · obtain ⟨m, rfl, hm⟩ : ∃ m : Nat, w = -(m : Int) ∧ 0 < m := ⟨w.natAbs, by omega, by omega⟩
    rw [intText_neg (numS_neg hm) (dg_all m) (dg_ne m) hl, dg_val]
  · obtain ⟨m, rfl⟩ : ∃ m : Nat, w = (m : Int) := ⟨w.natAbs, by omega⟩
    rw [intText_digits (by rw [numS_nat]; exact dg_all m) (by rw [numS_nat]; exact dg_ne m) hl, numS_nat, dg_val]
/-- the signs 0 to 9 -/
def inF (c : Nat) : Bool := !(Builtin.Str.occurrences "0123456789" ⟨#[c]⟩ 0 (Str.length "0123456789") 1).isEmpty
theorem inF_iff (c : Nat) : inF c = true ↔ 48 ≤ c ∧ c ≤ 57 := by
  unfold inF
  rw [StrLaws.found_one]
  have e : (Str.ofString "0123456789").cps.toList = [48, 49, 50, 51, 52, 53, 54, 55, 56, 57] := by decide +kernel
  rw [e]
  simp only [decide_eq_true_eq, List.mem_cons, List.not_mem_nil, or_false]
  omega
theorem inF_def (c : Nat) : (!(Builtin.Str.occurrences (Str.ofString "0123456789") ⟨#[c]⟩ 0 (Str.ofString "0123456789").length 1).isEmpty) = inF c := rfl
def isFig (x : Str) : Bool := !decide (x = "") && x.cps.toList.all inF
theorem isFig_iff (x : Str) : isFig x = true ↔ x.cps.toList ≠ [] ∧ AllDigits x.cps.toList := by
  unfold isFig
  rw [Bool.and_eq_true, Bool.not_eq_true', decide_eq_false_iff_not, List.all_eq_true]
  refine and_congr ⟨fun h e => h (str_ext (by rw [e]; decide +kernel)), fun h e => h (by rw [e]; decide +kernel)⟩ ?_
  exact forall_congr' fun c => forall_congr' fun _ => inF_iff c
def inW (i : Int) : Bool := decide (-1000000000000000000000000000000 ≤ i ∧ i ≤ 1000000000000000000000000000000)
/-- the text without its minus -/
def fpart (x : Str) : Str := if (x.cps.toList.take 1 == [45]) = true then Txt.slice x (some 1) none else x
theorem fpart_cps (x : Str) : (∃ cs, x.cps.toList = 45 :: cs ∧ (fpart x).cps.toList = cs) ∨ ((∀ cs, x.cps.toList ≠ 45 :: cs) ∧ fpart x = x) := by
  unfold fpart
  cases h : x.cps.toList with
  | nil => exact .inr ⟨(fun cs e => nomatch e), if_neg (by simp)⟩
  | cons c cs =>
    by_cases hc : c = 45
    · subst hc
      refine .inl ⟨cs, rfl, ?_⟩
      rw [if_pos (by simp)]
      have := slice_from x 1
      rw [h] at this
      exact this
    · refine .inr ⟨fun ds e => hc (List.cons.inj e).1, ?_⟩
      rw [if_neg (by simp [hc])]
def valOf (x : Str) : Int := (intText? x).getD 0
theorem int_of_fig {x : Str} (h : isFig (fpart x) = true) (hl : x.length ≤ 4300) : intText? x = some (valOf x) := by
  obtain ⟨h1, h2⟩ := (isFig_iff _).mp h
  unfold valOf
  rcases fpart_cps x with ⟨cs, e, ef⟩ | ⟨_, ef⟩
  · rw [ef] at h1 h2
    rw [intText_neg e h2 h1 hl]; rfl
  · rw [ef] at h1 h2
    rw [intText_digits h2 h1 hl]; rfl
def isNum (x : Str) : Bool := !(decide (31 < (fpart x).length) || !isFig (fpart x)) && (inW (valOf x) && decide (numS (valOf x) = x))
theorem fpart_len (x : Str) : x.length ≤ (fpart x).length + 1 := by
  rw [len_cps, len_cps]
  rcases fpart_cps x with ⟨cs, e, ef⟩ | ⟨_, ef⟩
  · rw [e, ef]; simp
  · rw [ef]; omega
theorem fpart_le (x : Str) : (fpart x).length ≤ x.length := by
  unfold fpart
  split
  · exact Txt.slice_le x _ _
  · exact Nat.le_refl _
theorem isNum_numS {w : Int} (h : inW w = true) : isNum (numS w) = true ∧ valOf (numS w) = w ∧ (numS w).length ≤ 40 := by
  have hw : -1000000000000000000000000000000 ≤ w ∧ w ≤ 1000000000000000000000000000000 := of_decide_eq_true h
  have hr := numS_reads (w := w) (Nat.lt_of_le_of_lt (by omega : w.natAbs ≤ 1000000000000000000000000000000) (by decide +kernel))
  have hv : valOf (numS w) = w := by unfold valOf; rw [hr]; rfl
  have hf : (fpart (numS w)).length ≤ 31 ∧ isFig (fpart (numS w)) = true := by
    rw [isFig_iff, len_cps]
    rcases Int.lt_or_le w 0 with h0 | h0
    · obtain ⟨m, rfl, hm⟩ : ∃ m : Nat, w = -(m : Int) ∧ 0 < m := ⟨w.natAbs, by omega, by omega⟩
      rcases fpart_cps (numS (-(m : Int))) with ⟨cs, e, ef⟩ | ⟨e, _⟩
      · rw [numS_neg hm] at e
        rw [ef, ← (List.cons.inj e).2]
        exact ⟨dg_len 30 m (by omega), dg_ne m, dg_all m⟩
      · exact absurd (numS_neg hm) (e _)
    · obtain ⟨m, rfl⟩ : ∃ m : Nat, w = (m : Int) := ⟨w.natAbs, by omega⟩
      rcases fpart_cps (numS (m : Int)) with ⟨cs, e, ef⟩ | ⟨_, ef⟩
      · have := dg_all m 45 (by rw [← numS_nat, e]; simp)
        omega
      · rw [ef, numS_nat]
        exact ⟨dg_len 30 m (by omega), dg_ne m, dg_all m⟩
  refine ⟨?_, hv, Nat.le_trans (fpart_len _) (by omega)⟩
  unfold isNum
  rw [hv, hf.2, h, decide_eq_false (by omega : ¬ 31 < (fpart (numS w)).length), decide_eq_true rfl]
  rfl
end
end L2

namespace L2
open PySem PySem.Spec PyProof.Rows
/-! ### more of texts -/
/-- where y lies in x -/
def findS (x y : Str) : Int := match Builtin.Str.occurrences x y 0 x.length 1 with | i :: _ => (i : Int) | [] => -1
abbrev r_mt_find : RM := fun x xs H Q => ∃ a b, x = .str a ∧ xs = [.str b] ∧ Q (.int (findS a b)) H
def joinS (sep : Str) : List Str → Str
  | [p] => p
  | l => Builtin.Str.glued sep l
def sumL (sep : Str) (ls : List Str) : Nat := ls.foldl (fun n p => n + p.length + sep.length) 0
abbrev r_mt_join (K : PySem.W.Frag) : RM := fun x xs H Q => ∃ sep a ls, x = .str sep ∧ xs = [.ref a] ∧ SqL K H a (ls.map V.str) ∧ sumL sep ls ≤ sizeLine ∧ Q (.str (joinS sep ls)) H
theorem sumL_eq (sep : Str) : ∀ (ls : List Str) (k : Nat), ls.foldl (fun n p => n + p.length + sep.length) k = k + (ls.map (·.length)).sum + ls.length * sep.length
  | [], k => by simp
  | p :: r, k => by
    rw [List.foldl_cons, sumL_eq sep r, List.map_cons, List.sum_cons, List.length_cons, Nat.add_mul, Nat.one_mul]
    omega
theorem joinS_len (sep : Str) (ls : List Str) : (joinS sep ls).length ≤ sumL sep ls := by
  unfold sumL
  rw [sumL_eq]
  have g : (Builtin.Str.glued sep ls).length ≤ 0 + (ls.map (·.length)).sum + ls.length * sep.length := by
    rw [size_glued]
    have : (ls.length - 1) * sep.length ≤ ls.length * sep.length := Nat.mul_le_mul_right _ (by omega)
    omega
  unfold joinS
  split
  · simp only [List.map_cons, List.map_nil, List.sum_cons, List.sum_nil, List.length_cons, List.length_nil]; omega
  · exact g
theorem join_cps (ls : List Str) : (joinS "" ls).cps.toList = (ls.map fun p => p.cps.toList).flatten := by
  have g : ∀ (r : List Str) (a : Array Nat), (r.foldl (fun acc p => acc ++ (Str.ofString "").cps ++ p.cps) a).toList = a.toList ++ (r.map fun p => p.cps.toList).flatten := by
    intro r
    induction r with
    | nil => intro a; simp
    | cons p r ih =>
      intro a
      have e : (Str.ofString "").cps = #[] := by decide +kernel
      rw [List.foldl_cons, ih, e]
      simp
  unfold joinS
  split
  · simp
  · unfold Builtin.Str.glued
    cases ls with
    | nil => decide +kernel
    | cons p r => exact g r p.cps
theorem vals_strs : ∀ {ls : List Str} {us : List Value}, Vals (ls.map V.str) us → ∃ l : List (Str × Tok), us = strValues l ∧ l.map (·.1) = ls
  | [], _, .nil => ⟨[], rfl, rfl⟩
  | x :: r, _, .cons h t => by
    obtain ⟨l, rfl, e⟩ := vals_strs t
    obtain ⟨k, rfl⟩ := h
    exact ⟨(x, k) :: l, rfl, by rw [List.map_cons, e]⟩
/-- x * n -/
def repS (x : Str) (n : Int) : Str := if n < 1 then Str.empty else if (n == 1 || x.length == 0) = true then x else ⟨(List.replicate n.toNat x.cps).foldl (· ++ ·) #[]⟩
abbrev rMulS : R2 := fun x y H Q => ∃ a n, x = .str a ∧ y = .int n ∧ (n < 1000000 ∧ -1000000 < n ∧ a.length * n.toNat ≤ 1000000) ∧ Q (.str (repS a n)) H
theorem rep_cps (a : Array Nat) : ∀ (k : Nat) (b : Array Nat), ((List.replicate k a).foldl (· ++ ·) b).toList = b.toList ++ (List.replicate k a.toList).flatten
  | 0, b => by simp
  | k + 1, b => by
    rw [List.replicate_succ, List.foldl_cons, rep_cps a k, List.replicate_succ]
    simp
theorem repS_cps (x : Str) (n : Int) : (repS x n).cps.toList = (List.replicate n.toNat x.cps.toList).flatten := by
  unfold repS
  split
  · have : n.toNat = 0 := by omega
    rw [this]; rfl
  · split
    · rename_i h1 h2
      rw [Bool.or_eq_true, beq_iff_eq, beq_iff_eq] at h2
      rcases h2 with rfl | h2
      · simp
      · have e : x.cps.toList = [] := List.eq_nil_of_length_eq_zero (by rw [← h2]; simp [Str.length])
        rw [e]
        simp
    · rw [rep_cps]; simp
theorem flat_len {α : Type} (a : List α) : ∀ k : Nat, (List.replicate k a).flatten.length = a.length * k
  | 0 => by simp
  | k + 1 => by rw [List.replicate_succ, List.flatten_cons, List.length_append, flat_len a k, Nat.mul_succ]; omega
theorem repS_len (x : Str) (n : Int) : (repS x n).length = x.length * n.toNat := by
  have e : ∀ y : Str, y.length = y.cps.toList.length := fun y => by simp [Str.length]
  rw [e, repS_cps, flat_len, ← e]
section
variable {X : Cx}
theorem mt_find : MtR X "str.find" r_mt_find := by
  intro pins s σ H x xs v us Q I rx rs h
  obtain ⟨a, b, rfl, rfl, q⟩ := h
  obtain ⟨t, rfl⟩ := rx
  obtain ⟨u, rfl, t', rfl⟩ := vals1 rs
  exact call_gives F.slot_str_find (typeIs_str s a t) F.entry_str_find (F.args_str_find_2 _ _) (gives_str_find a b t t') ⟨.int (findS a b), H, I.tok _, ⟨_, rfl⟩, q⟩
theorem mt_join : MtR X "str.join" (r_mt_join X.K) := by
  intro pins s σ H x xs v us Q I rx rs h
  obtain ⟨sep, a, ls, rfl, rfl, hq, hl, q⟩ := h
  obtain ⟨t, rfl⟩ := rx
  obtain ⟨u, rfl, r1⟩ := vals1 rs
  cases r1
  obtain ⟨its, rv, p, hz⟩ := I.list hq
  obtain ⟨l, rfl, e⟩ := vals_strs rv
  have tl : Builtin.Str.tooLong ((l.map (·.1)).toArray.foldl (· + ·.length + sep.length) 0) = false := by
    rw [e, List.foldl_toArray]
    unfold Builtin.Str.tooLong
    exact decide_eq_false (by unfold sumL at hl; omega)
  have jl := joinS_len sep ls
  refine call_meets F.slot_str_join (typeIs_str s sep t) F.entry_str_join (F.args_str_join_2 _ _) (meets_str_join_list sep t a l tl) ⟨p.isList, ?_⟩
  subst e
  match l, q, jl, hl with
  | [], q, jl, hl => exact ⟨Nat.le_trans jl hl, .str _, H, I.tok _, ⟨_, rfl⟩, q⟩
  | [p], q, jl, hl => exact ⟨.str p.1, H, I, ⟨_, rfl⟩, q⟩
  | p :: p' :: r, q, jl, hl => exact ⟨Nat.le_trans jl hl, .str _, H, I.tok _, ⟨_, rfl⟩, q⟩
theorem op_mul_str : OpR X (binaryOp .Mult) rMulS := by
  intro pins s σ H x y v u Q I rx ry h
  obtain ⟨a, n, rfl, rfl, ⟨h1, h2, h3⟩, q⟩ := h
  obtain ⟨t, rfl⟩ := rx
  obtain ⟨t', rfl⟩ := ry
  have hs : sizeLine = 16777216 := sizeLine_eq
  have ln := repS_len a n
  refine P.mul_str (by rw [decide_eq_false (by omega), decide_eq_false (by omega)]; rfl) (fun c1 c2 => ?_) (fun c1 c2 => ?_) ?_
  · have m : (a.length : Int) * n ≤ 1000000 := by
      have : ((a.length * n.toNat : Nat) : Int) ≤ 1000000 := by omega
      rw [Int.natCast_mul, Int.toNat_of_nonneg (by omega)] at this
      exact this
    intro c
    have c' : (2 ^ 63 - 1) / n < (a.length : Int) := c
    have := (Int.ediv_lt_iff_lt_mul (by omega)).mp c'
    omega
  · unfold Builtin.Str.tooLong
    exact decide_eq_false (by omega)
  · unfold repS at ln q
    split
    · rename_i c
      rw [if_pos c] at q
      exact ⟨by decide, .str _, H, I.tok _, ⟨_, rfl⟩, q⟩
    · rename_i c
      rw [if_neg c] at q ln
      split
      · rename_i c2
        rw [if_pos c2] at q
        exact ⟨.str a, H, I, ⟨_, rfl⟩, q⟩
      · rename_i c2
        rw [if_neg c2] at q ln
        exact ⟨by rw [ln]; omega, .str _, H, I.tok _, ⟨_, rfl⟩, q⟩
end
/-! ### signs that stay among the first 128 -/
theorem Asc.app {x y : Str} (h : Asc x) (h' : Asc y) : Asc (x ++ y) := fun c hc => by
  rw [cps_app] at hc
  exact (List.mem_append.mp hc).elim (h c) (h' c)
theorem Asc.sl {x : Str} (h : Asc x) (lo hi : Option Int) : Asc (Txt.slice x lo hi) := fun c hc => by
  rw [slice_cps] at hc
  exact h c (List.mem_of_mem_drop (List.mem_of_mem_take hc))
theorem Asc.rep {x : Str} (h : Asc x) (n : Int) : Asc (repS x n) := fun c hc => by
  rw [repS_cps] at hc
  obtain ⟨l, hl, hc⟩ := List.mem_flatten.mp hc
  rw [(List.mem_replicate.mp hl).2] at hc
  exact h c hc
theorem Asc.join {ls : List Str} (h : ∀ x ∈ ls, Asc x) : Asc (joinS "" ls) := fun c hc => by
  rw [join_cps] at hc
  obtain ⟨l, hl, hc⟩ := List.mem_flatten.mp hc
  obtain ⟨x, hx, rfl⟩ := List.mem_map.mp hl
  exact h x hx c hc
theorem Asc.num (w : Int) : Asc (numS w) := fun c hc => by
  have d : ∀ (m c : Nat), c ∈ dg m → c < 128 := fun m c h => by have := dg_all m c h; omega
  rcases Int.lt_or_le w 0 with h0 | h0
  · obtain ⟨m, rfl, hm⟩ : ∃ m : Nat, w = -(m : Int) ∧ 0 < m := ⟨w.natAbs, by omega, by omega⟩
    rw [numS_neg hm] at hc
    rcases List.mem_cons.mp hc with rfl | hc
    · decide
    · exact d m c hc
  · obtain ⟨m, rfl⟩ : ∃ m : Nat, w = (m : Int) := ⟨w.natAbs, by omega⟩
    rw [numS_nat] at hc
    exact d m c hc
theorem Asc.one {c : Nat} (h : c < 128) : Asc ⟨#[c]⟩ := fun d hd => by
  have e : d = c := by simpa using hd
  omega
theorem len_app (x y : Str) : (x ++ y).length = x.length + y.length := Str.length_append x y
end L2
namespace L2
open PySem PySem.Spec PyProof.Rows
/-! ### numerals, read sign by sign -/
section
open PySem.NumText
theorem dg_head : ∀ {v : Nat} {r : List Nat}, dg v = 48 :: r → v = 0 := by
  intro v
  induction v using Nat.strongRecOn with
  | _ v ih =>
    intro r h
    by_cases hv : v < 10
    · rw [dg_small hv] at h
      have := (List.cons.inj h).1
      omega
    · rw [dg_step (by omega)] at h
      cases e : dg (v / 10) with
      | nil => exact absurd e (dg_ne _)
      | cons a l =>
        rw [e] at h
        have ha : a = 48 := (List.cons.inj h).1
        subst ha
        have := ih (v / 10) (by omega) e
        omega
theorem dg_of : ∀ (n : Nat) {d : List Nat}, d.length = n → AllDigits d → d ≠ [] → d.head? ≠ some 48 → dg (digitsVal d) = d
  | 0, d, hn, _, h2, _ => absurd (List.eq_nil_of_length_eq_zero hn) h2
  | n + 1, d, hn, h1, h2, h3 => by
    obtain ⟨e, c, rfl⟩ : ∃ e c, d = e ++ [c] := ⟨d.dropLast, d.getLast h2, (List.dropLast_concat_getLast h2).symm⟩
    have hc := h1 c (by simp)
    rw [digitsVal_snoc]
    by_cases he : e = []
    · subst he
      show dg (0 * 10 + (c - 48)) = [c]
      rw [dg_small (by omega)]
      congr 1
      omega
    · have hh : e.head? ≠ some 48 := fun z => h3 (by rw [List.head?_append, z]; rfl)
      have ih := dg_of n (d := e) (by simpa using hn) (fun x hx => h1 x (List.mem_append_left _ hx)) he hh
      have h0 : digitsVal e ≠ 0 := fun z => by
        rw [z, dg_small (by decide)] at ih
        exact hh (by rw [← ih]; rfl)
      rw [dg_step (by omega)]
      have e1 : (digitsVal e * 10 + (c - 48)) / 10 = digitsVal e := by omega
      have e2 : 48 + (digitsVal e * 10 + (c - 48)) % 10 = c := by omega
      rw [e1, e2, ih]
def fig (x : Str) : List Nat := (fpart x).cps.toList
theorem zero_cps : (Str.ofString "0").cps.toList = [48] := by decide +kernel
theorem val_fig {x : Str} (hl : x.length ≤ 1000) (h1 : AllDigits (fig x)) (h2 : fig x ≠ []) : valOf x = if x = fpart x then (digitsVal (fig x) : Int) else -(digitsVal (fig x) : Int) := by
  unfold fig at *
  unfold valOf
  rcases fpart_cps x with ⟨cs, e, ef⟩ | ⟨_, ef⟩
  · rw [ef] at h1 h2
    rw [ef, intText_neg e h1 h2 (by omega), if_neg]
    · rfl
    · intro z
      have := congrArg (fun y : Str => y.cps.toList.length) z
      simp only [ef] at this
      rw [e, List.length_cons] at this
      omega
  · rw [ef] at h1 h2
    rw [ef, if_pos rfl, intText_digits h1 h2 (by omega)]
    rfl
theorem num_iff {x : Str} (hl : x.length ≤ 1000) : isNum x = true ↔ (fig x ≠ [] ∧ (fig x).length ≤ 31 ∧ AllDigits (fig x) ∧ ¬ ((fig x).head? = some 48 ∧ x ≠ "0") ∧ digitsVal (fig x) ≤ 1000000000000000000000000000000) := by
  have A : isNum x = true ↔ ((fig x).length ≤ 31 ∧ (fig x ≠ [] ∧ AllDigits (fig x)) ∧ inW (valOf x) = true ∧ numS (valOf x) = x) := by
    unfold isNum fig
    rw [Bool.and_eq_true, Bool.and_eq_true, Bool.not_eq_true', Bool.or_eq_false_iff, decide_eq_false_iff_not, decide_eq_true_eq, Bool.not_eq_false', isFig_iff, len_cps, Nat.not_lt, and_assoc]
  rw [A]
  have key : fig x ≠ [] → AllDigits (fig x) → ((inW (valOf x) = true ∧ numS (valOf x) = x) ↔ (¬ ((fig x).head? = some 48 ∧ x ≠ "0") ∧ digitsVal (fig x) ≤ 1000000000000000000000000000000)) := fun h2 h1 => by
    have hv := val_fig hl h1 h2
    have dgo : (fig x).head? ≠ some 48 → dg (digitsVal (fig x)) = fig x := dg_of _ rfl h1 h2
    have dgb : dg (digitsVal (fig x)) = fig x → (fig x).head? = some 48 → fig x = [48] := fun e z => by
      cases hd : fig x with
      | nil => exact absurd hd h2
      | cons a r =>
        rw [hd] at z
        have : a = 48 := by simpa using z
        subst this
        have v0 := dg_head (e.trans hd)
        rw [v0, dg_small (by decide)] at e
        rw [← hd, ← e]
    have inw : inW (valOf x) = true ↔ digitsVal (fig x) ≤ 1000000000000000000000000000000 := by
      unfold inW
      rw [decide_eq_true_eq, hv]
      split <;> omega
    rw [inw, and_comm]
    refine and_congr_left fun _ => ?_
    unfold fig at *
    rcases fpart_cps x with ⟨cs, e, ef⟩ | ⟨_, ef⟩
    · have hne : ¬ x = fpart x := fun z => by
        have := congrArg (fun y : Str => y.cps.toList.length) z
        simp only [ef] at this
        rw [e, List.length_cons] at this
        omega
      rw [hv, if_neg hne]
      rw [ef] at dgo dgb ⊢
      have x0 : x ≠ "0" := fun z => by
        have := e.symm.trans ((congrArg (fun y : Str => y.cps.toList) z).trans zero_cps)
        cases this
      constructor
      · intro h z
        by_cases v0 : digitsVal cs = 0
        · rw [v0] at h
          have := (numS_nat 0).symm.trans (congrArg (fun y : Str => y.cps.toList) h)
          rw [e, dg_small (by decide)] at this
          cases this
        · have := (numS_neg (m := digitsVal cs) (by omega)).symm.trans (congrArg (fun y : Str => y.cps.toList) h)
          rw [e] at this
          have q := (List.cons.inj this).2
          have q2 := dgb q z.1
          rw [q2] at v0
          exact v0 rfl
      · intro h
        have hh : cs.head? ≠ some 48 := fun z => h ⟨z, x0⟩
        have q := dgo hh
        have v0 : digitsVal cs ≠ 0 := fun z => by
          rw [z, dg_small (by decide)] at q
          exact hh (by rw [← q]; rfl)
        exact str_ext (by rw [numS_neg (by omega), e, q])
    · rw [hv, if_pos ef.symm]
      rw [ef] at dgo dgb ⊢
      constructor
      · intro h z
        have := (numS_nat _).symm.trans (congrArg (fun y : Str => y.cps.toList) h)
        have q := dgb this z.1
        exact z.2 (str_ext (q.trans zero_cps.symm))
      · intro h
        refine str_ext ?_
        rw [numS_nat]
        by_cases z : x.cps.toList.head? = some 48
        · have : x = "0" := Classical.not_not.mp fun w => h ⟨z, w⟩
          rw [this, zero_cps]
          decide +kernel
        · exact dgo z
  constructor
  · rintro ⟨a, ⟨b, c⟩, d⟩
    have := (key b c).mp d
    exact ⟨b, a, c, this.1, this.2⟩
  · rintro ⟨b, a, c, d, e⟩
    exact ⟨a, ⟨b, c⟩, (key b c).mpr ⟨d, e⟩⟩
theorem find_fig {c : Nat} (h : 48 ≤ c ∧ c ≤ 57) : findS (Str.ofString "0123456789") ⟨#[c]⟩ = ((c - 48 : Nat) : Int) := by
  have : c = 48 ∨ c = 49 ∨ c = 50 ∨ c = 51 ∨ c = 52 ∨ c = 53 ∨ c = 54 ∨ c = 55 ∨ c = 56 ∨ c = 57 := by omega
  rcases this with rfl | rfl | rfl | rfl | rfl | rfl | rfl | rfl | rfl | rfl <;> decide +kernel
end
end L2

namespace L2
open PySem PySem.Spec PyProof.Rows
/-! ### floor division by any number but 0 -/
def CDivS (_ j : Int) : Prop := j ≠ 0 ∧ -big < j ∧ j < big
section
variable {X : Cx}
theorem op_fdivS : OpR X (binaryOp .FloorDiv) (rI CDivS fun i j => .int (i.fdiv j)) := opI fun i j _ _ _ _ _ hc q =>
  floordiv_int hc.1 q (.inl (PyProof.noPylong_of_log2 (Nat.lt_trans (log2_big (abs_big hc.2)) (by decide))))
abbrev cIntB : RC := fun xs H Q => ∃ b : Bool, xs = [.bl b] ∧ Q (.int (if b then 1 else 0)) H
theorem call_int_bl : CallR X (.type "int") cIntB := by
  intro pins s σ H xs us Q I r h
  obtain ⟨b, rfl, q⟩ := h
  obtain ⟨u, rfl, r1⟩ := vals1 r
  cases r1
  exact call_int_bool ⟨.int _, H, I.tok _, ⟨_, rfl⟩, q⟩
end
/-! ### == of lists and tuples of flat values -/
theorem hu64 {k : Nat} {A : Around} (r : Room k A) : A.units + 64 < cLine := by have := r.un; omega
def datV : V → PyData
  | .non => .none
  | .bl b => .bool b
  | .int i => .int i
  | .str x => .str x
  | _ => .none
def isFlat : V → Bool
  | .non => true
  | .bl _ => true
  | .int _ => true
  | .str x => PyData.strOk x
  | _ => false
theorem Asc.flat {x : Str} (h : Asc x) : isFlat (.str x) = true := by
  unfold isFlat PyData.strOk
  rw [Array.all_eq_true]
  intro i hi
  have := h x.cps[i] (by simp)
  exact decide_eq_true (by omega)
/-- no truth beside a whole number -/
def mixV : V → V → Bool
  | .bl _, .int _ => false
  | .int _, .bl _ => false
  | _, _ => true
def mixAll : List V → List V → Bool
  | x :: xs, y :: ys => mixV x y && mixAll xs ys
  | _, _ => true
theorem carried_of : ∀ {xs : List V} {us : List Value}, xs.all isFlat = true → Vals xs us → CarriedAll us (xs.map datV)
  | [], _, _, .nil => .nil
  | x :: r, _, h, .cons rx t => by
    rw [List.all_cons, Bool.and_eq_true] at h
    refine .cons ?_ (carried_of h.2 t)
    cases x with
    | non => cases rx; exact .none
    | bl b => cases rx; exact .bool b
    | int i => obtain ⟨t, rfl⟩ := rx; exact .int i t
    | str x => obtain ⟨t, rfl⟩ := rx; exact .str x t
    | byt b => exact absurd h.1 (by simp [isFlat])
    | flt b => exact absurd h.1 (by simp [isFlat])
    | ref a => exact absurd h.1 (by simp [isFlat])
    | ty n => exact absurd h.1 (by simp [isFlat])
theorem same_dat {x y : V} (hx : isFlat x = true) (hy : isFlat y = true) : PySem.Spec.same (datV x) (datV y) = decide (x = y) := by
  cases x <;> cases y <;> simp_all [isFlat, datV, PySem.Spec.same] <;> (rename_i a b; by_cases e : a = b <;> simp [e])
theorem sameAll_dat : ∀ {xs ys : List V}, xs.all isFlat = true → ys.all isFlat = true → PySem.Spec.sameAll (xs.map datV) (ys.map datV) = decide (xs = ys)
  | [], [], _, _ => by simp [PySem.Spec.sameAll]
  | [], _ :: _, _, _ => by simp [PySem.Spec.sameAll]
  | _ :: _, [], _, _ => by simp [PySem.Spec.sameAll]
  | x :: r, y :: t, hx, hy => by
    rw [List.all_cons, Bool.and_eq_true] at hx hy
    rw [List.map_cons, List.map_cons, PySem.Spec.sameAll, same_dat hx.1 hy.1, sameAll_dat hx.2 hy.2]
    by_cases a : x = y <;> by_cases b : r = t <;> simp [a, b]
theorem noMix_dat {x y : V} (hx : isFlat x = true) (hy : isFlat y = true) (h : mixV x y = true) : SeqAt.noMix (datV x) (datV y) = true := by
  cases x <;> cases y <;> simp_all [isFlat, datV, SeqAt.noMix, mixV]
theorem noMixAll_dat : ∀ {xs ys : List V}, xs.all isFlat = true → ys.all isFlat = true → mixAll xs ys = true → SeqAt.noMixAll (xs.map datV) (ys.map datV) = true
  | [], [], _, _, _ => by simp [SeqAt.noMixAll]
  | [], _ :: _, _, _, _ => by simp [SeqAt.noMixAll]
  | _ :: _, [], _, _, _ => by simp [SeqAt.noMixAll]
  | x :: r, y :: t, hx, hy, h => by
    rw [List.all_cons, Bool.and_eq_true] at hx hy
    rw [mixAll, Bool.and_eq_true] at h
    rw [List.map_cons, List.map_cons, SeqAt.noMixAll, noMix_dat hx.1 hy.1 h.1, noMixAll_dat hx.2 hy.2 h.2]
    rfl
theorem shaped_dat {xs : List V} (h : xs.all isFlat = true) : SeqAt.shaped (.list (xs.map datV)) = true ∧ SeqAt.shaped (.tuple (xs.map datV)) = true := by
  have a : ∀ x, isFlat x = true → (datV x).canLay0 = true ∧ (datV x).depth = 0 := fun x => by cases x <;> simp [datV, PyData.canLay0, PyData.depth, isFlat]
  have l : ∀ ys : List V, ys.all isFlat = true → PyData.canLayAll0 (ys.map datV) = true ∧ PyData.depthAll (ys.map datV) = 0 := by
    intro ys
    induction ys with
    | nil => exact fun _ => ⟨rfl, rfl⟩
    | cons y r ih =>
      intro h
      rw [List.all_cons, Bool.and_eq_true] at h
      exact ⟨by rw [List.map_cons, PyData.canLayAll0, (a y h.1).1, (ih h.2).1]; rfl, by rw [List.map_cons, PyData.depthAll, (a y h.1).2, (ih h.2).2]; rfl⟩
  exact ⟨by simp [SeqAt.shaped, PyData.canLay0, PyData.depth, (l xs h).1, (l xs h).2], by simp [SeqAt.shaped, PyData.canLay0, PyData.depth, (l xs h).1, (l xs h).2]⟩
abbrev rEqL (K : PySem.W.Frag) (neg : Bool) : R2 := fun x y H Q => ∃ a b xs ys, x = .ref a ∧ y = .ref b ∧ SqL K H a xs ∧ SqL K H b ys ∧ (xs.all isFlat = true ∧ ys.all isFlat = true ∧ mixAll xs ys = true) ∧ Q (.bl (if neg then !decide (xs = ys) else decide (xs = ys))) H
section
variable {X : Cx}
theorem op_eqL (hu : X.A.units + 64 < cLine) : OpR X (compareOp .Eq) (rEqL X.K false) := by
  intro pins s σ H x y v u Q I rx ry h
  obtain ⟨a, b, xs, ys, rfl, rfl, ha, hb, ⟨f1, f2, f3⟩, q⟩ := h
  cases rx
  cases ry
  obtain ⟨us, r1, p1, _⟩ := I.list ha
  obtain ⟨ws, r2, p2, _⟩ := I.list hb
  refine eq_dataH_same (reads_newData p1.isList (carried_of f1 r1)) (reads_newData p2.isList (carried_of f2 r2)) (shaped_dat f1).1 (shaped_dat f2).1 hu (by rw [SeqAt.noMix]; exact noMixAll_dat f1 f2 f3) ?_
  rw [PySem.Spec.same, sameAll_dat f1 f2]
  exact ⟨.bl _, H, I, rfl, q⟩
theorem op_neL (hu : X.A.units + 64 < cLine) : OpR X (compareOp .NotEq) (rEqL X.K true) := by
  intro pins s σ H x y v u Q I rx ry h
  obtain ⟨a, b, xs, ys, rfl, rfl, ha, hb, ⟨f1, f2, f3⟩, q⟩ := h
  cases rx
  cases ry
  obtain ⟨us, r1, p1, _⟩ := I.list ha
  obtain ⟨ws, r2, p2, _⟩ := I.list hb
  refine ne_dataH_same (reads_newData p1.isList (carried_of f1 r1)) (reads_newData p2.isList (carried_of f2 r2)) (shaped_dat f1).1 (shaped_dat f2).1 hu (by rw [SeqAt.noMix]; exact noMixAll_dat f1 f2 f3) ?_
  rw [PySem.Spec.same, sameAll_dat f1 f2]
  exact ⟨.bl _, H, I, rfl, q⟩
abbrev rEqNil (K : PySem.W.Frag) : R2 := fun x y H Q => ∃ a b xs, x = .ref a ∧ y = .ref b ∧ SqL K H a xs ∧ SqL K H b [] ∧ Q (.bl (decide (xs = []))) H
theorem op_eqNil (hu : X.A.units + 64 < cLine) : OpR X (compareOp .Eq) (rEqNil X.K) := by
  intro pins s σ H x y v u Q I rx ry h
  obtain ⟨a, b, xs, rfl, rfl, ha, hb, q⟩ := h
  by_cases e : xs = []
  · subst e
    exact op_eqL hu pins s σ H _ _ v u Q I rx ry ⟨a, b, [], [], rfl, rfl, ha, hb, ⟨rfl, rfl, rfl⟩, q⟩
  · cases rx
    cases ry
    obtain ⟨us, r1, p1, _⟩ := I.list ha
    obtain ⟨ws, r2, p2, _⟩ := I.list hb
    cases r2
    have e1 := r1.length
    have e2 : xs.length ≠ 0 := fun z => e (List.eq_nil_of_length_eq_zero z)
    refine PySem.SeqAt.eq_list_lengthsAt p1.isList p2.isList (by simp; intro z; rw [z] at e1; exact e2 e1) (by omega) ?_
    rw [decide_eq_false e] at q
    exact ⟨.bl false, H, I, rfl, q⟩
end
end L2

namespace L2
open PySem PySem.Spec PyProof.Rows
abbrev r_mt_append : RM := rAppend
abbrev r_mt_pop : RM := rPop
/-! ### terms, told with their parts ahead of their word -/
def jw : List V := [.str "plus", .str "minus", .str "times", .str "over", .str "rest", .str "under", .str "same"]
def isJ (v : V) : Bool := inV v jw
inductive Er where
  | nought | great | stuck
  deriving DecidableEq
def comeV (w : Str) (a b : Int) : Int :=
  if w = "plus" then a + b else if w = "minus" then a - b else if w = "times" then a * b else if w = "under" then (if a < b then 1 else 0) else if w = "same" then (if a = b then 1 else 0) else if w = "over" then a.fdiv b else a.fmod b
def isDiv (w : Str) : Prop := ¬ w = "plus" ∧ ¬ w = "minus" ∧ ¬ w = "times" ∧ ¬ w = "under" ∧ ¬ w = "same"
instance (w : Str) : Decidable (isDiv w) := by unfold isDiv; infer_instance
def joinE (w : Str) (a b : Int) : Except Er Int := if isDiv w ∧ b = 0 then .error .nought else if inW (comeV w a b) = true then .ok (comeV w a b) else .error .great
def wrth (kvs : List (Key × V)) : V → Int
  | .int i => i
  | .str x => (match valV kvs (.inr x) with | some (.int i) => i | _ => 0)
  | _ => 0
def stepE (kvs : List (Key × V)) (st : List Int) (v : V) : Except Er (List Int) :=
  if isJ v = true then (match v, st.reverse with | .str w, b :: a :: r => (match joinE w a b with | .ok c => .ok (r.reverse ++ [c]) | .error e => .error e) | _, _ => .error .stuck) else .ok (st ++ [wrth kvs v])
def runE (kvs : List (Key × V)) : List V → List Int → Except Er (List Int)
  | [], st => .ok st
  | v :: r, st => match stepE kvs st v with | .ok st' => runE kvs r st' | .error e => .error e
section
variable {kvs : List (Key × V)}
theorem runE_app : ∀ (p q : List V) (st : List Int), runE kvs (p ++ q) st = match runE kvs p st with | .ok st' => runE kvs q st' | .error e => .error e
  | [], q, st => rfl
  | v :: r, q, st => by
    show (match stepE kvs st v with | .ok st' => runE kvs (r ++ q) st' | .error e => .error e) = match (match stepE kvs st v with | .ok st' => runE kvs r st' | .error e => .error e) with | .ok st' => runE kvs q st' | .error e => .error e
    cases stepE kvs st v with
    | error e => rfl
    | ok st' => exact runE_app r q st'
def Good (kvs : List (Key × V)) (ps : List V) (r : Except Er Int) : Prop := (∀ st, runE kvs ps st = match r with | .ok i => .ok (st ++ [i]) | .error e => .error e) ∧ r ≠ .error .stuck
theorem good_leaf {v : V} (h : isJ v = false) : Good kvs [v] (.ok (wrth kvs v)) := by
  refine ⟨fun st => ?_, fun z => nomatch z⟩
  unfold runE stepE
  rw [h, if_neg (by decide)]
  rfl
def joinR (w : Str) (r1 r2 : Except Er Int) : Except Er Int := match r1 with | .error e => .error e | .ok a => match r2 with | .error e => .error e | .ok b => joinE w a b
theorem joinE_ns (w : Str) (a b : Int) : joinE w a b ≠ .error .stuck := by
  unfold joinE
  split
  · exact fun z => nomatch z
  · split <;> exact fun z => nomatch z
theorem good_join {w : Str} {p1 p2 : List V} {r1 r2 : Except Er Int} (hw : isJ (.str w) = true) (g1 : Good kvs p1 r1) (g2 : Good kvs p2 r2) : Good kvs (p1 ++ p2 ++ [.str w]) (joinR w r1 r2) := by
  refine ⟨fun st => ?_, ?_⟩
  · rw [runE_app, runE_app, g1.1]
    cases r1 with
    | error e => rfl
    | ok a =>
      show (match runE kvs p2 (st ++ [a]) with | .ok st' => runE kvs [.str w] st' | .error e => .error e) = _
      rw [g2.1]
      cases r2 with
      | error e => rfl
      | ok b =>
        show runE kvs [.str w] (st ++ [a] ++ [b]) = match joinE w a b with | .ok i => .ok (st ++ [i]) | .error e => .error e
        unfold runE stepE
        rw [hw, if_pos rfl]
        simp only [List.reverse_append, List.reverse_cons, List.reverse_nil, List.nil_append, List.cons_append, List.append_assoc]
        cases joinE w a b with
        | error e => rfl
        | ok c => simp [runE]
  · unfold joinR
    cases r1 with
    | error e => exact g1.2
    | ok a =>
      cases r2 with
      | error e => exact g2.2
      | ok b => exact joinE_ns w a b
/-- a run that breaks off stays so -/
theorem run_err {ps : List V} {i : Nat} {st : List Int} {e : Er} (h : runE kvs (ps.take i) st = .error e) : runE kvs ps st = .error e := by
  have := runE_app (kvs := kvs) (ps.take i) (ps.drop i) st
  rw [List.take_append_drop, h] at this
  exact this
theorem run_one {ps : List V} {i : Nat} {st st0 : List Int} {v : V} (h : runE kvs (ps.take i) st0 = .ok st) (hv : ps[i]? = some v) : runE kvs (ps.take (i + 1)) st0 = stepE kvs st v := by
  rw [List.take_add_one, hv]
  show runE kvs (ps.take i ++ [v]) st0 = _
  rw [runE_app, h]
  show (match stepE kvs st v with | .ok st' => runE kvs [] st' | .error e => .error e) = _
  cases stepE kvs st v <;> rfl
end
def okPart (v : V) : Prop := (∃ i, v = .int i ∧ inW i = true) ∨ ∃ x : Str, v = .str x ∧ x.length ≤ 1000
def SlotsOk (kvs : List (Key × V)) : Prop := ∀ k v, valV kvs k = some v → ∃ i, v = .int i ∧ inW i = true
theorem wrth_inW {kvs : List (Key × V)} (h : SlotsOk kvs) {v : V} (hv : okPart v) : inW (wrth kvs v) = true := by
  rcases hv with ⟨i, rfl, hi⟩ | ⟨x, rfl, _⟩
  · exact hi
  · show inW (match valV kvs (.inr x) with | some (.int i) => i | _ => 0) = true
    cases e : valV kvs (.inr x) with
    | none => rfl
    | some u =>
      obtain ⟨i, rfl, hi⟩ := h _ _ e
      exact hi
theorem inW_iff {i : Int} : inW i = true ↔ -1000000000000000000000000000000 ≤ i ∧ i ≤ 1000000000000000000000000000000 := by unfold inW; rw [decide_eq_true_eq]
theorem inW_big {i : Int} (h : inW i = true) : -big < i ∧ i < big := by
  have := inW_iff.mp h
  have hb : (1000000000000000000000000000001 : Int) < big := by decide +kernel
  omega
/-- floor division and rest stay within -/
theorem inW_fdiv {a b : Int} (ha : inW a = true) (hb : b ≠ 0) : inW (a.fdiv b) = true := by
  have := inW_iff.mp ha
  refine inW_iff.mpr ?_
  have h1 : (a.fdiv b).natAbs ≤ a.natAbs := by
    rcases Int.lt_or_gt_of_ne hb with h | h
    · rw [← Int.neg_fdiv_neg, Int.fdiv_eq_ediv_of_nonneg _ (by omega)]
      have := Int.natAbs_ediv_le_natAbs (-a) (-b)
      omega
    · rw [Int.fdiv_eq_ediv_of_nonneg _ (by omega)]
      exact Int.natAbs_ediv_le_natAbs a b
  omega
theorem inW_fmod {a b : Int} (h : inW b = true) (hb : b ≠ 0) : inW (a.fmod b) = true := by
  have := inW_iff.mp h
  refine inW_iff.mpr ?_
  rcases Int.lt_or_gt_of_ne hb with h | h
  · have e := Int.neg_fmod_neg a b
    have h1 := Int.fmod_nonneg_of_pos (-a) (b := -b) (by omega)
    have h2 := Int.fmod_lt_of_pos (-a) (b := -b) (by omega)
    omega
  · have h1 := Int.fmod_nonneg_of_pos a (b := b) h
    have h2 := Int.fmod_lt_of_pos a (b := b) h
    omega
theorem isJ_str (w : Str) : isJ (.str w) = true ↔ (w = "plus" ∨ w = "minus" ∨ w = "times" ∨ w = "over" ∨ w = "rest" ∨ w = "under" ∨ w = "same") := by
  unfold isJ inV jw
  simp only [List.any_cons, List.any_nil, eqV, Bool.or_false, Bool.or_eq_true, beq_iff_eq]
  constructor
  · rintro (h | h | h | h | h | h | h) <;> simp [← h]
  · rintro (h | h | h | h | h | h | h) <;> simp [h]
theorem isJ_int (i : Int) : isJ (.int i) = false := rfl
end L2

namespace L2
open PySem PySem.Spec PyProof.Rows
/-! ### for x in reversed(list) -/
def Itv (K : PySem.W.Frag) (a : Addr) (xs : List V) : It := ⟨fun i H => i < xs.length ∧ SqL K H a xs, fun i H x H' => H' = H ∧ xs[xs.length - 1 - i]? = some x, fun i _ => xs.length ≤ i⟩
theorem turn_rev {P : Program} {w : World} {K : PySem.W.Frag} {tg : Expr} (a it : Addr) (xs : List V) : Turn P w K tg (Itv K a xs) [it] it (fun i h => i ≤ xs.length ∧ h.IsRevIter it a ((xs.length : Int) - 1 - (i : Int))) where
  mem := by simp
  obj := fun i h st b hb => by
    have e : b = it := by simpa using hb
    subst e
    obtain ⟨_, o, e, c, d⟩ := st
    exact ⟨o, e, fun v z => by rw [d] at z; cases z⟩
  keep := fun i h h' st k => ⟨st.1, st.2.at fun o e => k it (by simp) o e⟩
  item := by
    intro X hP hw hK hc i pins s σ H E I hf st hg
    subst hP hw hK
    obtain ⟨hi, hq⟩ := hg
    obtain ⟨its, rv, p, hz⟩ := I.list hq
    have hl := rv.length
    obtain ⟨u, hu, ru⟩ := rv.get (i := xs.length - 1 - i) (x := xs[xs.length - 1 - i]'(by omega)) (List.getElem?_eq_getElem (by omega))
    obtain ⟨f0, f1, f2, f3, f4, f5⟩ := hf it (by simp)
    have st2 := st.2
    have e1 : (xs.length : Int) - 1 - (i : Int) = ((xs.length - 1 - i : Nat) : Int) := by omega
    rw [e1] at st2
    refine wpAny_pyNext_rev_item st2 p.isList (x := u) (by simpa using hu) fun h' st' sb => ?_
    have I1 : Inv X pins σ H { s with heap := h' } := I.turned (t' := s.toks) (fun b o hb e => (sb.2 b hb).trans e) f0 f1 f3 f4 f5
    have e2 : ((xs.length - 1 - i : Nat) : Int) - 1 = (xs.length : Int) - 1 - ((i + 1 : Nat) : Int) := by omega
    rw [e2] at st'
    obtain ⟨o, e, c, d⟩ := id st'
    exact ⟨u, rfl, go_of (s := { s with heap := h' }) e c d (by decide) ⟨_, H, I1, ru, ⟨rfl, List.getElem?_eq_getElem (by omega)⟩, ⟨hi, st'⟩, fun b hb => (hf b hb).1⟩⟩
  done := by
    intro X hP hw hK hc i pins s σ H E I hf st hg
    subst hP hw hK
    obtain ⟨f0, f1, f2, f3, f4, f5⟩ := hf it (by simp)
    have hi : i = xs.length := Nat.le_antisymm st.1 hg
    have st2 := st.2
    rw [hi, show (xs.length : Int) - 1 - (xs.length : Int) = -1 by omega] at st2
    exact wpAny_pyNext_rev_end (I.ok.hd hc) st2 fun h' eb => ⟨rfl, I.turned (t' := s.toks) (fun b o hb e => eb b o hb e) f0 f1 f3 f4 f5⟩
  self := fun _ _ _ _ _ st h => wpAny_pyIter_revIter st.2 h
def iRev (K : PySem.W.Frag) (ta : TA) : TI := fun σ H R => ta σ H fun vs H1 => ∃ a xs, vs = [.ref a] ∧ SqL K H1 a xs ∧ R (Itv K a xs) H1
section
variable {X : Cx} {tg : Expr}
theorem pi_rev {a : Expr} {ta : TA} {p pos : Pos} (hg : Gl X "reversed") (hm : X.mg "reversed" = none) (ha : PA X [a] ta) (hs : starEach [a] X.env = [(false, eval a X.env)] := by rfl) : PI X tg (.Call (.Name "reversed" p) [a] [] pos) (iRev X.K ta) := by
  intro pins s σ H R I h
  refine Call_ (ld_blt I hg hm bt_reversed (PyProof.Rows.callWith_type1 (thn (ha pos pins s σ H _ I h) fun us s1 ⟨vs, H1, I1, r1, q1⟩ => ?_) hs rfl))
  obtain ⟨b, xs, e, hq, q⟩ := q1
  subst e
  cases r1 with
  | cons r rr =>
    cases rr
    cases r
    obtain ⟨its, rv, pl, hz⟩ := I1.list hq
    have hl := rv.length
    refine call_reversed_list pl.isList ?_
    have st : (s1.heap.push (revObj b ((its.toArray.size : Int) - 1))).IsRevIter s1.heap.objs.size b ((xs.length : Int) - 1 - ((0 : Nat) : Int)) := ⟨_, Heap.get?_push_size _ rfl, rfl, by
      show Data.fields _ = _
      rw [show ((its.toArray.size : Nat) : Int) - 1 = (xs.length : Int) - 1 - ((0 : Nat) : Int) by simp; omega]⟩
    refine wpAny_pyIter_revIter (s := { s1 with heap := _ }) st ?_
    refine ⟨s1.heap.objs.size, [s1.heap.objs.size], _, _, H1, rfl, I1.kept (t' := s1.toks) fun b o e => Heap.get?_push_of_some _ e, turn_rev b _ xs, ⟨Nat.zero_le _, st⟩, fun c hc => ?_, q⟩
    have e : c = s1.heap.objs.size := by simpa using hc
    subst e
    exact I1.fpOk (Nat.le_refl _) (I1.hok.fresh (Nat.le_refl _))
end
section
variable {σ : St} {H : Hp} {nx : St → Hp → Prop} {B : V → St → Hp → (St → Hp → Prop) → Prop}
theorem loop_rev {K : PySem.W.Frag} {a : Addr} (xs : List V) (Pv : Nat → St → Hp → Prop) (h0 : Pv 0 σ H) (hl : ∀ i σ H, Pv i σ H → SqL K H a xs) (hs : ∀ i x σ H, i < xs.length → xs[xs.length - 1 - i]? = some x → Pv i σ H → B x σ H (Pv (i + 1))) (hd : ∀ σ H, Pv xs.length σ H → nx σ H) :
    ∃ W : Nat → Nat → St → Hp → Prop, (∃ m, W 0 m σ H) ∧ ∀ i m σ H, W i m σ H → ((Itv K a xs).stop i H ∧ nx σ H) ∨ ((Itv K a xs).go i H ∧ ∃ N : St → Hp → Prop, (∀ σ' H', N σ' H' → ∃ m', m' < m ∧ W (i + 1) m' σ' H') ∧ ∀ x H', (Itv K a xs).yld i H x H' → B x σ H' N) := by
  refine ⟨fun i m σ H => m = xs.length - i ∧ i ≤ xs.length ∧ Pv i σ H, ⟨xs.length, by simp, Nat.zero_le _, h0⟩, ?_⟩
  rintro i m σ H ⟨rfl, hi, p⟩
  by_cases hlt : i < xs.length
  · refine .inr ⟨⟨hlt, hl i σ H p⟩, Pv (i + 1), fun σ' H' p' => ⟨xs.length - (i + 1), by omega, rfl, hlt, p'⟩, ?_⟩
    rintro x H' ⟨rfl, y⟩
    exact hs i x σ _ hlt y p
  · obtain rfl : i = xs.length := by omega
    exact .inl ⟨Nat.le_refl _, hd σ H p⟩
end
end L2

namespace L2
open PySem PySem.Spec PyProof.Rows
abbrev cLst (K : PySem.W.Frag) : RC := fun xs H Q => ∃ p ys, xs = [.ref p] ∧ (SqL K H p ys ∨ SqT K H p ys) ∧ ∀ l, H l = none → Q (.ref l) (upd H l (.lst ys))
abbrev cMin : RC := fun xs H Q => ∃ i j, xs = [.int i, .int j] ∧ Q (.int (if j < i then j else i)) H
/-! ### names -/
def inL (c : Nat) : Bool := !(Builtin.Str.occurrences "abcdefghijklmnopqrstuvwxyz" ⟨#[c]⟩ 0 (Str.length "abcdefghijklmnopqrstuvwxyz") 1).isEmpty
theorem inL_def (c : Nat) : (!(Builtin.Str.occurrences (Str.ofString "abcdefghijklmnopqrstuvwxyz") ⟨#[c]⟩ 0 (Str.ofString "abcdefghijklmnopqrstuvwxyz").length 1).isEmpty) = inL c := rfl
def wl : List V := [.str "take", .str "give", .str "let", .str "say", .str "off", .str "if", .str "else", .str "end", .str "as"]
def isName (x : Str) : Bool := !(decide (x = "") || decide (6 < x.length)) && !(inV (.str x) jw || inV (.str x) wl) && x.cps.toList.all inL
theorem inL_iff (c : Nat) : inL c = true → 97 ≤ c ∧ c ≤ 122 := by
  unfold inL
  rw [StrLaws.found_one]
  have e : (Str.ofString "abcdefghijklmnopqrstuvwxyz").cps.toList = [97, 98, 99, 100, 101, 102, 103, 104, 105, 106, 107, 108, 109, 110, 111, 112, 113, 114, 115, 116, 117, 118, 119, 120, 121, 122] := by decide +kernel
  rw [e]
  simp only [decide_eq_true_eq, List.mem_cons, List.not_mem_nil, or_false]
  omega
/-- what has a letter is no numeral -/
theorem notNum_letter {x : Str} {c : Nat} (hx : x.length ≤ 1000) (hc : c ∈ x.cps.toList) (h : 97 ≤ c) : isNum x = false := by
  refine Bool.eq_false_iff.mpr fun z => ?_
  have d := ((num_iff hx).mp z).2.2.1
  unfold fig at d
  rcases fpart_cps x with ⟨cs, e, ef⟩ | ⟨_, ef⟩
  · rw [e] at hc
    rw [ef] at d
    rcases List.mem_cons.mp hc with rfl | hc
    · omega
    · have := d c hc; omega
  · rw [ef] at d
    have := d c hc; omega
theorem isName_parts {x : Str} (h : isName x = true) : x.cps.toList ≠ [] ∧ x.length ≤ 6 ∧ isJ (.str x) = false ∧ x.cps.toList.all inL = true := by
  unfold isName at h
  rw [Bool.and_eq_true, Bool.and_eq_true, Bool.not_eq_true', Bool.not_eq_true', Bool.or_eq_false_iff, Bool.or_eq_false_iff, decide_eq_false_iff_not, decide_eq_false_iff_not] at h
  refine ⟨fun z => h.1.1.1 (str_ext (by rw [z]; decide +kernel)), by omega, h.1.2.1, h.2⟩
theorem isName_notNum {x : Str} (h : isName x = true) : isNum x = false := by
  obtain ⟨h1, h2, _, h3⟩ := isName_parts h
  obtain ⟨c, r, e⟩ := List.exists_cons_of_ne_nil h1
  exact notNum_letter (c := c) (by omega) (by rw [e]; simp) (inL_iff c (List.all_eq_true.mp h3 c (by rw [e]; simp))).1
theorem join_no {x : Str} (h : isJ (.str x) = true) : isName x = false ∧ isNum x = false := by
  refine ⟨Bool.eq_false_iff.mpr fun z => ?_, ?_⟩
  · rw [(isName_parts z).2.2.1] at h; cases h
  · rcases (isJ_str x).mp h with rfl | rfl | rfl | rfl | rfl | rfl | rfl <;> decide +kernel
/-! ### terms read: words as trees -/
def partW (w : Str) : Option V := if isName w = true then some (.str w) else if isNum w = true then some (.int (valOf w)) else none
theorem partW_j {w : Str} (h : isJ (.str w) = true) : partW w = none := by
  unfold partW
  rw [(join_no h).1, (join_no h).2]; rfl
theorem partW_flat {w : Str} {v : V} (h : partW w = some v) : isJ v = false ∧ ((∃ i, v = .int i) ∨ v = .str w) := by
  unfold partW at h
  split at h
  · rename_i z
    cases h
    exact ⟨(isName_parts z).2.2.1, .inr rfl⟩
  · split at h
    · cases h
      exact ⟨rfl, .inl ⟨_, rfl⟩⟩
    · cases h
inductive Tw where
  | leaf (w : Str) | node (w : Str) (a b : Tw)
def pre : Tw → List Str
  | .leaf w => [w]
  | .node w a b => w :: (pre a ++ pre b)
def wfT : Tw → Prop
  | .leaf w => isJ (.str w) = false
  | .node w a b => isJ (.str w) = true ∧ wfT a ∧ wfT b
def okT : Tw → Bool
  | .leaf w => (partW w).isSome
  | .node _ a b => okT a && okT b
def pvw (w : Str) : V := (partW w).getD (.str w)
def pst : Tw → List V
  | .leaf w => [pvw w]
  | .node w a b => pst a ++ pst b ++ [.str w]
def scanE : List Str → Nat → Option Nat
  | _, 0 => some 0
  | [], _ + 1 => none
  | w :: r, d + 1 => (scanE r (if isJ (.str w) = true then d + 2 else d)).map (· + 1)
theorem scan_tree : ∀ (l : List Str) (d n : Nat), scanE l d = some n → ∃ Ts : List Tw, Ts.length = d ∧ (∀ T ∈ Ts, wfT T) ∧ l.take n = (Ts.map pre).flatten ∧ n ≤ l.length
  | l, 0, n, h => by
    have : n = 0 := by cases l <;> (unfold scanE at h; cases h; rfl)
    subst this
    exact ⟨[], rfl, (fun _ z => nomatch z), by simp, Nat.zero_le _⟩
  | [], d + 1, n, h => by unfold scanE at h; cases h
  | w :: r, d + 1, n, h => by
    unfold scanE at h
    obtain ⟨m, hm, rfl⟩ := Option.map_eq_some_iff.mp h
    by_cases hj : isJ (.str w) = true
    · rw [if_pos hj] at hm
      obtain ⟨Ts, h1, h2, h3, h4⟩ := scan_tree r (d + 2) m hm
      match Ts, h1, h2, h3 with
      | a :: b :: Ts', h1, h2, h3 =>
        refine ⟨.node w a b :: Ts', by simpa using h1, fun T hT => ?_, ?_, by rw [List.length_cons]; omega⟩
        · rcases List.mem_cons.mp hT with rfl | hT
          · exact ⟨hj, h2 a (by simp), h2 b (by simp)⟩
          · exact h2 T (List.mem_cons_of_mem _ (List.mem_cons_of_mem _ hT))
        · rw [List.take_succ_cons, h3]
          simp [pre]
    · rw [if_neg hj] at hm
      obtain ⟨Ts, h1, h2, h3, h4⟩ := scan_tree r d m hm
      refine ⟨.leaf w :: Ts, by simpa using h1, fun T hT => ?_, ?_, by rw [List.length_cons]; omega⟩
      · rcases List.mem_cons.mp hT with rfl | hT
        · exact Bool.eq_false_iff.mpr hj
        · exact h2 T hT
      · rw [List.take_succ_cons, h3]
        simp [pre]
/-- walked from the end; error true: a word that is no part -/
def stepR (st : List (List V)) (w : Str) : Except Bool (List (List V)) :=
  if isJ (.str w) = true then (match st.reverse with | a :: b :: r => .ok (r.reverse ++ [a ++ b ++ [.str w]]) | _ => .error false) else (match partW w with | some v => .ok (st ++ [[v]]) | none => .error true)
def runR : List Str → List (List V) → Except Bool (List (List V))
  | [], st => .ok st
  | w :: r, st => match stepR st w with | .ok st' => runR r st' | .error e => .error e
theorem runR_app : ∀ (p q : List Str) (st : List (List V)), runR (p ++ q) st = match runR p st with | .ok st' => runR q st' | .error e => .error e
  | [], q, st => rfl
  | v :: r, q, st => by
    show (match stepR st v with | .ok st' => runR (r ++ q) st' | .error e => .error e) = match (match stepR st v with | .ok st' => runR r st' | .error e => .error e) with | .ok st' => runR q st' | .error e => .error e
    cases stepR st v with
    | error e => rfl
    | ok st' => exact runR_app r q st'
theorem runR_tree : ∀ {T : Tw}, wfT T → ∀ st, runR (pre T).reverse st = if okT T = true then .ok (st ++ [pst T]) else .error true
  | .leaf w, h, st => by
    show (match stepR st w with | .ok st' => runR [] st' | .error e => .error e) = _
    unfold stepR okT pst pvw
    rw [if_neg (by rw [show isJ (.str w) = false from h]; decide)]
    cases partW w with
    | none => rfl
    | some v => rfl
  | .node w a b, h, st => by
    have e : (pre (.node w a b)).reverse = (pre b).reverse ++ ((pre a).reverse ++ [w]) := by simp [pre]
    rw [e, runR_app, runR_tree h.2.2, show okT (.node w a b) = (okT a && okT b) from rfl]
    cases hb : okT b with
    | false => rw [Bool.and_false]; rfl
    | true =>
      rw [if_pos rfl]
      show runR ((pre a).reverse ++ [w]) (st ++ [pst b]) = _
      rw [runR_app, runR_tree h.2.1]
      cases ha : okT a with
      | false => rfl
      | true =>
        rw [if_pos rfl]
        show (match stepR (st ++ [pst b] ++ [pst a]) w with | .ok st' => runR [] st' | .error e => .error e) = .ok (st ++ [pst (.node w a b)])
        unfold stepR
        rw [if_pos h.1]
        simp [runR, pst]
theorem runR_err {ps : List Str} {i : Nat} {st : List (List V)} {e : Bool} (h : runR (ps.take i) st = .error e) : runR ps st = .error e := by
  have := runR_app (ps.take i) (ps.drop i) st
  rw [List.take_append_drop, h] at this
  exact this
theorem runR_one {ps : List Str} {i : Nat} {st st0 : List (List V)} {v : Str} (h : runR (ps.take i) st0 = .ok st) (hv : ps[i]? = some v) : runR (ps.take (i + 1)) st0 = stepR st v := by
  rw [List.take_add_one, hv]
  show runR (ps.take i ++ [v]) st0 = _
  rw [runR_app, h]
  show (match stepR st v with | .ok st' => runR [] st' | .error e => .error e) = _
  cases stepR st v <;> rfl
/-- a term's parts and the place behind it, where it is one -/
def parse (ws : List Str) (at_ : Nat) : Option (List V × Nat) := match scanE (ws.drop at_) 1 with
  | some n => if n ≤ 60 then (match runR ((ws.drop at_).take n).reverse [] with | .ok [ps] => some (ps, at_ + n) | _ => none) else none
  | none => none
theorem parse_tree {ws : List Str} {k n : Nat} (h : scanE (ws.drop k) 1 = some n) : ∃ T, wfT T ∧ (ws.drop k).take n = pre T ∧ k + n ≤ ws.length ∧ (pre T).length = n := by
  obtain ⟨Ts, h1, h2, h3, h4⟩ := scan_tree _ _ _ h
  obtain ⟨T, rfl⟩ := List.length_eq_one_iff.mp h1
  have h3' : (ws.drop k).take n = pre T := by rw [h3]; simp
  have hn : (pre T).length = n := by rw [← h3', List.length_take]; omega
  have hp : 1 ≤ (pre T).length := by cases T <;> simp [pre]
  rw [List.length_drop] at h4
  exact ⟨T, h2 T (by simp), h3', by omega, hn⟩
theorem parse_some {ws : List Str} {k n : Nat} {T : Tw} (h : scanE (ws.drop k) 1 = some n) (hn : n ≤ 60) (hw : wfT T) (ht : (ws.drop k).take n = pre T) : parse ws k = if okT T = true then some (pst T, k + n) else none := by
  unfold parse
  rw [h]
  show (if n ≤ 60 then (match runR ((ws.drop k).take n).reverse [] with | .ok [ps] => some (ps, k + n) | _ => none) else none) = _
  rw [if_pos hn, ht, runR_tree hw]
  cases okT T <;> rfl
theorem okT_iff : ∀ {T : Tw}, wfT T → (okT T = true ↔ ∀ w ∈ pre T, isJ (.str w) = true ∨ (partW w).isSome = true)
  | .leaf w, h => by
    have hj : isJ (.str w) = false := h
    unfold okT pre
    simp [hj]
  | .node w a b, h => by
    unfold okT pre
    rw [Bool.and_eq_true, okT_iff h.2.1, okT_iff h.2.2]
    constructor
    · rintro ⟨h1, h2⟩ x hx
      rcases List.mem_cons.mp hx with rfl | hx
      · exact .inl h.1
      · rcases List.mem_append.mp hx with hx | hx
        · exact h1 x hx
        · exact h2 x hx
    · intro hh
      exact ⟨fun x hx => hh x (by simp [hx]), fun x hx => hh x (by simp [hx])⟩
theorem pst_ne : ∀ T : Tw, pst T ≠ []
  | .leaf w => by simp [pst]
  | .node w a b => by simp [pst]
theorem pst_len : ∀ T : Tw, (pst T).length = (pre T).length
  | .leaf w => rfl
  | .node w a b => by simp [pst, pre, pst_len a, pst_len b]; omega
/-! ### a text among the items -/
theorem star_const {c : Const} {j : Nat} {p : Pos} {es : List Expr} {env : Env} : starEach (.Constant c j p :: es) env = (false, eval (.Constant c j p) env) :: starEach es env := by
  first | rfl | simp only [starEach]
theorem pa_str {X : Cx} {es : List Expr} {t : TA} {x : Str} {j : Nat} {p : Pos} (hr : PA X es t) : PA X (.Constant (.str x) j p :: es) (tCons (tC (.str x)) t) := pa_cons pe_str hr star_const
end L2

namespace L2
open PySem PySem.Spec PyProof.Rows
/-! ### dict(d); d != e of alike dicts of whole numbers -/
abbrev cDct : RC := fun xs H Q => ∃ a kvs, xs = [.ref a] ∧ H a = some (.dK kvs) ∧ ∀ p, H p = none → Q (.ref p) (upd H p (.dK kvs))
abbrev rNeD : R2 := fun x y H Q => ∃ a b kvs, x = .ref a ∧ y = .ref b ∧ H a = some (.dK kvs) ∧ H b = some (.dK kvs) ∧ (∀ p ∈ kvs, ∃ i, p.2 = V.int i) ∧ Q (.bl false) H
section
variable {X : Cx}
theorem call_dict_of : CallR X (.type "dict") cDct := by
  intro pins s σ H xs us Q I r h
  obtain ⟨a, kvs, rfl, ha, q⟩ := h
  obtain ⟨u, rfl, ru⟩ := vals1 r
  cases ru
  exact d_copyOf I (.inl ha) fun p s' hp I' => ⟨.ref p, _, I', rfl, q p hp⟩
theorem valV_mem {kvs : List (Key × V)} {k : Key} {v : V} (h : valV kvs k = some v) : ∃ p ∈ kvs, p.2 = v := by
  unfold valV at h
  obtain ⟨p, hp, e⟩ := Option.map_eq_some_iff.mp h
  exact ⟨p, List.mem_of_find?_eq_some hp, e⟩
theorem hits_alike {A : Around} {s : Shared} {kvs : List (Key × V)} {va vb : List (Key × Value)} (ra : KV kvs va) (rb : KV kvs vb) (hn : (va.map (·.1)).Nodup) (hi : ∀ p ∈ kvs, ∃ i, p.2 = V.int i) :
    ∀ l : List (Key × Value), (∀ p ∈ l, p ∈ va) → PySem.W.KeqHits A s vb l true
  | [], _ => .nil
  | (k, v) :: r, h => by
    obtain ⟨i, hx⟩ := List.getElem?_of_mem (h (k, v) List.mem_cons_self)
    have e1 := valueAt_of_get hn hx
    have r1 := ra.val k
    rw [e1] at r1
    cases hw : valV kvs k with
    | none =>
      rw [hw] at r1
      cases RelO.none_of r1
    | some w =>
      rw [hw] at r1
      obtain ⟨u, eu, rw1⟩ := RelO.some_of r1
      cases eu
      have r2 := rb.val k
      rw [hw] at r2
      obtain ⟨y, hy, rw2⟩ := RelO.some_of r2
      obtain ⟨p, hp, ep⟩ := valV_mem hw
      obtain ⟨n, en⟩ := hi p hp
      rw [ep] at en
      subst en
      obtain ⟨t1, rfl⟩ := rw1
      obtain ⟨t2, rfl⟩ := rw2
      have he := SeqAt.EqAt.int_int (A := A) (s := s) n t1 n t2
      rw [beq_self_eq_true] at he
      exact PySem.W.KeqHits.hit (e := true) (b := true) hy he (hits_alike ra rb hn hi r fun p hp => h p (List.mem_cons_of_mem _ hp))
theorem op_neD (hu : X.A.units + 64 < cLine) : OpR X (compareOp .NotEq) rNeD := by
  intro pins s σ H x y v u Q I rx ry h
  obtain ⟨a, b, kvs, rfl, rfl, ha, hb, hi, q⟩ := h
  cases rx
  cases ry
  obtain ⟨_, la, va, ra, da⟩ := dk_of I.hok ha
  obtain ⟨_, lb, vb, rb, db⟩ := dk_of I.hok hb
  have hl : va.length = vb.length := by rw [← ra.length, ← rb.length]
  have hn : (va.map (·.1)).Nodup := let ⟨_, _, _, _, _, _, _, _, hn⟩ := da; hn
  refine PySem.W.keq_ne (r := true) la lb da db (Nat.lt_of_le_of_lt (Nat.le_add_right _ 64) hu) (fun _ => hits_alike ra rb hn hi va fun p hp => hp) ?_
  rw [hl, beq_self_eq_true]
  exact ⟨.bl false, H, I, rfl, q⟩
end
/-! ### names: letters, one to six -/
def LW (x : Str) : Prop := x.cps.toList.all inL = true ∧ 1 ≤ x.length ∧ x.length ≤ 6
def freeW (x : Str) : Str := if inV (.str x) wl = true then x ++ "q" else if inV (.str x) jw = true then x ++ "q" else x
theorem wl_str (w : Str) : inV (.str w) wl = true ↔ (w = "take" ∨ w = "give" ∨ w = "let" ∨ w = "say" ∨ w = "off" ∨ w = "if" ∨ w = "else" ∨ w = "end" ∨ w = "as") := by
  unfold inV wl
  simp only [List.any_cons, List.any_nil, eqV, Bool.or_false, Bool.or_eq_true, beq_iff_eq]
  constructor
  · rintro (h | h | h | h | h | h | h | h | h) <;> simp [← h]
  · rintro (h | h | h | h | h | h | h | h | h) <;> simp [h]
theorem free_name {x : Str} (h : LW x) : isName (freeW x) = true := by
  obtain ⟨h1, h2, h3⟩ := h
  unfold freeW
  by_cases a : inV (.str x) wl = true
  · rw [if_pos a]
    rcases (wl_str x).mp a with rfl | rfl | rfl | rfl | rfl | rfl | rfl | rfl | rfl <;> decide +kernel
  · rw [if_neg a]
    by_cases b : inV (.str x) jw = true
    · rw [if_pos b]
      rcases (isJ_str x).mp b with rfl | rfl | rfl | rfl | rfl | rfl | rfl <;> decide +kernel
    · rw [if_neg b]
      have e0 : ¬ x = "" := fun z => by
        rw [z] at h2
        exact absurd h2 (by decide +kernel)
      unfold isName
      rw [decide_eq_false e0, decide_eq_false (by omega : ¬ 6 < x.length), Bool.eq_false_iff.mpr a, Bool.eq_false_iff.mpr b, h1]
      rfl
theorem name_asc {x : Str} (h : isName x = true) : Asc x := fun c hc => by
  have := inL_iff c (List.all_eq_true.mp (isName_parts h).2.2.2 c hc)
  omega
theorem all_take {l : List Nat} (h : l.all inL = true) (n : Nat) : (l.take n).all inL = true := by
  rw [List.all_eq_true] at h ⊢
  exact fun c hc => h c (List.mem_of_mem_take hc)
theorem all_drop {l : List Nat} (h : l.all inL = true) (n : Nat) : (l.drop n).all inL = true := by
  rw [List.all_eq_true] at h ⊢
  exact fun c hc => h c (List.mem_of_mem_drop hc)
theorem all_app {a b : List Nat} (h : a.all inL = true) (h' : b.all inL = true) : (a ++ b).all inL = true := by
  rw [List.all_append, h, h']; rfl
end L2

namespace L2
open PySem PySem.Spec PyProof.Rows
/-! ### zip of two tuples -/
section
variable {P : Program} {w : World} {A : Around} {E : Value → Shared → Prop} {s : Shared}
/-- nextOf of an iterator over a tuple: an item, or the end -/
theorem nextT {it tp : Addr} {i : Nat} {xs : Array Value} {Q : Value → Shared → Prop} (hi : s.heap.IsTupleIter it tp i) (ht : s.heap.IsTuple tp xs)
    (yes : ∀ x h, xs[i]? = some x → h.IsTupleIter it tp (i + 1) → Heap.SameBut it s.heap h → Q x { s with heap := h })
    (no : xs[i]? = none → A.handled = none ∧ ∀ h e, Heap.ExtBut it s.heap h → (∃ o, h.get? e = some o ∧ o.cls = .type "StopIteration") → E (.ref e) { s with heap := h }) :
    wpAny (model P w) A (Builtin.SmallTypes.nextOf (.ref it)) Q E s := by
  obtain ⟨o, ho, hc, hd⟩ := id hi
  obtain ⟨q, hq, _, n, hq2⟩ := ht
  unfold Builtin.SmallTypes.nextOf
  refine wpAny_bind (wpAny_callSpecial?_slot (name := Str.ofString "__next__") hi.typeIs F.slot_tuple_iterator_next (wpAny_call_entry F.slot_tuple_iterator_next hi.typeIs F.entry_tuple_iterator_next ?_ (F.args_tuple_iterator_next_1 _)))
  show wpAny _ _ (field (.ref it) 0 >>= _) _ _ s; refine wpAny_bind (wpAny_field ho hd (x := .ref tp) rfl ?_)
  show wpAny _ _ (if (Value.ref tp == Value.none) = true then _ else _) _ _ s; rw [if_neg (show ¬ ((Value.ref tp == Value.none) = true) from Bool.false_ne_true)]
  show wpAny _ _ (field (.ref it) 1 >>= _) _ _ s; refine wpAny_bind (wpAny_field ho hd (x := .int i 0) rfl ?_)
  show wpAny _ _ (seqItems? (.ref tp) >>= _) _ _ s; refine wpAny_bind (wpAny_seqItems hq hq2 ?_)
  cases hx : xs[i]? with
  | some x =>
    simp only [Int.toNat_natCast, hx]
    refine wpAny_bind (wpAny_setField ho hd (by simp) (wpAny_pure ⟨x, rfl, wpAny_pure (yes x _ hx ?_ (Heap.SameBut.update ..))⟩))
    refine ⟨_, Heap.get?_update_self _ ho (Obj.isFreed_of_fields (Obj.data_mapFields hd _)), (Obj.cls_mapFields ..).trans hc, ?_⟩; rw [Obj.data_mapFields hd]; simp [rawInt]
  | none =>
    obtain ⟨hh, no⟩ := no hx
    simp only [Int.toNat_natCast, hx]
    refine wpAny_bind (wpAny_rule (wpAny_bind (wpAny_setField ho hd (by simp) ?_))); show wpAny _ _ (newExc (.type "StopIteration") [] >>= _) _ _ _
    refine wpAny_bind ?_; simp only [newExc, newTuple]
    refine wpAny_bind (wpAny_newObj_type ?_ (by size_fits)); refine wpAny_bind (m := firstArgMember _ _) (wpAny_of_eq (a := Value.none) (by first | rfl | (simp only [firstArgMember]; rfl)) ?_)
    refine wpAny_newObj_type ?_ (by size_fits); simp only [raiseNew]
    refine wpAny_bind (wpAny_handled ?_); first | rw [show A.in1.handled = none from hh] | rw [hh]
    refine wpAny_bind (wpAny_pure (wpAny_throw ?_)); exact no _ _ (((Heap.SameBut.update ..).extBut.push _).push _) ⟨_, Heap.get?_push_size _ rfl, rfl⟩
end
section
variable {P : Program} {w : World} {A : Around} {E : Value → Shared → Prop} {s : Shared}
/-- the objects of a zip of two tuples -/
structure ZApart (z a b i j p q : Addr) : Prop where
  az : a ≠ z
  bz : b ≠ z
  iz : i ≠ z
  jz : j ≠ z
  ab : a ≠ b
  ai : a ≠ i
  aj : a ≠ j
  bi : b ≠ i
  bj : b ≠ j
  ij : i ≠ j
  pz : p ≠ z
  pb : p ≠ b
  pi : p ≠ i
  pj : p ≠ j
  qz : q ≠ z
  qb : q ≠ b
  qi : q ≠ i
  qj : q ≠ j
def ZT (z a b i j p q : Addr) (k : Nat) (h : Heap) : Prop := IsZip h z a b .none ∧ IsPair h a (.ref i) (.ref j) ∧ (∃ u v, IsPair h b u v) ∧ h.IsTupleIter i p k ∧ h.IsTupleIter j q k
theorem zipT_item {z a b i j p q : Addr} {k : Nat} {xs ys : Array Value} {x y : Value} {Q : Value → Shared → Prop} (D : ZApart z a b i j p q) (st : ZT z a b i j p q k s.heap)
    (hp : s.heap.IsTuple p xs) (hq : s.heap.IsTuple q ys) (hx : xs[k]? = some x) (hy : ys[k]? = some y)
    (cont : ∀ g h, (∀ c o, c ∉ [z, b, i, j] → s.heap.get? c = some o → g.get? c = some o) → g.objs.size = s.heap.objs.size → IsPair g b x y → g.IsTupleIter i p (k + 1) → g.IsTupleIter j q (k + 1) →
      Heap.SameBut z (g.push { cls := .type "tuple", data := .seq #[x, y] }) h → IsZip h z a b (rawInt g.objs.size) → Q (.ref g.objs.size) { s with heap := h }) :
    wpAny (model P w) A (Builtin.«zip.__next__» ⟨[.ref z], []⟩) (fun r s' => ∃ v, r = .done (.ret v) ∧ Q v s') E s := by
  obtain ⟨hz, ha, ⟨u, v, hb⟩, hi, hj⟩ := st
  show wpAny _ _ (field (.ref z) 2 >>= _) _ _ _; refine wpAny_bind (wpAny_field hz rfl (x := .bool false) rfl ?_)
  show wpAny _ _ (field (.ref z) 3 >>= _) _ _ _; refine wpAny_bind (wpAny_field hz rfl (x := .ref a) rfl ?_)
  refine wpAny_bind (wpAny_seqItems ha rfl ?_); show wpAny _ _ (Builtin.SmallTypes.ownedTupleIsFree (.ref z) >>= _) _ _ _
  refine wpAny_bind ?_; unfold Builtin.SmallTypes.ownedTupleIsFree
  refine wpAny_bind (wpAny_field hz rfl (x := .none) rfl (wpAny_pure ?_)); simp only [if_true]
  refine wpAny_bind (wpAny_rule ?_); refine wpAny_bind (wpAny_field hz rfl (x := .ref b) rfl ?_)
  refine wpAny_bind (wpAny_setField_rec hz (by simp) fun g1 z1 r1 => ?_)
  replace z1 : IsZip g1 z a b .ellipsis := z1
  refine wpAny_bind ?_; simp only [List.zipIdx_cons, List.zipIdx_nil, List.forIn_cons, List.forIn_nil]
  refine wpAny_bind (wpAny_bind (wpAny_onRaise ?_)); show wpAny _ _ (Builtin.SmallTypes.nextOf (.ref i) >>= _) _ _ _
  refine wpAny_bind (nextT (hi.extBut r1.extBut D.iz) (hp.extBut r1.extBut D.pz) (fun x' g2 ex i2 r2 => wpAny_pure ?_) fun ex => by rw [hx] at ex; cases ex)
  obtain rfl : x' = x := Option.some.inj (ex.symm.trans hx)
  have b2 : IsPair g2 b u v := r2.extBut _ _ D.bi (r1.extBut _ _ D.bz hb)
  refine wpAny_bind (wpAny_seqItems b2 rfl ?_); refine wpAny_bind (wpAny_updateSeq_pair b2 fun g3 b3 r3 => ?_)
  replace b3 : IsPair g3 b x' v := b3
  refine wpAny_bind (wpAny_letGo (wpAny_pure ?_)); refine wpAny_bind (wpAny_bind (wpAny_onRaise ?_)); show wpAny _ _ (Builtin.SmallTypes.nextOf (.ref j) >>= _) _ _ _
  refine wpAny_bind (nextT (((hj.extBut r1.extBut D.jz).extBut r2.extBut D.ij.symm).extBut r3.extBut D.bj.symm) (((hq.extBut r1.extBut D.qz).extBut r2.extBut D.qi).extBut r3.extBut D.qb) (fun y' g4 ey j4 r4 => wpAny_pure ?_) fun ey => by rw [hy] at ey; cases ey)
  obtain rfl : y' = y := Option.some.inj (ey.symm.trans hy)
  have b4 : IsPair g4 b x' v := r4.extBut _ _ D.bj b3
  refine wpAny_bind (wpAny_seqItems b4 rfl ?_); refine wpAny_bind (wpAny_updateSeq_pair b4 fun g5 b5 r5 => ?_)
  replace b5 : IsPair g5 b x' y' := b5
  refine wpAny_bind (wpAny_letGo (wpAny_pure (wpAny_pure ?_))); refine wpAny_bind (wpAny_seqItems b5 rfl ?_); refine wpAny_bind (wpAny_newTuple ?_)
  have sz : g5.objs.size = s.heap.objs.size := by rw [r5.1, r4.1, r3.1, r2.1, r1.1]
  have z5 : IsZip g5 z a b .ellipsis := r5.extBut _ _ D.bz.symm (r4.extBut _ _ D.jz.symm (r3.extBut _ _ D.bz.symm (r2.extBut _ _ D.iz.symm z1)))
  have k5 : ∀ c o, c ∉ [z, b, i, j] → s.heap.get? c = some o → g5.get? c = some o := fun c o hc e => by
    simp only [List.mem_cons, List.not_mem_nil, or_false, not_or] at hc
    exact r5.extBut _ _ hc.2.1 (r4.extBut _ _ hc.2.2.2 (r3.extBut _ _ hc.2.1 (r2.extBut _ _ hc.2.2.1 (r1.extBut _ _ hc.1 e))))
  have i5 : g5.IsTupleIter i p (k + 1) := ((i2.extBut r3.extBut D.bi.symm).extBut r4.extBut D.ij).extBut r5.extBut D.bi.symm
  have j5 : g5.IsTupleIter j q (k + 1) := j4.extBut r5.extBut D.bj.symm
  show wpAny _ _ (Builtin.SmallTypes.ownedTupleHandOut (.ref z) (.ref g5.objs.size) >>= _) _ _ _; refine wpAny_bind ?_; unfold Builtin.SmallTypes.ownedTupleHandOut
  have z6 : IsZip (g5.push { cls := .type "tuple", data := .seq #[x', y'] }) z a b .ellipsis := Heap.get?_push_of_some _ z5
  refine wpAny_bind (wpAny_setField_rec z6 (by simp) fun g7 z7 r7 => ?_)
  replace z7 : IsZip g7 z a b (rawInt g5.objs.size) := z7
  refine wpAny_setField_rec z7 (by simp) fun g8 z8 r8 => ?_
  replace z8 : IsZip g8 z a b (rawInt g5.objs.size) := z8
  exact wpAny_pure ⟨_, rfl, cont g5 g8 k5 sz b5 i5 j5 ⟨r8.1.trans r7.1, fun c hc => (r8.2 c hc).trans (r7.2 c hc)⟩ z8⟩
theorem zipT_end {z a b i j p q : Addr} {k : Nat} {xs ys : Array Value} {Q : Fin → Shared → Prop} (hh : A.handled = none) (D : ZApart z a b i j p q) (st : ZT z a b i j p q k s.heap)
    (hp : s.heap.IsTuple p xs) (hq : s.heap.IsTuple q ys) (hx : xs[k]? = none) (hE : ∀ h e, (∀ c o, c ∉ [z, b, i, j] → s.heap.get? c = some o → h.get? c = some o) → (∃ o, h.get? e = some o ∧ o.cls = .type "StopIteration") → E (.ref e) { s with heap := h }) :
    wpAny (model P w) A (Builtin.«zip.__next__» ⟨[.ref z], []⟩) Q E s := by
  obtain ⟨hz, ha, ⟨u, v, hb⟩, hi, hj⟩ := st
  show wpAny _ _ (field (.ref z) 2 >>= _) _ _ _; refine wpAny_bind (wpAny_field hz rfl (x := .bool false) rfl ?_)
  show wpAny _ _ (field (.ref z) 3 >>= _) _ _ _; refine wpAny_bind (wpAny_field hz rfl (x := .ref a) rfl ?_)
  refine wpAny_bind (wpAny_seqItems ha rfl ?_); show wpAny _ _ (Builtin.SmallTypes.ownedTupleIsFree (.ref z) >>= _) _ _ _
  refine wpAny_bind ?_; unfold Builtin.SmallTypes.ownedTupleIsFree
  refine wpAny_bind (wpAny_field hz rfl (x := .none) rfl (wpAny_pure ?_)); simp only [if_true]
  refine wpAny_bind (wpAny_rule ?_); refine wpAny_bind (wpAny_field hz rfl (x := .ref b) rfl ?_)
  refine wpAny_bind (wpAny_setField_rec hz (by simp) fun g1 z1 r1 => ?_)
  replace z1 : IsZip g1 z a b .ellipsis := z1
  refine wpAny_bind ?_; simp only [List.zipIdx_cons, List.zipIdx_nil, List.forIn_cons, List.forIn_nil]
  refine wpAny_bind (wpAny_bind (wpAny_onRaise ?_)); show wpAny _ _ (Builtin.SmallTypes.nextOf (.ref i) >>= _) _ _ _
  refine wpAny_bind (nextT (hi.extBut r1.extBut D.iz) (hp.extBut r1.extBut D.pz) (fun x' g2 ex i2 r2 => by rw [hx] at ex; cases ex) fun ex => ⟨hh, fun g2 e r2 he => ?_⟩)
  obtain ⟨oe, hoe, hce⟩ := he
  have z2 : IsZip g2 z a b .ellipsis := r2 _ _ D.iz.symm z1
  have ez : e ≠ z := fun x => by subst x; rw [z2] at hoe; cases hoe; simp at hce
  refine wpAny_setField_rec z2 (by simp) fun g3 _ r3 => hE g3 e (fun c o hc y => ?_) ⟨oe, r3.extBut _ _ ez hoe, hce⟩
  simp only [List.mem_cons, List.not_mem_nil, or_false, not_or] at hc
  exact r3.extBut _ _ hc.1 (r2 _ _ hc.2.2.1 (r1.extBut _ _ hc.1 y))
theorem nextZ_item {z a b i j p q : Addr} {k : Nat} {xs ys : Array Value} {x y : Value} {Q : Option Value → Shared → Prop} (D : ZApart z a b i j p q) (st : ZT z a b i j p q k s.heap)
    (hp : s.heap.IsTuple p xs) (hq : s.heap.IsTuple q ys) (hx : xs[k]? = some x) (hy : ys[k]? = some y)
    (cont : ∀ g h, (∀ c o, c ∉ [z, b, i, j] → s.heap.get? c = some o → g.get? c = some o) → g.objs.size = s.heap.objs.size → IsPair g b x y → g.IsTupleIter i p (k + 1) → g.IsTupleIter j q (k + 1) →
      Heap.SameBut z (g.push { cls := .type "tuple", data := .seq #[x, y] }) h → IsZip h z a b (rawInt g.objs.size) → Q (some (.ref g.objs.size)) { s with heap := h }) :
    wpAny (model P w) A (pyNext (.ref z)) Q E s := by
  have T : s.TypeIs (.ref z) "zip" := ⟨_, st.1, rfl⟩
  unfold pyNext
  exact wpAny_bind (wpAny_attempt (wpAny_callSpecial?_slot (name := Str.ofString "__next__") T F.slot_zip_next (wpAny_call_entry F.slot_zip_next T F.entry_zip_next
      (zipT_item D st hp hq hx hy fun g h a1 a2 a3 a4 a5 a6 a7 => wpAny_pure (cont g h a1 a2 a3 a4 a5 a6 a7)) (F.args_zip_next_1 _))))
theorem nextZ_end {z a b i j p q : Addr} {k : Nat} {xs ys : Array Value} {Q : Option Value → Shared → Prop} (hh : A.handled = none) (D : ZApart z a b i j p q) (st : ZT z a b i j p q k s.heap)
    (hp : s.heap.IsTuple p xs) (hq : s.heap.IsTuple q ys) (hx : xs[k]? = none) (cont : ∀ h, (∀ c o, c ∉ [z, b, i, j] → s.heap.get? c = some o → h.get? c = some o) → Q none { s with heap := h }) : wpAny (model P w) A (pyNext (.ref z)) Q E s := by
  have T : s.TypeIs (.ref z) "zip" := ⟨_, st.1, rfl⟩
  unfold pyNext
  refine wpAny_bind (wpAny_attempt (wpAny_callSpecial?_slot (name := Str.ofString "__next__") T F.slot_zip_next (wpAny_call_entry F.slot_zip_next T F.entry_zip_next (zipT_end hh D st hp hq hx fun h e hk he => ?_) (F.args_zip_next_1 _))))
  obtain ⟨o, ho, hc⟩ := he
  exact wpAny_bind (wpAny_isInstance (T := "StopIteration") (b := true) ⟨o, ho, hc⟩ isSubtype_stop (wpAny_pure (cont _ hk)))
end
abbrev zp1 (h : Heap) (p : Addr) : Heap := h.push { cls := .type "tuple_iterator", data := .fields #[.ref p, .int 0 0] }
abbrev zp3 (h : Heap) (p q : Addr) : Heap := (zp1 (zp1 h p) q).push { cls := .type "tuple", data := .seq #[.ref h.objs.size, .ref (zp1 h p).objs.size] }
abbrev zp4 (h : Heap) (p q : Addr) : Heap := (zp3 h p q).push { cls := .type "tuple", data := .seq #[.none, .none] }
abbrev zp5 (h : Heap) (p q : Addr) : Heap := (zp4 h p q).push { cls := .type "zip", data := .fields #[.none, .bool false, .bool false, .ref (zp1 (zp1 h p) q).objs.size, .ref (zp3 h p q).objs.size] }
theorem meets_zipT (p q : Addr) (xs ys : Array Value) : Meets (Builtin.«zip.__new__» ⟨[.type "zip", .ref p, .ref q], []⟩) (fun _ R s => s.heap.IsTuple p xs ∧ s.heap.IsTuple q ys ∧
      R (.ok (.ret (.ref (zp4 s.heap p q).objs.size))) { s with heap := zp5 s.heap p q }) :=
  .of_wp fun prog w A R s h => by
    obtain ⟨hp, g, d, tk, os⟩ := s
    obtain ⟨h1, h2, h⟩ := h
    have hsub := sub_zip
    have l1 : Heap.IsTuple (Shared.heap ⟨hp, g, d, tk, os⟩) p xs := h1
    have l2 : Heap.IsTuple (Shared.heap ⟨hp.push { cls := .type "tuple_iterator", data := .fields #[.ref p, .int 0 0] }, g, d, tk, os⟩) q ys := Heap.IsTuple.push h2 _
    wp_walk using wpAny_pyIter_tuple l1, wpAny_pyIter_tuple l2
    exact ⟨_, rfl, h⟩
section
variable {P : Program} {w : World} {A : Around} {E : Value → Shared → Prop} {s : Shared}
theorem call_zipT {p q : Addr} {xs ys : Array Value} {Q : Value → Shared → Prop} (hp : s.heap.IsTuple p xs) (hq : s.heap.IsTuple q ys)
    (h : ∀ h', ZT (s.heap.objs.size + 4) (s.heap.objs.size + 2) (s.heap.objs.size + 3) s.heap.objs.size (s.heap.objs.size + 1) p q 0 h' → (∀ c o, s.heap.get? c = some o → h'.get? c = some o) → Q (.ref (s.heap.objs.size + 4)) { s with heap := h' }) :
    wpAny (model P w) A (call (.type "zip") [.ref p, .ref q]) Q E s := by
  refine callType_new F.called_zip (by decide) (F.typeCall_zip_2 _ _) (F.newCall_zip_2 _ _) (fun obj => F.args_object_init_3 obj _ _) F.entry_zip_new (meets_zipT p q xs ys) ⟨hp, hq, ?_⟩
  have e1 : (zp1 s.heap p).objs.size = s.heap.objs.size + 1 := Heap.size_push ..
  have e2 : (zp1 (zp1 s.heap p) q).objs.size = s.heap.objs.size + 2 := by rw [Heap.size_push, e1]
  have e3 : (zp3 s.heap p q).objs.size = s.heap.objs.size + 3 := by rw [Heap.size_push, e2]
  have e4 : (zp4 s.heap p q).objs.size = s.heap.objs.size + 4 := by rw [Heap.size_push, e3]
  have f5 : (zp5 s.heap p q).get? (zp4 s.heap p q).objs.size = some _ := Heap.get?_push_size _ rfl
  have f4 : (zp5 s.heap p q).get? (zp3 s.heap p q).objs.size = some _ := Heap.get?_push_of_some _ (Heap.get?_push_size _ rfl)
  have f3 : (zp5 s.heap p q).get? (zp1 (zp1 s.heap p) q).objs.size = some _ := Heap.get?_push_of_some _ (Heap.get?_push_of_some _ (Heap.get?_push_size _ rfl))
  have f2 : (zp5 s.heap p q).get? (zp1 s.heap p).objs.size = some _ := Heap.get?_push_of_some _ (Heap.get?_push_of_some _ (Heap.get?_push_of_some _ (Heap.get?_push_size _ rfl)))
  have f1 : (zp5 s.heap p q).get? s.heap.objs.size = some _ := Heap.get?_push_of_some _ (Heap.get?_push_of_some _ (Heap.get?_push_of_some _ (Heap.get?_push_of_some _ (Heap.get?_push_size _ rfl))))
  show _ ∧ _
  rw [e2, e3, e4] at f5
  rw [e1, e2] at f3
  rw [e3] at f4
  rw [e1] at f2
  rw [e4]
  exact ⟨⟨_, f5, rfl⟩, h _ ⟨f5, f3, ⟨_, _, f4⟩, ⟨_, f1, rfl, rfl⟩, ⟨_, f2, rfl, rfl⟩⟩ fun c o x => Heap.get?_push_of_some _ (Heap.get?_push_of_some _ (Heap.get?_push_of_some _ (Heap.get?_push_of_some _ (Heap.get?_push_of_some _ x))))⟩
end
/-- several untracked records of ours have turned -/
theorem Inv.turnedL {X : Cx} {pins : List (Addr × Obj)} {σ : St} {H : Hp} {s : Shared} {h' : Heap} {t' : Nat} {ch : List Addr} (I : Inv X pins σ H s) (k : ∀ b o, b ∉ ch → s.heap.get? b = some o → h'.get? b = some o) (hf : ∀ b ∈ ch, FpOk X pins H b) :
    Inv X pins σ H { s with heap := h', toks := t' } := by
  have nit : ∀ b u, H b = some u → b ∉ ch := fun b u e z => by rw [(hf b z).1] at e; cases e
  refine I.step (g' := s.gens) (d' := s.drawn) (ch := ch) (fun b hb => ?_) (fun b o _ _ hc e _ => k b o hc e) (fun b o _ _ hc e _ => ⟨o.slots, k b o hc e⟩) (fun _ _ _ _ n => n) (fun b o hc e => ⟨o, k b o hc e⟩) (fun _ _ e => e) (fun _ _ _ e => e) (fun b ps e => ⟨#[], by rw [e]; simp⟩) (fun m hm => ?_) (fun b u e => ?_) I.bare
  · obtain ⟨f0, f1, f2, f3, f4, f5⟩ := hf b hb
    exact ⟨f3, f1, f4, f5⟩
  · obtain ⟨o, es, ep, ho, r⟩ := hm
    exact ⟨o, es, ep, k _ o (fun z => (hf _ z).2.1 rfl) ho, r⟩
  · refine (I.hok b u e).stay (fun c v hc q => k c v ?_ q) (fun _ q => q) fun _ _ q => q
    rcases hc with z | z
    · rw [z]; exact nit b u e
    · exact nit c _ z
/-- zip of two tuples of one length: each turn tells a new pair -/
def Itz (K : PySem.W.Frag) (p q : Addr) (xs ys : List V) : It := ⟨fun i H => i < xs.length ∧ SqT K H p xs ∧ SqT K H q ys, fun i H x H' => ∃ T u v, x = .ref T ∧ H T = none ∧ H' = upd H T (.tup [u, v]) ∧ xs[i]? = some u ∧ ys[i]? = some v, fun i H => xs.length ≤ i ∧ SqT K H p xs ∧ SqT K H q ys⟩
theorem turn_zip {P : Program} {w : World} {K : PySem.W.Frag} {elts : List Expr} {x1} {pos : Pos} {z a b i j p q : Addr} {xs ys : List V} (D : ZApart z a b i j p q) (hl : xs.length = ys.length) :
    Turn P w K (.Tuple elts x1 pos) (Itz K p q xs ys) [z, a, b, i, j] z (ZT z a b i j p q) where
  mem := by simp
  obj := fun k h st c hc => by
    obtain ⟨hz, ha, ⟨u, v, hb⟩, ⟨oi, hi, ci, di⟩, ⟨oj, hj, cj, dj⟩⟩ := st
    simp only [List.mem_cons, List.not_mem_nil, or_false] at hc
    rcases hc with rfl | rfl | rfl | rfl | rfl
    · exact ⟨_, hz, fun v z => by cases z⟩
    · exact ⟨_, ha, fun v z => by cases z⟩
    · exact ⟨_, hb, fun v z => by cases z⟩
    · exact ⟨_, hi, fun v z => by rw [di] at z; cases z⟩
    · exact ⟨_, hj, fun v z => by rw [dj] at z; cases z⟩
  keep := fun k h h' st kk => by
    obtain ⟨hz, ha, ⟨u, v, hb⟩, ⟨oi, hi, ci⟩, ⟨oj, hj, cj⟩⟩ := st
    exact ⟨kk z (by simp) _ hz, kk a (by simp) _ ha, ⟨u, v, kk b (by simp) _ hb⟩, ⟨oi, kk i (by simp) _ hi, ci⟩, ⟨oj, kk j (by simp) _ hj, cj⟩⟩
  item := by
    intro X hP hw hK hc k pins s σ H E I hf st hg
    subst hP hw hK
    obtain ⟨hlt, h1, h2⟩ := hg
    obtain ⟨us, r1, p1, _⟩ := I.tuple h1
    obtain ⟨vs, r2, p2, _⟩ := I.tuple h2
    obtain ⟨u, hu, ru⟩ := r1.get (i := k) (x := xs[k]) (List.getElem?_eq_getElem hlt)
    obtain ⟨v, hv, rv⟩ := r2.get (i := k) (x := ys[k]'(hl ▸ hlt)) (List.getElem?_eq_getElem (hl ▸ hlt))
    have sub : ∀ c ∈ [z, b, i, j], c ∈ [z, a, b, i, j] := fun c hc => by
      simp only [List.mem_cons, List.not_mem_nil, or_false] at hc ⊢
      rcases hc with h | h | h | h <;> simp [h]
    refine nextZ_item D st (show s.heap.IsTuple p us.toArray from p1) (show s.heap.IsTuple q vs.toArray from p2) (x := u) (y := v) (by simpa using hu) (by simpa using hv) fun g h k5 sz b5 i5 j5 sb z8 => ?_
    have I5 : Inv X pins σ H { s with heap := g } := I.turnedL (t' := s.toks) k5 fun c hc => hf c (sub c hc)
    have I6 : Inv X pins σ (upd H g.objs.size (.tup [xs[k], ys[k]'(hl ▸ hlt)])) { s with heap := g.push { cls := .type "tuple", data := .seq #[u, v] } } :=
      I5.laid (a := g.objs.size) (o := .tup [xs[k], ys[k]'(hl ▸ hlt)]) (t' := s.toks) (fun b u e => Heap.get?_push_of_some _ e) (Nat.le_refl _) ⟨by show 2 ≤ sizeLine; decide, [u, v], .cons ru (.cons rv .nil), ⟨_, Heap.get?_push_size _ rfl, rfl, _, rfl⟩⟩
    have zlt : z < s.heap.objs.size := Heap.lt_size st.1
    have old : ∀ c ∈ [z, a, b, i, j], c ≠ g.objs.size := fun c hc => by
      obtain ⟨hz, ha, ⟨u, v, hb⟩, ⟨oi, hi, ci⟩, ⟨oj, hj, cj⟩⟩ := st
      rw [sz]
      simp only [List.mem_cons, List.not_mem_nil, or_false] at hc
      rcases hc with rfl | rfl | rfl | rfl | rfl
      · exact Nat.ne_of_lt (Heap.lt_size hz)
      · exact Nat.ne_of_lt (Heap.lt_size ha)
      · exact Nat.ne_of_lt (Heap.lt_size hb)
      · exact Nat.ne_of_lt (Heap.lt_size hi)
      · exact Nat.ne_of_lt (Heap.lt_size hj)
    have free : ∀ c ∈ [z, a, b, i, j], upd H g.objs.size (HO.tup [xs[k], ys[k]'(hl ▸ hlt)]) c = none := fun c hc => by rw [upd_ne (old c hc)]; exact (hf c hc).1
    have fz : FpOk X pins (upd H g.objs.size (HO.tup [xs[k], ys[k]'(hl ▸ hlt)])) z := ⟨free z (by simp), (hf z (by simp)).2⟩
    refine ⟨.ref g.objs.size, rfl, wpAny_letOwnedTupleGo_zip z8 fun h2 z9 sb2 => ?_⟩
    have up : ∀ c o, c ≠ z → g.get? c = some o → h2.get? c = some o := fun c o hc e => by
      rw [show h2.get? c = h.get? c from sb2.2 c hc, sb.2 c hc]
      exact Heap.get?_push_of_some _ e
    have I7 : Inv X pins σ (upd H g.objs.size (.tup [xs[k], ys[k]'(hl ▸ hlt)])) { s with heap := h2 } := I6.turnedL (s := { s with heap := g.push { cls := .type "tuple", data := .seq #[u, v] } }) (t' := s.toks) (ch := [z]) (fun c o hc e => by
      have hc : c ≠ z := by simpa using hc
      rw [show h2.get? c = h.get? c from sb2.2 c hc, sb.2 c hc]
      exact e) fun c hc => by
        have : c = z := by simpa using hc
        rw [this]; exact fz
    refine ⟨.ref g.objs.size, _, I7, rfl, ⟨_, _, _, rfl, by have := I5.hok.fresh (Nat.le_refl g.objs.size); exact this, rfl, List.getElem?_eq_getElem hlt, List.getElem?_eq_getElem (hl ▸ hlt)⟩, ?_, free⟩
    have ka : g.get? a = _ := k5 a _ (by simp [D.az, D.ab, D.ai, D.aj]) st.2.1
    obtain ⟨oi, hi, ci⟩ := i5
    obtain ⟨oj, hj, cj⟩ := j5
    exact ⟨z9, up a _ D.az ka, ⟨_, _, up b _ D.bz b5⟩, ⟨oi, up i _ D.iz hi, ci⟩, ⟨oj, up j _ D.jz hj, cj⟩⟩
  done := by
    intro X hP hw hK hc k pins s σ H E I hf st hg
    subst hP hw hK
    obtain ⟨hlt, h1, h2⟩ := hg
    obtain ⟨us, r1, p1, _⟩ := I.tuple h1
    obtain ⟨vs, r2, p2, _⟩ := I.tuple h2
    have hl1 := r1.length
    refine nextZ_end (I.ok.hd hc) D st (show s.heap.IsTuple p us.toArray from p1) (show s.heap.IsTuple q vs.toArray from p2) (by simp; omega) fun h hk => ⟨rfl, I.turnedL (t' := s.toks) hk fun c hc => hf c ?_⟩
    simp only [List.mem_cons, List.not_mem_nil, or_false] at hc ⊢
    rcases hc with h | h | h | h <;> simp [h]
  self := fun _ _ _ _ _ st h => wpAny_pyIter_zip st.1 h
def iZip (K : PySem.W.Frag) (ta : TA) : TI := fun σ H R => ta σ H fun vs H1 => ∃ p q xs ys, vs = [.ref p, .ref q] ∧ SqT K H1 p xs ∧ SqT K H1 q ys ∧ xs.length = ys.length ∧ R (Itz K p q xs ys) H1
section
variable {X : Cx}
theorem pi_zip {elts : List Expr} {x1} {tp : Pos} {e1 e2 : Expr} {ta : TA} {p pos : Pos} (hg : Gl X "zip") (hm : X.mg "zip" = none) (ha : PA X [e1, e2] ta) (he : starEach [e1, e2] X.env = (false, eval e1 X.env) :: starEach [e2] X.env := by rfl) (hpl : (backTo pos (starEach [e2] X.env)).any (·.1) = false := by rfl) :
    PI X (.Tuple elts x1 tp) (.Call (.Name "zip" p) [e1, e2] [] pos) (iZip X.K ta) := by
  intro pins s σ H R I h
  refine Call_ (ld_blt I hg hm bt_zip (PyProof.Rows.callWith_type1 (thn (ha pos pins s σ H _ I h) fun us s1 ⟨vs, H1, I1, r1, q1⟩ => ?_) he hpl))
  obtain ⟨a, b, xs, ys, e, h1, h2, hl, q⟩ := q1
  subst e
  obtain ⟨u1, u2, rfl, ra, rb⟩ := vals2 r1
  cases ra
  cases rb
  obtain ⟨us1, r1, p1, _⟩ := I1.tuple h1
  obtain ⟨us2, r2, p2, _⟩ := I1.tuple h2
  have l1 : a < s1.heap.objs.size := by obtain ⟨_, e, _⟩ := p1; exact Heap.lt_size e
  have l2 : b < s1.heap.objs.size := by obtain ⟨_, e, _⟩ := p2; exact Heap.lt_size e
  refine call_zipT (show s1.heap.IsTuple a us1.toArray from p1) (show s1.heap.IsTuple b us2.toArray from p2) fun h' st k => ?_
  refine wpAny_pyIter_zip (s := { s1 with heap := h' }) st.1 ?_
  generalize hn : s1.heap.objs.size = n at *
  have ne : ∀ {x y : Nat}, x ≠ y → (show Addr from x) ≠ (show Addr from y) := fun h => h
  have la : ∀ k : Nat, (show Nat from a) ≠ n + k := fun k => Nat.ne_of_lt (Nat.lt_of_lt_of_le l1 (Nat.le_add_right _ _))
  have lb : ∀ k : Nat, (show Nat from b) ≠ n + k := fun k => Nat.ne_of_lt (Nat.lt_of_lt_of_le l2 (Nat.le_add_right _ _))
  have D : ZApart (n + 4) (n + 2) (n + 3) n (n + 1) a b := ⟨ne (by omega), ne (by omega), ne (by omega), ne (by omega), ne (by omega), ne (by omega), ne (by omega), ne (by omega), ne (by omega), ne (by omega), la 4, la 3, la 0, la 1, lb 4, lb 3, lb 0, lb 1⟩
  refine ⟨_, _, _, _, H1, rfl, I1.kept (t' := s1.toks) k, turn_zip D hl, st, fun c hc => ?_, q⟩
  simp only [List.mem_cons, List.not_mem_nil, or_false] at hc
  have hc : n ≤ c := by rcases hc with rfl | rfl | rfl | rfl | rfl <;> first | exact Nat.le_add_right _ _ | exact Nat.le_refl _
  exact I1.fpOk (by rw [hn]; exact hc) (I1.hok.fresh (by rw [hn]; exact hc))
end
section
variable {σ : St} {H : Hp} {nx : St → Hp → Prop} {B : V → St → Hp → (St → Hp → Prop) → Prop}
theorem loop_zip {K : PySem.W.Frag} {p q : Addr} (xs ys : List V) (Pv : Nat → St → Hp → Prop) (h0 : Pv 0 σ H) (hl : ∀ i σ H, Pv i σ H → SqT K H p xs ∧ SqT K H q ys)
    (hs : ∀ i u v T σ H, xs[i]? = some u → ys[i]? = some v → H T = none → Pv i σ H → B (.ref T) σ (upd H T (.tup [u, v])) (Pv (i + 1))) (hd : ∀ σ H, Pv xs.length σ H → nx σ H) :
    ∃ W : Nat → Nat → St → Hp → Prop, (∃ m, W 0 m σ H) ∧ ∀ i m σ H, W i m σ H → ((Itz K p q xs ys).stop i H ∧ nx σ H) ∨ ((Itz K p q xs ys).go i H ∧ ∃ N : St → Hp → Prop, (∀ σ' H', N σ' H' → ∃ m', m' < m ∧ W (i + 1) m' σ' H') ∧ ∀ x H', (Itz K p q xs ys).yld i H x H' → B x σ H' N) := by
  refine ⟨fun i m σ H => m = xs.length - i ∧ i ≤ xs.length ∧ Pv i σ H, ⟨xs.length, by simp, Nat.zero_le _, h0⟩, ?_⟩
  rintro i m σ H ⟨rfl, hi, pv⟩
  by_cases hlt : i < xs.length
  · refine .inr ⟨⟨hlt, hl i σ H pv⟩, Pv (i + 1), fun σ' H' p' => ⟨xs.length - (i + 1), by omega, rfl, hlt, p'⟩, ?_⟩
    rintro x H' ⟨T, u, v, rfl, hT, rfl, hu, hv⟩
    exact hs i u v T σ H hu hv hT pv
  · obtain rfl : i = xs.length := by omega
    exact .inl ⟨⟨Nat.le_refl _, hl _ σ H pv⟩, hd σ H pv⟩
end
abbrev cTup (K : PySem.W.Frag) : RC := fun xs H Q => ∃ p ys, xs = [.ref p] ∧ ((SqL K H p ys ∧ ∀ l, H l = none → Q (.ref l) (upd H l (.tup ys))) ∨ (SqT K H p ys ∧ Q (.ref p) H))
/-! ### terms written: what is read of a tree's words is the tree again -/
theorem scan_pre : ∀ {T : Tw}, wfT T → ∀ (r : List Str) (d : Nat), scanE (pre T ++ r) (d + 1) = (scanE r d).map (· + (pre T).length)
  | .leaf w, h, r, d => by
    show (scanE r (if isJ (.str w) = true then d + 2 else d)).map (· + 1) = _
    rw [if_neg (by rw [show isJ (.str w) = false from h]; decide)]
    rfl
  | .node w a b, h, r, d => by
    have e : pre (.node w a b) ++ r = w :: (pre a ++ (pre b ++ r)) := by simp [pre]
    rw [e]
    show (scanE (pre a ++ (pre b ++ r)) (if isJ (.str w) = true then d + 2 else d)).map (· + 1) = _
    rw [if_pos h.1, scan_pre h.2.1, scan_pre h.2.2, Option.map_map, Option.map_map]
    refine congrArg (fun f => Option.map f (scanE r d)) (funext fun n => ?_)
    show n + (pre b).length + (pre a).length + 1 = n + (pre (.node w a b)).length
    simp [pre]; omega
theorem scan_z (l : List Str) : scanE l 0 = some 0 := by cases l <;> (unfold scanE; rfl)
theorem parse_pre {A B : List Str} {T : Tw} (hw : wfT T) (ho : okT T = true) (hl : (pre T).length ≤ 60) : parse (A ++ pre T ++ B) A.length = some (pst T, A.length + (pre T).length) := by
  have e : (A ++ pre T ++ B).drop A.length = pre T ++ B := by rw [List.append_assoc, List.drop_left]
  have h : scanE ((A ++ pre T ++ B).drop A.length) 1 = some (pre T).length := by
    rw [e, scan_pre hw, scan_z]
    show some (0 + (pre T).length) = _
    rw [Nat.zero_add]
  rw [parse_some h hl hw (by rw [e, List.take_left]), if_pos ho]
def stepA (st : List (List V)) (v : V) : Option (List (List V)) := if isJ v = true then (match st.reverse with | b :: a :: r => some (r.reverse ++ [v :: (a ++ b)]) | _ => none) else some (st ++ [[v]])
def runA : List V → List (List V) → Option (List (List V))
  | [], st => some st
  | v :: r, st => (stepA st v).bind (runA r)
theorem runA_app : ∀ (p q : List V) (st : List (List V)), runA (p ++ q) st = (runA p st).bind (runA q)
  | [], q, st => rfl
  | v :: r, q, st => by
    show (stepA st v).bind (runA (r ++ q)) = ((stepA st v).bind (runA r)).bind (runA q)
    cases stepA st v with
    | none => rfl
    | some st' => exact runA_app r q st'
theorem pvw_notJ {w : Str} (h : isJ (.str w) = false) : isJ (pvw w) = false := by
  unfold pvw
  cases hp : partW w with
  | none => exact h
  | some v => exact (partW_flat hp).1
theorem pvw_j {w : Str} (h : isJ (.str w) = true) : pvw w = .str w := by
  unfold pvw
  rw [partW_j h]; rfl
theorem pvw_flat (w : Str) : (∃ i, pvw w = .int i) ∨ pvw w = .str w := by
  unfold pvw
  cases hp : partW w with
  | none => exact .inr rfl
  | some v => exact (partW_flat hp).2
theorem runA_tree : ∀ {T : Tw}, wfT T → ∀ st, runA (pst T) st = some (st ++ [(pre T).map pvw])
  | .leaf w, h, st => by
    show (stepA st (pvw w)).bind (runA []) = _
    unfold stepA
    rw [pvw_notJ h, if_neg (by decide)]
    rfl
  | .node w a b, h, st => by
    show runA (pst a ++ pst b ++ [.str w]) st = _
    rw [runA_app, runA_app, runA_tree h.2.1]
    show ((runA (pst b) (st ++ [(pre a).map pvw])).bind (runA [.str w])) = _
    rw [runA_tree h.2.2]
    show (stepA (st ++ [(pre a).map pvw] ++ [(pre b).map pvw]) (.str w)).bind (runA []) = _
    unfold stepA
    rw [if_pos h.1]
    simp [runA, pre, pvw_j h.1]
theorem runA_one {ps : List V} {i : Nat} {st : List (List V)} {v : V} (h : runA (ps.take i) [] = some st) (hv : ps[i]? = some v) : runA (ps.take (i + 1)) [] = stepA st v := by
  rw [List.take_add_one, hv]
  show runA (ps.take i ++ [v]) [] = _
  rw [runA_app, h]
  show (stepA st v).bind (runA []) = _
  cases stepA st v <;> rfl
theorem runA_none {ps : List V} {i : Nat} (h : runA (ps.take i) [] = none) : runA ps [] = none := by
  have := runA_app (ps.take i) (ps.drop i) []
  rw [List.take_append_drop, h] at this
  exact this
theorem stepA_two {l : List (List V)} {a b : List V} {v : V} (hv : isJ v = true) : stepA (l ++ [a, b]) v = some (l ++ [v :: (a ++ b)]) := by
  unfold stepA
  rw [if_pos hv]
  simp
theorem stepA_few {st : List (List V)} {v : V} (hv : isJ v = true) (h : st.length ≤ 1) : stepA st v = none := by
  unfold stepA
  rw [if_pos hv]
  match st, h with
  | [], _ => rfl
  | [a], _ => rfl
  | a :: b :: r, h => exact absurd h (by rw [List.length_cons, List.length_cons]; omega)
def wOfV : V → V
  | .int i => .str (numS i)
  | v => v
theorem partW_back {w : Str} {v : V} (h : partW w = some v) : wOfV v = .str w ∧ ((∃ i, v = .int i ∧ inW i = true) ∨ v = .str w) := by
  unfold partW at h
  split at h
  · cases h
    exact ⟨rfl, .inr rfl⟩
  · split at h
    · rename_i z
      cases h
      unfold isNum at z
      rw [Bool.and_eq_true, Bool.and_eq_true] at z
      refine ⟨?_, .inl ⟨_, rfl, z.2.1⟩⟩
      show V.str (numS (valOf w)) = .str w
      rw [of_decide_eq_true z.2.2]
    · cases h
theorem wOf_pre {T : Tw} (hw : wfT T) (ho : okT T = true) : ((pre T).map pvw).map wOfV = (pre T).map V.str := by
  rw [List.map_map]
  refine List.map_congr_left fun w h => ?_
  show wOfV (pvw w) = .str w
  rcases (okT_iff hw).mp ho w h with j | j
  · rw [pvw_j j]; rfl
  · obtain ⟨v, e⟩ := Option.isSome_iff_exists.mp j
    unfold pvw
    rw [e]
    exact (partW_back e).1
theorem pst_ok : ∀ {T : Tw}, wfT T → okT T = true → ∀ v ∈ pst T, (∃ i, v = .int i ∧ inW i = true) ∨ ∃ x : Str, v = .str x ∧ x ∈ pre T
  | .leaf w, _, ho, v, hv => by
    have e : v = pvw w := by simpa [pst] using hv
    obtain ⟨u, eu⟩ := Option.isSome_iff_exists.mp (show (partW w).isSome = true from ho)
    have e2 : pvw w = u := by unfold pvw; rw [eu]; rfl
    rw [e, e2]
    rcases (partW_back eu).2 with h | h
    · exact .inl h
    · exact .inr ⟨w, h, by simp [pre]⟩
  | .node w a b, hw, ho, v, hv => by
    have ho' : okT a = true ∧ okT b = true := by
      have : (okT a && okT b) = true := ho
      rwa [Bool.and_eq_true] at this
    have hv : v ∈ pst a ∨ v ∈ pst b ∨ v = .str w := by simpa [pst, or_assoc] using hv
    rcases hv with h | h | h
    · rcases pst_ok hw.2.1 ho'.1 v h with h | ⟨x, h, m⟩
      · exact .inl h
      · exact .inr ⟨x, h, by simp [pre, m]⟩
    · rcases pst_ok hw.2.2 ho'.2 v h with h | ⟨x, h, m⟩
      · exact .inl h
      · exact .inr ⟨x, h, by simp [pre, m]⟩
    · exact .inr ⟨w, h, by simp [pre]⟩
end L2

namespace L2
open PySem PySem.W PyProof.Rows
/-! ### the sort's tree of questions, answered by a strict order -/
section
variable {α β : Type} {lt : Nat → Nat → Bool} {n : Nat}
def kOk (lt : Nat → Nat → Bool) (n : Nat) : KasT α → (α → Prop) → Prop
  | .ret a, R => R a
  | .ask i j k, R => i < n ∧ j < n ∧ i ≠ j ∧ kOk lt n (k (lt i j)) R
theorem kOk_bind : ∀ {t : KasT α} {f : α → KasT β} {R : β → Prop}, kOk lt n t (fun a => kOk lt n (f a) R) → kOk lt n (t.bind f) R
  | .ret _, _, _, h => h
  | .ask _ _ _, _, _, h => ⟨h.1, h.2.1, h.2.2.1, kOk_bind h.2.2.2⟩
theorem kOk_mono : ∀ {t : KasT α} {R R' : α → Prop}, kOk lt n t R → (∀ a, R a → R' a) → kOk lt n t R'
  | .ret _, _, _, h, m => m _ h
  | .ask _ _ _, _, _, h, m => ⟨h.1, h.2.1, h.2.2.1, kOk_mono h.2.2.2 m⟩
structure SO (lt : Nat → Nat → Bool) (n : Nat) : Prop where
  irr : ∀ i, i < n → lt i i = false
  trans : ∀ i j k, i < n → j < n → k < n → lt i j = true → lt j k = true → lt i k = true
  tot : ∀ i j, i < n → j < n → i ≠ j → lt i j = false → lt j i = true
def PP (n : Nat) (p : Array Nat) : Prop := p.Perm (List.range n).toArray
def gt (p : Array Nat) (k : Nat) : Nat := p.getD k 0
theorem gt_eq {p : Array Nat} {k : Nat} (h : k < p.size) : p[k]? = some (gt p k) := by
  unfold gt
  rw [Array.getD_eq_getD_getElem?, Array.getElem?_eq_getElem h]
  rfl
theorem PP.size {p : Array Nat} (h : PP n p) : p.size = n := by
  have := h.size_eq
  simpa using this
theorem PP.blt {p : Array Nat} (h : PP n p) {k : Nat} (hk : k < n) : gt p k < n := by
  have hs := h.size
  have m : gt p k ∈ p := Array.mem_of_getElem? (gt_eq (by omega))
  have m2 : gt p k ∈ (List.range n).toArray := (Array.Perm.mem_iff h).mp m
  simpa using m2
theorem PP.inj {p : Array Nat} (h : PP n p) {i j : Nat} (hi : i < n) (hj : j < n) (e : gt p i = gt p j) : i = j := by
  have hs := h.size
  have nd : p.toList.Nodup := by
    have : p.toList.Perm (List.range n) := by
      have := Array.perm_iff_toList_perm.mp h
      simpa using this
    exact this.nodup_iff.mpr List.nodup_range
  have e1 := gt_eq (p := p) (k := i) (by omega)
  have e2 := gt_eq (p := p) (k := j) (by omega)
  rw [← e] at e2
  have e1' : p.toList[i]? = some (gt p i) := by simpa using e1
  have e2' : p.toList[j]? = some (gt p i) := by simpa using e2
  obtain ⟨a1, b1⟩ := List.getElem?_eq_some_iff.mp e1'
  obtain ⟨a2, b2⟩ := List.getElem?_eq_some_iff.mp e2'
  exact (List.getElem_inj nd).mp (b1.trans b2.symm)
def Rise (lt : Nat → Nat → Bool) (p : Array Nat) (m : Nat) : Prop := ∀ i j, i < j → j < m → lt (gt p i) (gt p j) = true
def Fall (lt : Nat → Nat → Bool) (p : Array Nat) (m : Nat) : Prop := ∀ i j, i < j → j < m → lt (gt p j) (gt p i) = true
theorem asc_ok (S : SO lt n) {p : Array Nat} (hp : PP n p) : ∀ (f a : Nat), 1 ≤ a → a + f ≤ n → Rise lt p a → kOk lt n (kas_asc p f a) fun m => a ≤ m ∧ m ≤ a + f ∧ Rise lt p m ∧ (m < a + f → lt (gt p m) (gt p (m - 1)) = true)
  | 0, a, h1, h2, hr => ⟨Nat.le_refl _, Nat.le_refl _, hr, fun z => absurd z (Nat.lt_irrefl _)⟩
  | f + 1, a, h1, h2, hr => by
    refine ⟨hp.blt (by omega), hp.blt (by omega), (fun z => by have := hp.inj (by omega) (by omega) z; omega), ?_⟩
    show kOk lt n (if lt (gt p a) (gt p (a - 1)) = true then .ret a else kas_asc p f (a + 1)) _
    by_cases c : lt (gt p a) (gt p (a - 1)) = true
    · rw [if_pos c]
      exact ⟨Nat.le_refl _, by omega, hr, fun _ => c⟩
    · rw [if_neg c]
      have up : lt (gt p (a - 1)) (gt p a) = true := S.tot _ _ (hp.blt (by omega)) (hp.blt (by omega)) (fun z => by have := hp.inj (by omega) (by omega) z; omega) (Bool.eq_false_iff.mpr c)
      refine kOk_mono (asc_ok S hp f (a + 1) (by omega) (by omega) fun i j hij hj => ?_) fun m ⟨x1, x2, x3, x4⟩ => ⟨by omega, by omega, x3, fun z => x4 (by omega)⟩
      by_cases hja : j < a
      · exact hr i j hij hja
      · obtain rfl : j = a := by omega
        by_cases hi : i = j - 1
        · rw [hi]; exact up
        · exact S.trans _ _ _ (hp.blt (by omega)) (hp.blt (by omega)) (hp.blt (by omega)) (hr i (j - 1) (by omega) (by omega)) up
theorem desc_ok (S : SO lt n) {p : Array Nat} (hp : PP n p) : ∀ (f a : Nat), 1 ≤ a → a + f ≤ n → Fall lt p a → kOk lt n (kas_desc f p a 0) fun r => r.1 = p ∧ r.2.2 = 0 ∧ a ≤ r.2.1 ∧ r.2.1 ≤ a + f ∧ Fall lt p r.2.1
  | 0, a, h1, h2, hr => ⟨rfl, rfl, Nat.le_refl _, Nat.le_refl _, hr⟩
  | f + 1, a, h1, h2, hr => by
    refine ⟨hp.blt (by omega), hp.blt (by omega), (fun z => by have := hp.inj (by omega) (by omega) z; omega), ?_⟩
    show kOk lt n (if lt (gt p a) (gt p (a - 1)) = true then (if 0 > 0 then _ else kas_desc f p (a + 1) 0) else .ask (gt p (a - 1)) (gt p a) fun d => if d = true then .ret (p, a, 0) else kas_desc f p (a + 1) (0 + 1)) _
    by_cases c : lt (gt p a) (gt p (a - 1)) = true
    · rw [if_pos c, if_neg (by omega)]
      refine kOk_mono (desc_ok S hp f (a + 1) (by omega) (by omega) fun i j hij hj => ?_) fun m ⟨x1, x2, x3, x4, x5⟩ => ⟨x1, x2, by omega, by omega, x5⟩
      by_cases hja : j < a
      · exact hr i j hij hja
      · obtain rfl : j = a := by omega
        by_cases hi : i = j - 1
        · rw [hi]; exact c
        · exact S.trans _ _ _ (hp.blt (by omega)) (hp.blt (by omega)) (hp.blt (by omega)) c (hr i (j - 1) (by omega) (by omega))
    · rw [if_neg c]
      have up : lt (gt p (a - 1)) (gt p a) = true := S.tot _ _ (hp.blt (by omega)) (hp.blt (by omega)) (fun z => by have := hp.inj (by omega) (by omega) z; omega) (Bool.eq_false_iff.mpr c)
      refine ⟨hp.blt (by omega), hp.blt (by omega), (fun z => by have := hp.inj (by omega) (by omega) z; omega), ?_⟩
      show kOk lt n (if lt (gt p (a - 1)) (gt p a) = true then .ret (p, a, 0) else _) _
      rw [if_pos up]
      exact ⟨rfl, rfl, Nat.le_refl _, Nat.le_add_right _ _, hr⟩
theorem rev_gt {p : Array Nat} {m k : Nat} (hm : m ≤ p.size) (hk : k < m) : gt (kas_rev p 0 m) k = gt p (m - 1 - k) := by
  have e := getElem?_mirror_all (xs := p) (i := 0) (j := m) hm k
  rw [if_pos ⟨Nat.zero_le _, hk⟩] at e
  have e1 := gt_eq (p := kas_rev p 0 m) (k := k) (by unfold kas_rev; rw [mirror_size]; omega)
  have e2 := gt_eq (p := p) (k := m - 1 - k) (by omega)
  unfold kas_rev at e1 ⊢
  rw [e, show 0 + m - 1 - k = m - 1 - k by omega, e2] at e1
  exact (Option.some.inj e1).symm
theorem PP.rev {p : Array Nat} (h : PP n p) (m : Nat) : PP n (kas_rev p 0 m) := Array.Perm.trans (mirror_perm _ _ _ _) h
theorem tail_ok (S : SO lt n) {p : Array Nat} (hp : PP n p) {m : Nat} (h1 : 1 ≤ m) (h2 : m ≤ n) (hf : Fall lt p m) : kOk lt n (kas_tail3 m n p) fun r => PP n r.2 ∧ Rise lt r.2 r.1 ∧ 1 ≤ r.1 ∧ r.1 ≤ n := by
  refine kOk_bind (kOk_mono (asc_ok S (hp.rev m) (n - m) m h1 (by omega) fun i j hij hj => ?_) fun a ⟨x1, x2, x3, _⟩ => ⟨hp.rev m, x3, by omega, by omega⟩)
  have hs := hp.size
  rw [rev_gt (by omega) (by omega), rev_gt (by omega) hj]
  exact hf _ _ (by omega) (by omega)
theorem count_ok (S : SO lt n) {p : Array Nat} (hp : PP n p) (hn : 1 ≤ n) : kOk lt n (kas_count n p) fun r => PP n r.2 ∧ Rise lt r.2 r.1 ∧ 1 ≤ r.1 ∧ r.1 ≤ n := by
  refine kOk_bind (kOk_mono (asc_ok S hp (n - 1) 1 (Nat.le_refl _) (by omega) fun i j hij hj => by omega) fun m ⟨x1, x2, x3, x4⟩ => ?_)
  by_cases e : (m == n) = true
  · rw [if_pos e]
    exact ⟨hp, x3, x1, by omega⟩
  · rw [if_neg e]
    have ne : m ≠ n := by simpa using e
    by_cases h : m > 1
    · rw [if_pos h]
      refine ⟨hp.blt (by omega), hp.blt (by omega), (fun z => by have := hp.inj (by omega) (by omega) z; omega), ?_⟩
      show kOk lt n (if lt (gt p 0) (gt p (m - 1)) = true then .ret (m, p) else _) _
      rw [if_pos (x3 0 (m - 1) (by omega) (by omega))]
      exact ⟨hp, x3, x1, by omega⟩
    · rw [if_neg h]
      obtain rfl : m = 1 := by omega
      have c := x4 (by omega)
      refine kOk_bind (kOk_mono (desc_ok S hp (n - 2) 2 (by omega) (by omega) fun i j hij hj => ?_) fun r ⟨y1, y2, y3, y4, y5⟩ => ?_)
      · obtain rfl : j = 1 := by omega
        obtain rfl : i = 0 := by omega
        exact c
      · rw [if_neg (by omega), y1]
        exact tail_ok S hp (by omega) (by omega) y5
theorem place_ok (S : SO lt n) {p : Array Nat} (hp : PP n p) {k : Nat} (hk : k < n) (hr : Rise lt p k) : ∀ (f l r : Nat), l ≤ r → r ≤ k → r - l ≤ f → (∀ i, i < l → lt (gt p i) (gt p k) = true) → (∀ i, r ≤ i → i < k → lt (gt p k) (gt p i) = true) →
    kOk lt n (kas_place p k f l r) fun m => m ≤ k ∧ (∀ i, i < m → lt (gt p i) (gt p k) = true) ∧ ∀ i, m ≤ i → i < k → lt (gt p k) (gt p i) = true
  | 0, l, r, h1, h2, h3, h4, h5 => ⟨by omega, h4, fun i hi hik => h5 i (by omega) hik⟩
  | f + 1, l, r, h1, h2, h3, h4, h5 => by
    unfold kas_place
    by_cases c : l ≥ r
    · rw [if_pos c]
      exact ⟨by omega, h4, fun i hi hik => h5 i (by omega) hik⟩
    · rw [if_neg c]
      refine ⟨hp.blt (by omega), hp.blt (by omega), (fun z => by have := hp.inj (by omega) (by omega) z; omega), ?_⟩
      show kOk lt n (if lt (gt p k) (gt p ((l + r) / 2)) = true then _ else _) _
      by_cases d : lt (gt p k) (gt p ((l + r) / 2)) = true
      · rw [if_pos d]
        refine place_ok S hp hk hr f l ((l + r) / 2) (by omega) (by omega) (by omega) h4 fun i hi hik => ?_
        by_cases e : i = (l + r) / 2
        · rw [e]; exact d
        · exact S.trans _ _ _ (hp.blt (by omega)) (hp.blt (by omega)) (hp.blt (by omega)) d (hr _ i (by omega) hik)
      · rw [if_neg d]
        have up : lt (gt p ((l + r) / 2)) (gt p k) = true := S.tot _ _ (hp.blt (by omega)) (hp.blt (by omega)) (fun z => by have := hp.inj (by omega) (by omega) z; omega) (Bool.eq_false_iff.mpr d)
        refine place_ok S hp hk hr f ((l + r) / 2 + 1) r (by omega) (by omega) (by omega) (fun i hi => ?_) h5
        by_cases e : i = (l + r) / 2
        · rw [e]; exact up
        · exact S.trans _ _ _ (hp.blt (by omega)) (hp.blt (by omega)) (hp.blt (by omega)) (hr i _ (by omega) (by omega)) up
theorem bub_gt {p : Array Nat} {k d j : Nat} (hk : k < p.size) (hd : d ≤ k) (hj : j < p.size) : gt (bubble p k d) j = if j = k - d then gt p k else if k - d < j ∧ j ≤ k then gt p (j - 1) else gt p j := by
  have e := getElem?_bubble hk d hd j
  rw [gt_eq (p := bubble p k d) (k := j) (by rw [bubble_size]; exact hj)] at e
  by_cases h1 : j = k - d
  · rw [if_pos h1, gt_eq hk] at e
    rw [if_pos h1]; exact Option.some.inj e
  · rw [if_neg h1] at e ⊢
    by_cases h2 : k - d < j ∧ j ≤ k
    · rw [if_pos h2, gt_eq (by omega)] at e
      rw [if_pos h2]; exact Option.some.inj e
    · rw [if_neg h2, gt_eq hj] at e
      rw [if_neg h2]; exact Option.some.inj e
theorem bin_ok (S : SO lt n) : ∀ (f : Nat) {p : Array Nat} (k : Nat), PP n p → k + f = n → Rise lt p k → kOk lt n (kas_bin f p k) fun p' => PP n p' ∧ Rise lt p' n
  | 0, p, k, hp, hk, hr => ⟨hp, by rw [← hk]; exact hr⟩
  | f + 1, p, k, hp, hk, hr => by
    have hs := hp.size
    refine kOk_bind (kOk_mono (place_ok S hp (by omega) hr k 0 k (Nat.zero_le _) (Nat.le_refl _) (by omega) (fun i hi => by omega) (fun i h1 h2 => by omega)) fun l ⟨x1, x2, x3⟩ => ?_)
    refine bin_ok S f (k + 1) (Array.Perm.trans (bubble_perm _ _ _) hp) (by omega) fun i j hij hj => ?_
    rw [bub_gt (by omega) (by omega) (by omega), bub_gt (by omega) (by omega) (by omega)]
    have e : k - (k - l) = l := by omega
    rw [e]
    by_cases hi : i = l
    · rw [if_pos hi, if_neg (by omega), if_pos (by omega)]
      exact x3 _ (by omega) (by omega)
    · rw [if_neg hi]
      by_cases hi2 : l < i ∧ i ≤ k
      · rw [if_pos hi2, if_neg (by omega), if_pos (by omega)]
        exact hr _ _ (by omega) (by omega)
      · rw [if_neg hi2]
        by_cases hj1 : j = l
        · rw [if_pos hj1]
          exact x2 _ (by omega)
        · rw [if_neg hj1]
          by_cases hj2 : l < j ∧ j ≤ k
          · rw [if_pos hj2]
            by_cases hij2 : i < j - 1
            · exact hr _ _ hij2 (by omega)
            · omega
          · rw [if_neg hj2]
            exact hr _ _ hij (by omega)
theorem sort_ok (S : SO lt n) (hn : 1 ≤ n) : kOk lt n (kas_sort n) fun p => PP n p ∧ Rise lt p n := by
  refine kOk_bind (kOk_mono (count_ok S (p := List.toArray (List.range n)) (Array.Perm.refl _) hn) fun r ⟨x1, x2, x3, x4⟩ => ?_)
  by_cases h : r.1 < n
  · rw [if_pos h, Nat.max_eq_left x3]
    exact bin_ok S _ _ x1 (by omega) x2
  · rw [if_neg h]
    obtain e : r.1 = n := by omega
    exact ⟨x1, by rw [← e]; rw [e] at x2 ⊢; exact x2⟩
end
end L2

namespace L2
open PySem PySem.W PyProof.Rows
theorem kOk_at {α : Type} {lt : Nat → Nat → Bool} {n : Nat} {s : Shared} {cmp : Nat → Nat → (Bool → Shared → Prop) → Shared → Prop} (hc : ∀ i j C, i < n → j < n → i ≠ j → C (lt i j) s → cmp i j C s) : ∀ {t : KasT α} {R : α → Prop} {Q : α → Shared → Prop}, kOk lt n t R → (∀ a, R a → Q a s) → t.kasWp cmp Q s
  | .ret _, _, _, h, m => m _ h
  | .ask _ _ _, _, _, h, m => hc _ _ _ h.1 h.2.1 h.2.2.1 (kOk_at hc h.2.2.2 m)
def Kp (a : Addr) (h h' : Heap) : Prop := ∀ b o, b ≠ a → h.get? b = some o → h'.get? b = some o
def outOf (vs : List Value) (p : Array Nat) : List Value := p.toList.map fun i => vs.getD i Value.none
theorem outOf_range (vs : List Value) : outOf vs (List.toArray (List.range vs.length)) = vs := by
  unfold outOf
  apply List.ext_getElem?
  intro i
  simp only [List.getElem?_map]
  by_cases h : i < vs.length
  · rw [List.getElem?_eq_getElem (l := vs) h]
    simp [List.getElem?_range h, h]
  · rw [List.getElem?_eq_none (by omega : vs.length ≤ i)]
    simp
    omega
section
variable {P : Program} {w : World} {A : Around} {E : Value → Shared → Prop} {s : Shared}
theorem lsort_pure {a : Addr} {vs : List Value} {n : Nat} {κ : SortKind} {lt : Nat → Nat → Bool} {R : PySem.Fin → Shared → Prop} (ho : s.heap.get? a = some (seqObj "list" vs.toArray n)) (h64 : vs.length < 64)
    (hk : 2 ≤ vs.length → ∀ (h : Heap) (Q : SortKind → Shared → Prop), Kp a s.heap h → Q κ { s with heap := h } → wpAny (model P w) A (keyKind' vs.toArray) Q (fun _ _ => False) { s with heap := h })
    (hc : ∀ (h : Heap) i j C, Kp a s.heap h → i < vs.length → j < vs.length → i ≠ j → C (lt i j) { s with heap := h } → kas_ask P w A κ vs i j C { s with heap := h }) (S : SO lt vs.length)
    (fin : ∀ h p c, Kp a s.heap h → h.get? a = some (seqObj "list" (outOf vs p).toArray c) → PP vs.length p → Rise lt p vs.length → R (.done (.ret .none)) { s with heap := h }) :
    wpAny (model P w) A (Builtin.«list.sort» ⟨[.ref a], []⟩) R E s := by
  have ha : a < s.heap.objs.size := Heap.lt_size ho
  obtain ⟨e1, o1⟩ : ∃ e1, (s.heap.update a (Obj.mapSeq fun _ => (#[] : Array Value))).get? a = some (seqObj "list" #[] e1) := ⟨_, get?_update_seq ho fun _ => #[]⟩
  have k1 : Kp a s.heap (((s.heap.update a (Obj.mapSeq fun _ => (#[] : Array Value))).push (seqObj "tuple" vs.toArray 0)).push (seqObj "list" #[] 0)) := fun b o hb e =>
    Heap.get?_push_of_some _ (Heap.get?_push_of_some _ ((Heap.get?_update_other _ _ (Ne.symm hb)).trans e))
  have o3 : (((s.heap.update a (Obj.mapSeq fun _ => (#[] : Array Value))).push (seqObj "tuple" vs.toArray 0)).push (seqObj "list" #[] 0)).get? a = some (seqObj "list" #[] e1) := Heap.get?_push_of_some _ (Heap.get?_push_of_some _ o1)
  have last : ∀ out : List Value, out.length = vs.length → ∃ c, ((((s.heap.update a (Obj.mapSeq fun _ => (#[] : Array Value))).push (seqObj "tuple" vs.toArray 0)).push (seqObj "list" #[] 0)).update a (Obj.mapSeq fun _ => out.toArray)).get? a = some (seqObj "list" out.toArray c) := fun out _ => ⟨_, get?_update_seq o3 fun _ => out.toArray⟩
  have keep2 : ∀ out : List Value, Kp a s.heap ((((s.heap.update a (Obj.mapSeq fun _ => (#[] : Array Value))).push (seqObj "tuple" vs.toArray 0)).push (seqObj "list" #[] 0)).update a (Obj.mapSeq fun _ => out.toArray)) := fun out b o hb e =>
    (Heap.get?_update_other _ _ (Ne.symm hb)).trans (k1 b o hb e)
  rw [list_sort_plain]; refine wpAny_bind (listItems_at ho rfl ?_)
  refine wpAny_bind (listUpdate_at ho rfl ?_ (by rw [List.size_toArray, sizeLine_eq]; omega) (Nat.zero_le _)); refine wpAny_bind (seqEpoch_at o1 rfl ?_)
  refine wpAny_bind (wpAny_newTuple ?_ (by show vs.length ≤ _; rw [sizeLine_eq]; omega)); refine wpAny_bind (wpAny_newList ?_ (Nat.zero_le _)); refine wpAny_holding ?_
  show wpAny (model P w) A _ R E { s with heap := ((s.heap.update a (Obj.mapSeq fun _ => (#[] : Array Value))).push (seqObj "tuple" vs.toArray 0)).push (seqObj "list" #[] 0) }
  generalize hH : ((s.heap.update a (Obj.mapSeq fun _ => (#[] : Array Value))).push (seqObj "tuple" vs.toArray 0)).push (seqObj "list" #[] 0) = g at *
  dsimp only
  have up : ∀ out : List Value, out.length = vs.length → ∀ p, out = outOf vs p → PP vs.length p → Rise lt p vs.length → R (.done (.ret .none)) { s with heap := g.update a (Obj.mapSeq fun _ => out.toArray) } := fun out hl p e hp hr => by
    obtain ⟨c, hcc⟩ := last out hl
    refine fin _ p c (keep2 out) ?_ hp hr
    rw [← e]; exact hcc
  by_cases h2 : vs.toArray.size < 2
  · have hl2 : vs.length < 2 := by simpa using h2
    rw [if_pos h2, if_pos h2]; refine wpAny_bind (wpAny_pure ?_); rw [StateT.run_pure]; refine wpAny_bind (wpAny_pure ?_)
    dsimp only
    have ez : ((vs.toArray.zip vs.toArray).map (·.2)) = vs.toArray := by
      apply Array.toList_inj.mp
      rw [Array.toList_map, Array.toList_zip]
      simp [List.map_snd_zip]
    refine wpAny_bind (seqEpoch_at o3 rfl ?_)
    rw [show (arrOf (SortSt.mk' general' (vs.toArray.zip vs.toArray) #[] 7 none)) = vs.toArray.zip vs.toArray from rfl, ez]
    refine wpAny_bind (listUpdate_at o3 rfl ?_ (Nat.zero_le _) (by rw [List.size_toArray, sizeLine_eq]; omega))
    simp only [bne_self_eq_false, Bool.false_eq_true, if_false]
    exact wpAny_pure (up vs rfl _ (outOf_range vs).symm (Array.Perm.refl _) fun i j hij hj => by omega)
  · have hl2 : 2 ≤ vs.length := by simpa using h2
    rw [if_neg h2, if_neg h2]; refine wpAny_bind (wpAny_mono (hk hl2 g (fun κ' s' => κ' = κ ∧ s' = { s with heap := g }) k1 ⟨rfl, rfl⟩) (fun κ' s' hs => ?_) fun _ _ x => x.elim)
    obtain ⟨rfl, rfl⟩ := hs
    have run := kOk_at (s := { s with heap := g }) (cmp := kas_ask P w A κ' vs) (fun i j C hi hj hij hC => hc g i j C k1 hi hj hij hC) (sort_ok S (by omega)) (Q := fun p s' => s' = { s with heap := g } ∧ PP vs.length p ∧ Rise lt p vs.length) fun p hp => ⟨rfl, hp⟩
    refine wpAny_bind (wpAny_mono (kat_run (ks := vs) (Q := fun st s' => ∃ p : Array Nat, arrOf st = p.map (kas_item (vs.toArray.zip vs.toArray)) ∧ failedOf st = none ∧ s' = { s with heap := g } ∧ PP vs.length p ∧ Rise lt p vs.length) rfl hl2 h64 (fun p st s' _ a2 a3 a4 => ⟨p, a2, a3, a4⟩) run) ?_ fun _ _ e => e)
    rintro ⟨⟨⟩, st⟩ s' ⟨p, har, hf, rfl, hp, hr⟩
    dsimp only
    have out := kat_snds (ks := vs) rfl har
    have ol : (outOf vs p).length = vs.length := by unfold outOf; rw [List.length_map, Array.length_toList, hp.size]
    rw [out]; refine wpAny_bind (seqEpoch_at o3 rfl ?_)
    refine wpAny_bind (listUpdate_at o3 rfl ?_ (Nat.zero_le _) (by show (List.toArray (outOf vs p)).size ≤ _; rw [List.size_toArray, ol, sizeLine_eq]; omega)); rw [hf]
    simp only [bne_self_eq_false, Bool.false_eq_true, if_false]
    exact wpAny_pure (up (outOf vs p) ol p rfl hp hr)
/-- sorted(x), where x is collected as vs -/
theorem sorted_pure {l : Addr} {vs : List Value} {κ : SortKind} {lt : Nat → Nat → Bool} {Q : Value → Shared → Prop} (h64 : vs.length < 64) (S : SO lt vs.length)
    (coll : ∀ R : List Value → Shared → Prop, (∀ (h : Heap) (tk : Nat), (∀ b o, s.heap.get? b = some o → h.get? b = some o) → R vs { s with heap := h, toks := tk }) → wpAny (model P w) A.in1 (collect (.ref l)) R E s)
    (hk : 2 ≤ vs.length → ∀ (h : Heap) (tk : Nat) (Q : SortKind → Shared → Prop), (∀ b o, s.heap.get? b = some o → h.get? b = some o) → Q κ { s with heap := h, toks := tk } → wpAny (model P w) A.in1.in1 (keyKind' vs.toArray) Q (fun _ _ => False) { s with heap := h, toks := tk })
    (hc : ∀ (h : Heap) (tk : Nat) i j C, (∀ b o, s.heap.get? b = some o → h.get? b = some o) → i < vs.length → j < vs.length → i ≠ j → C (lt i j) { s with heap := h, toks := tk } → kas_ask P w A.in1.in1 κ vs i j C { s with heap := h, toks := tk })
    (fin : ∀ (h : Heap) (tk : Nat) (h' : Heap) (p : Array Nat) (c : Nat), (∀ b o, s.heap.get? b = some o → h.get? b = some o) → (∀ b o, h.get? b = some o → h'.get? b = some o) → h'.get? h.objs.size = some (seqObj "list" (outOf vs p).toArray c) → PP vs.length p → Rise lt p vs.length → Q (.ref h.objs.size) { s with heap := h', toks := tk }) :
    wpAny (model P w) A (call (.builtin "sorted") [.ref l]) Q E s := by
  refine Calls.call_function_entry kind_sorted plain_sorted entry_sorted (args_sorted1 _) ?_; unfold Builtin.«sorted»
  refine wpAny_bind (m := checkCount "sorted" 1 1 _) (wpAny_pure ?_); refine wpAny_bind (coll _ fun h tk hk1 => ?_)
  refine wpAny_bind (wpAny_newList ?_ (by rw [sizeLine_eq]; omega))
  have hoL : (h.push (seqObj "list" vs.toArray 0)).get? h.objs.size = some (seqObj "list" vs.toArray 0) := Heap.get?_push_size _ rfl
  have kept : ∀ h', Kp h.objs.size (h.push (seqObj "list" vs.toArray 0)) h' → ∀ b o, h.get? b = some o → h'.get? b = some o := fun h' k b o e => k b o (Nat.ne_of_lt (Heap.lt_size e)) (Heap.get?_push_of_some _ e)
  refine wpAny_bind (wpAny_holding (wpAny_call_entry slot_list_sort ⟨_, hoL, rfl⟩ entry_list_sort (lsort_pure (s := { s with heap := h.push (seqObj "list" vs.toArray 0), toks := tk }) hoL h64 (κ := κ) (lt := lt) (fun h2 h' Q' k q => ?_) (fun h' i j C k hi hj hij q => ?_) S fun h' p c k ho hp hr => ?_) (args_list_sort _)))
  · exact hk h2 h' tk Q' (fun b o e => kept h' k b o (hk1 b o e)) q
  · exact hc h' tk i j C (fun b o e => kept h' k b o (hk1 b o e)) hi hj hij q
  · exact ⟨_, rfl, wpAny_pure ⟨_, rfl, fin h tk h' p c hk1 (kept h' k) ho hp hr⟩⟩
end
end L2

namespace L2
open PySem PySem.W PyProof.Rows
def placeLt (a b : Str × Int) : Bool := if a.1 = b.1 then decide (a.2 < b.2) else decide (a.1.cps.toList < b.1.cps.toList)
/-- a place lies at an address -/
def PlAt (h : Heap) (v : Value) (q : Str × Int) : Prop := ∃ a o t u n, v = .ref a ∧ h.get? a = some o ∧ o.cls = .type "tuple" ∧ o.data = .seq #[.str q.1 t, .int q.2 u] n
section
variable {P : Program} {w : World} {A : Around} {E : Value → Shared → Prop} {s : Shared}
theorem lt1_str {a c : Str} {t u : Tok} {Q : Bool → Shared → Prop} (h : Q (decide (a.cps.toList < c.cps.toList)) s) : wpAny (model P w) A (oneLt' true (.str a t) (.str c u)) Q E s := by
  rw [← keyLt'_oneType]
  exact kas_lt_str h
theorem lt0_int {a c : Int} {t u : Tok} {Q : Bool → Shared → Prop} (h : Q (decide (a < c)) s) : wpAny (model P w) A (oneLt' false (.int a t) (.int c u)) Q E s :=
  kat_one _ _ (PyProof.Rows.lt_int (show PySem.W.BoolBack Q (.bool (decide (a < c))) s from h))
/-- the sort's question of two places -/
theorem ask_place {x y : Value} {a b : Str × Int} {Q : Bool → Shared → Prop} (hx : PlAt s.heap x a) (hy : PlAt s.heap y b) (h : Q (placeLt a b) s) (hn : a ≠ b) : wpAny (model P w) A (keyLt' (tuples' true) x y) Q E s := by
  obtain ⟨p, o, t, u, n, rfl, ho, hc, hd⟩ := hx
  obtain ⟨p2, o2, t2, u2, n2, rfl, ho2, hc2, hd2⟩ := hy
  refine kat_lt ho hd ho2 hd2 (kat_cons (wpAny_eqBool_str (kat_go (fun e => kat_yes (kat_cons (wpAny_eqBool_int (kat_go (fun e2 => ?_) fun e2 => kat_no ?_)))) fun e => kat_no ?_)))
  · exact absurd (Prod.ext (of_decide_eq_true e) (by simpa using e2)) hn
  · have e := of_decide_eq_true e
    unfold placeLt at h
    rw [if_pos e] at h
    exact lt0_int h
  · have e := of_decide_eq_false e
    unfold placeLt at h
    rw [if_neg e] at h
    exact lt1_str h
theorem kind_place {vs : List Value} {qs : List (Str × Int)} {Q : SortKind → Shared → Prop} (hl : vs.length = qs.length) (hv : ∀ (i : Nat) (v : Value) (q : Str × Int), vs[i]? = some v → qs[i]? = some q → PlAt s.heap v q) (h2 : 0 < vs.length) (h : Q (tuples' true) s) :
    wpAny (model P w) A (keyKind' vs.toArray) Q E s := by
  have T : ∀ (vs : List Value) (qs : List (Str × Int)), vs.length = qs.length → (∀ (i : Nat) (v : Value) (q : Str × Int), vs[i]? = some v → qs[i]? = some q → PlAt s.heap v q) → ∃ fs, KatTups s.heap vs fs ∧ fs.length = vs.length ∧ ∀ v ∈ fs, ∃ x t, v = Value.str x t := by
    intro vs
    induction vs with
    | nil => exact fun qs _ _ => ⟨[], trivial, rfl, fun _ z => nomatch z⟩
    | cons v r ih =>
      intro qs hl hv
      match qs, hl with
      | q :: qr, hl =>
        obtain ⟨fs, k, kl, kf⟩ := ih qr (by simpa using hl) fun i v' q' e1 e2 => hv (i + 1) v' q' (by simpa using e1) (by simpa using e2)
        obtain ⟨a, o, t, u, n, rfl, ho, hc, hd⟩ := hv 0 v q rfl rfl
        refine ⟨.str q.1 t :: fs, KatTups.cons ho hc hd rfl k, by simp [kl], fun z hz => ?_⟩
        rcases List.mem_cons.mp hz with rfl | hz
        · exact ⟨_, _, rfl⟩
        · exact kf z hz
  obtain ⟨fs, k, kl, kf⟩ := T vs qs hl hv
  refine kat_kind (T := .type "str") k (by omega) (fun v hv => ?_) (by decide) h
  obtain ⟨x, t, rfl⟩ := kf v hv
  exact Looks.of_pure rfl
end
theorem lexN_irr : ∀ (a : List Nat), ¬ a < a := fun a => List.lt_irrefl a
theorem str_cps_inj {x y : Str} (h : x.cps.toList = y.cps.toList) : x = y := by
  obtain ⟨a⟩ := x
  obtain ⟨b⟩ := y
  have : a = b := Array.toList_inj.mp h
  rw [this]
theorem placeLt_so {qs : List (Str × Int)} (hn : qs.Nodup) : SO (fun i j => placeLt (qs.getD i ("", 0)) (qs.getD j ("", 0))) qs.length where
  irr := fun i _ => by
    unfold placeLt
    rw [if_pos rfl]
    exact decide_eq_false (by omega)
  trans := fun i j k _ _ _ h1 h2 => by
    generalize qs.getD i ("", 0) = a at *
    generalize qs.getD j ("", 0) = b at *
    generalize qs.getD k ("", 0) = c at *
    unfold placeLt at *
    by_cases e1 : a.1 = b.1
    · rw [if_pos e1] at h1
      by_cases e2 : b.1 = c.1
      · rw [if_pos e2] at h2
        rw [if_pos (e1.trans e2)]
        have h1 := of_decide_eq_true h1
        have h2 := of_decide_eq_true h2
        exact decide_eq_true (by omega)
      · rw [if_neg e2] at h2
        rw [if_neg (by rw [e1]; exact e2), e1]
        exact h2
    · rw [if_neg e1] at h1
      have h1 := of_decide_eq_true h1
      by_cases e2 : b.1 = c.1
      · rw [if_neg (by rw [← e2]; exact e1), ← e2]
        exact decide_eq_true h1
      · rw [if_neg e2] at h2
        have h2 := of_decide_eq_true h2
        have h3 := List.lt_trans h1 h2
        rw [if_neg (fun z => by rw [z] at h3; exact List.lt_irrefl _ h3)]
        exact decide_eq_true h3
  tot := fun i j hi hj hij h => by
    have ne : qs.getD i ("", 0) ≠ qs.getD j ("", 0) := fun z => hij (by
      rw [List.getD_eq_getElem?_getD, List.getD_eq_getElem?_getD, List.getElem?_eq_getElem hi, List.getElem?_eq_getElem hj] at z
      exact (List.getElem_inj hn).mp z)
    generalize qs.getD i ("", 0) = a at *
    generalize qs.getD j ("", 0) = b at *
    unfold placeLt at *
    by_cases e : a.1 = b.1
    · rw [if_pos e] at h
      rw [if_pos e.symm]
      have h := of_decide_eq_false h
      have : a.2 ≠ b.2 := fun z => ne (Prod.ext e z)
      exact decide_eq_true (by omega)
    · rw [if_neg e] at h
      rw [if_neg (fun z => e z.symm)]
      have h := of_decide_eq_false h
      refine decide_eq_true ?_
      rcases List.le_iff_lt_or_eq.mp (List.not_lt.mp h) with z | z
      · exact z
      · exact absurd (str_cps_inj z.symm) e
end L2

namespace L2
open PySem
/-! ### walking a dict's keys, whatever they are -/
def RawD (h : Heap) (d : Addr) (es : Array DictEntry) (ep : Nat) : Prop := ∃ o, h.get? d = some o ∧ o.ExactDict ∧ o.data = .dict es ep
section
variable {P : Program} {w : World} {A : Around} {E : Value → Shared → Prop} {s : Shared}
theorem RawD.type {d : Addr} {es : Array DictEntry} {ep : Nat} (x : RawD s.heap d es ep) : s.TypeIs (.ref d) "dict" := let ⟨o, ho, hc, _⟩ := x; ⟨o, ho, hc.1⟩
theorem RawD.at {h h' : Heap} {d : Addr} {es : Array DictEntry} {ep : Nat} (x : RawD h d es ep) (e : ∀ o, h.get? d = some o → h'.get? d = some o) : RawD h' d es ep := let ⟨o, ho, r⟩ := x; ⟨o, e _ ho, r⟩
theorem raw_iter {d : Addr} {es : Array DictEntry} {ep : Nat} {Q : Value → Shared → Prop} (lo : (d == sysModules) = false) (hm : RawD s.heap d es ep)
    (q : Q (.ref s.heap.objs.size) { s with heap := s.heap.push { cls := .type "dict_keyiterator", data := .fields #[.ref d, .int 0 0, .int es.size 0, .int ep 0] } }) : wpAny (model P w) A (pyIter (.ref d)) Q E s := by
  have T := hm.type
  obtain ⟨o, ho, hc, hd⟩ := id hm
  refine wpAny_pyIter_slot T F.slot_dict_iter (wpAny_call_entry F.slot_dict_iter T F.entry_dict_iter ?_ (F.args_dict_iter_1 _)); unfold Builtin.«dict.__iter__»
  refine wpAny_bind ?_; unfold Builtin.Dict.dictSlotNone; refine wpAny_bind (wpAny_notOrdered_dict T ?_)
  show wpAny _ _ (pure (Value.ref d)) _ _ s; refine wpAny_pure ?_
  show wpAny _ _ (Builtin.Dict.showsAll d >>= _) _ _ s; unfold Builtin.Dict.showsAll
  rw [if_neg (by rw [lo]; exact Bool.false_ne_true)]; refine wpAny_bind (wpAny_pure ?_)
  refine wpAny_bind (wpAny_dictEntries ho hd ?_); refine wpAny_bind (wpAny_dictEpoch ho hd ?_)
  refine wpAny_bind (wpAny_newObj_type (wpAny_pure ⟨_, rfl, "dict_keyiterator", _, ⟨_, Heap.get?_push_size _ rfl, rfl⟩, F.slot_dict_keyiterator_next.lookup, ?_⟩)); simpa [rawInt] using q
theorem raw_item {it d : Addr} {i ep : Nat} {es : Array DictEntry} {e : DictEntry} {Q : Option Value → Shared → Prop} (hit : s.heap.IsKeyIter it d i es.size ep) (hm : RawD s.heap d es ep) (hx : es[i]? = some e)
    (q : ∀ h, h.IsKeyIter it d (i + 1) es.size ep → Heap.SameBut it s.heap h → Q (some e.key) { s with heap := h }) : wpAny (model P w) A (pyNext (.ref it)) Q E s := by
  obtain ⟨o, ho, hc, hd⟩ := id hit
  obtain ⟨od, hod, hcd, hdd⟩ := id hm
  have lt : i < es.size := by
    rcases Nat.lt_or_ge i es.size with h | h
    · exact h
    · rw [Array.getElem?_eq_none h] at hx; cases hx
  unfold pyNext
  refine wpAny_bind (wpAny_attempt (wpAny_callSpecial?_slot (name := Str.ofString "__next__") hit.typeIs F.slot_dict_keyiterator_next (wpAny_call_entry F.slot_dict_keyiterator_next hit.typeIs F.entry_dict_keyiterator_next ?_ (F.args_dict_keyiterator_next_1 _))))
  refine wpAny_bind (wpAny_pure ?_); refine wpAny_bind ?_; refine wpAny_bind ?_
  first | (refine wpAny_bind (wpAny_typeNameOfWhole_keyiter hit.typeIs (wpAny_pure ?_))) | (refine wpAny_bind (wpAny_typeNameOf_keyiter hit.typeIs (wpAny_pure ?_)))
  refine wpAny_bind (wpAny_fieldsOf ho hd ?_); have own : Builtin.Dict_items.ownsTuple "dict_keyiterator" = false := by decide
  simp only [own, Bool.false_eq_true, if_false]; show wpAny _ _ (if (Value.ref d == Value.none) = true then _ else _) _ _ s
  rw [if_neg (show ¬ ((Value.ref d == Value.none) = true) from Bool.false_ne_true)]; refine wpAny_bind (wpAny_pure ?_); refine wpAny_bind (wpAny_dictEntries hod hdd ?_)
  rw [if_neg (by simp)]; refine wpAny_bind (wpAny_pure ?_); refine wpAny_bind (wpAny_dictEpoch hod hdd ?_); rw [if_neg (by simp)]; refine wpAny_pure ?_
  simp only [show ¬ ((i : Int) < 0) from by omega, if_false, Int.toNat_natCast, hx]
  refine wpAny_bind ?_
  first | (refine wpAny_bind (wpAny_typeNameOfWhole_keyiter hit.typeIs (wpAny_pure ?_))) | (refine wpAny_bind (wpAny_typeNameOf_keyiter hit.typeIs (wpAny_pure ?_)))
  refine wpAny_bind (wpAny_isOneOf_keyiter hit.typeIs ?_); show wpAny _ _ (setField (.ref it) 1 (rawInt ((i : Int) + 1)) >>= _) _ _ s
  refine wpAny_bind (wpAny_setField ho hd (by simp) ?_)
  have next : (s.heap.update it (Obj.mapFields (·.setIfInBounds 1 (rawInt ((i : Int) + 1))))).IsKeyIter it d (i + 1) es.size ep := by
    refine ⟨_, Heap.get?_update_self _ ho (Obj.isFreed_of_fields (Obj.data_mapFields hd _)), (Obj.cls_mapFields ..).trans hc, ?_⟩; rw [Obj.data_mapFields hd]; simp [rawInt]
  refine wpAny_bind (wpAny_holding ?_)
  refine wpAny_bind (wpAny_isOneOf_keyiter (s := { s with heap := s.heap.update it (Obj.mapFields (·.setIfInBounds 1 (rawInt ((i : Int) + 1)))) }) next.typeIs ?_); show wpAny _ _ (pure e.key) _ _ _
  exact wpAny_pure (wpAny_pure ⟨_, rfl, wpAny_pure (q _ next (Heap.SameBut.update ..))⟩)
theorem raw_end {it d : Addr} {i ep : Nat} {es : Array DictEntry} {Q : Option Value → Shared → Prop} (hh : A.handled = none) (hit : s.heap.IsKeyIter it d i es.size ep) (hm : RawD s.heap d es ep) (hx : es.size ≤ i)
    (q : ∀ h, Heap.ExtBut it s.heap h → Q none { s with heap := h }) : wpAny (model P w) A (pyNext (.ref it)) Q E s := by
  obtain ⟨o, ho, hc, hd⟩ := id hit
  obtain ⟨od, hod, hcd, hdd⟩ := id hm
  unfold pyNext
  refine wpAny_bind (wpAny_attempt (wpAny_callSpecial?_slot (name := Str.ofString "__next__") hit.typeIs F.slot_dict_keyiterator_next (wpAny_call_entry F.slot_dict_keyiterator_next hit.typeIs F.entry_dict_keyiterator_next ?_ (F.args_dict_keyiterator_next_1 _))))
  refine wpAny_bind (wpAny_pure ?_); refine wpAny_bind ?_; refine wpAny_bind ?_
  first | (refine wpAny_bind (wpAny_typeNameOfWhole_keyiter hit.typeIs (wpAny_pure ?_))) | (refine wpAny_bind (wpAny_typeNameOf_keyiter hit.typeIs (wpAny_pure ?_)))
  refine wpAny_bind (wpAny_fieldsOf ho hd ?_); have own : Builtin.Dict_items.ownsTuple "dict_keyiterator" = false := by decide
  simp only [own, Bool.false_eq_true, if_false]; show wpAny _ _ (if (Value.ref d == Value.none) = true then _ else _) _ _ s
  rw [if_neg (show ¬ ((Value.ref d == Value.none) = true) from Bool.false_ne_true)]; refine wpAny_bind (wpAny_pure ?_); refine wpAny_bind (wpAny_dictEntries hod hdd ?_)
  rw [if_neg (by simp)]; refine wpAny_bind (wpAny_pure ?_); refine wpAny_bind (wpAny_dictEpoch hod hdd ?_); rw [if_neg (by simp)]; refine wpAny_pure ?_
  simp only [show ¬ ((i : Int) < 0) from by omega, if_false, Int.toNat_natCast, Array.getElem?_eq_none hx]
  refine wpAny_bind ?_
  first | (refine wpAny_bind (wpAny_typeNameOfWhole_keyiter hit.typeIs (wpAny_pure ?_))) | (refine wpAny_bind (wpAny_typeNameOf_keyiter hit.typeIs (wpAny_pure ?_)))
  show wpAny _ _ (setField (.ref it) 0 .none >>= _) _ _ s; refine wpAny_bind (wpAny_setField ho hd (by simp) ?_)
  show wpAny _ _ (newExc (.type "StopIteration") [] >>= _) _ _ _; refine wpAny_bind ?_; simp only [newExc, newTuple]
  refine wpAny_bind (wpAny_newObj_type ?_ (by size_fits)); refine wpAny_bind (m := firstArgMember _ _) (wpAny_of_eq (a := Value.none) (by first | rfl | (simp only [firstArgMember]; rfl)) ?_)
  refine wpAny_newObj_type ?_ (by size_fits); simp only [raiseNew]
  refine wpAny_bind (wpAny_handled ?_); rw [show A.in1.handled = none from hh]; refine wpAny_bind (wpAny_pure (wpAny_throw ?_))
  exact wpAny_bind (wpAny_isInstance (T := "StopIteration") (b := true) ⟨_, Heap.get?_push_size _ rfl, rfl⟩ isSubtype_stop (wpAny_pure (q _ (((Heap.SameBut.update ..).extBut.push _).push _))))
theorem raw_walks (hh : A.handled = none) (I d : Addr) (hne : d ≠ I) (es : Array DictEntry) (ep : Nat) :
    Walks P w A I [I, d] [I] es.size (fun i v => ∃ e, es[i]? = some e ∧ v = e.key) (fun i h => h.IsKeyIter I d i es.size ep ∧ RawD h d es ep) where
  sub := fun b hb => by simp at hb; simp [hb]
  frame := fun _ _ _ st hk => ⟨st.1.at fun o e => hk I (by simp) o e, st.2.at fun o e => hk d (by simp) o e⟩
  item := fun i s Q E hi st hQ => by
    refine raw_item st.1 st.2 (Array.getElem?_eq_getElem hi) fun h' hit' hs' => ?_
    exact hQ _ h' s.toks ⟨_, Array.getElem?_eq_getElem hi, rfl⟩ ⟨hit', st.2.at fun o e => hs'.extBut d o hne e⟩ fun b o hb e => hs'.extBut b o (fun h => hb (by simp [h])) e
  done := fun s Q E st hQ => raw_end hh st.1 st.2 (Nat.le_refl _) fun h' he' => hQ h' s.toks fun b o hb e => he' b o (fun h => hb (by simp [h])) e
  self := fun _ _ _ _ st hQ => wpAny_pyIter_keyiter st.1 hQ
end
end L2

namespace L2
open PySem PySem.Spec PyProof.Rows
section
open PySem.SeqAt
open PySem.AutoSeq1 (wpAny_loadPart')
open PySem.MeetsSeq PySem.MeetsSeq2 PySem.MeetsSeq3
theorem tuple_lt_place (l b : Addr) (x y : Str) (i j : Int) (t u t2 u2 : Tok) (n n2 : Nat) (dd dd2 : Option Addr) (sl sl2 : Array (Option Value)) :
    Meets (Builtin.«tuple.__lt__» ⟨[.ref l, .ref b], []⟩) (fun _ R s => s.heap.get? l = some { cls := .type "tuple", dict := dd, data := .seq #[.str x t, .int i u] n, slots := sl } ∧
      s.heap.get? b = some { cls := .type "tuple", dict := dd2, data := .seq #[.str y t2, .int j u2] n2, slots := sl2 } ∧ R (.ok (.ret (.bool (placeLt (x, i) (y, j))))) s) :=
  .of_wp fun prog w A R s h => by
    obtain ⟨hp, g, d, tk, os⟩ := s; obtain ⟨hl, hb, h⟩ := h
    have f2 := AutoSeq1.sub_tuple_tuple
    have lt1 : ∀ (E : Value → Shared → Prop) (Q : Value → Shared → Prop) (s : Shared), Q (.bool (decide (x.cps.toList < y.cps.toList))) s → wpAny (model prog w) A.in1 (richCompare .Lt (.str x t) (.str y t2)) Q E s := fun E Q s q => (PyProof.Rows.lt_str q : wpAny (model prog w) A.in1 (compareOp .Lt (.str x t) (.str y t2)) Q E s)
    have lt2 := HT.rcLt_int A.in1 ⟨hp, g, d, tk, os⟩ i u j u2 prog w
    by_cases e : x = y
    · subst e
      have eq1 := SeqAt.EqAt.str_str (A := A.in1) (s := ⟨hp, g, d, tk, os⟩) x t x t2 prog w
      rw [beq_self_eq_true] at eq1
      unfold placeLt at h
      rw [if_pos rfl] at h
      by_cases e2 : i = j
      · subst e2
        have eq2 := SeqAt.EqAt.int_int (A := A.in1) (s := ⟨hp, g, d, tk, os⟩) i u i u2 prog w
        rw [beq_self_eq_true] at eq2
        wp_walk using wpAny_loadPart' hl, wpAny_loadPart' hb, eq1, eq2
        exact ⟨_, rfl, by simpa [Builtin.Tuple.tupleCompareSizes] using h⟩
      · have eq2 := SeqAt.EqAt.int_int (A := A.in1) (s := ⟨hp, g, d, tk, os⟩) i u j u2 prog w
        rw [show (i == j) = false from by simpa using e2] at eq2
        wp_walk using wpAny_loadPart' hl, wpAny_loadPart' hb, eq1, eq2, lt2
        exact ⟨_, rfl, by simpa using h⟩
    · have eq1 := SeqAt.EqAt.str_str (A := A.in1) (s := ⟨hp, g, d, tk, os⟩) x t y t2 prog w
      rw [show (x == y) = false from by simpa using e] at eq1
      unfold placeLt at h
      rw [if_neg e] at h
      wp_walk using wpAny_loadPart' hl, wpAny_loadPart' hb, eq1, lt1
      exact ⟨_, rfl, by simpa using h⟩
end
end L2

namespace L2
open PySem PySem.Spec PyProof.Rows
section
variable {P : Program} {w : World} {A : Around} {E : Value → Shared → Prop} {s : Shared}
theorem RawD.lt {h : Heap} {d : Addr} {es : Array DictEntry} {ep : Nat} (x : RawD h d es ep) : d < h.objs.size := let ⟨_, ho, _⟩ := x; Heap.lt_size ho
theorem raw_src {d : Addr} {es : Array DictEntry} {ep : Nat} (lo : (d == sysModules) = false) : PySem.W.KdlSrc P w "dict" d d es.size (fun i v => ∃ e, es[i]? = some e ∧ v = e.key) (fun h => RawD h d es ep) where
  type := fun _ hm => hm.type
  there := fun _ hm => ⟨hm.lt, hm.lt⟩
  keep := fun _ _ hm hk => hm.at fun o e => hk d (.inl rfl) o e
  notList := by decide
  notTuple := by decide
  hint := fun _ _ _ _ hm hq => PySem.W.kdl_hint_dict hm.type hq
  iter := fun _ _ hh hm => ⟨_, _, (fun _ _ hq => raw_iter lo hm hq), raw_walks hh _ d (Nat.ne_of_lt hm.lt) es ep, ⟨⟨_, Heap.get?_push_size _ rfl, rfl, rfl⟩, hm.at fun o e => Heap.get?_push_of_some _ e⟩⟩
theorem collect_src {T : String} {r d : Addr} {n : Nat} {G : Nat → Value → Prop} {OK : Heap → Prop} {R : List Value → Shared → Prop} (K : PySem.W.KdlSrc P w T r d n G OK) (hh : A.handled = none) (hok : OK s.heap) (hn : n ≤ sizeLine)
    (h : ∀ (h' : Heap) (tk : Nat) (vs : List Value), (∀ b o, s.heap.get? b = some o → h'.get? b = some o) → vs.length = n → (∀ j v, vs[j]? = some v → G j v) → R vs { s with heap := h', toks := tk }) :
    wpAny (model P w) A (collect (.ref r)) R E s := by
  obtain ⟨lr, ld⟩ := K.there _ hok
  unfold collect
  refine wpAny_bind (wpAny_runValue (codeAny_builtin entry_proto_collect' ?_)); rw [Around.under_plainId PySem.F.plain_proto_collect _]
  show wpAny _ A.in1 (newList [] >>= fun l => again (.builtin "list.__iadd__" ⟨[l, .ref r], []⟩)) _ _ s; refine wpAny_bind (wpAny_newObj_type ?_)
  refine wpAny_pure ⟨plainId_quiet PySem.F.plain_list_iadd _, codeAny_builtin entry_list_iadd' ?_⟩; rw [Around.under_plainId PySem.F.plain_list_iadd _]
  have hS : (s.heap.push { cls := .type "list", data := .seq ([] : List Value).toArray }).get? s.heap.objs.size = some { cls := .type "list", data := .seq #[] } := Heap.get?_push_size _ rfl
  show wpAny _ A.in1 (Builtin.List.listExtendWith (.ref s.heap.objs.size) (.ref r) (.ref s.heap.objs.size)) _ _ _
  have key := PySem.W.kdl_extend (A := A) (s := { s with heap := s.heap.push { cls := .type "list", data := .seq ([] : List Value).toArray } }) (R := fun (q : Result) (s' : Shared) => ∃ (h' : Heap) (tk : Nat) (acc : Array Value) (c : Nat), q = .ok (.ret (.ref s.heap.objs.size)) ∧ s' = { s with heap := h', toks := tk } ∧
      (∀ b o, s.heap.get? b = some o → h'.get? b = some o) ∧ h'.get? s.heap.objs.size = some { cls := .type "list", dict := none, data := .seq acc c, slots := #[] } ∧ ItemsOf G acc n) K hh (K.keep _ _ hok fun b _ o e => Heap.get?_push_of_some _ e) s.heap.objs.size (Nat.ne_of_gt lr) (Nat.ne_of_gt ld) (.ref s.heap.objs.size) 0 hS
    (fun h' tk acc c hk hS' hacc => ⟨h', tk, acc, c, rfl, rfl, fun b o e => hk b o (Nat.ne_of_lt (Heap.lt_size e)) (Heap.get?_push_of_some _ e), hS', hacc⟩) hn
  refine wpAny_mono key (fun fin s' x => ?_) fun e s' x => ?_
  · cases fin with
    | done f =>
      obtain ⟨h', tk, acc, c, e, rfl, hk, hS', hacc⟩ := x
      cases e
      show wpAny _ A (load s.heap.objs.size >>= _) _ _ _; refine wpAny_bind (wpAny_load hS' ?_)
      exact wpAny_pure (h h' tk acc.toList hk (by rw [Array.length_toList]; exact hacc.1) fun j v e => hacc.2 j v (by rw [← Array.getElem?_toList]; exact e))
    | again c =>
      refine ⟨x.1, codeAny_mono x.2 fun q s' x => ?_⟩
      obtain ⟨h', tk, acc, c, rfl, rfl, hk, hS', hacc⟩ := x
      show wpAny _ A (load s.heap.objs.size >>= _) _ _ _; refine wpAny_bind (wpAny_load hS' ?_)
      exact wpAny_pure (h h' tk acc.toList hk (by rw [Array.length_toList]; exact hacc.1) fun j v e => hacc.2 j v (by rw [← Array.getElem?_toList]; exact e))
  · obtain ⟨h', tk, acc, c, e', _⟩ := x
    cases e'
end
end L2

namespace L2
open PySem PySem.Spec PyProof.Rows
def plKey (q : Str × Int) : List Key := [.inr q.1, .inl q.2]
abbrev cSrtD : RC := fun xs H Q => ∃ (a : Addr) (kvs : List (List Key × V)) (qs : List (Str × Int)), xs = [.ref a] ∧ H a = some (.dT kvs) ∧ kvs.map (·.1) = qs.map plKey ∧ kvs.length < 64 ∧
  ∀ (l : Addr) (ps : List (Addr × (Str × Int))), H l = none → (ps.map (·.2)).Perm qs → (ps.map (·.2)).Pairwise (fun a b => placeLt a b = true) → (∀ n ∈ ps, H n.1 = some (.tup [.str n.2.1, .int n.2.2])) → Q (.ref l) (upd H l (.lst (ps.map fun n => V.ref n.1)))
theorem paired_get {α β : Type} {F : α → β → Prop} : ∀ {l₁ : List α} {l₂ : List β}, Paired F l₁ l₂ → ∀ {i : Nat} {a : α} {b : β}, l₁[i]? = some a → l₂[i]? = some b → F a b
  | _, _, .nil, i, a, b, h, _ => by simp at h
  | _, _, .cons x r, 0, a, b, h1, h2 => by
    simp only [List.getElem?_cons_zero, Option.some.injEq] at h1 h2
    subst h1 h2
    exact x
  | _, _, .cons x r, i + 1, a, b, h1, h2 => paired_get r (by simpa using h1) (by simpa using h2)
theorem PlAt.keep {h h' : Heap} {v : Value} {q : Str × Int} (x : PlAt h v q) (k : ∀ b o, h.get? b = some o → h'.get? b = some o) : PlAt h' v q := by
  obtain ⟨a, o, t, u, n, e, ho, r⟩ := x
  exact ⟨a, o, t, u, n, e, k _ _ ho, r⟩
section
variable {X : Cx}
theorem place_at {pins : List (Addr × Obj)} {σ : St} {H : Hp} {s : Shared} {a : Addr} {q : Str × Int} (I : Inv X pins σ H s) (h : H a = some (.tup [.str q.1, .int q.2])) : PlAt s.heap (.ref a) q := by
  obtain ⟨its, rv, ⟨o, ho, hc, n, hd⟩, _⟩ := I.tuple (SqT.of h)
  cases rv with
  | cons r1 rr =>
    cases rr with
    | cons r2 rn =>
      cases rn
      obtain ⟨t, rfl⟩ := r1
      obtain ⟨u, rfl⟩ := r2
      exact ⟨a, o, t, u, n, rfl, ho, hc, hd⟩
theorem nodup_map_inj {α β : Type} {f : α → β} : ∀ {l : List α}, (l.map f).Nodup → l.Nodup
  | [], _ => List.nodup_nil
  | a :: r, h => by
    rw [List.map_cons, List.nodup_cons] at h
    exact List.nodup_cons.mpr ⟨fun z => h.1 (List.mem_map_of_mem z), nodup_map_inj h.2⟩
theorem call_sortedD (hc : X.calm = true) : CallR X (.builtin "sorted") cSrtD := by
  intro pins s σ H xs us Q I r h
  obtain ⟨a, kvs, qs, rfl, ha, hk, h64, q⟩ := h
  obtain ⟨u, rfl, ru⟩ := vals1 r
  cases ru
  obtain ⟨hz, lo, xs, rel, o, es, ep, ho, hx, hd, he, hn⟩ := (show ObjOk X.prog X.w H s.heap a (.dT kvs) from I.hok a _ ha)
  have hh : X.A.handled = none := I.ok.hd hc
  have lk : kvs.length = qs.length := by have := congrArg List.length hk; simpa using this
  have lx : kvs.length = xs.length := Paired.length rel
  have les : es.size = xs.length := by rw [← Array.length_toList, he, List.length_map]
  -- the keys in their order
  have key : ∀ (i : Nat) (x : List Key × Addr × Value), xs[i]? = some x → ∃ q, qs[i]? = some q ∧ x.1 = plKey q ∧ H x.2.1 = some (.tup [.str q.1, .int q.2]) := fun i x hx => by
    have hi := (List.getElem?_eq_some_iff.mp hx).1
    obtain ⟨kv, hkv⟩ : ∃ kv, kvs[i]? = some kv := ⟨_, List.getElem?_eq_getElem (by omega)⟩
    obtain ⟨q, hq⟩ : ∃ q, qs[i]? = some q := ⟨_, List.getElem?_eq_getElem (by omega)⟩
    have rl := paired_get rel hkv hx
    have e1 : kv.1 = plKey q := by
      have e1 : (kvs.map (·.1))[i]? = some kv.1 := by rw [List.getElem?_map, hkv]; rfl
      have e2 : (qs.map plKey)[i]? = some (plKey q) := by rw [List.getElem?_map, hq]; rfl
      rw [hk, e2] at e1
      exact (Option.some.inj e1).symm
    refine ⟨q, hq, by rw [← rl.1, e1], ?_⟩
    have := rl.2.1
    rw [e1] at this
    exact this
  have nq : qs.Nodup := by
    refine nodup_map_inj (f := plKey) ?_
    have e : xs.map (·.1) = qs.map plKey := by
      rw [← hk]
      apply List.ext_getElem?
      intro i
      rw [List.getElem?_map, List.getElem?_map]
      cases hx : xs[i]? with
      | none =>
        have : xs.length ≤ i := by simpa using hx
        rw [List.getElem?_eq_none (by omega : kvs.length ≤ i)]
        rfl
      | some x =>
        have hi := (List.getElem?_eq_some_iff.mp hx).1
        have hkv : kvs[i]? = some kvs[i] := List.getElem?_eq_getElem (by omega)
        rw [hkv]
        have := (paired_get rel hkv hx).1
        simp [this]
    rw [← e]; exact hn
  have vv : ∀ (i : Nat) (v : Value) (q : Str × Int), (xs.map fun x => Value.ref x.2.1)[i]? = some v → qs[i]? = some q → PlAt s.heap v q := fun i v q hv hq => by
    rw [List.getElem?_map] at hv
    obtain ⟨x, hx, rfl⟩ := Option.map_eq_some_iff.mp hv
    obtain ⟨q', hq', _, hH⟩ := key i x hx
    rw [hq] at hq'
    cases hq'
    exact place_at I hH
  have lv : (xs.map fun x => Value.ref x.2.1).length = qs.length := by rw [List.length_map]; omega
  have vat : ∀ i, i < qs.length → PlAt s.heap ((xs.map fun x => Value.ref x.2.1).getD i Value.none) (qs.getD i ("", 0)) := fun i hi => by
    refine vv i _ _ ?_ ?_
    · rw [List.getD_eq_getElem?_getD, List.getElem?_eq_getElem (by rw [lv]; exact hi)]; rfl
    · rw [List.getD_eq_getElem?_getD, List.getElem?_eq_getElem hi]; rfl
  have S := placeLt_so nq
  rw [← lv] at S
  refine sorted_pure (vs := xs.map fun x => Value.ref x.2.1) (κ := tuples' true) (by rw [List.length_map]; omega) S (fun R hR => ?_) (fun h2 h tk Q' kp q' => ?_) (fun h tk i j C kp hi hj hij q' => ?_) fun h tk h' p c k1 k2 hD hp hr => ?_
  · refine collect_src (raw_src (ep := ep) (es := es) lo) hh ⟨o, ho, hx, hd⟩ (by rw [les]; omega) fun h' tk vs kp hl hG => ?_
    have ev : vs = xs.map fun x => Value.ref x.2.1 := by
      apply List.ext_getElem?
      intro i
      by_cases hi : i < vs.length
      · obtain ⟨e, hes, ek⟩ := hG i vs[i] (List.getElem?_eq_getElem hi)
        have e2 : es.toList[i]? = some e := by rw [Array.getElem?_toList]; exact hes
        rw [he, List.getElem?_map] at e2
        obtain ⟨x, hxx, ex⟩ := Option.map_eq_some_iff.mp e2
        rw [List.getElem?_eq_getElem hi, ek, List.getElem?_map, hxx, ← ex]
        rfl
      · rw [List.getElem?_eq_none (by omega), List.getElem?_eq_none (by rw [List.length_map]; omega)]
    rw [ev]
    exact hR h' tk kp
  · exact kind_place (s := { s with heap := h, toks := tk }) lv (fun i v q hv hq => (vv i v q hv hq).keep kp) (by omega) q'
  · rw [lv] at hi hj
    refine ask_place (s := { s with heap := h, toks := tk }) ((vat i hi).keep kp) ((vat j hj).keep kp) q' fun z => hij ?_
    rw [List.getD_eq_getElem?_getD, List.getD_eq_getElem?_getD, List.getElem?_eq_getElem hi, List.getElem?_eq_getElem hj] at z
    exact (List.getElem_inj nq).mp z
  · have I1 : Inv X pins σ H { s with heap := h, toks := tk } := I.kept k1
    have ps : ∃ ps : List (Addr × (Str × Int)), ps.map (fun n => Value.ref n.1) = outOf (xs.map fun x => Value.ref x.2.1) p ∧ ps.map (·.2) = p.toList.map (fun i => qs.getD i ("", 0)) ∧ ∀ n ∈ ps, H n.1 = some (.tup [.str n.2.1, .int n.2.2]) := by
      have pl : ∀ i ∈ p.toList, i < xs.length := fun i hi => by
        have : i ∈ p := by simpa using hi
        have := (Array.Perm.mem_iff hp).mp this
        rw [List.length_map] at this
        simpa using this
      refine ⟨p.toList.map fun i => ((xs.getD i ([], 0, .none)).2.1, qs.getD i ("", 0)), ?_, by rw [List.map_map]; rfl, fun n hn => ?_⟩
      · unfold outOf
        rw [List.map_map]
        refine List.map_congr_left fun i hi => ?_
        have := pl i hi
        simp [List.getD_eq_getElem?_getD, List.getElem?_map, List.getElem?_eq_getElem this]
      · obtain ⟨i, hi, rfl⟩ := List.mem_map.mp hn
        have hl := pl i hi
        obtain ⟨q, hq, _, hH⟩ := key i xs[i] (List.getElem?_eq_getElem hl)
        have e1 : xs.getD i ([], 0, .none) = xs[i] := by rw [List.getD_eq_getElem?_getD, List.getElem?_eq_getElem hl]; rfl
        have e2 : qs.getD i ("", 0) = q := by rw [List.getD_eq_getElem?_getD, hq]; rfl
        show H (xs.getD i ([], 0, .none)).2.1 = some (.tup [.str (qs.getD i ("", 0)).1, .int (qs.getD i ("", 0)).2])
        rw [e1, e2]
        exact hH
    obtain ⟨ps, e1, e2, hps⟩ := ps
    have vr : Vals (ps.map fun n => V.ref n.1) (ps.map fun n => Value.ref n.1) := by
      clear e1 e2 hps
      induction ps with
      | nil => exact .nil
      | cons n r ih => exact .cons rfl ih
    have psz : p.size = xs.length := by have := hp.size; rw [List.length_map] at this; exact this
    have pln : ps.length = xs.length := by have := congrArg List.length e1; unfold outOf at this; simpa [psz] using this
    have I2 : Inv X pins σ (upd H h.objs.size (.lst (ps.map fun n => V.ref n.1))) { s with heap := h', toks := tk } := I1.laid (s := { s with heap := h, toks := tk }) (a := h.objs.size) (o := .lst (ps.map fun n => V.ref n.1)) (t' := tk) k2 (Nat.le_refl _)
      ⟨by rw [List.length_map]; omega, ps.map fun n => Value.ref n.1, c, vr, by rw [e1]; exact hD⟩
    refine ⟨.ref h.objs.size, _, I2, rfl, q _ ps (I1.hok.fresh (Nat.le_refl _)) ?_ ?_ hps⟩
    · rw [e2]
      have pr : p.toList.Perm (List.range qs.length) := by
        have := Array.perm_iff_toList_perm.mp hp
        rw [lv] at this
        simpa using this
      refine (pr.map _).trans ?_
      have : (List.range qs.length).map (fun i => qs.getD i ("", 0)) = qs := by
        apply List.ext_getElem?
        intro i
        rw [List.getElem?_map]
        by_cases hi : i < qs.length
        · rw [List.getElem?_range hi, List.getElem?_eq_getElem hi]
          simp [List.getD_eq_getElem?_getD, List.getElem?_eq_getElem hi]
        · rw [List.getElem?_eq_none (by simpa using hi), List.getElem?_eq_none (by omega)]
          rfl
      rw [this]
    · rw [e2, List.pairwise_map, List.pairwise_iff_getElem]
      intro i j hi hj hij
      rw [Array.length_toList] at hi hj
      have g1 := gt_eq hi
      have g2 := gt_eq hj
      have r := hr i j hij (by rw [List.length_map]; omega)
      have x1 : p.toList[i] = gt p i := by
        rw [Array.getElem?_eq_getElem hi] at g1
        simpa using g1
      have x2 : p.toList[j] = gt p j := by
        rw [Array.getElem?_eq_getElem hj] at g2
        simpa using g2
      rw [x1, x2]
      exact r
end
end L2

namespace L2
open PySem PySem.Spec PyProof.Rows
/-! ### walking the keys of a dict of tuples: the dict is frozen while the loop walks it -/
def Itd (a : Addr) (o : Obj) (kvs : List (List Key × V)) : It :=
  ⟨fun i H => H a = some (.frz o (.dT kvs)) ∧ i < kvs.length, fun i H x H' => H' = H ∧ ∃ k v p, kvs[i]? = some (k, v) ∧ x = .ref p ∧ H p = some (.tup (k.map kV)), fun i H => H a = some (.frz o (.dT kvs)) ∧ kvs.length ≤ i⟩
section
variable {X : Cx}
theorem frz_raw {pins : List (Addr × Obj)} {σ : St} {H : Hp} {s : Shared} {a : Addr} {o : Obj} {kvs : List (List Key × V)} (I : Inv X pins σ H s) (ha : H a = some (.frz o (.dT kvs))) :
    (a == sysModules) = false ∧ ∃ (es : Array DictEntry) (ep : Nat), o.data = .dict es ep ∧ RawD s.heap a es ep ∧ es.size = kvs.length ∧ ∀ (i : Nat) (e : DictEntry), es[i]? = some e → ∃ (k : List Key) (v : V) (p : Addr), kvs[i]? = some (k, v) ∧ e.key = Value.ref p ∧ H p = some (.tup (k.map kV)) := by
  obtain ⟨hg, hz, lo, xs, rel, o', es, ep, ho, hx, hd, he, hn⟩ := (show ObjOk X.prog X.w H s.heap a (.frz o (.dT kvs)) from I.hok a _ ha)
  rw [hg] at ho
  cases ho
  have lx : kvs.length = xs.length := Paired.length rel
  have les : es.size = xs.length := by rw [← Array.length_toList, he, List.length_map]
  refine ⟨lo, es, ep, hd, ⟨o, hg, hx, hd⟩, by omega, fun i e hi => ?_⟩
  have e2 : es.toList[i]? = some e := by rw [Array.getElem?_toList]; exact hi
  rw [he, List.getElem?_map] at e2
  obtain ⟨x, hxx, ex⟩ := Option.map_eq_some_iff.mp e2
  have hl := (List.getElem?_eq_some_iff.mp hxx).1
  have hk : kvs[i]? = some kvs[i] := List.getElem?_eq_getElem (by omega)
  have rl := paired_get rel hk hxx
  refine ⟨kvs[i].1, kvs[i].2, x.2.1, hk, by rw [← ex]; rfl, rl.2.1⟩
theorem turn_dictT {P : Program} {w : World} {K : PySem.W.Frag} {tg : Expr} {a it : Addr} {o : Obj} {kvs : List (List Key × V)} {es : Array DictEntry} {ep : Nat} (hd : o.data = .dict es ep) :
    Turn P w K tg (Itd a o kvs) [it] it (fun i h => h.IsKeyIter it a i es.size ep) where
  mem := by simp
  obj := fun i h st b hb => by
    have e : b = it := by simpa using hb
    subst e
    obtain ⟨o, e, c, d⟩ := st
    exact ⟨o, e, fun v z => by rw [d] at z; cases z⟩
  keep := fun i h h' st k => st.at fun o e => k it (by simp) o e
  item := by
    intro X hP hw hK hc i pins s σ H E I hf st hg
    subst hP hw hK
    obtain ⟨ha, hi⟩ := hg
    obtain ⟨lo, es', ep', hd', raw, hs, key⟩ := frz_raw I ha
    rw [hd] at hd'
    cases hd'
    obtain ⟨f0, f1, f2, f3, f4, f5⟩ := hf it (by simp)
    have hx : es[i]? = some es[i] := Array.getElem?_eq_getElem (by omega)
    obtain ⟨k, v, p, hk, ek, hp⟩ := key i _ hx
    refine raw_item st raw hx fun h' st' sb => ?_
    have I1 : Inv X pins σ H { s with heap := h' } := I.turned (t' := s.toks) (fun b o hb e => (sb.2 b hb).trans e) f0 f1 f3 f4 f5
    obtain ⟨o', e, c, d⟩ := id st'
    exact ⟨_, rfl, go_of (s := { s with heap := h' }) e c d (by decide) ⟨.ref p, H, I1, by rw [ek]; rfl, ⟨rfl, k, v, p, hk, rfl, hp⟩, st', fun b hb => (hf b hb).1⟩⟩
  done := by
    intro X hP hw hK hc i pins s σ H E I hf st hg
    subst hP hw hK
    obtain ⟨ha, hi⟩ := hg
    obtain ⟨lo, es', ep', hd', raw, hs, key⟩ := frz_raw I ha
    rw [hd] at hd'
    cases hd'
    obtain ⟨f0, f1, f2, f3, f4, f5⟩ := hf it (by simp)
    exact raw_end (I.ok.hd hc) st raw (by omega) fun h' eb => ⟨rfl, I.turned (t' := s.toks) (fun b o hb e => eb b o hb e) f0 f1 f3 f4 f5⟩
  self := fun _ _ _ _ _ st h => wpAny_pyIter_keyiter st h
def iDT (tl : TE) : TI := fun σ H R => tl σ H fun x H1 => ∃ a o kvs, x = .ref a ∧ H1 a = some (.frz o (.dT kvs)) ∧ R (Itd a o kvs) H1
theorem pi_dictT {tg l : Expr} {tl : TE} (hl : PE X l tl) : PI X tg l (iDT tl) := by
  intro pins s σ H R I h
  refine thn (hl pins s σ H _ I h) fun v s1 ⟨x, H1, I1, r1, q1⟩ => ?_
  obtain ⟨a, o, kvs, e, ha, q⟩ := q1
  subst e
  cases r1
  obtain ⟨lo, es, ep, hd, raw, hs, key⟩ := frz_raw I1 ha
  refine raw_iter lo raw ?_
  refine ⟨s1.heap.objs.size, [s1.heap.objs.size], _, _, H1, rfl, I1.kept (t' := s1.toks) fun b o e => Heap.get?_push_of_some _ e, turn_dictT hd, ⟨_, Heap.get?_push_size _ rfl, rfl, rfl⟩, fun b hb => ?_, q⟩
  have e : b = s1.heap.objs.size := by simpa using hb
  subst e
  exact I1.fpOk (Nat.le_refl _) (I1.hok.fresh (Nat.le_refl _))
/-! ### frozen and thawed -/
def Plain : HO → Prop
  | .tup _ => False
  | .own _ => False
  | .tbl _ => False
  | _ => True
theorem Inv.relab {pins : List (Addr × Obj)} {σ : St} {H : Hp} {s : Shared} {a : Addr} {u u' : HO} (I : Inv X pins σ H s) (ha : H a = some u) (hp : Plain u) (hf : ∀ o z, X.H₀ a ≠ some (.frz o z)) (ho : ObjOk X.prog X.w (upd H a u') s.heap a u') : Inv X pins σ (upd H a u') s := by
  have nn : ∀ b, H b = none → b ≠ a := fun b n z => by subst z; rw [n] at ha; cases ha
  have ntup : ∀ b xs, H b = some (.tup xs) → b ≠ a := fun b xs q z => by subst z; rw [ha] at q; cases q; exact hp
  have nown : ∀ b y, H b = some (.own y) → b ≠ a := fun b y q z => by subst z; rw [ha] at q; cases q; exact hp
  have ntbl : ∀ b y, H b = some (.tbl y) → b ≠ a := fun b y q z => by subst z; rw [ha] at q; cases q; exact hp
  refine ⟨I.ok, I.os, I.bare, ⟨I.base.keep, I.base.slot, fun b o q n hb => ?_, I.base.there, fun b xs q => ?_, fun b o z q => ?_, fun b ps q => ?_⟩, I.loc, I.cell, ?_, fun x c e => ?_, fun p hp => ?_, fun b v q => ?_, I.len⟩
  · have := I.base.free b o q n hb
    rw [upd_ne (nn b this)]; exact this
  · have := I.base.tups b xs q
    rw [upd_ne (ntup b xs this)]; exact this
  · have := I.base.frzs b o z q
    rw [upd_ne (fun e => hf o z (by rw [← e]; exact q))]; exact this
  · obtain ⟨m, e⟩ := I.base.tbls b ps q
    exact ⟨m, by rw [upd_ne (ntbl b _ e)]; exact e⟩
  · rw [upd_ne (nn _ I.free)]; exact I.free
  · have := I.freeC x c e
    rw [upd_ne (nn _ this)]; exact this
  · obtain ⟨h1, h2, h3⟩ := I.pin p hp
    exact ⟨h1, by rw [upd_ne (nn _ h2)]; exact h2, h3⟩
  · by_cases hb : b = a
    · subst hb
      rw [upd_same] at q; cases q; exact ho
    · rw [upd_ne hb] at q
      exact (I.hok b v q).stay (fun _ _ _ r => r) (fun c r => by rw [upd_ne (nown c b r)]; exact r) fun c xs r => by rw [upd_ne (ntup c xs r)]; exact r
/-- the object at a is known while t runs -/
def tFrz (t : TS) : TS := fun D σ H => ∃ a u0 kvs, H a = some u0 ∧ (u0 = .dT kvs ∨ ∃ o, u0 = .frz o (.dT kvs)) ∧ ∀ o, t
  ⟨fun σ' H' => H' a = some (.frz o (.dT kvs)) ∧ D.nx σ' (upd H' a u0), fun v H' => H' a = some (.frz o (.dT kvs)) ∧ D.rt v (upd H' a u0), fun σ' H' => H' a = some (.frz o (.dT kvs)) ∧ D.bk σ' (upd H' a u0), fun σ' H' => H' a = some (.frz o (.dT kvs)) ∧ D.ct σ' (upd H' a u0)⟩ σ (upd H a (.frz o (.dT kvs)))
theorem ObjOk.upd_dT {P : Program} {w : World} {H : Hp} {h : Heap} {a : Addr} {kvs : List (List Key × V)} {u u' : HO} (ha : H a = some u) (hp : Plain u) (x : ObjOk P w H h a (.dT kvs)) : ObjOk P w (upd H a u') h a (.dT kvs) := by
  refine x.stay (fun _ _ _ r => r) (fun c r => ?_) fun c xs r => ?_
  · rw [upd_ne fun z => by subst z; rw [ha] at r; cases r; exact hp]; exact r
  · rw [upd_ne fun z => by subst z; rw [ha] at r; cases r; exact hp]; exact r
theorem ps_frz {st : Stmt} {t : TS} (hst : PS X st t) : PS X st (tFrz t) := by
  rintro pins s σ H D I ⟨a, u0, kvs, ha, hu, h⟩
  have pl : Plain u0 := by rcases hu with rfl | ⟨o, rfl⟩ <;> trivial
  -- the object as it stands
  have ob : ∃ o, s.heap.get? a = some o ∧ (u0 = .dT kvs ∨ u0 = .frz o (.dT kvs)) := by
    rcases hu with rfl | ⟨o, rfl⟩
    · obtain ⟨hz, lo, xs, rel, o, es, ep, ho, _⟩ := (show ObjOk X.prog X.w H s.heap a (.dT kvs) from I.hok a _ ha)
      exact ⟨o, ho, .inl rfl⟩
    · exact ⟨o, (show ObjOk X.prog X.w H s.heap a (.frz o (.dT kvs)) from I.hok a _ ha).1, .inr rfl⟩
  obtain ⟨o, ho, hu⟩ := ob
  have I1 : Inv X pins σ (upd H a (.frz o (.dT kvs))) s := by
    rcases hu with rfl | rfl
    · refine I.relab ha trivial (fun o' z q => ?_) ⟨ho, ObjOk.upd_dT ha trivial (I.hok a _ ha)⟩
      have := I.base.frzs a o' z q
      rw [ha] at this; cases this
    · have e : upd H a (.frz o (.dT kvs)) = H := by
        funext b; unfold upd; split
        · next z => rw [z]; exact ha.symm
        · rfl
      rw [e]; exact I
  have back : ∀ {σ' : St} {H' : Hp} {s' : Shared}, Inv X pins σ' H' s' → H' a = some (.frz o (.dT kvs)) → Inv X pins σ' (upd H' a u0) s' := fun {σ' H' s'} I' ha' => by
    rcases hu with rfl | rfl
    · refine I'.relab ha' trivial (fun o' z q => ?_) (ObjOk.upd_dT ha' trivial (show ObjOk X.prog X.w H' s'.heap a (.frz o (.dT kvs)) from I'.hok a _ ha').2)
      have := I.base.frzs a o' z q
      rw [ha] at this; cases this
    · have e : upd H' a (.frz o (.dT kvs)) = H' := by
        funext b; unfold upd; split
        · next z => rw [z]; exact ha'.symm
        · rfl
      rw [e]; exact I'
  refine thn (hst pins s σ _ _ I1 (h o)) fun f s' q => ?_
  cases f with
  | next => obtain ⟨σ', H', I', ha', q⟩ := q; exact ⟨σ', _, back I' ha', q⟩
  | brk => obtain ⟨σ', H', I', ha', q⟩ := q; exact ⟨σ', _, back I' ha', q⟩
  | cont => obtain ⟨σ', H', I', ha', q⟩ := q; exact ⟨σ', _, back I' ha', q⟩
  | ret v => obtain ⟨x, σ', H', I', r, ha', q⟩ := q; exact ⟨x, σ', _, back I' ha', r, q⟩
end
section
variable {σ : St} {H : Hp} {nx : St → Hp → Prop} {B : V → St → Hp → (St → Hp → Prop) → Prop}
theorem loop_dictT {a : Addr} {o : Obj} {kvs : List (List Key × V)} (Pv : Nat → St → Hp → Prop) (h0 : Pv 0 σ H) (hl : ∀ i σ H, Pv i σ H → H a = some (.frz o (.dT kvs)))
    (hs : ∀ i k v p σ H, kvs[i]? = some (k, v) → H p = some (.tup (k.map kV)) → Pv i σ H → B (.ref p) σ H (Pv (i + 1))) (hd : ∀ σ H, Pv kvs.length σ H → nx σ H) :
    ∃ W : Nat → Nat → St → Hp → Prop, (∃ m, W 0 m σ H) ∧ ∀ i m σ H, W i m σ H → ((Itd a o kvs).stop i H ∧ nx σ H) ∨ ((Itd a o kvs).go i H ∧ ∃ N : St → Hp → Prop, (∀ σ' H', N σ' H' → ∃ m', m' < m ∧ W (i + 1) m' σ' H') ∧ ∀ x H', (Itd a o kvs).yld i H x H' → B x σ H' N) := by
  refine ⟨fun i m σ H => m = kvs.length - i ∧ i ≤ kvs.length ∧ Pv i σ H, ⟨kvs.length, by simp, Nat.zero_le _, h0⟩, ?_⟩
  rintro i m σ H ⟨rfl, hi, pv⟩
  by_cases hlt : i < kvs.length
  · refine .inr ⟨⟨hl i σ H pv, hlt⟩, Pv (i + 1), fun σ' H' p' => ⟨kvs.length - (i + 1), by omega, rfl, hlt, p'⟩, ?_⟩
    rintro x H' ⟨rfl, k, v, p, hk, rfl, hp⟩
    exact hs i k v p σ _ hk hp pv
  · obtain rfl : i = kvs.length := by omega
    exact .inl ⟨⟨hl _ σ H pv, Nat.le_refl _⟩, hd σ H pv⟩
end
end L2

namespace L2
open PySem PySem.Spec PyProof.Rows
/-! ### values that hold others: what they are all through -/
mutual
inductive Dat (K : PySem.W.Frag) (H : Hp) : V → PyData → Prop
  | non : Dat K H .non .none
  | bl (b : Bool) : Dat K H (.bl b) (.bool b)
  | int (i : Int) : Dat K H (.int i) (.int i)
  | str (x : Str) : Dat K H (.str x) (.str x)
  | lst {a : Addr} {xs : List V} {ds : List PyData} : SqL K H a xs → DatAll K H xs ds → Dat K H (.ref a) (.list ds)
  | tup {a : Addr} {xs : List V} {ds : List PyData} : SqT K H a xs → DatAll K H xs ds → Dat K H (.ref a) (.tuple ds)
inductive DatAll (K : PySem.W.Frag) (H : Hp) : List V → List PyData → Prop
  | nil : DatAll K H [] []
  | cons {x : V} {d : PyData} {xs : List V} {ds : List PyData} : Dat K H x d → DatAll K H xs ds → DatAll K H (x :: xs) (d :: ds)
end
section
variable {X : Cx} {pins : List (Addr × Obj)} {σ : St} {H : Hp} {s : Shared}
mutual
theorem Dat.reads (I : Inv X pins σ H s) : ∀ {x : V} {d : PyData} {u : Value}, Dat X.K H x d → RelV x u → ∃ as, Reads s.heap u d as
  | _, _, _, .non, r => by cases r; exact ⟨_, .none⟩
  | _, _, _, .bl b, r => by cases r; exact ⟨_, .bool b⟩
  | _, _, _, .int i, r => by obtain ⟨t, rfl⟩ := r; exact ⟨_, .int i t⟩
  | _, _, _, .str x, r => by obtain ⟨t, rfl⟩ := r; exact ⟨_, .str x t⟩
  | _, _, _, .lst hq ha, r => by
    cases r
    obtain ⟨its, rv, ⟨o, n, e, c, _, d⟩, _⟩ := I.list hq
    obtain ⟨as, ra⟩ := DatAll.reads I ha rv
    exact ⟨_, .list e c d (by simpa using ra)⟩
  | _, _, _, .tup hq ha, r => by
    cases r
    obtain ⟨its, rv, ⟨o, e, c, n, d⟩, _⟩ := I.tuple hq
    obtain ⟨as, ra⟩ := DatAll.reads I ha rv
    exact ⟨_, .tuple e c d (by simpa using ra)⟩
theorem DatAll.reads (I : Inv X pins σ H s) : ∀ {xs : List V} {ds : List PyData} {us : List Value}, DatAll X.K H xs ds → Vals xs us → ∃ as, ReadsAll s.heap us ds as
  | _, _, _, .nil, r => by cases r; exact ⟨_, .nil⟩
  | _, _, _, .cons hx ht, r => by
    cases r with
    | cons r1 rr =>
      obtain ⟨as, ra⟩ := Dat.reads I hx r1
      obtain ⟨bs, rb⟩ := DatAll.reads I ht rr
      exact ⟨_, .cons ra rb⟩
end
end
section
variable {K : PySem.W.Frag} {H H' : Hp}
theorem SqL.mono {a : Addr} {xs : List V} (k : Same H H') (h : SqL K H a xs) : SqL K H' a xs := by
  rcases h with (h | ⟨o, h⟩) | h
  · exact .inl (.inl (k _ _ h))
  · exact .inl (.inr ⟨o, k _ _ h⟩)
  · exact .inr h
theorem SqT.mono {a : Addr} {xs : List V} (k : Same H H') (h : SqT K H a xs) : SqT K H' a xs := by
  rcases h with (h | ⟨o, h⟩) | h
  · exact .inl (.inl (k _ _ h))
  · exact .inl (.inr ⟨o, k _ _ h⟩)
  · exact .inr h
mutual
theorem Dat.mono (k : Same H H') : ∀ {x : V} {d : PyData}, Dat K H x d → Dat K H' x d
  | _, _, .non => .non
  | _, _, .bl b => .bl b
  | _, _, .int i => .int i
  | _, _, .str x => .str x
  | _, _, .lst hq ha => .lst (hq.mono k) (DatAll.mono k ha)
  | _, _, .tup hq ha => .tup (hq.mono k) (DatAll.mono k ha)
theorem DatAll.mono (k : Same H H') : ∀ {xs : List V} {ds : List PyData}, DatAll K H xs ds → DatAll K H' xs ds
  | _, _, .nil => .nil
  | _, _, .cons hx ht => .cons (Dat.mono k hx) (DatAll.mono k ht)
end
theorem DatAll.length : ∀ {xs : List V} {ds : List PyData}, DatAll K H xs ds → xs.length = ds.length
  | _, _, .nil => rfl
  | _, _, .cons _ ht => congrArg (· + 1) ht.length
theorem DatAll.get : ∀ {xs : List V} {ds : List PyData} {i : Nat} {x : V}, DatAll K H xs ds → xs[i]? = some x → ∃ d, ds[i]? = some d ∧ Dat K H x d
  | _, _, i, _, .nil, h => by simp at h
  | _, _, 0, _, .cons hx _, h => by
    simp only [List.getElem?_cons_zero, Option.some.injEq] at h
    subst h
    exact ⟨_, rfl, hx⟩
  | _, _, i + 1, _, .cons _ ht, h => by
    obtain ⟨d, e, r⟩ := ht.get (i := i) (by simpa using h)
    exact ⟨d, by simpa using e, r⟩
theorem DatAll.app : ∀ {xs ys : List V} {ds es : List PyData}, DatAll K H xs ds → DatAll K H ys es → DatAll K H (xs ++ ys) (ds ++ es)
  | _, _, _, _, .nil, h => h
  | _, _, _, _, .cons hx ht, h => .cons hx (ht.app h)
theorem DatAll.of {α : Type} {f : α → V} {g : α → PyData} : ∀ {l : List α}, (∀ a ∈ l, Dat K H (f a) (g a)) → DatAll K H (l.map f) (l.map g)
  | [], _ => .nil
  | a :: r, h => .cons (h a List.mem_cons_self) (DatAll.of fun b hb => h b (List.mem_cons_of_mem _ hb))
end
section
variable {X : Cx} {pins : List (Addr × Obj)} {σ : St} {H : Hp} {s : Shared}
mutual
theorem Dat.inj (I : Inv X pins σ H s) : ∀ {x : V} {d e : PyData}, Dat X.K H x d → Dat X.K H x e → d = e
  | _, _, _, .non, h => by cases h; rfl
  | _, _, _, .bl b, h => by cases h; rfl
  | _, _, _, .int i, h => by cases h; rfl
  | _, _, _, .str x, h => by cases h; rfl
  | _, _, _, .lst hq ha, h => by
    cases h with
    | lst hq' ha' =>
      have e := I.list_inj hq hq'
      subst e
      rw [DatAll.inj I ha ha']
    | tup hq' ha' =>
      obtain ⟨_, _, ⟨o, n, e, c, _⟩, _⟩ := I.list hq
      obtain ⟨_, _, ⟨o', e', c', _⟩, _⟩ := I.tuple hq'
      rw [e] at e'; cases e'
      rw [c] at c'; exact absurd c' (by simp)
  | _, _, _, .tup hq ha, h => by
    cases h with
    | tup hq' ha' =>
      have e := I.tuple_inj hq hq'
      subst e
      rw [DatAll.inj I ha ha']
    | lst hq' ha' =>
      obtain ⟨_, _, ⟨o, e, c, _⟩, _⟩ := I.tuple hq
      obtain ⟨_, _, ⟨o', n, e', c', _⟩, _⟩ := I.list hq'
      rw [e] at e'; cases e'
      rw [c] at c'; exact absurd c' (by simp)
theorem DatAll.inj (I : Inv X pins σ H s) : ∀ {xs : List V} {ds es : List PyData}, DatAll X.K H xs ds → DatAll X.K H xs es → ds = es
  | _, _, _, .nil, h => by cases h; rfl
  | _, _, _, .cons hx ht, h => by
    cases h with
    | cons hx' ht' => rw [Dat.inj I hx hx', DatAll.inj I ht ht']
end
end
/-- whole numbers, texts, None, and lists and tuples of these -/
def flatD : PyData → Bool
  | .none => true
  | .int _ => true
  | .str x => PyData.strOk x
  | _ => false
mutual
def plainD : PyData → Bool
  | .none => true
  | .int _ => true
  | .str x => PyData.strOk x
  | .list xs => plainDs xs
  | .tuple xs => plainDs xs
  | .bool _ => false
  | .dict _ => false
def plainDs : List PyData → Bool
  | [] => true
  | x :: xs => plainD x && plainDs xs
end
mutual
theorem plain_lay : ∀ {d : PyData}, plainD d = true → d.canLay0 = true
  | .none, _ => by simp [PyData.canLay0]
  | .int _, _ => by simp [PyData.canLay0]
  | .str x, h => by simpa [PyData.canLay0, plainD] using h
  | .list xs, h => by rw [PyData.canLay0]; exact plains_lay (by simpa [plainD] using h)
  | .tuple xs, h => by rw [PyData.canLay0]; exact plains_lay (by simpa [plainD] using h)
  | .bool _, h => by simp [plainD] at h
  | .dict _, h => by simp [plainD] at h
theorem plains_lay : ∀ {ds : List PyData}, plainDs ds = true → PyData.canLayAll0 ds = true
  | [], _ => by simp [PyData.canLayAll0]
  | x :: xs, h => by
    rw [plainDs, Bool.and_eq_true] at h
    rw [PyData.canLayAll0, plain_lay h.1, plains_lay h.2]; rfl
end
mutual
theorem plain_eqv : ∀ {d e : PyData}, plainD d = true → plainD e = true → (PyData.eqv d e = true ↔ d = e)
  | .list xs, .list ys, h, h' => by
    rw [PyData.eqv, plains_eqv (by simpa [plainD] using h) (by simpa [plainD] using h'), PyData.list.injEq]
  | .tuple xs, .tuple ys, h, h' => by
    rw [PyData.eqv, plains_eqv (by simpa [plainD] using h) (by simpa [plainD] using h'), PyData.tuple.injEq]
  | .bool _, _, h, _ => by simp [plainD] at h
  | .dict _, _, h, _ => by simp [plainD] at h
  | .none, .bool _, _, h => by simp [plainD] at h
  | .int _, .bool _, _, h => by simp [plainD] at h
  | .str _, .bool _, _, h => by simp [plainD] at h
  | .list _, .bool _, _, h => by simp [plainD] at h
  | .tuple _, .bool _, _, h => by simp [plainD] at h
  | .none, .dict _, _, h => by simp [plainD] at h
  | .int _, .dict _, _, h => by simp [plainD] at h
  | .str _, .dict _, _, h => by simp [plainD] at h
  | .list _, .dict _, _, h => by simp [plainD] at h
  | .tuple _, .dict _, _, h => by simp [plainD] at h
  | .none, .none, _, _ | .none, .int _, _, _ | .none, .str _, _, _ | .none, .list _, _, _ | .none, .tuple _, _, _ => by simp [PyData.eqv]
  | .int _, .none, _, _ | .int _, .int _, _, _ | .int _, .str _, _, _ | .int _, .list _, _, _ | .int _, .tuple _, _, _ => by simp [PyData.eqv]
  | .str _, .none, _, _ | .str _, .int _, _, _ | .str _, .str _, _, _ | .str _, .list _, _, _ | .str _, .tuple _, _, _ => by simp [PyData.eqv]
  | .list _, .none, _, _ | .list _, .int _, _, _ | .list _, .str _, _, _ | .list _, .tuple _, _, _ => by simp [PyData.eqv]
  | .tuple _, .none, _, _ | .tuple _, .int _, _, _ | .tuple _, .str _, _, _ | .tuple _, .list _, _, _ => by simp [PyData.eqv]
theorem plains_eqv : ∀ {xs ys : List PyData}, plainDs xs = true → plainDs ys = true → (PyData.eqvAll xs ys = true ↔ xs = ys)
  | [], [], _, _ => by simp [PyData.eqvAll]
  | [], _ :: _, _, _ => by simp [PyData.eqvAll]
  | _ :: _, [], _, _ => by simp [PyData.eqvAll]
  | x :: xs, y :: ys, h, h' => by
    rw [plainDs, Bool.and_eq_true] at h h'
    rw [PyData.eqvAll, Bool.and_eq_true, plain_eqv h.1 h'.1, plains_eqv h.2 h'.2, List.cons.injEq]
end
/-- both read whole: ne tells whether they differ -/
abbrev rEqD (K : PySem.W.Frag) (neg : Bool) : R2 := fun x y H Q => ∃ d e, Dat K H x d ∧ Dat K H y e ∧ (plainD d = true ∧ plainD e = true ∧ d.depth ≤ 64 ∧ e.depth ≤ 64) ∧ ∀ b : Bool, (b = true ↔ d = e) → Q (.bl (if neg then !b else b)) H
section
variable {X : Cx}
theorem shaped_plain {d : PyData} (h : plainD d = true) (h' : d.depth ≤ 64) : SeqAt.shaped d = true := by
  unfold SeqAt.shaped
  rw [plain_lay h, decide_eq_true h']; rfl
theorem op_eqAll (hu : X.A.units + 64 < cLine) : OpR X (compareOp .Eq) (rEqD X.K false) := by
  intro pins s σ H x y v u Q I rx ry h
  obtain ⟨d, e, hd, he, ⟨p1, p2, l1, l2⟩, q⟩ := h
  obtain ⟨as, ra⟩ := hd.reads I rx
  obtain ⟨bs, rb⟩ := he.reads I ry
  exact eq_dataH ra rb (shaped_plain p1 l1) (shaped_plain p2 l2) hu ⟨.bl _, H, I, rfl, q _ (plain_eqv p1 p2)⟩
theorem op_neAll (hu : X.A.units + 64 < cLine) : OpR X (compareOp .NotEq) (rEqD X.K true) := by
  intro pins s σ H x y v u Q I rx ry h
  obtain ⟨d, e, hd, he, ⟨p1, p2, l1, l2⟩, q⟩ := h
  obtain ⟨as, ra⟩ := hd.reads I rx
  obtain ⟨bs, rb⟩ := he.reads I ry
  exact ne_dataH ra rb (shaped_plain p1 l1) (shaped_plain p2 l2) hu ⟨.bl _, H, I, rfl, q _ (plain_eqv p1 p2)⟩
end
end L2

namespace L2
open PySem PySem.Spec PyProof.Rows
abbrev rLtS : R2 := fun x y H Q => ∃ i j, x = .str i ∧ y = .str j ∧ Q (.bl (decide (i.cps.toList < j.cps.toList))) H
abbrev rGtS : R2 := fun x y H Q => ∃ i j, x = .str i ∧ y = .str j ∧ Q (.bl (decide (j.cps.toList < i.cps.toList))) H
abbrev rInD (neg : Bool) : R2 := fun x y H Q => ∃ a o, y = .ref a ∧ DGet H a x o ∧ Q (.bl (if neg then !o.isSome else o.isSome)) H
section
variable {X : Cx}
theorem op_gt_str : OpR X (compareOp .Gt) rGtS := by
  intro pins s σ H x y v u Q I rx ry h
  obtain ⟨i, j, rfl, rfl, q⟩ := h
  obtain ⟨t, rfl⟩ := rx
  obtain ⟨t', rfl⟩ := ry
  exact PySem.P.gt_str (fin_bl I q rfl)
theorem op_in_d (hu : X.A.units + 1 < cLine) : OpR X (compareOp .In) (rInD false) := by
  intro pins s σ H x y v u Q I rx ry h
  obtain ⟨a, o, rfl, g, q⟩ := h
  cases ry
  exact d_in hu I g rx fun s' I' => ⟨.bl _, H, I', rfl, q⟩
theorem op_notin_d (hu : X.A.units + 1 < cLine) : OpR X (compareOp .NotIn) (rInD true) := by
  intro pins s σ H x y v u Q I rx ry h
  obtain ⟨a, o, rfl, g, q⟩ := h
  cases ry
  exact d_notIn hu I g rx fun s' I' => ⟨.bl _, H, I', rfl, q⟩
end
end L2

namespace L2
open PySem
/-! ### tables: what the last row of each place tells -/
abbrev Pl := Str × Int
abbrev Row := Pl × Int
def lastW : List Row → Pl → Option Int
  | [], _ => none
  | r :: t, p => (lastW t p).or (if r.1 = p then some r.2 else none)
def dStep (kvs : List (List Key × V)) (q : Row) : List (List Key × V) := putK kvs (plKey q.1) (.int q.2)
def dOf (rows : List Row) : List (List Key × V) := rows.foldl dStep []
theorem plKey_inj {p q : Pl} (h : plKey p = plKey q) : p = q := by
  unfold plKey at h
  simp only [List.cons.injEq, Sum.inr.injEq, Sum.inl.injEq, and_true] at h
  exact Prod.ext h.1 h.2
theorem val_fold : ∀ (rows : List Row) (kvs : List (List Key × V)) (p : Pl), valV (rows.foldl dStep kvs) (plKey p) = ((lastW rows p).map V.int).or (valV kvs (plKey p))
  | [], _, _ => rfl
  | r :: t, kvs, p => by
    rw [List.foldl_cons, val_fold t, lastW]
    show _ = _
    rw [dStep, valV_put]
    cases lastW t p with
    | some w => rfl
    | none =>
      by_cases e : r.1 = p
      · subst e; simp
      · rw [if_neg (fun z => e (plKey_inj z).symm)]; simp [e]
theorem val_dOf (rows : List Row) (p : Pl) : valV (dOf rows) (plKey p) = (lastW rows p).map V.int := by
  unfold dOf
  rw [val_fold, valV_nil]
  cases lastW rows p <;> rfl
theorem dOf_snoc (rows : List Row) (q : Row) : dOf (rows ++ [q]) = putK (dOf rows) (plKey q.1) (.int q.2) := by
  unfold dOf
  rw [List.foldl_append]; rfl
def OkKv (kvs : List (List Key × V)) : Prop := (kvs.map (·.1)).Nodup ∧ ∀ kv ∈ kvs, ∃ (p : Pl) (w : Int), kv = (plKey p, .int w)
theorem OkKv.put {kvs : List (List Key × V)} (h : OkKv kvs) (p : Pl) (w : Int) : OkKv (putK kvs (plKey p) (.int w)) := by
  cases e : valV kvs (plKey p) with
  | none =>
    refine ⟨nd_putK _ h.1 e, fun kv hk => ?_⟩
    rw [putK_new _ e] at hk
    rcases List.mem_append.mp hk with hk | hk
    · exact h.2 kv hk
    · exact ⟨p, w, List.mem_singleton.mp hk⟩
  | some v =>
    have q : (kvs.any fun kv => decide (kv.1 = plKey p)) = true := by rw [valV_any, e]; rfl
    unfold putK
    rw [if_pos q]
    constructor
    · rw [List.map_map]
      have : ((fun x : List Key × V => x.1) ∘ fun kv : List Key × V => if kv.1 = plKey p then (kv.1, V.int w) else kv) = fun x => x.1 := by
        funext kv
        show (if kv.1 = plKey p then (kv.1, V.int w) else kv).1 = kv.1
        split <;> rfl
      rw [this]; exact h.1
    · intro kv hk
      obtain ⟨z, hz, rfl⟩ := List.mem_map.mp hk
      by_cases e : z.1 = plKey p
      · exact ⟨p, w, by rw [if_pos e, e]⟩
      · rw [if_neg e]; exact h.2 z hz
theorem okKv_fold : ∀ (rows : List Row) (kvs : List (List Key × V)), OkKv kvs → OkKv (rows.foldl dStep kvs)
  | [], _, h => h
  | r :: t, kvs, h => okKv_fold t _ (h.put r.1 r.2)
theorem okKv_dOf (rows : List Row) : OkKv (dOf rows) := okKv_fold rows [] ⟨List.nodup_nil, fun _ h => nomatch h⟩
theorem len_put (kvs : List (List Key × V)) (k : List Key) (v : V) : (putK kvs k v).length ≤ kvs.length + 1 := by
  unfold putK
  split
  · rw [List.length_map]; omega
  · rw [List.length_append]; simp
theorem len_fold : ∀ (rows : List Row) (kvs : List (List Key × V)), (rows.foldl dStep kvs).length ≤ kvs.length + rows.length
  | [], _ => by simp
  | r :: t, kvs => by
    have := len_fold t (dStep kvs r)
    have := len_put kvs (plKey r.1) (.int r.2)
    rw [List.foldl_cons, List.length_cons]
    unfold dStep at *
    omega
theorem len_dOf (rows : List Row) : (dOf rows).length ≤ rows.length := by have := len_fold rows []; simpa [dOf] using this
theorem valV_nd {kvs : List (List Key × V)} : (kvs.map (·.1)).Nodup → ∀ kv ∈ kvs, valV kvs kv.1 = some kv.2 := by
  induction kvs with
  | nil => exact fun _ kv h => nomatch h
  | cons a r ih =>
    intro hn kv hk
    rw [List.map_cons, List.nodup_cons] at hn
    rcases List.mem_cons.mp hk with rfl | hk
    · exact valV_pos rfl
    · rw [valV_neg fun z => hn.1 (by rw [z]; exact List.mem_map_of_mem hk)]
      exact ih hn.2 kv hk
/-- an entry of the dict is what the last row of its place tells -/
theorem mem_dOf {rows : List Row} {kv : List Key × V} : kv ∈ dOf rows ↔ ∃ p w, kv = (plKey p, .int w) ∧ lastW rows p = some w := by
  constructor
  · intro h
    obtain ⟨p, w, rfl⟩ := (okKv_dOf rows).2 kv h
    have := valV_nd (okKv_dOf rows).1 _ h
    rw [val_dOf] at this
    obtain ⟨w', e1, e2⟩ := Option.map_eq_some_iff.mp this
    cases e2
    exact ⟨p, w, rfl, e1⟩
  · rintro ⟨p, w, rfl, h⟩
    have e : valV (dOf rows) (plKey p) = some (.int w) := by rw [val_dOf, h]; rfl
    obtain ⟨kv, hk, e1⟩ := List.mem_map.mp (valV_in e)
    have := valV_nd (okKv_dOf rows).1 _ hk
    rw [e1, e] at this
    have e2 : kv = (plKey p, V.int w) := Prod.ext e1 (Option.some.inj this).symm
    rw [← e2]; exact hk
theorem placeLt_irr (a : Pl) : placeLt a a = false := by
  unfold placeLt
  rw [if_pos rfl]
  exact decide_eq_false (by omega)
theorem placeLt_trans {a b c : Pl} (h1 : placeLt a b = true) (h2 : placeLt b c = true) : placeLt a c = true := by
  unfold placeLt at *
  by_cases e1 : a.1 = b.1
  · rw [if_pos e1] at h1
    by_cases e2 : b.1 = c.1
    · rw [if_pos e2] at h2
      rw [if_pos (e1.trans e2)]
      have h1 := of_decide_eq_true h1
      have h2 := of_decide_eq_true h2
      exact decide_eq_true (by omega)
    · rw [if_neg e2] at h2
      rw [if_neg (by rw [e1]; exact e2), e1]
      exact h2
  · rw [if_neg e1] at h1
    have h1 := of_decide_eq_true h1
    by_cases e2 : b.1 = c.1
    · rw [if_neg (by rw [← e2]; exact e1), ← e2]
      exact decide_eq_true h1
    · rw [if_neg e2] at h2
      have h2 := of_decide_eq_true h2
      have h3 := List.lt_trans h1 h2
      rw [if_neg (fun z => by rw [z] at h3; exact List.lt_irrefl _ h3)]
      exact decide_eq_true h3
/-- strictly rising by place -/
def Rising (l : List Row) : Prop := l.Pairwise fun a b => placeLt a.1 b.1 = true
def IsTab (rows out : List Row) : Prop := Rising out ∧ ∀ p w, (p, w) ∈ out ↔ lastW rows p = some w ∧ w ≠ 0
theorem Rising.nd {l : List Row} (h : Rising l) : (l.map (·.1)).Nodup := by
  unfold List.Nodup
  rw [List.pairwise_map]
  exact List.Pairwise.imp (fun {a b} h z => by rw [z, placeLt_irr] at h; cases h) h
theorem last_none {p : Pl} : ∀ {l : List Row}, (∀ r ∈ l, r.1 ≠ p) → lastW l p = none
  | [], _ => rfl
  | r :: t, h => by
    rw [lastW, last_none fun r hr => h r (List.mem_cons_of_mem _ hr), if_neg (h r List.mem_cons_self)]; rfl
theorem last_nd {p : Pl} {w : Int} : ∀ {l : List Row}, (l.map (·.1)).Nodup → (lastW l p = some w ↔ (p, w) ∈ l)
  | [], _ => by simp [lastW]
  | r :: t, hn => by
    rw [List.map_cons, List.nodup_cons] at hn
    have ih := last_nd (p := p) (w := w) hn.2
    by_cases e : r.1 = p
    · have z : lastW t p = none := last_none fun q hq zz => hn.1 (by rw [e, ← zz]; exact List.mem_map_of_mem hq)
      rw [lastW, z, if_pos e]
      constructor
      · intro h
        have : r.2 = w := by simpa using h
        rw [← e, ← this]; exact List.mem_cons_self
      · intro h
        rcases List.mem_cons.mp h with h | h
        · rw [← h]; rfl
        · exact absurd (List.mem_map_of_mem (f := (·.1)) h) (by rw [← e]; exact hn.1)
    · rw [lastW, if_neg e, Option.or_none, ih, List.mem_cons]
      constructor
      · exact .inr
      · rintro (h | h)
        · exact absurd (by rw [← h]) e
        · exact h
theorem tab_get {rows out : List Row} (h : IsTab rows out) (p : Pl) : (lastW out p).getD 0 = (lastW rows p).getD 0 := by
  have k := fun w => last_nd (p := p) (w := w) h.1.nd
  cases e : lastW rows p with
  | none =>
    cases e' : lastW out p with
    | none => rfl
    | some w =>
      have := (h.2 p w).mp ((k w).mp e')
      rw [e] at this; cases this.1
  | some w =>
    by_cases hw : w = 0
    · subst hw
      cases e' : lastW out p with
      | none => rfl
      | some w' =>
        have := (h.2 p w').mp ((k w').mp e')
        rw [e] at this
        cases this.1
        exact absurd rfl this.2
    · rw [(k w).mpr ((h.2 p w).mpr ⟨e, hw⟩)]
theorem rising_ext : ∀ {a b : List Row}, Rising a → Rising b → (∀ x, x ∈ a ↔ x ∈ b) → a = b
  | [], [], _, _, _ => rfl
  | [], y :: _, _, _, h => absurd ((h y).mpr List.mem_cons_self) (by simp)
  | x :: _, [], _, _, h => absurd ((h x).mp List.mem_cons_self) (by simp)
  | x :: a, y :: b, ha, hb, h => by
    unfold Rising at ha hb
    rw [List.pairwise_cons] at ha hb
    have e : x = y := by
      rcases List.mem_cons.mp ((h x).mp List.mem_cons_self) with e | e
      · exact e
      · rcases List.mem_cons.mp ((h y).mpr List.mem_cons_self) with e' | e'
        · exact e'.symm
        · have := placeLt_trans (ha.1 y e') (hb.1 x e)
          rw [placeLt_irr] at this; cases this
    subst e
    have nx : x ∉ a := fun z => by have := ha.1 x z; rw [placeLt_irr] at this; cases this
    have ny : x ∉ b := fun z => by have := hb.1 x z; rw [placeLt_irr] at this; cases this
    rw [rising_ext ha.2 hb.2 fun z => ?_]
    constructor
    · intro hz
      rcases List.mem_cons.mp ((h z).mp (List.mem_cons_of_mem _ hz)) with e | e
      · subst e; exact absurd hz nx
      · exact e
    · intro hz
      rcases List.mem_cons.mp ((h z).mpr (List.mem_cons_of_mem _ hz)) with e | e
      · subst e; exact absurd hz ny
      · exact e
theorem tab_self {rows out : List Row} (h : IsTab rows out) : IsTab out out :=
  ⟨h.1, fun p w => ⟨fun m => ⟨(last_nd h.1.nd).mpr m, ((h.2 p w).mp m).2⟩, fun m => (last_nd h.1.nd).mp m.1⟩⟩
theorem tab_uniq {rows a b : List Row} (ha : IsTab rows a) (hb : IsTab rows b) : a = b :=
  rising_ext ha.1 hb.1 fun x => (ha.2 x.1 x.2).trans (hb.2 x.1 x.2).symm
/-- lists without a twin and with the same members have the same length -/
theorem nd_len_le {α : Type} [DecidableEq α] : ∀ {a b : List α}, a.Nodup → (∀ x ∈ a, x ∈ b) → a.length ≤ b.length
  | [], _, _, _ => Nat.zero_le _
  | x :: a, b, hn, h => by
    rw [List.nodup_cons] at hn
    have hx := h x List.mem_cons_self
    have := nd_len_le (a := a) (b := b.erase x) hn.2 fun y hy => (List.mem_erase_of_ne fun z => hn.1 (by rw [← z]; exact hy)).mpr (h y (List.mem_cons_of_mem _ hy))
    rw [List.length_erase_of_mem hx] at this
    have : 0 < b.length := List.length_pos_of_mem hx
    rw [List.length_cons]; omega
def nzV (kv : List Key × V) : Bool := decide (kv.2 ≠ .int 0)
theorem tab_len {rows out : List Row} (h : IsTab rows out) : ((dOf rows).filter nzV).length = out.length := by
  have n1 : (((dOf rows).filter nzV).map (·.1)).Nodup := List.Nodup.sublist (List.Sublist.map _ List.filter_sublist) (okKv_dOf rows).1
  have n2 : ((out.map (·.1)).map plKey).Nodup := by
    have := h.1.nd
    unfold List.Nodup at *
    rw [List.pairwise_map]
    exact this.imp fun {a b} hab z => hab (plKey_inj z)
  have sub1 : ∀ k ∈ ((dOf rows).filter nzV).map (·.1), k ∈ (out.map (·.1)).map plKey := fun k hk => by
    obtain ⟨kv, hkv, rfl⟩ := List.mem_map.mp hk
    rw [List.mem_filter] at hkv
    obtain ⟨p, w, rfl, e⟩ := mem_dOf.mp hkv.1
    have hw : w ≠ 0 := fun z => by have := of_decide_eq_true hkv.2; rw [z] at this; exact this rfl
    exact List.mem_map_of_mem (List.mem_map_of_mem (f := (·.1)) ((h.2 p w).mpr ⟨e, hw⟩))
  have sub2 : ∀ k ∈ (out.map (·.1)).map plKey, k ∈ ((dOf rows).filter nzV).map (·.1) := fun k hk => by
    obtain ⟨p, hp, rfl⟩ := List.mem_map.mp hk
    obtain ⟨⟨p, w⟩, hr, rfl⟩ := List.mem_map.mp hp
    obtain ⟨e, hw⟩ := (h.2 p w).mp hr
    exact List.mem_map.mpr ⟨(plKey p, .int w), List.mem_filter.mpr ⟨mem_dOf.mpr ⟨p, w, rfl, e⟩, decide_eq_true (by simpa using hw)⟩, rfl⟩
  have l1 := nd_len_le n1 sub1
  have l2 := nd_len_le n2 sub2
  simp only [List.length_map] at l1 l2
  omega
end L2

namespace L2
open PySem PySem.Spec PyProof.Rows
/-! ### zip of two lists -/
def ZL (z a b i j p q : Addr) (k : Nat) (h : Heap) : Prop := IsZip h z a b .none ∧ IsPair h a (.ref i) (.ref j) ∧ (∃ u v, IsPair h b u v) ∧ h.IsListIter i p k ∧ h.IsListIter j q k
def Itzl (K : PySem.W.Frag) (p q : Addr) (xs ys : List V) : It := ⟨fun i H => i < xs.length ∧ SqL K H p xs ∧ SqL K H q ys, fun i H x H' => ∃ T u v, x = .ref T ∧ H T = none ∧ H' = upd H T (.tup [u, v]) ∧ xs[i]? = some u ∧ ys[i]? = some v, fun i H => xs.length ≤ i ∧ SqL K H p xs ∧ SqL K H q ys⟩
theorem turn_zipL {P : Program} {w : World} {K : PySem.W.Frag} {elts : List Expr} {x1} {pos : Pos} {z a b i j p q : Addr} {xs ys : List V} (D : ZipApart z a b i j p q) (hl : xs.length = ys.length) :
    Turn P w K (.Tuple elts x1 pos) (Itzl K p q xs ys) [z, a, b, i, j] z (ZL z a b i j p q) where
  mem := by simp
  obj := fun k h st c hc => by
    obtain ⟨hz, ha, ⟨u, v, hb⟩, ⟨oi, hi, ci, di⟩, ⟨oj, hj, cj, dj⟩⟩ := st
    simp only [List.mem_cons, List.not_mem_nil, or_false] at hc
    rcases hc with rfl | rfl | rfl | rfl | rfl
    · exact ⟨_, hz, fun v z => by cases z⟩
    · exact ⟨_, ha, fun v z => by cases z⟩
    · exact ⟨_, hb, fun v z => by cases z⟩
    · exact ⟨_, hi, fun v z => by rw [di] at z; cases z⟩
    · exact ⟨_, hj, fun v z => by rw [dj] at z; cases z⟩
  keep := fun k h h' st kk => by
    obtain ⟨hz, ha, ⟨u, v, hb⟩, ⟨oi, hi, ci⟩, ⟨oj, hj, cj⟩⟩ := st
    exact ⟨kk z (by simp) _ hz, kk a (by simp) _ ha, ⟨u, v, kk b (by simp) _ hb⟩, ⟨oi, kk i (by simp) _ hi, ci⟩, ⟨oj, kk j (by simp) _ hj, cj⟩⟩
  item := by
    intro X hP hw hK hc k pins s σ H E I hf st hg
    subst hP hw hK
    obtain ⟨hlt, h1, h2⟩ := hg
    obtain ⟨us, r1, p1, _⟩ := I.list h1
    obtain ⟨vs, r2, p2, _⟩ := I.list h2
    obtain ⟨u, hu, ru⟩ := r1.get (i := k) (x := xs[k]) (List.getElem?_eq_getElem hlt)
    obtain ⟨v, hv, rv⟩ := r2.get (i := k) (x := ys[k]'(hl ▸ hlt)) (List.getElem?_eq_getElem (hl ▸ hlt))
    have sub : ∀ c ∈ [z, b, i, j], c ∈ [z, a, b, i, j] := fun c hc => by
      simp only [List.mem_cons, List.not_mem_nil, or_false] at hc ⊢
      rcases hc with h | h | h | h <;> simp [h]
    have old : ∀ c ∈ [z, a, b, i, j], c ≠ s.heap.objs.size := fun c hc => by
      obtain ⟨hz, ha, ⟨u, v, hb⟩, ⟨oi, hi, ci⟩, ⟨oj, hj, cj⟩⟩ := st
      simp only [List.mem_cons, List.not_mem_nil, or_false] at hc
      rcases hc with rfl | rfl | rfl | rfl | rfl
      · exact Nat.ne_of_lt (Heap.lt_size hz)
      · exact Nat.ne_of_lt (Heap.lt_size ha)
      · exact Nat.ne_of_lt (Heap.lt_size hb)
      · exact Nat.ne_of_lt (Heap.lt_size hi)
      · exact Nat.ne_of_lt (Heap.lt_size hj)
    obtain ⟨hz, ha, ⟨u0, v0, hb⟩, hi, hj⟩ := st
    refine wpAny_pyNext_zip_item D hz ha hb hi hj p1.isList p2.isList (x := u) (y := v) (by simpa using hu) (by simpa using hv) fun h z8 b5 i5 j5 t5 sz k5 => ?_
    have I6 : Inv X pins σ (upd H s.heap.objs.size (.tup [xs[k], ys[k]'(hl ▸ hlt)])) { s with heap := s.heap.push { cls := .type "tuple", data := .seq #[u, v] } } :=
      I.laid (a := s.heap.objs.size) (o := .tup [xs[k], ys[k]'(hl ▸ hlt)]) (t' := s.toks) (fun b u e => Heap.get?_push_of_some _ e) (Nat.le_refl _) ⟨by show 2 ≤ sizeLine; decide, [u, v], .cons ru (.cons rv .nil), ⟨_, Heap.get?_push_size _ rfl, rfl, _, rfl⟩⟩
    have free : ∀ c ∈ [z, a, b, i, j], upd H s.heap.objs.size (HO.tup [xs[k], ys[k]'(hl ▸ hlt)]) c = none := fun c hc => by rw [upd_ne (old c hc)]; exact (hf c hc).1
    have fz : ∀ c ∈ [z, a, b, i, j], FpOk X pins (upd H s.heap.objs.size (HO.tup [xs[k], ys[k]'(hl ▸ hlt)])) c := fun c hc => ⟨free c hc, (hf c hc).2⟩
    refine ⟨.ref s.heap.objs.size, rfl, wpAny_letOwnedTupleGo_zip z8 fun h2 z9 sb2 => ?_⟩
    have up : ∀ c o, c ≠ z → h.get? c = some o → h2.get? c = some o := fun c o hc e => by
      rw [show h2.get? c = h.get? c from sb2.2 c hc]; exact e
    have I7 : Inv X pins σ (upd H s.heap.objs.size (.tup [xs[k], ys[k]'(hl ▸ hlt)])) { s with heap := h2 } := I6.turnedL (s := { s with heap := s.heap.push { cls := .type "tuple", data := .seq #[u, v] } }) (t' := s.toks) (ch := [z, b, i, j]) (fun c o hc e => by
      simp only [List.mem_cons, List.not_mem_nil, or_false, not_or] at hc
      refine up c o hc.1 ?_
      rcases Heap.get?_push_cases (show (s.heap.push { cls := .type "tuple", data := .seq #[u, v] }).get? c = some o from e) with ⟨rfl, rfl⟩ | e
      · exact t5
      · exact k5 c o hc.1 hc.2.1 hc.2.2.1 hc.2.2.2 e) fun c hc => fz c (sub c hc)
    refine ⟨.ref s.heap.objs.size, _, I7, rfl, ⟨_, _, _, rfl, I.hok.fresh (Nat.le_refl _), rfl, List.getElem?_eq_getElem hlt, List.getElem?_eq_getElem (hl ▸ hlt)⟩, ?_, free⟩
    have ka : h.get? a = _ := k5 a _ D.TIz D.TITO D.TIi1 D.TIi2 ha
    obtain ⟨oi, hi, ci⟩ := i5
    obtain ⟨oj, hj, cj⟩ := j5
    exact ⟨z9, up a _ D.TIz ka, ⟨_, _, up b _ D.TOz b5⟩, ⟨oi, up i _ D.i1z hi, ci⟩, ⟨oj, up j _ D.i2z hj, cj⟩⟩
  done := by
    intro X hP hw hK hc k pins s σ H E I hf st hg
    subst hP hw hK
    obtain ⟨hlt, h1, h2⟩ := hg
    obtain ⟨us, r1, p1, _⟩ := I.list h1
    obtain ⟨vs, r2, p2, _⟩ := I.list h2
    have hl1 := r1.length
    obtain ⟨hz, ha, ⟨u0, v0, hb⟩, hi, hj⟩ := st
    refine wpAny_pyNext_zip_end (I.ok.hd hc) D hz ha hb hi hj p1.isList p2.isList (.inl (by simp; omega)) fun h hk => ⟨rfl, I.turnedL (t' := s.toks) (ch := [z, b, i, j]) (fun c o hc e => ?_) fun c hc => hf c ?_⟩
    · simp only [List.mem_cons, List.not_mem_nil, or_false, not_or] at hc
      exact hk c o hc.1 hc.2.1 hc.2.2.1 hc.2.2.2 e
    · simp only [List.mem_cons, List.not_mem_nil, or_false] at hc ⊢
      rcases hc with h | h | h | h <;> simp [h]
  self := fun _ _ _ _ _ st h => wpAny_pyIter_zip st.1 h
def iZipL (K : PySem.W.Frag) (ta : TA) : TI := fun σ H R => ta σ H fun vs H1 => ∃ p q xs ys, vs = [.ref p, .ref q] ∧ SqL K H1 p xs ∧ SqL K H1 q ys ∧ xs.length = ys.length ∧ R (Itzl K p q xs ys) H1
section
variable {X : Cx}
theorem pi_zipL {elts : List Expr} {x1} {tp : Pos} {e1 e2 : Expr} {ta : TA} {p pos : Pos} (hg : Gl X "zip") (hm : X.mg "zip" = none) (ha : PA X [e1, e2] ta) (he : starEach [e1, e2] X.env = (false, eval e1 X.env) :: starEach [e2] X.env := by rfl) (hpl : (backTo pos (starEach [e2] X.env)).any (·.1) = false := by rfl) :
    PI X (.Tuple elts x1 tp) (.Call (.Name "zip" p) [e1, e2] [] pos) (iZipL X.K ta) := by
  intro pins s σ H R I h
  refine Call_ (ld_blt I hg hm bt_zip (PyProof.Rows.callWith_type1 (thn (ha pos pins s σ H _ I h) fun us s1 ⟨vs, H1, I1, r1, q1⟩ => ?_) he hpl))
  obtain ⟨a, b, xs, ys, e, h1, h2, hl, q⟩ := q1
  subst e
  obtain ⟨u1, u2, rfl, ra, rb⟩ := vals2 r1
  cases ra
  cases rb
  obtain ⟨us1, r1, p1, _⟩ := I1.list h1
  obtain ⟨us2, r2, p2, _⟩ := I1.list h2
  have l1 : a < s1.heap.objs.size := by obtain ⟨_, _, e, _⟩ := p1; exact Heap.lt_size e
  have l2 : b < s1.heap.objs.size := by obtain ⟨_, _, e, _⟩ := p2; exact Heap.lt_size e
  refine call_zip_2 p1.isList p2.isList fun h' z0 a0 b0 i0 j0 _ k => ?_
  refine wpAny_pyIter_zip (s := { s1 with heap := h' }) z0 ?_
  generalize hn : s1.heap.objs.size = n at *
  have ne : ∀ {x y : Nat}, x ≠ y → (show Addr from x) ≠ (show Addr from y) := fun h => h
  have la : ∀ k : Nat, (show Nat from a) ≠ n + k := fun k => Nat.ne_of_lt (Nat.lt_of_lt_of_le l1 (Nat.le_add_right _ _))
  have lb : ∀ k : Nat, (show Nat from b) ≠ n + k := fun k => Nat.ne_of_lt (Nat.lt_of_lt_of_le l2 (Nat.le_add_right _ _))
  have D : ZipApart (n + 4) (n + 2) (n + 3) n (n + 1) a b := ⟨ne (by omega), ne (by omega), ne (by omega), ne (by omega), ne (by omega), ne (by omega), ne (by omega), ne (by omega), ne (by omega), ne (by omega), la 4, la 3, la 0, la 1, lb 4, lb 3, lb 0, lb 1⟩
  refine ⟨_, _, _, _, H1, rfl, I1.kept (t' := s1.toks) k, turn_zipL D hl, ⟨z0, a0, ⟨_, _, b0⟩, i0, j0⟩, fun c hc => ?_, q⟩
  simp only [List.mem_cons, List.not_mem_nil, or_false] at hc
  have hc : n ≤ c := by rcases hc with rfl | rfl | rfl | rfl | rfl <;> first | exact Nat.le_add_right _ _ | exact Nat.le_refl _
  exact I1.fpOk (by rw [hn]; exact hc) (I1.hok.fresh (by rw [hn]; exact hc))
end
section
variable {σ : St} {H : Hp} {nx : St → Hp → Prop} {B : V → St → Hp → (St → Hp → Prop) → Prop}
theorem loop_zipL {K : PySem.W.Frag} {p q : Addr} (xs ys : List V) (Pv : Nat → St → Hp → Prop) (h0 : Pv 0 σ H) (hl : ∀ i σ H, Pv i σ H → SqL K H p xs ∧ SqL K H q ys)
    (hs : ∀ i u v T σ H, xs[i]? = some u → ys[i]? = some v → H T = none → Pv i σ H → B (.ref T) σ (upd H T (.tup [u, v])) (Pv (i + 1))) (hd : ∀ σ H, Pv xs.length σ H → nx σ H) :
    ∃ W : Nat → Nat → St → Hp → Prop, (∃ m, W 0 m σ H) ∧ ∀ i m σ H, W i m σ H → ((Itzl K p q xs ys).stop i H ∧ nx σ H) ∨ ((Itzl K p q xs ys).go i H ∧ ∃ N : St → Hp → Prop, (∀ σ' H', N σ' H' → ∃ m', m' < m ∧ W (i + 1) m' σ' H') ∧ ∀ x H', (Itzl K p q xs ys).yld i H x H' → B x σ H' N) := by
  refine ⟨fun i m σ H => m = xs.length - i ∧ i ≤ xs.length ∧ Pv i σ H, ⟨xs.length, by simp, Nat.zero_le _, h0⟩, ?_⟩
  rintro i m σ H ⟨rfl, hi, pv⟩
  by_cases hlt : i < xs.length
  · refine .inr ⟨⟨hlt, hl i σ H pv⟩, Pv (i + 1), fun σ' H' p' => ⟨xs.length - (i + 1), by omega, rfl, hlt, p'⟩, ?_⟩
    rintro x H' ⟨T, u, v, rfl, hT, rfl, hu, hv⟩
    exact hs i u v T σ H hu hv hT pv
  · obtain rfl : i = xs.length := by omega
    exact .inl ⟨⟨Nat.le_refl _, hl _ σ H pv⟩, hd σ H pv⟩
end
end L2

namespace L2
open PySem PySem.Spec PyProof.Rows
/-! ### dict(list of pairs), the keys places -/
theorem plain_dul : plainId "dict.update.loop" = true := by decide +kernel
theorem entry_dul : entryFor table "dict.update.loop" = some Builtin.«dict.update.loop» := entryFor_of_fast (by kernel_rfl)
section
variable {X : Cx} {A : Around} {R : Result → Shared → Prop}
/-- a row of the list -/
def PrAt (H : Hp) (v : V) (q : Row) : Prop := ∃ r p, v = .ref r ∧ H r = some (.tup [.ref p, .int q.2]) ∧ H p = some (.tup [.str q.1.1, .int q.1.2])
theorem dul_store {pins : List (Addr × Obj)} {σ : St} {H : Hp} {s : Shared} {d b : Addr} {kvs : List (List Key × V)} {k : List Key} {v : V} {u : Value} {E : Value → Shared → Prop} {Q : Unit → Shared → Prop} (hu : A.units + 1 < cLine) (I : Inv X pins σ H s) (e : H d = some (.dT kvs)) (eb : H b = some (.tup (k.map kV))) (l : kvs.length < sizeLine) (rv : RelV v u)
    (h : ∀ h' tk, Inv X pins σ (upd H d (.dT (putK kvs k v))) { s with heap := h', toks := tk } → Heap.SameBut d s.heap h' → Q () { s with heap := h', toks := tk }) : wpAny (model X.prog X.w) A.in1 (dictSet d (.ref b) u) Q E s := by
  obtain ⟨z, hd, xs, rel, dd⟩ := dt_of I.hok e
  have hz : xs.length ≤ sizeLine := by rw [← Paired.length rel]; exact z
  have hl : (putK kvs k v).length ≤ sizeLine := by have := length_putK kvs k v; omega
  refine wpAny_dictSet_heap (hsz := hz) (tupleKind_room_in1 hu) (key_of I.hok eb) dd fun h' dd' hs => h _ _ ?_ hs
  obtain ⟨q, es, ep, hq, h2, h3, h4, _, h5⟩ := dd'
  refine d_write I (by rw [e]; exact True.intro) hs ⟨q, hq⟩ ⟨hl, hd, _, (rel.put k eb rv).keeps fun c ys ec => ?_, q, es, ep, hq, h2, h3, h4, h5⟩
  rw [upd_ne (ne_of ec e (fun z => nomatch z))]
  exact ec
theorem dul_loop {pins : List (Addr × Obj)} {σ : St} {H : Hp} {d it l : Addr} {xs : List V} {rows : List Row} {res : Value} (hu : A.units + 1 < cLine) (hh : A.handled = none) (hd : H d = none) (hl : H l = some (.lst xs)) (hr : Paired (PrAt H) xs rows) (h63 : rows.length ≤ 1000) (dit : it ≠ d) (lit : l ≠ it) :
    ∀ (k i : Nat) (s : Shared), rows.length - i = k → i ≤ rows.length → Inv X pins σ (upd H d (.dT (dOf (rows.take i)))) s → s.heap.IsListIter it l i → (∀ u, FpOk X pins (upd H d u) it) →
    (∀ s', Inv X pins σ (upd H d (.dT (dOf rows))) s' → R (.ok (.ret res)) s') →
    codeAny (model X.prog X.w) A (.builtin "dict.update.loop" ⟨[.ref d, .ref it, rawInt i, res], []⟩) R s := by
  have lx : xs.length = rows.length := Paired.length hr
  have S : ∀ u : HO, Same H (upd H d u) := fun u => isV (o := u) d hd
  intro k
  induction k with
  | zero =>
    intro i s hk hi I st hf fin
    have e : i = rows.length := by omega
    subst e
    refine codeAny_builtin entry_dul ?_
    rw [Around.under_plainId plain_dul _]
    show wpAny _ A.in1 (pyNext (.ref it) >>= _) _ _ s
    obtain ⟨its, rv, p, hz⟩ := I.list (SqL.of (S _ _ _ hl))
    obtain ⟨f0, f1, f2, f3, f4, f5⟩ := hf (.dT (dOf (rows.take rows.length)))
    have hl2 := rv.length
    refine wpAny_bind (wpAny_pyNext_list_end hh st p.isList (by simp; omega) fun h' eb => ?_)
    have I1 := I.turned (t' := s.toks) (fun b o hb e => eb b o hb e) f0 f1 f3 f4 f5
    rw [List.take_length] at I1
    show wpAny _ A.in1 (Builtin.Dict.addKeywords d [] >>= _) _ _ _
    exact wpAny_bind (wpAny_pure (wpAny_pure (fin _ I1)))
  | succ k ih =>
    intro i s hk hi I st hf fin
    have hlt : i < rows.length := by omega
    refine codeAny_builtin entry_dul ?_
    rw [Around.under_plainId plain_dul _]
    show wpAny _ A.in1 (pyNext (.ref it) >>= _) _ _ s
    obtain ⟨its, rv, p, hz⟩ := I.list (SqL.of (S _ _ _ hl))
    obtain ⟨f0, f1, f2, f3, f4, f5⟩ := hf (.dT (dOf (rows.take i)))
    have hx : xs[i]? = some xs[i] := List.getElem?_eq_getElem (by omega)
    have hq : rows[i]? = some rows[i] := List.getElem?_eq_getElem hlt
    obtain ⟨r, pl, e1, t1, u1⟩ := paired_get hr hx hq
    obtain ⟨u, hu', ru⟩ := rv.get hx
    rw [e1] at ru
    cases ru
    refine wpAny_bind (wpAny_pyNext_list_item st p.isList (x := .ref r) (by simpa using hu') fun h' st' sb => ?_)
    have I1 := I.turned (t' := s.toks) (fun b o hb e => (sb.2 b hb).trans e) f0 f1 f3 f4 f5
    obtain ⟨tis, tv, ⟨o, ho, hc, n, hdt⟩, _⟩ := I1.tuple (SqT.of (S _ _ _ t1))
    cases tv with
    | cons r1 rr =>
      cases rr with
      | cons r2 rn =>
        cases rn
        cases r1
        obtain ⟨tk, rfl⟩ := r2
        refine wpAny_bind (wpAny_holding ?_)
        have T : ({ s with heap := h' } : Shared).TypeIs (.ref r) "tuple" := ⟨o, ho, hc⟩
        refine wpAny_bind (wpAny_tryCatch ?_)
        unfold Builtin.Dict.pairItems
        refine wpAny_bind (wpAny_typeOf T ?_)
        rw [if_pos (by decide)]
        refine wpAny_bind ?_
        unfold seqItems?
        refine wpAny_bind (wpAny_load ho ?_)
        rw [hdt]
        refine wpAny_pure (wpAny_pure ?_)
        show wpAny _ _ (holding [.ref pl, .int rows[i].2 tk] (dictSet d (.ref pl) (.int rows[i].2 tk))) _ _ _
        refine wpAny_holding ?_
        have tk2 : dOf (rows.take (i + 1)) = putK (dOf (rows.take i)) (plKey rows[i].1) (.int rows[i].2) := by rw [List.take_add_one, hq, ← dOf_snoc]; rfl
        have l2 : (dOf (rows.take i)).length < sizeLine := by
          have h1 := len_dOf (rows.take i)
          have h2 := List.length_take_le' i rows
          exact Nat.lt_of_le_of_lt (by omega : _ ≤ 1000) (by decide)
        refine dul_store (k := plKey rows[i].1) (v := .int rows[i].2) hu I1 upd_same (S _ _ _ u1) l2 ⟨tk, rfl⟩ fun h2 tk3 I2 sb2 => ?_
        rw [upd_upd, ← tk2] at I2
        refine wpAny_pure ⟨plainId_quiet plain_dul _, ih (i + 1) _ (by omega) hlt I2 (st'.at fun o e => (sb2.2 it dit).trans e) hf fin⟩
end
end L2

namespace L2
open PySem PySem.Spec PyProof.Rows
theorem lk_list_keys : typeLookup (.type "list") "keys" = pure none := by rw [typeLookup_type, builtinLookup_eq_fast]; kernel_rfl
section
variable {prog : Program} {w : World} {A : Around} {E : Value → Shared → Prop} {s : Shared} {a : Addr} {o : Obj} {xs : Array Value} {k : Nat}
theorem keys_none_list {Q : Option Value → Shared → Prop} (hx : s.heap.get? a = some o) (hc : o.cls = .type "list") (hdat : o.data = .seq xs k) (hd : o.dict = none) (hA : A.handled = none)
    (h : ∀ h' tk, (∀ b ob, s.heap.get? b = some ob → h'.get? b = some ob) → Q none { s with heap := h', toks := tk }) : wpAny (model prog w) A (getAttr? (.ref a) "keys") Q E s := by
  obtain ⟨c, dct, dat, sl⟩ := o; simp only at hc hdat hd; subst hc hdat hd
  obtain ⟨hp, g, d, tk, os⟩ := s; have hT : ∀ tk', (⟨hp, g, d, tk', os⟩ : Shared).TypeIs (.ref a) "list" := fun _ => ⟨_, hx, rfl⟩
  have f1 := sub_AttributeError; have f3 := F.slot_list_getattribute.lookup; have f4 := F.slot_list_getattribute.bind (.ref a); have f5 := am_list_getattr_none
  unfold getAttr? getAttrBy? getAttrBy
  repeat (any_goals (first | assumption | exact hT _ | ((with_reducible show wpAny _ _ (call (Value.builtin "list.__getattribute__") _ _) _ _ _); refine call_meets F.slot_list_getattribute (hT _) am_entry_list_getattribute (F.args_list_getattribute_2 _ _) (meets_getattribute_miss_list a xs k sl "keys" _ lk_list_keys (by decide +kernel) (by decide +kernel)) ⟨hx, hA, fun h' tk' e hx' => ?_⟩) | wp_step))
  obtain ⟨t', u', he⟩ := hx'.there; have kp := hx'.keeps
  show wpAny _ _ (getattributeRaised _ _ _ _ _ _ _) _ _ _; unfold getattributeRaised
  repeat (any_goals (first | assumption | wp_step))
  all_goals exact h _ _ fun b ob e => kp b ob e
end
theorem hu3 {k : Nat} {A : Around} (r : Room k A) : A.units + 3 < cLine := by have := hu64 r; omega
abbrev cDctP : RC := fun vs H Q => ∃ (a : Addr) (xs : List V) (rows : List Row), vs = [.ref a] ∧ H a = some (.lst xs) ∧ Paired (PrAt H) xs rows ∧ rows.length ≤ 1000 ∧ ∀ p, H p = none → Q (.ref p) (upd H p (.dT (dOf rows)))
section
variable {X : Cx}
theorem call_dict_pairs (hc : X.calm = true) (hu : X.A.units + 3 < cLine) : CallR X (.type "dict") cDctP := by
  intro pins s σ H vs us Q I r h
  obtain ⟨a, xs, rows, rfl, ha, hr, hl, q⟩ := h
  obtain ⟨u, rfl, ru⟩ := vals1 r
  cases ru
  have hh : X.A.handled = none := I.ok.hd hc
  refine callType_codes (Q₁ := fun obj s₁ => obj = .ref s.heap.objs.size ∧ s₁ = { s with heap := s.heap.push { cls := .type "dict", data := .dict #[] } }) F.kt_called_dict (F.kt_typeCall_dict_1 _) F.entry_dict_init (kt_code_dict_new _ ⟨rfl, rfl⟩) ?_; rintro obj s₁ ⟨rfl, rfl⟩
  have T0 : ({ s with heap := s.heap.push { cls := .type "dict", data := .dict #[] } } : Shared).TypeIs (.ref s.heap.objs.size) "dict" := ⟨_, Heap.get?_push_size _ rfl, rfl⟩
  refine ⟨T0, F.args_dict_init_2 _ _, ?_⟩; unfold Builtin.«dict.__init__»; refine wpAny_bind ?_; unfold Builtin.Dict.selfAndRest
  refine wpAny_bind (wpAny_notOrdered_dict T0 ?_); show wpAny _ _ (pure (s.heap.objs.size, [Value.ref a])) _ _ _; refine wpAny_pure ?_
  show wpAny _ _ (Builtin.Dict.updateFrom "dict.__init__" s.heap.objs.size (.ref a) [] .none) _ _ _; unfold Builtin.Dict.updateFrom
  have hn : H s.heap.objs.size = none := I.hok.fresh (Nat.le_refl _)
  have S : ∀ u : HO, Same H (upd H s.heap.objs.size u) := fun u => isV (o := u) _ hn
  have I1 : Inv X pins σ (upd H s.heap.objs.size (.dT [])) { s with heap := s.heap.push { cls := .type "dict", data := .dict #[] } } :=
    I.laid (a := s.heap.objs.size) (o := .dT []) (t' := s.toks) (fun b o z => Heap.get?_push_of_some _ z) (Nat.le_refl _) (dt_empty s.heap I.big)
  obtain ⟨its, rv, pl, _⟩ := I1.list (SqL.of (S _ _ _ ha))
  obtain ⟨o, n, ho, oc, od, odat⟩ := id pl
  have T1 : ({ s with heap := s.heap.push { cls := .type "dict", data := .dict #[] } } : Shared).TypeIs (.ref a) "list" := ⟨o, ho, oc⟩
  refine wpAny_bind (wpAny_typeOf T1 ?_); rw [if_pos (by decide)]
  refine wpAny_bind (keys_none_list ho oc odat od (by exact hh) fun h2 tk2 k2 => ?_); rw [if_pos (show (none : Option Value).isNone = true from rfl)]
  refine wpAny_bind (wpAny_rule ?_)
  have I2 : Inv X pins σ (upd H s.heap.objs.size (.dT [])) { s with heap := h2, toks := tk2 } := I1.kept k2
  obtain ⟨its2, rv2, pl2, _⟩ := I2.list (SqL.of (S _ _ _ ha))
  refine wpAny_bind (wpAny_pyIter_list pl2.isList ?_)
  have I3 : Inv X pins σ (upd H s.heap.objs.size (.dT (dOf (rows.take 0)))) { s with heap := h2.push { cls := .type "list_iterator", data := .fields #[.ref a, .int 0 0] }, toks := tk2 } := I2.kept (t' := tk2) fun b o e => Heap.get?_push_of_some _ e
  refine wpAny_pure ⟨plainId_quiet plain_dul _, ?_⟩
  have lt : s.heap.objs.size < h2.objs.size := Heap.lt_size (k2 s.heap.objs.size _ (Heap.get?_push_size _ rfl))
  have la : a < h2.objs.size := by obtain ⟨_, _, z, _⟩ := pl2; exact Heap.lt_size z
  refine dul_loop (A := X.A.in1) (H := H) (d := s.heap.objs.size) (it := h2.objs.size) (l := a) (xs := xs) (rows := rows) (res := .none) ?_ hh hn ha hr hl (Nat.ne_of_gt lt) (Nat.ne_of_lt la) rows.length 0 _ (by omega) (Nat.zero_le _) I3 ⟨_, Heap.get?_push_size _ rfl, rfl, rfl⟩ (fun u => ?_) fun s' I' => ⟨rfl, .ref s.heap.objs.size, _, I', rfl, q _ hn⟩
  · have e : X.A.in1.units = X.A.units + 1 := rfl
    omega
  · refine I2.fpOk (Nat.le_refl _) ?_
    rw [upd_ne (Nat.ne_of_gt lt)]
    have := I2.hok.fresh (Nat.le_refl h2.objs.size)
    rw [upd_ne (Nat.ne_of_gt lt)] at this
    exact this
end
end L2

namespace K08
open PySem L2
def top (i : Nat) : Stmt := PySem.Challenge.pw_forerun_k08_gifts_laid.main.body.getD i (.Pass ⟨0, 0, 0, 0⟩)
abbrev s__law_letters : Stmt := top 7
abbrev s__law_mixed : Stmt := top 6
abbrev s__law_free : Stmt := top 8
abbrev s__law_names : Stmt := top 9
abbrev s__law_due : Stmt := top 12
abbrev s_table_of : Stmt := top 1
abbrev s_laid_on : Stmt := top 3
abbrev s__law_cell_at : Stmt := top 5
abbrev s__law_number : Stmt := top 10
abbrev s__law_row : Stmt := top 11
abbrev s__law_alike : Stmt := top 13
abbrev s__law_laid : Stmt := top 14
abbrev s_stands : Stmt := top 2
abbrev s_law : Stmt := top 15
theorem sc__law_letters : FnScope ["number", "many", "letters", "found", "k"] ["number", "many"] (defScope s__law_letters) := ⟨rfl, rfl, rfl, by decide +kernel, rfl, by decide +kernel, by decide +kernel⟩
theorem sc__law_mixed : FnScope ["cell", "k", "number"] ["cell", "k"] (defScope s__law_mixed) := ⟨rfl, rfl, rfl, by decide +kernel, rfl, by decide +kernel, by decide +kernel⟩
theorem sc__law_free : FnScope ["name"] ["name"] (defScope s__law_free) := ⟨rfl, rfl, rfl, by decide +kernel, rfl, by decide +kernel, by decide +kernel⟩
theorem sc__law_names : FnScope ["cell", "base", "at", "letter"] ["cell"] (defScope s__law_names) := ⟨rfl, rfl, rfl, by decide +kernel, rfl, by decide +kernel, by decide +kernel⟩
theorem sc__law_due : FnScope ["rows", "last", "place", "worth"] ["rows"] (defScope s__law_due) := ⟨rfl, rfl, rfl, by decide +kernel, rfl, by decide +kernel, by decide +kernel⟩
theorem sc_table_of : FnScope ["rows", "worths"] ["rows"] (defScope s_table_of) := ⟨rfl, rfl, rfl, by decide +kernel, rfl, by decide +kernel, by decide +kernel⟩
theorem sc_laid_on : FnScope ["table", "gifts"] ["table", "gifts"] (defScope s_laid_on) := ⟨rfl, rfl, rfl, by decide +kernel, rfl, by decide +kernel, by decide +kernel⟩
theorem sc__law_cell_at : FnScope ["script", "k"] ["script", "k"] (defScope s__law_cell_at) := ⟨rfl, rfl, rfl, by decide +kernel, rfl, by decide +kernel, by decide +kernel⟩
theorem sc__law_number : FnScope ["cell"] ["cell"] (defScope s__law_number) := ⟨rfl, rfl, rfl, by decide +kernel, rfl, by decide +kernel, by decide +kernel⟩
theorem sc__law_row : FnScope ["cell", "names", "spot"] ["cell", "names"] (defScope s__law_row) := ⟨rfl, rfl, rfl, by decide +kernel, rfl, by decide +kernel, by decide +kernel⟩
theorem sc__law_alike : FnScope ["found", "due", "one", "other", "number"] ["found", "due"] (defScope s__law_alike) := ⟨rfl, rfl, rfl, by decide +kernel, rfl, by decide +kernel, by decide +kernel⟩
theorem sc__law_laid : FnScope ["table", "gifts", "due", "handed", "found", "made"] ["table", "gifts", "due"] (defScope s__law_laid) := ⟨rfl, rfl, rfl, by decide +kernel, rfl, by decide +kernel, by decide +kernel⟩
theorem sc_stands : FnScope ["table", "place"] ["table", "place"] (defScope s_stands) := ⟨rfl, rfl, rfl, by decide +kernel, rfl, by decide +kernel, by decide +kernel⟩
theorem sc_law : FnScope ["script", "names", "most", "table", "gifts", "due", "cut", "amid", "have", "place", "worth"] ["script"] (defScope s_law) := ⟨rfl, rfl, rfl, by decide +kernel, rfl, by decide +kernel, by decide +kernel⟩
/-- the addresses of the text -/
structure Adr where
  a__law_letters : Addr
  d__law_letters : FuncData
  a__law_mixed : Addr
  d__law_mixed : FuncData
  a__law_free : Addr
  d__law_free : FuncData
  a__law_names : Addr
  d__law_names : FuncData
  a__law_due : Addr
  d__law_due : FuncData
  a_table_of : Addr
  d_table_of : FuncData
  a_laid_on : Addr
  d_laid_on : FuncData
  a__law_cell_at : Addr
  d__law_cell_at : FuncData
  a__law_number : Addr
  d__law_number : FuncData
  a__law_row : Addr
  d__law_row : FuncData
  a__law_alike : Addr
  d__law_alike : FuncData
  a__law_laid : Addr
  d__law_laid : FuncData
  a_stands : Addr
  d_stands : FuncData
  a_law : Addr
  d_law : FuncData
structure Txt (K : PySem.W.Frag) (mg : Str → Option Value) (t : Adr) : Prop where
  f__law_letters : Fun K "_law_letters" "_law_letters" s__law_letters t.a__law_letters t.d__law_letters
  b__law_letters : Binds K t.d__law_letters ["number", "many"] []
  m__law_letters : mg "_law_letters" = some (.ref t.a__law_letters)
  f__law_mixed : Fun K "_law_mixed" "_law_mixed" s__law_mixed t.a__law_mixed t.d__law_mixed
  b__law_mixed : Binds K t.d__law_mixed ["cell", "k"] []
  m__law_mixed : mg "_law_mixed" = some (.ref t.a__law_mixed)
  f__law_free : Fun K "_law_free" "_law_free" s__law_free t.a__law_free t.d__law_free
  b__law_free : Binds K t.d__law_free ["name"] []
  m__law_free : mg "_law_free" = some (.ref t.a__law_free)
  f__law_names : Fun K "_law_names" "_law_names" s__law_names t.a__law_names t.d__law_names
  b__law_names : Binds K t.d__law_names ["cell"] []
  m__law_names : mg "_law_names" = some (.ref t.a__law_names)
  f__law_due : Fun K "_law_due" "_law_due" s__law_due t.a__law_due t.d__law_due
  b__law_due : Binds K t.d__law_due ["rows"] []
  m__law_due : mg "_law_due" = some (.ref t.a__law_due)
  f_table_of : Fun K "table_of" "table_of" s_table_of t.a_table_of t.d_table_of
  b_table_of : Binds K t.d_table_of ["rows"] []
  m_table_of : mg "table_of" = some (.ref t.a_table_of)
  f_laid_on : Fun K "laid_on" "laid_on" s_laid_on t.a_laid_on t.d_laid_on
  b_laid_on : Binds K t.d_laid_on ["table", "gifts"] []
  m_laid_on : mg "laid_on" = some (.ref t.a_laid_on)
  f__law_cell_at : Fun K "_law_cell_at" "_law_cell_at" s__law_cell_at t.a__law_cell_at t.d__law_cell_at
  b__law_cell_at : Binds K t.d__law_cell_at ["script", "k"] []
  m__law_cell_at : mg "_law_cell_at" = some (.ref t.a__law_cell_at)
  f__law_number : Fun K "_law_number" "_law_number" s__law_number t.a__law_number t.d__law_number
  b__law_number : Binds K t.d__law_number ["cell"] []
  m__law_number : mg "_law_number" = some (.ref t.a__law_number)
  f__law_row : Fun K "_law_row" "_law_row" s__law_row t.a__law_row t.d__law_row
  b__law_row : Binds K t.d__law_row ["cell", "names"] []
  m__law_row : mg "_law_row" = some (.ref t.a__law_row)
  f__law_alike : Fun K "_law_alike" "_law_alike" s__law_alike t.a__law_alike t.d__law_alike
  b__law_alike : Binds K t.d__law_alike ["found", "due"] []
  m__law_alike : mg "_law_alike" = some (.ref t.a__law_alike)
  f__law_laid : Fun K "_law_laid" "_law_laid" s__law_laid t.a__law_laid t.d__law_laid
  b__law_laid : Binds K t.d__law_laid ["table", "gifts", "due"] []
  m__law_laid : mg "_law_laid" = some (.ref t.a__law_laid)
  f_stands : Fun K "stands" "stands" s_stands t.a_stands t.d_stands
  b_stands : Binds K t.d_stands ["table", "place"] []
  m_stands : mg "stands" = some (.ref t.a_stands)
  f_law : Fun K "law" "law" s_law t.a_law t.d_law
  b_law : Binds K t.d_law ["script"] []
  m_law : mg "law" = some (.ref t.a_law)
  w_law : ∀ (s : Shared) (v : Value), BindsTo s t.d_law ⟨[v], []⟩ [("script", v)]
  b_bool : mg "bool" = none
  b_dict : mg "dict" = none
  b_int : mg "int" = none
  b_isinstance : mg "isinstance" = none
  b_len : mg "len" = none
  b_list : mg "list" = none
  b_range : mg "range" = none
  b_sorted : mg "sorted" = none
  b_tuple : mg "tuple" = none
  b_zip : mg "zip" = none
theorem txt_mk {K : PySem.W.Frag} {h : Heap} {mg : Str → Option Value} (X : K.In h) (G : h.Ns mainGlobals mg)
    {f0 : Addr} {od0 an0 : Option Addr} {sl0 : Array (Option Value)} {oc0 kV0 dc0 pm0 cd0 ct0 : Value}
    {f1 : Addr} {od1 an1 : Option Addr} {sl1 : Array (Option Value)} {oc1 kV1 dc1 pm1 cd1 ct1 : Value}
    {f2 : Addr} {od2 an2 : Option Addr} {sl2 : Array (Option Value)} {oc2 kV2 dc2 pm2 cd2 ct2 : Value}
    {f3 : Addr} {od3 an3 : Option Addr} {sl3 : Array (Option Value)} {oc3 kV3 dc3 pm3 cd3 ct3 : Value}
    {f4 : Addr} {od4 an4 : Option Addr} {sl4 : Array (Option Value)} {oc4 kV4 dc4 pm4 cd4 ct4 : Value}
    {f5 : Addr} {od5 an5 : Option Addr} {sl5 : Array (Option Value)} {oc5 kV5 dc5 pm5 cd5 ct5 : Value}
    {f6 : Addr} {od6 an6 : Option Addr} {sl6 : Array (Option Value)} {oc6 kV6 dc6 pm6 cd6 ct6 : Value}
    {f7 : Addr} {od7 an7 : Option Addr} {sl7 : Array (Option Value)} {oc7 kV7 dc7 pm7 cd7 ct7 : Value}
    {f8 : Addr} {od8 an8 : Option Addr} {sl8 : Array (Option Value)} {oc8 kV8 dc8 pm8 cd8 ct8 : Value}
    {f9 : Addr} {od9 an9 : Option Addr} {sl9 : Array (Option Value)} {oc9 kV9 dc9 pm9 cd9 ct9 : Value}
    {f10 : Addr} {od10 an10 : Option Addr} {sl10 : Array (Option Value)} {oc10 kV10 dc10 pm10 cd10 ct10 : Value}
    {f11 : Addr} {od11 an11 : Option Addr} {sl11 : Array (Option Value)} {oc11 kV11 dc11 pm11 cd11 ct11 : Value}
    {f12 : Addr} {od12 an12 : Option Addr} {sl12 : Array (Option Value)} {oc12 kV12 dc12 pm12 cd12 ct12 : Value}
    {f13 : Addr} {od13 an13 : Option Addr} {sl13 : Array (Option Value)} {oc13 kV13 dc13 pm13 cd13 ct13 : Value}
    (qa0 : PySem.W.nsIn K mainGlobals "_law_letters" = some (some (.ref f0))) (ql0 : K.lookup f0 = some ⟨oc0, od0, .func (PySem.W.fnOf "_law_letters" "_law_letters" (defArgs s__law_letters) (defBody s__law_letters) (defScope s__law_letters) .none kV0 dc0 pm0 an0 cd0 ct0), sl0⟩) (qc0 : PySem.W.codeIn K cd0 "_law_letters" = true) (qk0 : PySem.W.keepIn K (.ref f0) = true)
    (qa1 : PySem.W.nsIn K mainGlobals "_law_mixed" = some (some (.ref f1))) (ql1 : K.lookup f1 = some ⟨oc1, od1, .func (PySem.W.fnOf "_law_mixed" "_law_mixed" (defArgs s__law_mixed) (defBody s__law_mixed) (defScope s__law_mixed) .none kV1 dc1 pm1 an1 cd1 ct1), sl1⟩) (qc1 : PySem.W.codeIn K cd1 "_law_mixed" = true) (qk1 : PySem.W.keepIn K (.ref f1) = true)
    (qa2 : PySem.W.nsIn K mainGlobals "_law_free" = some (some (.ref f2))) (ql2 : K.lookup f2 = some ⟨oc2, od2, .func (PySem.W.fnOf "_law_free" "_law_free" (defArgs s__law_free) (defBody s__law_free) (defScope s__law_free) .none kV2 dc2 pm2 an2 cd2 ct2), sl2⟩) (qc2 : PySem.W.codeIn K cd2 "_law_free" = true) (qk2 : PySem.W.keepIn K (.ref f2) = true)
    (qa3 : PySem.W.nsIn K mainGlobals "_law_names" = some (some (.ref f3))) (ql3 : K.lookup f3 = some ⟨oc3, od3, .func (PySem.W.fnOf "_law_names" "_law_names" (defArgs s__law_names) (defBody s__law_names) (defScope s__law_names) .none kV3 dc3 pm3 an3 cd3 ct3), sl3⟩) (qc3 : PySem.W.codeIn K cd3 "_law_names" = true) (qk3 : PySem.W.keepIn K (.ref f3) = true)
    (qa4 : PySem.W.nsIn K mainGlobals "_law_due" = some (some (.ref f4))) (ql4 : K.lookup f4 = some ⟨oc4, od4, .func (PySem.W.fnOf "_law_due" "_law_due" (defArgs s__law_due) (defBody s__law_due) (defScope s__law_due) .none kV4 dc4 pm4 an4 cd4 ct4), sl4⟩) (qc4 : PySem.W.codeIn K cd4 "_law_due" = true) (qk4 : PySem.W.keepIn K (.ref f4) = true)
    (qa5 : PySem.W.nsIn K mainGlobals "table_of" = some (some (.ref f5))) (ql5 : K.lookup f5 = some ⟨oc5, od5, .func (PySem.W.fnOf "table_of" "table_of" (defArgs s_table_of) (defBody s_table_of) (defScope s_table_of) .none kV5 dc5 pm5 an5 cd5 ct5), sl5⟩) (qc5 : PySem.W.codeIn K cd5 "table_of" = true) (qk5 : PySem.W.keepIn K (.ref f5) = true)
    (qa6 : PySem.W.nsIn K mainGlobals "laid_on" = some (some (.ref f6))) (ql6 : K.lookup f6 = some ⟨oc6, od6, .func (PySem.W.fnOf "laid_on" "laid_on" (defArgs s_laid_on) (defBody s_laid_on) (defScope s_laid_on) .none kV6 dc6 pm6 an6 cd6 ct6), sl6⟩) (qc6 : PySem.W.codeIn K cd6 "laid_on" = true) (qk6 : PySem.W.keepIn K (.ref f6) = true)
    (qa7 : PySem.W.nsIn K mainGlobals "_law_cell_at" = some (some (.ref f7))) (ql7 : K.lookup f7 = some ⟨oc7, od7, .func (PySem.W.fnOf "_law_cell_at" "_law_cell_at" (defArgs s__law_cell_at) (defBody s__law_cell_at) (defScope s__law_cell_at) .none kV7 dc7 pm7 an7 cd7 ct7), sl7⟩) (qc7 : PySem.W.codeIn K cd7 "_law_cell_at" = true) (qk7 : PySem.W.keepIn K (.ref f7) = true)
    (qa8 : PySem.W.nsIn K mainGlobals "_law_number" = some (some (.ref f8))) (ql8 : K.lookup f8 = some ⟨oc8, od8, .func (PySem.W.fnOf "_law_number" "_law_number" (defArgs s__law_number) (defBody s__law_number) (defScope s__law_number) .none kV8 dc8 pm8 an8 cd8 ct8), sl8⟩) (qc8 : PySem.W.codeIn K cd8 "_law_number" = true) (qk8 : PySem.W.keepIn K (.ref f8) = true)
    (qa9 : PySem.W.nsIn K mainGlobals "_law_row" = some (some (.ref f9))) (ql9 : K.lookup f9 = some ⟨oc9, od9, .func (PySem.W.fnOf "_law_row" "_law_row" (defArgs s__law_row) (defBody s__law_row) (defScope s__law_row) .none kV9 dc9 pm9 an9 cd9 ct9), sl9⟩) (qc9 : PySem.W.codeIn K cd9 "_law_row" = true) (qk9 : PySem.W.keepIn K (.ref f9) = true)
    (qa10 : PySem.W.nsIn K mainGlobals "_law_alike" = some (some (.ref f10))) (ql10 : K.lookup f10 = some ⟨oc10, od10, .func (PySem.W.fnOf "_law_alike" "_law_alike" (defArgs s__law_alike) (defBody s__law_alike) (defScope s__law_alike) .none kV10 dc10 pm10 an10 cd10 ct10), sl10⟩) (qc10 : PySem.W.codeIn K cd10 "_law_alike" = true) (qk10 : PySem.W.keepIn K (.ref f10) = true)
    (qa11 : PySem.W.nsIn K mainGlobals "_law_laid" = some (some (.ref f11))) (ql11 : K.lookup f11 = some ⟨oc11, od11, .func (PySem.W.fnOf "_law_laid" "_law_laid" (defArgs s__law_laid) (defBody s__law_laid) (defScope s__law_laid) .none kV11 dc11 pm11 an11 cd11 ct11), sl11⟩) (qc11 : PySem.W.codeIn K cd11 "_law_laid" = true) (qk11 : PySem.W.keepIn K (.ref f11) = true)
    (qa12 : PySem.W.nsIn K mainGlobals "stands" = some (some (.ref f12))) (ql12 : K.lookup f12 = some ⟨oc12, od12, .func (PySem.W.fnOf "stands" "stands" (defArgs s_stands) (defBody s_stands) (defScope s_stands) .none kV12 dc12 pm12 an12 cd12 ct12), sl12⟩) (qc12 : PySem.W.codeIn K cd12 "stands" = true) (qk12 : PySem.W.keepIn K (.ref f12) = true)
    (qa13 : PySem.W.nsIn K mainGlobals "law" = some (some (.ref f13))) (ql13 : K.lookup f13 = some ⟨oc13, od13, .func (PySem.W.fnOf "law" "law" (defArgs s_law) (defBody s_law) (defScope s_law) .none kV13 dc13 pm13 an13 cd13 ct13), sl13⟩) (qc13 : PySem.W.codeIn K cd13 "law" = true) (qk13 : PySem.W.keepIn K (.ref f13) = true)
    (qz0 : PySem.W.nsIn K mainGlobals "bool" = some none)
    (qz1 : PySem.W.nsIn K mainGlobals "dict" = some none)
    (qz2 : PySem.W.nsIn K mainGlobals "int" = some none)
    (qz3 : PySem.W.nsIn K mainGlobals "isinstance" = some none)
    (qz4 : PySem.W.nsIn K mainGlobals "len" = some none)
    (qz5 : PySem.W.nsIn K mainGlobals "list" = some none)
    (qz6 : PySem.W.nsIn K mainGlobals "range" = some none)
    (qz7 : PySem.W.nsIn K mainGlobals "sorted" = some none)
    (qz8 : PySem.W.nsIn K mainGlobals "tuple" = some none)
    (qz9 : PySem.W.nsIn K mainGlobals "zip" = some none) : ∃ t, Txt K mg t := by
  have F0 := fun_mk (st := s__law_letters) ql0 qc0 qk0
  have F1 := fun_mk (st := s__law_mixed) ql1 qc1 qk1
  have F2 := fun_mk (st := s__law_free) ql2 qc2 qk2
  have F3 := fun_mk (st := s__law_names) ql3 qc3 qk3
  have F4 := fun_mk (st := s__law_due) ql4 qc4 qk4
  have F5 := fun_mk (st := s_table_of) ql5 qc5 qk5
  have F6 := fun_mk (st := s_laid_on) ql6 qc6 qk6
  have F7 := fun_mk (st := s__law_cell_at) ql7 qc7 qk7
  have F8 := fun_mk (st := s__law_number) ql8 qc8 qk8
  have F9 := fun_mk (st := s__law_row) ql9 qc9 qk9
  have F10 := fun_mk (st := s__law_alike) ql10 qc10 qk10
  have F11 := fun_mk (st := s__law_laid) ql11 qc11 qk11
  have F12 := fun_mk (st := s_stands) ql12 qc12 qk12
  have F13 := fun_mk (st := s_law) ql13 qc13 qk13
  exact ⟨⟨f0, _, f1, _, f2, _, f3, _, f4, _, f5, _, f6, _, f7, _, f8, _, f9, _, f10, _, f11, _, f12, _, f13, _⟩, ⟨F0, F0.binds (ps := ["number", "many"]) (fun _ _ _ _ _ _ us hl => match us, hl with | [_, _], _ => rfl), PySem.W.mg_of X G qa0,
    F1, F1.binds (ps := ["cell", "k"]) (fun _ _ _ _ _ _ us hl => match us, hl with | [_, _], _ => rfl), PySem.W.mg_of X G qa1,
    F2, F2.binds (ps := ["name"]) (fun _ _ _ _ _ _ us hl => match us, hl with | [_], _ => rfl), PySem.W.mg_of X G qa2,
    F3, F3.binds (ps := ["cell"]) (fun _ _ _ _ _ _ us hl => match us, hl with | [_], _ => rfl), PySem.W.mg_of X G qa3,
    F4, F4.binds (ps := ["rows"]) (fun _ _ _ _ _ _ us hl => match us, hl with | [_], _ => rfl), PySem.W.mg_of X G qa4,
    F5, F5.binds (ps := ["rows"]) (fun _ _ _ _ _ _ us hl => match us, hl with | [_], _ => rfl), PySem.W.mg_of X G qa5,
    F6, F6.binds (ps := ["table", "gifts"]) (fun _ _ _ _ _ _ us hl => match us, hl with | [_, _], _ => rfl), PySem.W.mg_of X G qa6,
    F7, F7.binds (ps := ["script", "k"]) (fun _ _ _ _ _ _ us hl => match us, hl with | [_, _], _ => rfl), PySem.W.mg_of X G qa7,
    F8, F8.binds (ps := ["cell"]) (fun _ _ _ _ _ _ us hl => match us, hl with | [_], _ => rfl), PySem.W.mg_of X G qa8,
    F9, F9.binds (ps := ["cell", "names"]) (fun _ _ _ _ _ _ us hl => match us, hl with | [_, _], _ => rfl), PySem.W.mg_of X G qa9,
    F10, F10.binds (ps := ["found", "due"]) (fun _ _ _ _ _ _ us hl => match us, hl with | [_, _], _ => rfl), PySem.W.mg_of X G qa10,
    F11, F11.binds (ps := ["table", "gifts", "due"]) (fun _ _ _ _ _ _ us hl => match us, hl with | [_, _, _], _ => rfl), PySem.W.mg_of X G qa11,
    F12, F12.binds (ps := ["table", "place"]) (fun _ _ _ _ _ _ us hl => match us, hl with | [_, _], _ => rfl), PySem.W.mg_of X G qa12,
    F13, F13.binds (ps := ["script"]) (fun _ _ _ _ _ _ us hl => match us, hl with | [_], _ => rfl), PySem.W.mg_of X G qa13,
    fun s v => .of_eq rfl,
    PySem.W.mg_none_of X G qz0,
    PySem.W.mg_none_of X G qz1,
    PySem.W.mg_none_of X G qz2,
    PySem.W.mg_none_of X G qz3,
    PySem.W.mg_none_of X G qz4,
    PySem.W.mg_none_of X G qz5,
    PySem.W.mg_none_of X G qz6,
    PySem.W.mg_none_of X G qz7,
    PySem.W.mg_none_of X G qz8,
    PySem.W.mg_none_of X G qz9⟩⟩
structure KF (K : PySem.W.Frag) : Prop where
  i_b : PySem.W.kitOne K (.type "int") (.type "bool") = some false
/-- rows as they stand in the heap: each a tuple of its own, of a place that is one and a worth -/
def RowAt (H : Hp) (v : V) (q : Row) : Prop := ∃ r p, v = .ref r ∧ H r = some (.tup [.ref p, .int q.2]) ∧ H p = some (.tup [.str q.1.1, .int q.1.2])
def RowsAt (H : Hp) (vs : List V) (rows : List Row) : Prop := Paired (RowAt H) vs rows
def okRow (q : Row) : Prop := isName q.1.1 = true
def NamesAt (H : Hp) (nm : Addr) : Prop := ∃ ws : List Str, H nm = some (.lst (ws.map V.str)) ∧ ws.length = 2 ∧ ∀ w ∈ ws, isName w = true
theorem NamesAt.same {H H' : Hp} {nm : Addr} (h : NamesAt H nm) (s : Same H H') : NamesAt H' nm := by
  obtain ⟨ws, h1, h2⟩ := h
  exact ⟨ws, s _ _ h1, h2⟩
/-- a list of rows that stands in the heap -/
def LsAt (H : Hp) (a : Addr) (rows : List Row) : Prop := ∃ xs, H a = some (.lst xs) ∧ RowsAt H xs rows
/-- rows on few places, with names that are names -/
def Fits (ps : List Pl) (rows : List Row) : Prop := ps.length ≤ 63 ∧ rows.length ≤ 500 ∧ ∀ q ∈ rows, q.1 ∈ ps ∧ okRow q
def sp_table_of : Sp := fun vs H Q _ => ∃ a rows ps, vs = [.ref a] ∧ LsAt H a rows ∧ Fits ps rows ∧ ∀ l out H', Same H H' → H l = none → LsAt H' l out → IsTab rows out → Q (.ref l) H'
def sp__law_due : Sp := sp_table_of
def sp_laid_on : Sp := fun vs H Q _ => ∃ a b tab gifts ps, vs = [.ref a, .ref b] ∧ LsAt H a tab ∧ LsAt H b gifts ∧ Fits ps (tab ++ gifts) ∧ ∀ l out H', Same H H' → H l = none → LsAt H' l out → IsTab (tab ++ gifts) out → Q (.ref l) H'
def sp_stands : Sp := fun vs H Q _ => ∃ (a p : Addr) (tab : List Row) (q : Pl), vs = [.ref a, .ref p] ∧ LsAt H a tab ∧ tab.length ≤ 500 ∧ H p = some (.tup [.str q.1, .int q.2]) ∧ ∀ H', Same H H' → Q (.int ((lastW tab q).getD 0)) H'
def sp__law_cell_at (K : PySem.W.Frag) : Sp := fun vs H Q _ => ∃ (a : Addr) (ns : List Int) (k : Nat), vs = [.ref a, .int k] ∧ SqL K H a (ns.map V.int) ∧ ns.length ≤ 63 ∧ ∀ c H', Same H H' → Q (.int c) H'
def sp__law_mixed : Sp := fun vs H Q _ => ∃ c k, vs = [.int c, .int k] ∧ 0 ≤ k ∧ k ≤ 100 ∧ ∀ r H', 0 ≤ r → r < 2147483648 → Same H H' → Q (.int r) H'
def sp__law_letters : Sp := fun vs H Q _ => ∃ n m, vs = [.int n, .int m] ∧ 0 ≤ m ∧ m ≤ 6 ∧ ∀ (x : Str) H', (x.length : Int) = m → x.cps.toList.all inL = true → Same H H' → Q (.str x) H'
def sp__law_free : Sp := fun vs H Q _ => ∃ x : Str, vs = [.str x] ∧ x.length ≤ 1000 ∧ ∀ H', Same H H' → Q (.str (freeW x)) H'
def sp__law_names : Sp := fun vs H Q _ => ∃ c, vs = [.int c] ∧ ∀ nm H', Same H H' → NamesAt H' nm → Q (.ref nm) H'
def sp__law_number : Sp := fun vs H Q _ => ∃ c, vs = [.int c] ∧ ∀ w H', Same H H' → Q (.int w) H'
def sp__law_row : Sp := fun vs H Q _ => ∃ c nm, vs = [.int c, .ref nm] ∧ NamesAt H nm ∧ ∀ v q H', Same H H' → RowAt H' v q → okRow q → Q v H'
def sp__law_alike : Sp := fun vs H Q _ => ∃ (a b : Addr) (rows : List Row), vs = [.ref a, .ref b] ∧ LsAt H a rows ∧ LsAt H b rows ∧ (∀ q ∈ rows, okRow q) ∧ rows.length ≤ 500 ∧ ∀ H', Same H H' → Q (.bl true) H'
def sp__law_laid : Sp := fun vs H Q _ => ∃ (a b c : Addr) (tab gifts out : List Row) (ps : List Pl), vs = [.ref a, .ref b, .ref c] ∧ LsAt H a tab ∧ LsAt H b gifts ∧ LsAt H c out ∧ Fits ps (tab ++ gifts) ∧ IsTab (tab ++ gifts) out ∧ ∀ H', Same H H' → Q (.bl true) H'
def sp_law (K : PySem.W.Frag) : Sp := fun vs H Q _ => ∃ (a : Addr) (ns : List Int), vs = [.ref a] ∧ SqL K H a (ns.map V.int) ∧ ns.length ≤ 63 ∧ ∀ H', Q (.bl true) H'

def rd__law_letters (K : PySem.W.Frag) (t : Adr) : TS := (tSeq (tAsg (tC (.str "abcdefghijklmnopqrstuvwxyz")) (gName 2))
    (tSeq (tAsg (tC (.str "")) (gName 3))
    (tSeq (tFor (iRng1 (tCons (tVar 1) tNil)) (gName 4)
      (tSeq (tAsg (tOp rAddS (tVar 3) (tOp rIxS (tVar 2) (tOp (rI (fun _ j => 0 < j) fun i j => .int (i % j)) (tVar 0) (tC (.int 26))))) (gName 3))
    (tAsg (tOp (rI0 fun i j => .int (i + j)) (tOp (rI CDivB fun i j => .int (i / j)) (tVar 0) (tC (.int 26))) (tOp (rI CMulB fun i j => .int (i * j)) (tOp (rI CMulB fun i j => .int (i * j)) (tC (.int 991)) (tVar 4)) (tVar 4))) (gName 0))))
    (tRet (tVar 3)))))
def rd__law_mixed (K : PySem.W.Frag) (t : Adr) : TS := (tSeq (tAsg (tOp (rI0 fun i j => .int (i + j)) (tOp (rI0 fun i j => .int (i + j)) (tOp (rI (fun _ j => 0 < j) fun i j => .int (i % j)) (tVar 0) (tC (.int 2147483647))) (tOp (rI CMulB fun i j => .int (i * j)) (tC (.int 11)) (tVar 1))) (tC (.int 7))) (gName 2))
    (tRet (tOp (rI CDivB fun i j => .int (i / j)) (tOp (rI (fun _ j => 0 < j) fun i j => .int (i % j)) (tOp (rI CMulB fun i j => .int (i * j)) (tVar 2) (tOp (rI0 fun i j => .int (i + j)) (tOp (rI0 fun i j => .int (i + j)) (tVar 2) (tC (.int 48271))) (tVar 1))) (tC (.int 2147483647))) (tC (.int 5)))))
def rd__law_free (K : PySem.W.Frag) (t : Adr) : TS := (tSeq (tIfS (tTest (tOp (rIn K false) (tVar 0) (tTup (tCons (tC (.str "take")) (tCons (tC (.str "give")) (tCons (tC (.str "let")) (tCons (tC (.str "say")) (tCons (tC (.str "off")) (tCons (tC (.str "if")) (tCons (tC (.str "else")) (tCons (tC (.str "end")) (tCons (tC (.str "as")) tNil))))))))))))
      (tRet (tOp rAddS (tVar 0) (tC (.str "q"))))
      tNext)
    (tSeq (tIfS (tTest (tOp (rIn K false) (tVar 0) (tTup (tCons (tC (.str "plus")) (tCons (tC (.str "minus")) (tCons (tC (.str "times")) (tCons (tC (.str "over")) (tCons (tC (.str "rest")) (tCons (tC (.str "under")) (tCons (tC (.str "same")) tNil))))))))))
      (tRet (tOp rAddS (tVar 0) (tC (.str "q"))))
      tNext)
    (tRet (tVar 0))))
def rd__law_names_2 (K : PySem.W.Frag) (t : Adr) : TS := (tSeq (tIfS (tAnd (tTest (tOp rEq (tOp (rI (fun _ j => 0 < j) fun i j => .int (i % j)) (tVar 0) (tC (.int 2))) (tC (.int 1)))) (tTest (tOp (rI0 fun i j => .bl (decide (j < i))) (tVar 2) (tC (.int 0)))))
      (tRet (tLst (tCons (tCall sp__law_free [] E0 (tCons (tSl rSlS (tVar 1) tNoPart (tPart (tVar 2))) tNil)) (tCons (tCall sp__law_free [] E0 (tCons (tVar 1) tNil)) tNil))))
      tNext)
    (tSeq (tAsg (tOp rIxS (tC (.str "bcdefghijklmnopqrstuvwxyza")) (tBM K "str" r_mt_find (tC (.str "abcdefghijklmnopqrstuvwxyz")) (tCons (tOp rIxS (tVar 1) (tVar 2)) tNil))) (gName 3))
    (tRet (tLst (tCons (tCall sp__law_free [] E0 (tCons (tVar 1) tNil)) (tCons (tCall sp__law_free [] E0 (tCons (tOp rAddS (tOp rAddS (tSl rSlS (tVar 1) tNoPart (tPart (tVar 2))) (tVar 3)) (tSl rSlS (tVar 1) (tPart (tOp (rI0 fun i j => .int (i + j)) (tVar 2) (tC (.int 1)))) tNoPart)) tNil)) tNil))))))
def rd__law_names (K : PySem.W.Frag) (t : Adr) : TS := (tSeq (tAsg (tCall sp__law_letters [] E0 (tCons (tCall sp__law_mixed [] E0 (tCons (tVar 0) (tCons (tC (.int 1)) tNil))) (tCons (tOp (rI0 fun i j => .int (i + j)) (tC (.int 1)) (tOp (rI (fun _ j => 0 < j) fun i j => .int (i % j)) (tOp (rI CDivB fun i j => .int (i / j)) (tVar 0) (tC (.int 2))) (tC (.int 6)))) tNil))) (gName 1))
    (tSeq (tAsg (tOp (rI (fun _ j => 0 < j) fun i j => .int (i % j)) (tCall sp__law_mixed [] E0 (tCons (tVar 0) (tCons (tC (.int 2)) tNil))) (tCB (cLen K) (tCons (tVar 1) tNil))) (gName 2))
    (rd__law_names_2 K t)))
def rd__law_due (K : PySem.W.Frag) (t : Adr) : TS := (tSeq (tAsg tDNewT (gName 1))
    (tSeq (tFor (iList K (tVar 0)) (gTup K 2 (gCons (gName 2) (gCons (gName 3) gNil)))
      (sDPut (tVar 1) (tVar 2) (tVar 3)))
    (tRet (tComp (iList K (tCB cSrtD (tCons (tVar 1) tNil))) (gName 0) (tTest (tOp rNe (tDGet (tVar 1) (tVar 0)) (tC (.int 0)))) (tTup (tCons (tVar 0) (tCons (tDGet (tVar 1) (tVar 0)) tNil))) 1 [1]))))
def rd_table_of (K : PySem.W.Frag) (t : Adr) : TS := (tSeq (tAsg (tCB cDctP (tCons (tVar 0) tNil)) (gName 1))
    (tRet (tComp (iList K (tCB cSrtD (tCons (tVar 1) tNil))) (gName 0) (tTest (tOp rNe (tDGet (tVar 1) (tVar 0)) (tC (.int 0)))) (tTup (tCons (tVar 0) (tCons (tDGet (tVar 1) (tVar 0)) tNil))) 1 [1])))
def rd_laid_on (K : PySem.W.Frag) (t : Adr) : TS := (tRet (tCall sp_table_of [] E0 (tCons (tOp rCat (tVar 0) (tVar 1)) tNil)))
def rd__law_cell_at (K : PySem.W.Frag) (t : Adr) : TS := (tSeq (tIfS (tTest (tOp (rI0 fun i j => .bl (decide (i < j))) (tVar 1) (tCB (cLen K) (tCons (tVar 0) tNil))))
      (tRet (tOp (rIxL K) (tVar 0) (tVar 1)))
      tNext)
    (tRet (tC (.int 0))))
def rd__law_number (K : PySem.W.Frag) (t : Adr) : TS := (tSeq (tIfS (tTest (tOp rEq (tOp (rI (fun _ j => 0 < j) fun i j => .int (i % j)) (tVar 0) (tC (.int 5))) (tC (.int 4))))
      (tRet (tOp (rI0 fun i j => .int (i - j)) (tOp (rI (fun _ j => 0 < j) fun i j => .int (i % j)) (tOp (rI0 fun i j => .int (i + j)) (tOp (rI CDivB fun i j => .int (i / j)) (tVar 0) (tC (.int 5))) (tOp (rI CPow fun i j => .int (i ^ j.toNat)) (tC (.int 10)) (tC (.int 30)))) (tOp (rI0 fun i j => .int (i + j)) (tOp (rI CMulB fun i j => .int (i * j)) (tC (.int 2)) (tOp (rI CPow fun i j => .int (i ^ j.toNat)) (tC (.int 10)) (tC (.int 30)))) (tC (.int 1)))) (tOp (rI CPow fun i j => .int (i ^ j.toNat)) (tC (.int 10)) (tC (.int 30)))))
      tNext)
    (tRet (tOp (rI0 fun i j => .int (i - j)) (tOp (rI (fun _ j => 0 < j) fun i j => .int (i % j)) (tOp (rI CDivB fun i j => .int (i / j)) (tVar 0) (tC (.int 5))) (tC (.int 8))) (tC (.int 3)))))
def rd__law_row_2 (K : PySem.W.Frag) (t : Adr) : TS := (tRet (tTup (tCons (tTup (tCons (tOp (rIxL K) (tVar 1) (tOp (rI (fun _ j => 0 < j) fun i j => .int (i % j)) (tCall sp__law_mixed [] E0 (tCons (tVar 0) (tCons (tC (.int 4)) tNil))) (tC (.int 2)))) (tCons (tCall sp__law_number [] E0 (tCons (tVar 2) tNil)) tNil))) (tCons (tCall sp__law_number [] E0 (tCons (tOp (rI0 fun i j => .int (i + j)) (tCall sp__law_mixed [] E0 (tCons (tVar 0) (tCons (tC (.int 5)) tNil))) (tOp (rI (fun _ j => 0 < j) fun i j => .int (i % j)) (tVar 0) (tOp (rI CPow fun i j => .int (i ^ j.toNat)) (tC (.int 10)) (tC (.int 33))))) tNil)) tNil))))
def rd__law_row (K : PySem.W.Frag) (t : Adr) : TS := (tSeq (tAsg (tCall sp__law_mixed [] E0 (tCons (tVar 0) (tCons (tC (.int 3)) tNil))) (gName 2))
    (tSeq (tIfS (tTest (tOp rEq (tOp (rI (fun _ j => 0 < j) fun i j => .int (i % j)) (tVar 2) (tC (.int 5))) (tC (.int 4))))
      (tAsg (tOp (rI0 fun i j => .int (i + j)) (tOp (rI CMul fun i j => .int (i * j)) (tOp (rI CDivB fun i j => .int (i / j)) (tVar 0) (tC (.int 5))) (tC (.int 5))) (tC (.int 4))) (gName 2))
      tNext)
    (rd__law_row_2 K t)))
def rd__law_alike_1 (K : PySem.W.Frag) (t : Adr) : TS := (tSeq (tFor (iZipL K (tCons (tVar 0) (tCons (tVar 1) tNil))) (gTup K 2 (gCons (gName 2) (gCons (gName 3) gNil)))
      (tSeq (tIfS (tOr (tNot (tB (tCB (cIsi K) (tCons (tVar 2) (tCons (tC (.ty "tuple")) tNil))))) (tOr (tTest (tOp rNe (tCB (cLen K) (tCons (tVar 2) tNil)) (tC (.int 2)))) (tOr (tNot (tB (tCB (cIsi K) (tCons (tOp (rIxT K) (tVar 2) (tC (.int 0))) (tCons (tC (.ty "tuple")) tNil))))) (tTest (tOp rNe (tCB (cLen K) (tCons (tOp (rIxT K) (tVar 2) (tC (.int 0))) tNil)) (tC (.int 2)))))))
      (tRet (tC (.bl false)))
      tNext)
    (tSeq (tFor (iTup K (tTup (tCons (tOp (rIxT K) (tOp (rIxT K) (tVar 2) (tC (.int 0))) (tC (.int 1))) (tCons (tOp (rIxT K) (tVar 2) (tC (.int 1))) tNil)))) (gName 4)
      (tIfS (tOr (tNot (tB (tCB (cIsi K) (tCons (tVar 4) (tCons (tC (.ty "int")) tNil))))) (tB (tCB (cIsi K) (tCons (tVar 4) (tCons (tC (.ty "bool")) tNil)))))
      (tRet (tC (.bl false)))
      tNext))
    (tIfS (tTest (tOp (rEqD K true) (tVar 2) (tVar 3)))
      (tRet (tC (.bl false)))
      tNext))))
    (tRet (tC (.bl true))))
def rd__law_alike (K : PySem.W.Frag) (t : Adr) : TS := (tSeq (tIfS (tOr (tNot (tB (tCB (cIsi K) (tCons (tVar 0) (tCons (tC (.ty "list")) tNil))))) (tTest (tOp rNe (tCB (cLen K) (tCons (tVar 0) tNil)) (tCB (cLen K) (tCons (tVar 1) tNil)))))
      (tRet (tC (.bl false)))
      tNext)
    (rd__law_alike_1 K t))
def rd__law_laid_6 (K : PySem.W.Frag) (t : Adr) : TS := (tSeq (tDrop (tBM K "list" r_mt_append (tVar 5) (tCons (tTup (tCons (tTup (tCons (tC (.str "z")) (tCons (tC (.int 1)) tNil))) (tCons (tC (.int 5)) tNil))) tNil)))
    (tRet (tOp (rEqD K false) (tVar 3) (tLst (tCons (tVar 0) (tCons (tVar 1) tNil))))))
def rd__law_laid_5 (K : PySem.W.Frag) (t : Adr) : TS := (tSeq (tAsg (tCall sp_table_of [] E0 (tCons (tOp (rIxL K) (tVar 3) (tC (.int 0))) tNil)) (gName 5))
    (rd__law_laid_6 K t))
def rd__law_laid_3 (K : PySem.W.Frag) (t : Adr) : TS := (tSeq (tDrop (tBM K "list" r_mt_append (tVar 4) (tCons (tTup (tCons (tTup (tCons (tC (.str "z")) (tCons (tC (.int 1)) tNil))) (tCons (tC (.int 5)) tNil))) tNil)))
    (tSeq (tIfS (tTest (tOp (rEqD K true) (tVar 3) (tLst (tCons (tVar 0) (tCons (tVar 1) tNil)))))
      (tRet (tC (.bl false)))
      tNext)
    (rd__law_laid_5 K t)))
def rd__law_laid_2 (K : PySem.W.Frag) (t : Adr) : TS := (tSeq (tIfS (tOr (tTest (tOp (rEqD K true) (tVar 3) (tLst (tCons (tVar 0) (tCons (tVar 1) tNil))))) (tNot (tB (tCall sp__law_alike [] E0 (tCons (tVar 4) (tCons (tVar 2) tNil))))))
      (tRet (tC (.bl false)))
      tNext)
    (rd__law_laid_3 K t))
def rd__law_laid_1 (K : PySem.W.Frag) (t : Adr) : TS := (tSeq (tAsg (tCall sp_laid_on [] E0 (tCons (tOp (rIxL K) (tVar 3) (tC (.int 0))) (tCons (tOp (rIxL K) (tVar 3) (tC (.int 1))) tNil))) (gName 4))
    (rd__law_laid_2 K t))
def rd__law_laid (K : PySem.W.Frag) (t : Adr) : TS := (tSeq (tAsg (tLst (tCons (tCB (cLst K) (tCons (tVar 0) tNil)) (tCons (tCB (cLst K) (tCons (tVar 1) tNil)) tNil))) (gName 3))
    (rd__law_laid_1 K t))
def rd_stands (K : PySem.W.Frag) (t : Adr) : TS := (tRet (tDGet2 (tCB cDctP (tCons (tVar 0) tNil)) (tVar 1) (tC (.int 0))))
def rd_law_10 (K : PySem.W.Frag) (t : Adr) : TS := (tSeq (tAsg (tCB cDctP (tCons (tVar 5) tNil)) (gName 8))
    (tSeq (tFor (iList K (tOp rCat (tSl (rSlL K) (tVar 4) (tPart (tVar 6)) tNoPart) (tVar 3))) (gTup K 2 (gCons (gName 9) (gCons (gName 10) gNil)))
      (tIfS (tTest (tOp rNe (tCall sp_stands [] E0 (tCons (tVar 5) (tCons (tVar 9) tNil))) (tDGet2 (tVar 8) (tVar 9) (tC (.int 0)))))
      (tRet (tC (.bl false)))
      tNext))
    (tRet (tC (.bl true)))))
def rd_law_9 (K : PySem.W.Frag) (t : Adr) : TS := (tSeq (tIfS (tOr (tNot (tB (tCall sp__law_laid [] E0 (tCons (tLst tNil) (tCons (tVar 4) (tCons (tCall sp__law_due [] E0 (tCons (tVar 4) tNil)) tNil)))))) (tNot (tB (tCall sp__law_alike [] E0 (tCons (tCall sp_table_of [] E0 (tCons (tCB (cLst K) (tCons (tVar 4) tNil)) tNil)) (tCons (tCall sp__law_due [] E0 (tCons (tVar 4) tNil)) tNil))))))
      (tRet (tC (.bl false)))
      tNext)
    (rd_law_10 K t))
def rd_law_8 (K : PySem.W.Frag) (t : Adr) : TS := (tSeq (tIfS (tOr (tNot (tB (tCall sp__law_alike [] E0 (tCons (tVar 7) (tCons (tCall sp__law_due [] E0 (tCons (tOp rCat (tVar 3) (tSl (rSlL K) (tVar 4) tNoPart (tPart (tVar 6)))) tNil)) tNil))))) (tNot (tB (tCall sp__law_laid [] E0 (tCons (tVar 7) (tCons (tSl (rSlL K) (tVar 4) (tPart (tVar 6)) tNoPart) (tCons (tVar 5) tNil)))))))
      (tRet (tC (.bl false)))
      tNext)
    (rd_law_9 K t))
def rd_law_7 (K : PySem.W.Frag) (t : Adr) : TS := (tSeq (tAsg (tCall sp_laid_on [] E0 (tCons (tCB (cLst K) (tCons (tVar 3) tNil)) (tCons (tSl (rSlL K) (tVar 4) tNoPart (tPart (tVar 6))) tNil))) (gName 7))
    (rd_law_8 K t))
def rd_law_6 (K : PySem.W.Frag) (t : Adr) : TS := (tSeq (tAsg (tOp (rI (fun _ j => 0 < j) fun i j => .int (i % j)) (tOp (rI CDivB fun i j => .int (i / j)) (tCall (sp__law_cell_at K) [] E0 (tCons (tVar 0) (tCons (tC (.int 1)) tNil))) (tC (.int 61))) (tOp (rI0 fun i j => .int (i + j)) (tCB (cLen K) (tCons (tVar 4) tNil)) (tC (.int 1)))) (gName 6))
    (rd_law_7 K t))
def rd_law_5 (K : PySem.W.Frag) (t : Adr) : TS := (tSeq (tIfS (tOr (tNot (tB (tCall sp__law_laid [] E0 (tCons (tVar 3) (tCons (tVar 4) (tCons (tVar 5) tNil)))))) (tOr (tNot (tB (tCall sp__law_laid [] E0 (tCons (tVar 5) (tCons (tVar 4) (tCons (tVar 5) tNil)))))) (tNot (tB (tCall sp__law_laid [] E0 (tCons (tVar 3) (tCons (tLst tNil) (tCons (tVar 3) tNil))))))))
      (tRet (tC (.bl false)))
      tNext)
    (rd_law_6 K t))
def rd_law_4 (K : PySem.W.Frag) (t : Adr) : TS := (tSeq (tAsg (tCall sp__law_due [] E0 (tCons (tOp rCat (tVar 3) (tVar 4)) tNil)) (gName 5))
    (rd_law_5 K t))
def rd_law_3 (K : PySem.W.Frag) (t : Adr) : TS := (tSeq (tAsg (tComp (iList K (tSl (rSlL K) (tVar 0) (tPart (tOp (rI0 fun i j => .int (i + j)) (tC (.int 2)) (tVar 2))) (tPart (tOp (rI0 fun i j => .int (i + j)) (tC (.int 82)) (tVar 2))))) (gName 0) tYes (tCall sp__law_row [] E0 (tCons (tVar 0) (tCons (tVar 1) tNil))) 1 [1]) (gName 4))
    (rd_law_4 K t))
def rd_law_2 (K : PySem.W.Frag) (t : Adr) : TS := (tSeq (tAsg (tCall sp__law_due [] E0 (tCons (tComp (iList K (tSl (rSlL K) (tVar 0) (tPart (tC (.int 2))) (tPart (tOp (rI0 fun i j => .int (i + j)) (tC (.int 2)) (tVar 2))))) (gName 0) tYes (tCall sp__law_row [] E0 (tCons (tVar 0) (tCons (tVar 1) tNil))) 1 [1]) tNil)) (gName 3))
    (rd_law_3 K t))
def rd_law (K : PySem.W.Frag) (t : Adr) : TS := (tSeq (tAsg (tCall sp__law_names [] E0 (tCons (tCall (sp__law_cell_at K) [] E0 (tCons (tVar 0) (tCons (tC (.int 0)) tNil))) tNil)) (gName 1))
    (tSeq (tAsg (tOp (rI (fun _ j => 0 < j) fun i j => .int (i % j)) (tCall (sp__law_cell_at K) [] E0 (tCons (tVar 0) (tCons (tC (.int 1)) tNil))) (tC (.int 61))) (gName 2))
    (rd_law_2 K t)))
section
variable {K : PySem.W.Frag} {t : Adr} {H : Hp} {Q : VK}
theorem pow10 {j : Int} (h0 : 0 ≤ j) (h1 : j ≤ 100) : CPow 10 j := ⟨h0, by omega, by decide⟩
theorem small_size {n : Nat} (h : n ≤ 100000) : n ≤ sizeLine := Nat.le_trans h (by decide)
theorem kit_same (T : String) : PySem.W.kitOne K (.type T) (.type T) = some true := by
  unfold PySem.W.kitOne
  rw [if_pos (by simp)]
theorem kf (K : PySem.W.Frag) : KF K := ⟨by with_unfolding_all rfl⟩
theorem dB {i j : Int} (h0 : 0 < j := by decide) (h1 : j < 10000000000000000000000000000000000000000000000 := by decide) : CDivB i j := by
  have hb : (10000000000000000000000000000000000000000000000 : Int) < big := by decide +kernel
  exact ⟨h0, by omega⟩
theorem at_lt {α : Type} {xs : List α} {i : Int} (h0 : 0 ≤ i) (h1 : i < xs.length) : ∃ x, atI xs i = some x ∧ x ∈ xs := by
  obtain ⟨n, rfl⟩ : ∃ n : Nat, i = (n : Int) := ⟨i.toNat, by omega⟩
  have hn : n < xs.length := by omega
  refine ⟨xs[n], ?_, List.getElem_mem hn⟩
  unfold atI ixN
  rw [if_pos h0, if_pos h1]
  simp [hn]
theorem at_mod {α : Type} {xs : List α} (e : Int) (n : Nat) (hl : xs.length = n) (hn : 0 < (n : Int)) : ∃ x, atI xs (e % n) = some x ∧ x ∈ xs :=
  at_lt (Int.emod_nonneg _ (by omega)) (by rw [hl]; exact Int.emod_lt_of_pos _ hn)
theorem same_upd {H H' : Hp} {w : Addr} {o : HO} (s : Same H H') (hw : H w = none) : Same H (upd H' w o) := fun b u e => by rw [upd_ne (ne_of_none e hw)]; exact s b u e
theorem rdp__law_cell_at {a : Addr} {ns : List Int} {k : Nat} (hS : SqL K H a (ns.map V.int)) (hl : ns.length ≤ 63) (q : ∀ c H', Same H H' → Q (.int c) H') :
    rd__law_cell_at K t { nx := fun _ H' => Q .non H', rt := Q } (L2.start ["script", "k"] [.ref a, .int k]) H := by
  simp only [rd__law_cell_at, cDct, rNeD, sDPut, cTup, iZip, rEqD, rInD, rGtS, iDT, tDGet, tDNewT, cSrtD, cDctP, tDGet2, iZipL, rCat, L2.start, iRev, cLst, cMin, rRep, rEqL, rEqNil, cIntB, tDGet2, tDisp, tPairs, r_mt_append, r_mt_pop, rAppend, rPop, rIxT, rCatT, tTry, endT, tDropX, tRetX, tAsgX, tCallX, tRaise, tMsgR, tMsgS, cIsx, cIsxT, clsV, rMulS, r_mt_find, r_mt_join, tSeq, tAsg, gName, gTup, gCons, gNil, tRet, tRetN, tDrop, tNext, tNever, tOp, tUn, tVar, tC, tLst, tTup, tCons, tNil, tFor, tIfS, tAnd, tOr, tNot, tTest, tB, tAndV, tOrV, tNotV, tIf, tCB, tBM, tBM0, tyV, tSl, tPart, tNoPart, tAug, ipI, tChain, tCall, spP, tComp, tYes, capV, LenV, iRng1, iRng2, iStr, tDNewK, iList, iTup, rCat, rIxL, rIxT, rIxS, rEq, rNe, rI, rI0, rU, rIn, rSlS, rSlL, rAddS, rInS, rNotInS, rIsB, rIsNotB, rIsN, rNotN, cLen, cIsi, cAll, cAbs, cStr, cInt, r_mt_startswith, r_mt_upper, scal, List.map, List.replicate, List.length, List.append, List.cons_append, List.nil_append, List.append_nil, List.getElem?_cons_zero, List.getElem?_cons_succ, Option.some.injEq, exists_eq_left', exists_eq_left, V.int.injEq, V.ref.injEq, V.str.injEq, V.bl.injEq, V.ty.injEq, List.cons.injEq, and_true, true_and, and_assoc, exists_and_left, List.set_cons_zero, List.set_cons_succ, Nat.reduceSub, Nat.reduceAdd, decide_eq_true_eq, Bool.not_eq_true', decide_eq_false_iff_not, Int.reduceToNat, Int.reducePow, Int.reduceNeg, Int.reduceMul, Int.reduceAdd, if_true, ite_true, Bool.false_eq_true, ite_false, if_false]
  refine ⟨_, .inl ⟨_, hS, rfl⟩, ite2 (fun c => ?_) fun _ => q _ _ (Same.refl H)⟩
  obtain ⟨v, hv, hm⟩ := at_lt (xs := ns.map V.int) (i := (k : Int)) (by omega) c
  obtain ⟨i, _, rfl⟩ := List.mem_map.mp hm
  exact ⟨_, hS, _, hv, q _ _ (Same.refl H)⟩
theorem abc_len : (Str.ofString "abcdefghijklmnopqrstuvwxyz").cps.toList.length = 26 := by decide +kernel
theorem one_len (c : Nat) : ({ cps := #[c] } : Str).length = 1 := rfl
theorem q_cps : (Str.ofString "q").cps.toList = [113] ∧ (Str.ofString "q").length = 1 := by decide +kernel
theorem rdp__law_mixed {c k : Int} (hk : 0 ≤ k) (hk2 : k ≤ 100) (q : ∀ r H', 0 ≤ r → r < 2147483648 → Same H H' → Q (.int r) H') :
    rd__law_mixed K t { nx := fun _ H' => Q .non H', rt := Q } (L2.start ["cell", "k", "number"] [.int c, .int k]) H := by
  simp only [rd__law_mixed, cDct, rNeD, sDPut, cTup, iZip, rEqD, rInD, rGtS, iDT, tDGet, tDNewT, cSrtD, cDctP, tDGet2, iZipL, rCat, L2.start, iRev, cLst, cMin, rRep, rEqL, rEqNil, cIntB, tDGet2, tDisp, tPairs, r_mt_append, r_mt_pop, rAppend, rPop, rIxT, rCatT, tTry, endT, tDropX, tRetX, tAsgX, tCallX, tRaise, tMsgR, tMsgS, cIsx, cIsxT, clsV, rMulS, r_mt_find, r_mt_join, tSeq, tAsg, gName, gTup, gCons, gNil, tRet, tRetN, tDrop, tNext, tNever, tOp, tUn, tVar, tC, tLst, tTup, tCons, tNil, tFor, tIfS, tAnd, tOr, tNot, tTest, tB, tAndV, tOrV, tNotV, tIf, tCB, tBM, tBM0, tyV, tSl, tPart, tNoPart, tAug, ipI, tChain, tCall, spP, tComp, tYes, capV, LenV, iRng1, iRng2, iStr, tDNewK, iList, iTup, rCat, rIxL, rIxT, rIxS, rEq, rNe, rI, rI0, rU, rIn, rSlS, rSlL, rAddS, rInS, rNotInS, rIsB, rIsNotB, rIsN, rNotN, cLen, cIsi, cAll, cAbs, cStr, cInt, r_mt_startswith, r_mt_upper, scal, List.map, List.replicate, List.length, List.append, List.cons_append, List.nil_append, List.append_nil, List.getElem?_cons_zero, List.getElem?_cons_succ, Option.some.injEq, exists_eq_left', exists_eq_left, V.int.injEq, V.ref.injEq, V.str.injEq, V.bl.injEq, V.ty.injEq, List.cons.injEq, and_true, true_and, and_assoc, exists_and_left, List.set_cons_zero, List.set_cons_succ, Nat.reduceSub, Nat.reduceAdd, decide_eq_true_eq, Bool.not_eq_true', decide_eq_false_iff_not, Int.reduceToNat, Int.reducePow, Int.reduceNeg, Int.reduceMul, Int.reduceAdd, if_true, ite_true, Bool.false_eq_true, ite_false, if_false]
  have g1 := Int.emod_nonneg c (b := 2147483647) (by decide)
  have g2 := Int.emod_lt_of_pos c (b := 2147483647) (by decide)
  generalize c % 2147483647 = u at *
  have hb : (100000000000 : Int) < big := by decide +kernel
  refine ⟨by decide, ⟨by omega, by omega⟩, ⟨by omega, by omega⟩, by decide, dB, ?_⟩
  generalize (u + 11 * k + 7) * (u + 11 * k + 7 + 48271 + k) = z
  have g3 := Int.emod_nonneg z (b := 2147483647) (by decide)
  have g4 := Int.emod_lt_of_pos z (b := 2147483647) (by decide)
  exact q _ _ (by omega) (by omega) (Same.refl H)
theorem rdp__law_free {x : Str} (hx : x.length ≤ 1000) (q : ∀ H', Same H H' → Q (.str (freeW x)) H') :
    rd__law_free K t { nx := fun _ H' => Q .non H', rt := Q } (L2.start ["name"] [.str x]) H := by
  simp only [rd__law_free, cDct, rNeD, sDPut, cTup, iZip, rEqD, rInD, rGtS, iDT, tDGet, tDNewT, cSrtD, cDctP, tDGet2, iZipL, rCat, L2.start, iRev, cLst, cMin, rRep, rEqL, rEqNil, cIntB, tDGet2, tDisp, tPairs, r_mt_append, r_mt_pop, rAppend, rPop, rIxT, rCatT, tTry, endT, tDropX, tRetX, tAsgX, tCallX, tRaise, tMsgR, tMsgS, cIsx, cIsxT, clsV, rMulS, r_mt_find, r_mt_join, tSeq, tAsg, gName, gTup, gCons, gNil, tRet, tRetN, tDrop, tNext, tNever, tOp, tUn, tVar, tC, tLst, tTup, tCons, tNil, tFor, tIfS, tAnd, tOr, tNot, tTest, tB, tAndV, tOrV, tNotV, tIf, tCB, tBM, tBM0, tyV, tSl, tPart, tNoPart, tAug, ipI, tChain, tCall, spP, tComp, tYes, capV, LenV, iRng1, iRng2, iStr, tDNewK, iList, iTup, rCat, rIxL, rIxT, rIxS, rEq, rNe, rI, rI0, rU, rIn, rSlS, rSlL, rAddS, rInS, rNotInS, rIsB, rIsNotB, rIsN, rNotN, cLen, cIsi, cAll, cAbs, cStr, cInt, r_mt_startswith, r_mt_upper, scal, List.map, List.replicate, List.length, List.append, List.cons_append, List.nil_append, List.append_nil, List.getElem?_cons_zero, List.getElem?_cons_succ, Option.some.injEq, exists_eq_left', exists_eq_left, V.int.injEq, V.ref.injEq, V.str.injEq, V.bl.injEq, V.ty.injEq, List.cons.injEq, and_true, true_and, and_assoc, exists_and_left, List.set_cons_zero, List.set_cons_succ, Nat.reduceSub, Nat.reduceAdd, decide_eq_true_eq, Bool.not_eq_true', decide_eq_false_iff_not, Int.reduceToNat, Int.reducePow, Int.reduceNeg, Int.reduceMul, Int.reduceAdd, if_true, ite_true, Bool.false_eq_true, ite_false, if_false]
  unfold freeW at q
  have ql := q_cps.2
  refine ⟨by decide, fun p hp => ⟨_, .inr (SqT.of upd_same), rfl, rfl, ite2 (fun c => ⟨small_size (by omega), ?_⟩) fun c => ⟨by decide, fun p1 hp1 => ⟨_, .inr (SqT.of upd_same), rfl, rfl, ite2 (fun d => ⟨small_size (by omega), ?_⟩) fun d => ?_⟩⟩⟩⟩
  · have q := q _ (isV (o := HO.tup wl) p hp)
    rw [if_pos (show inV (.str x) wl = true from c)] at q
    exact q
  · have q := q _ ((isV (o := HO.tup wl) p hp).trans (isV (o := HO.tup jw) p1 hp1))
    rw [if_neg (show ¬ inV (.str x) wl = true from c), if_pos (show inV (.str x) jw = true from d)] at q
    exact q
  · have q := q _ ((isV (o := HO.tup wl) p hp).trans (isV (o := HO.tup jw) p1 hp1))
    rw [if_neg (show ¬ inV (.str x) wl = true from c), if_neg (show ¬ inV (.str x) jw = true from d)] at q
    exact q
def ltI (m : Int) (H : Hp) (i : Nat) (σ : St) (H' : Hp) : Prop := (∃ (a : Int) (x : Str) (o : Option V), σ = [some (.int a), some (.int m), some (.str (Str.ofString "abcdefghijklmnopqrstuvwxyz")), some (.str x), o] ∧ x.length = i ∧ x.cps.toList.all inL = true) ∧ H' = H
theorem abc_in : ∀ c ∈ (Str.ofString "abcdefghijklmnopqrstuvwxyz").cps.toList, inL c = true := by decide +kernel
theorem all_one {c : Nat} (h : inL c = true) : (⟨#[c]⟩ : Str).cps.toList.all inL = true := by
  show [c].all inL = true
  rw [List.all_cons, h]; rfl
theorem rdp__law_letters {n m : Int} (h0 : 0 ≤ m) (h1 : m ≤ 6) (q : ∀ (x : Str) H', (x.length : Int) = m → x.cps.toList.all inL = true → Same H H' → Q (.str x) H') :
    rd__law_letters K t { nx := fun _ H' => Q .non H', rt := Q } (L2.start ["number", "many", "letters", "found", "k"] [.int n, .int m]) H := by
  simp only [rd__law_letters, cDct, rNeD, sDPut, cTup, iZip, rEqD, rInD, rGtS, iDT, tDGet, tDNewT, cSrtD, cDctP, tDGet2, iZipL, rCat, L2.start, iRev, cLst, cMin, rRep, rEqL, rEqNil, cIntB, tDGet2, tDisp, tPairs, r_mt_append, r_mt_pop, rAppend, rPop, rIxT, rCatT, tTry, endT, tDropX, tRetX, tAsgX, tCallX, tRaise, tMsgR, tMsgS, cIsx, cIsxT, clsV, rMulS, r_mt_find, r_mt_join, tSeq, tAsg, gName, gTup, gCons, gNil, tRet, tRetN, tDrop, tNext, tNever, tOp, tUn, tVar, tC, tLst, tTup, tCons, tNil, tFor, tIfS, tAnd, tOr, tNot, tTest, tB, tAndV, tOrV, tNotV, tIf, tCB, tBM, tBM0, tyV, tSl, tPart, tNoPart, tAug, ipI, tChain, tCall, spP, tComp, tYes, capV, LenV, iRng1, iRng2, iStr, tDNewK, iList, iTup, rCat, rIxL, rIxT, rIxS, rEq, rNe, rI, rI0, rU, rIn, rSlS, rSlL, rAddS, rInS, rNotInS, rIsB, rIsNotB, rIsN, rNotN, cLen, cIsi, cAll, cAbs, cStr, cInt, r_mt_startswith, r_mt_upper, scal, List.map, List.replicate, List.length, List.append, List.cons_append, List.nil_append, List.append_nil, List.getElem?_cons_zero, List.getElem?_cons_succ, Option.some.injEq, exists_eq_left', exists_eq_left, V.int.injEq, V.ref.injEq, V.str.injEq, V.bl.injEq, V.ty.injEq, List.cons.injEq, and_true, true_and, and_assoc, exists_and_left, List.set_cons_zero, List.set_cons_succ, Nat.reduceSub, Nat.reduceAdd, decide_eq_true_eq, Bool.not_eq_true', decide_eq_false_iff_not, Int.reduceToNat, Int.reducePow, Int.reduceNeg, Int.reduceMul, Int.reduceAdd, if_true, ite_true, Bool.false_eq_true, ite_false, if_false]
  have hb : (100000000000 : Int) < big := by decide +kernel
  refine ⟨by omega, by omega, loop_range (ltI m H) ⟨⟨n, _, none, rfl, by decide +kernel, by decide +kernel⟩, rfl⟩ ?_ ?_⟩
  · rintro i σ H' hi ⟨⟨a, x, o, rfl, hx, ha⟩, rfl⟩
    simp only [cDct, rNeD, sDPut, cTup, iZip, rEqD, rInD, rGtS, iDT, tDGet, tDNewT, cSrtD, cDctP, tDGet2, iZipL, rCat, L2.start, iRev, cLst, cMin, rRep, rEqL, rEqNil, cIntB, tDGet2, tDisp, tPairs, r_mt_append, r_mt_pop, rAppend, rPop, rIxT, rCatT, tTry, endT, tDropX, tRetX, tAsgX, tCallX, tRaise, tMsgR, tMsgS, cIsx, cIsxT, clsV, rMulS, r_mt_find, r_mt_join, tSeq, tAsg, gName, gTup, gCons, gNil, tRet, tRetN, tDrop, tNext, tNever, tOp, tUn, tVar, tC, tLst, tTup, tCons, tNil, tFor, tIfS, tAnd, tOr, tNot, tTest, tB, tAndV, tOrV, tNotV, tIf, tCB, tBM, tBM0, tyV, tSl, tPart, tNoPart, tAug, ipI, tChain, tCall, spP, tComp, tYes, capV, LenV, iRng1, iRng2, iStr, tDNewK, iList, iTup, rCat, rIxL, rIxT, rIxS, rEq, rNe, rI, rI0, rU, rIn, rSlS, rSlL, rAddS, rInS, rNotInS, rIsB, rIsNotB, rIsN, rNotN, cLen, cIsi, cAll, cAbs, cStr, cInt, r_mt_startswith, r_mt_upper, scal, List.map, List.replicate, List.length, List.append, List.cons_append, List.nil_append, List.append_nil, List.getElem?_cons_zero, List.getElem?_cons_succ, Option.some.injEq, exists_eq_left', exists_eq_left, V.int.injEq, V.ref.injEq, V.str.injEq, V.bl.injEq, V.ty.injEq, List.cons.injEq, and_true, true_and, and_assoc, exists_and_left, List.set_cons_zero, List.set_cons_succ, Nat.reduceSub, Nat.reduceAdd, decide_eq_true_eq, Bool.not_eq_true', decide_eq_false_iff_not, Int.reduceToNat, Int.reducePow, Int.reduceNeg, Int.reduceMul, Int.reduceAdd, if_true, ite_true, Bool.false_eq_true, ite_false, if_false]
    obtain ⟨c, hc, hm⟩ := at_mod a 26 abc_len (by decide)
    exact ⟨by decide, by decide +kernel, c, hc, small_size (by rw [one_len]; omega), dB, ⟨by omega, by omega⟩, ⟨by omega, by omega⟩, ⟨_, _, _, rfl, by rw [len_app, one_len]; omega, by rw [cps_app]; exact all_app ha (all_one (abc_in c hm))⟩, rfl⟩
  · rintro σ H' ⟨⟨a, x, o, rfl, hx, ha⟩, rfl⟩
    exact ⟨_, rfl, q x _ (by omega) ha (Same.refl _)⟩
theorem LW_take {x : Str} {k : Nat} (h : LW x) (hk : 1 ≤ k) : LW (Txt.slice x none (some (k : Int))) := by
  obtain ⟨h1, h2, h3⟩ := h
  have e := slice_to x k
  rw [len_cps] at h2 h3
  refine ⟨by rw [e]; exact all_take h1 _, ?_, ?_⟩ <;> rw [len_cps, e, List.length_take] <;> omega
theorem LW_swap {x : Str} {k c : Nat} (h : LW x) (hk : k < x.length) (hc : inL c = true) : LW (Txt.slice x none (some (k : Int)) ++ ⟨#[c]⟩ ++ Txt.slice x (some ((k : Int) + 1)) none) := by
  obtain ⟨h1, h2, h3⟩ := h
  have e := slice_to x k
  have e2 := slice_from x (k + 1)
  rw [show ((k + 1 : Nat) : Int) = (k : Int) + 1 by omega] at e2
  rw [len_cps] at h2 h3 hk
  refine ⟨?_, ?_, ?_⟩
  · rw [cps_app, cps_app, e, e2]
    exact all_app (all_app (all_take h1 _) (all_one hc)) (all_drop h1 _)
  · rw [len_app, len_app, one_len]; omega
  · rw [len_app, len_app, one_len, len_cps, len_cps, e, e2, List.length_take, List.length_drop]; omega
theorem RowAt.same {H H' : Hp} {v : V} {q : Row} (h : RowAt H v q) (s : Same H H') : RowAt H' v q := by
  obtain ⟨r, p, e, h1, h2⟩ := h
  exact ⟨r, p, e, s _ _ h1, s _ _ h2⟩
/-- tuples stay -/
def TSame (H H' : Hp) : Prop := ∀ b ys, H b = some (.tup ys) → H' b = some (.tup ys)
theorem RowAt.tsame {H H' : Hp} {v : V} {q : Row} (h : RowAt H v q) (s : TSame H H') : RowAt H' v q := by
  obtain ⟨r, p, e, h1, h2⟩ := h
  exact ⟨r, p, e, s _ _ h1, s _ _ h2⟩
theorem rows_tmono {H H' : Hp} (s : TSame H H') : ∀ {vs : List V} {rows : List Row}, RowsAt H vs rows → RowsAt H' vs rows
  | _, _, .nil => .nil
  | _, _, .cons h r => .cons (h.tsame s) (rows_tmono s r)
theorem Same.ts {H H' : Hp} (s : Same H H') : TSame H H' := fun b ys e => s _ _ e
theorem comp_inv {J : It} {D : Addr} {τ₀ : St} {H1 : Hp} {Q : Hp → Prop} {B : V → St → Hp → (V → St → Hp → Prop) → (St → Hp → Prop) → Prop} (n : Nat) (hn : n ≤ 1000000) (C : St → Prop) (R : Nat → List V → Hp → Prop) (hm : ∀ i ys H H', TSame H H' → R i ys H → R i ys H') (hC : C τ₀) (h0 : R 0 [] H1)
    (go : ∀ i H, Same H1 H → i < n → J.go i H) (stop : ∀ H, Same H1 H → J.stop n H) (hD : H1 D = none)
    (hs : ∀ i x τ ys H H', C τ → Same H1 H → i < n → R i ys H → J.yld i H x H' → B x τ H' (fun v τ' H4 => C τ' ∧ R (i + 1) (ys ++ [v]) H4 ∧ Same H H4) (fun τ' H4 => C τ' ∧ R (i + 1) ys H4 ∧ Same H H4))
    (hd : ∀ ys H, ys.length ≤ n → R n ys H → Same H1 H → H D = some (.lst ys) → Q H) :
    ∃ W : Nat → Nat → List V → St → Hp → Prop, (∃ m, W 0 m [] τ₀ (upd H1 D (.lst []))) ∧ ∀ i m ys τ H, W i m ys τ H → H D = some (.lst ys) ∧
    ((J.stop i H ∧ Q H) ∨ (J.go i H ∧ ys.length < sizeLine ∧ ∃ N : V → St → Hp → Prop,
      (∀ v τ' H', N v τ' H' → H' D = some (.lst ys) ∧ ∃ m', m' < m ∧ W (i + 1) m' (ys ++ [v]) τ' (upd H' D (.lst (ys ++ [v])))) ∧ ∃ Nf : St → Hp → Prop, (∀ τ' H', Nf τ' H' → ∃ m', m' < m ∧ W (i + 1) m' ys τ' H') ∧
      ∀ x H', J.yld i H x H' → B x τ H' N Nf)) := by
  have ext : ∀ {H : Hp} {o : HO}, Same H1 H → Same H1 (upd H D o) := fun {H o} h b u e => by
    rw [upd_ne (ne_of_none e hD)]; exact h b u e
  refine ⟨fun i m ys τ H => m = n - i ∧ i ≤ n ∧ ys.length ≤ i ∧ R i ys H ∧ Same H1 H ∧ H D = some (.lst ys) ∧ C τ, ⟨n, by simp, Nat.zero_le _, Nat.le_refl _, hm _ _ _ _ (Same.ts (ext (Same.refl _))) h0, ext (Same.refl _), upd_same, hC⟩, ?_⟩
  rintro i m ys τ H ⟨rfl, hi, hl, hR, hS, hy, hc⟩
  refine ⟨hy, ?_⟩
  by_cases hlt : i < n
  · refine .inr ⟨go i H hS hlt, Nat.lt_of_le_of_lt (by omega : ys.length ≤ 1000000) (by decide), _, ?_, _, ?_, fun x H' y => hs i x τ ys H H' hc hS hlt hR y⟩
    · rintro v τ' H4 ⟨c4, r4, s4⟩
      have y4 := s4 _ _ hy
      exact ⟨y4, n - (i + 1), by omega, rfl, hlt, by simp; omega, hm _ _ _ _ (fun b zs e => by rw [upd_ne (ne_of e y4 (by simp))]; exact e) r4, ext (hS.trans s4), upd_same, c4⟩
    · rintro τ' H4 ⟨c4, r4, s4⟩
      exact ⟨n - (i + 1), by omega, rfl, hlt, by omega, r4, hS.trans s4, s4 _ _ hy, c4⟩
  · obtain rfl : i = n := by omega
    exact .inl ⟨stop H hS, hd ys H hl hR hS hy⟩
theorem rows_mono {H H' : Hp} (s : Same H H') : ∀ {vs : List V} {rows : List Row}, RowsAt H vs rows → RowsAt H' vs rows
  | _, _, .nil => .nil
  | _, _, .cons h r => .cons (h.same s) (rows_mono s r)
theorem rows_len {vs : List V} {rows : List Row} (h : RowsAt H vs rows) : vs.length = rows.length := Paired.length h
theorem rows_get {vs : List V} {rows : List Row} {i : Nat} {v : V} (h : RowsAt H vs rows) (e : vs[i]? = some v) : ∃ q, rows[i]? = some q ∧ RowAt H v q := by
  have hi := (List.getElem?_eq_some_iff.mp e).1
  have l := rows_len h
  exact ⟨rows[i], List.getElem?_eq_getElem (by omega), paired_get h e (List.getElem?_eq_getElem (by omega))⟩
def rowD (q : Row) : PyData := .tuple [.tuple [.str q.1.1, .int q.1.2], .int q.2]
theorem row_dat {v : V} {q : Row} (h : RowAt H v q) : Dat K H v (rowD q) := by
  obtain ⟨r, p, rfl, h1, h2⟩ := h
  exact .tup (SqT.of h1) (.cons (.tup (SqT.of h2) (.cons (.str _) (.cons (.int _) .nil))) (.cons (.int _) .nil))
theorem rows_dat : ∀ {vs : List V} {rows : List Row}, RowsAt H vs rows → DatAll K H vs (rows.map rowD)
  | _, _, .nil => .nil
  | _, _, .cons h r => .cons (row_dat h) (rows_dat r)
theorem name_ok {x : Str} (h : isName x = true) : PyData.strOk x = true := (name_asc h).flat
theorem plain_rows : ∀ {rows : List Row}, (∀ q ∈ rows, okRow q) → plainDs (rows.map rowD) = true
  | [], _ => by simp [plainDs]
  | q :: r, h => by
    rw [List.map_cons, plainDs, plain_rows fun q hq => h q (List.mem_cons_of_mem _ hq)]
    have := name_ok (h q List.mem_cons_self)
    simp [rowD, plainD, plainDs, this]
theorem deep_rows : ∀ (rows : List Row), PyData.depthAll (rows.map rowD) ≤ 2
  | [] => by simp [PyData.depthAll]
  | q :: r => by
    have := deep_rows r
    rw [List.map_cons, PyData.depthAll]
    simp [rowD, PyData.depth, PyData.depthAll]
    omega
theorem take_dOf {rows : List Row} {i : Nat} {q : Row} (h : rows[i]? = some q) : dOf (rows.take (i + 1)) = putK (dOf (rows.take i)) (plKey q.1) (.int q.2) := by
  rw [List.take_add_one, h, ← dOf_snoc]; rfl
theorem rows_snoc {H : Hp} {v : V} {q : Row} : ∀ {ys : List V} {rows : List Row}, RowsAt H ys rows → RowAt H v q → RowsAt H (ys ++ [v]) (rows ++ [q])
  | _, _, .nil, h => .cons h .nil
  | _, _, .cons a r, h => .cons a (rows_snoc r h)
/-- the places of the dict -/
theorem keys_dOf (rows : List Row) : ∃ qs : List Pl, (dOf rows).map (·.1) = qs.map plKey ∧ qs.Nodup ∧ ∀ p, p ∈ qs ↔ (lastW rows p).isSome = true := by
  have h := okKv_dOf rows
  have : ∀ (kvs : List (List Key × V)), (∀ kv ∈ kvs, ∃ (p : Pl) (w : Int), kv = (plKey p, .int w)) → ∃ qs : List Pl, kvs.map (·.1) = qs.map plKey := fun kvs => by
    induction kvs with
    | nil => exact fun _ => ⟨[], rfl⟩
    | cons kv r ih =>
      intro hk
      obtain ⟨qs, e⟩ := ih fun z hz => hk z (List.mem_cons_of_mem _ hz)
      obtain ⟨p, w, e2⟩ := hk kv List.mem_cons_self
      exact ⟨p :: qs, by rw [List.map_cons, List.map_cons, e, e2]⟩
  obtain ⟨qs, e⟩ := this _ h.2
  refine ⟨qs, e, nodup_map_inj (f := plKey) (by rw [← e]; exact h.1), fun p => ?_⟩
  constructor
  · intro hp
    have : plKey p ∈ (dOf rows).map (·.1) := by rw [e]; exact List.mem_map_of_mem hp
    obtain ⟨kv, hk, e1⟩ := List.mem_map.mp this
    obtain ⟨p', w, rfl, hw⟩ := mem_dOf.mp hk
    have := plKey_inj e1
    subst this
    rw [hw]; rfl
  · intro hp
    obtain ⟨w, hw⟩ := Option.isSome_iff_exists.mp hp
    have : plKey p ∈ qs.map plKey := by rw [← e]; exact List.mem_map_of_mem (f := (·.1)) (mem_dOf.mpr ⟨p, w, rfl, hw⟩)
    obtain ⟨p', hp', e1⟩ := List.mem_map.mp this
    rw [← plKey_inj e1]; exact hp'
def toRow (rows : List Row) (p : Pl) : Option Row := match lastW rows p with
  | some w => if w = 0 then none else some (p, w)
  | none => none
def cTab (rows : List Row) (qs : List Pl) (i : Nat) (ys : List V) (H : Hp) : Prop := ∃ out : List Row, RowsAt H ys out ∧ out = (qs.take i).filterMap (toRow rows)
theorem cTab_ts {rows : List Row} {qs : List Pl} {i : Nat} {ys : List V} {H H' : Hp} (s : TSame H H') (h : cTab rows qs i ys H) : cTab rows qs i ys H' := by
  obtain ⟨out, h1, h2⟩ := h
  exact ⟨out, rows_tmono s h1, h2⟩
theorem toRow_iff {rows : List Row} {p : Pl} {b : Row} : toRow rows p = some b ↔ b.1 = p ∧ lastW rows p = some b.2 ∧ b.2 ≠ 0 := by
  unfold toRow
  obtain ⟨p', w'⟩ := b
  cases e : lastW rows p with
  | none => simp
  | some w =>
    by_cases h : w = 0
    · subst h
      simp only [if_true]
      constructor
      · intro z; cases z
      · rintro ⟨_, z, h2⟩
        exact absurd (Option.some.inj z).symm h2
    · simp only [if_neg h, Option.some.injEq, Prod.mk.injEq]
      constructor
      · rintro ⟨rfl, rfl⟩; exact ⟨rfl, rfl, h⟩
      · rintro ⟨rfl, rfl, _⟩; exact ⟨rfl, rfl⟩
theorem tab_of {rows : List Row} {ps : List Pl} (hw : ps.Pairwise fun a b => placeLt a b = true) (hm : ∀ p, p ∈ ps ↔ (lastW rows p).isSome = true) : IsTab rows (ps.filterMap (toRow rows)) := by
  constructor
  · unfold Rising
    rw [List.pairwise_filterMap]
    refine hw.imp fun {a a'} h b hb b' hb' => ?_
    rw [(toRow_iff.mp hb).1, (toRow_iff.mp hb').1]; exact h
  · intro p w
    rw [List.mem_filterMap]
    constructor
    · rintro ⟨a, _, h⟩
      obtain ⟨h1, h2, h3⟩ := toRow_iff.mp h
      cases h1
      exact ⟨h2, h3⟩
    · rintro ⟨h1, h2⟩
      exact ⟨p, (hm p).mpr (by rw [h1]; rfl), toRow_iff.mpr ⟨rfl, h1, h2⟩⟩
theorem fresh_of {H H' : Hp} {D : Addr} (s : Same H H') (h : H' D = none) : H D = none := by
  cases e : H D with
  | none => rfl
  | some o => rw [s _ _ e] at h; cases h
theorem rdp_table_gen {a : Addr} {xs : List V} {rows : List Row} (h1 : H a = some (.lst xs)) (h2 : RowsAt H xs rows) (h4 : (dOf rows).length ≤ 63) (h5 : rows.length ≤ 1000) (q : ∀ l ys out H', Same H H' → H l = none → H' l = some (.lst ys) → RowsAt H' ys out → IsTab rows out → Q (.ref l) H') :
    rd_table_of K t { nx := fun _ H' => Q .non H', rt := Q } (L2.start ["rows", "worths"] [.ref a]) H := by
  simp only [rd_table_of, cDct, rNeD, sDPut, cTup, iZip, rEqD, rInD, rGtS, iDT, tDGet, tDNewT, cSrtD, cDctP, tDGet2, iZipL, rCat, L2.start, iRev, cLst, cMin, rRep, rEqL, rEqNil, cIntB, tDGet2, tDisp, tPairs, r_mt_append, r_mt_pop, rAppend, rPop, rIxT, rCatT, tTry, endT, tDropX, tRetX, tAsgX, tCallX, tRaise, tMsgR, tMsgS, cIsx, cIsxT, clsV, rMulS, r_mt_find, r_mt_join, tSeq, tAsg, gName, gTup, gCons, gNil, tRet, tRetN, tDrop, tNext, tNever, tOp, tUn, tVar, tC, tLst, tTup, tCons, tNil, tFor, tIfS, tAnd, tOr, tNot, tTest, tB, tAndV, tOrV, tNotV, tIf, tCB, tBM, tBM0, tyV, tSl, tPart, tNoPart, tAug, ipI, tChain, tCall, spP, tComp, tYes, capV, LenV, iRng1, iRng2, iStr, tDNewK, iList, iTup, rCat, rIxL, rIxT, rIxS, rEq, rNe, rI, rI0, rU, rIn, rSlS, rSlL, rAddS, rInS, rNotInS, rIsB, rIsNotB, rIsN, rNotN, cLen, cIsi, cAll, cAbs, cStr, cInt, r_mt_startswith, r_mt_upper, scal, List.map, List.replicate, List.length, List.append, List.cons_append, List.nil_append, List.append_nil, List.getElem?_cons_zero, List.getElem?_cons_succ, Option.some.injEq, exists_eq_left', exists_eq_left, V.int.injEq, V.ref.injEq, V.str.injEq, V.bl.injEq, V.ty.injEq, List.cons.injEq, and_true, true_and, and_assoc, exists_and_left, List.set_cons_zero, List.set_cons_succ, Nat.reduceSub, Nat.reduceAdd, decide_eq_true_eq, Bool.not_eq_true', decide_eq_false_iff_not, Int.reduceToNat, Int.reducePow, Int.reduceNeg, Int.reduceMul, Int.reduceAdd, if_true, ite_true, Bool.false_eq_true, ite_false, if_false]
  refine ⟨xs, h1, rows, h2, h5, fun d hd => ?_⟩
  have S : ∀ u : HO, Same H (upd H d u) := fun u => isV (o := u) d hd
  obtain ⟨qs, hqs, nqs, mqs⟩ := keys_dOf rows
  have ld := len_dOf rows
  generalize hH0 : upd H d (.dT (dOf rows)) = H0
  have S0 : Same H H0 := by rw [← hH0]; exact S _
  have d0 : H0 d = some (.dT (dOf rows)) := by rw [← hH0]; exact upd_same
  refine ⟨dOf rows, d0, qs, hqs, by omega, fun l ps hl0 hperm hpw hps => ?_⟩
  obtain ⟨H1, eH, s1, q1⟩ := new_obj (o := HO.lst (ps.map fun n => V.ref n.1)) hl0
  rw [← eH]
  clear eH
  refine ⟨⟨_, SqL.of q1⟩, fun D hD => ?_⟩
  refine comp_inv (J := Itl K l) ps.length (by have := hperm.length_eq; have := congrArg List.length hqs; simp at *; omega) (fun τ => ∃ o, τ = [o, some (.ref d)]) (cTab rows (ps.map (·.2))) (fun i ys H H' s h => cTab_ts s h) ⟨_, rfl⟩ ⟨[], .nil, rfl⟩ (fun i H s h => ⟨_, _, SqL.of (s _ _ q1), List.getElem?_eq_getElem (by rw [List.length_map]; exact h)⟩) (fun H s => ⟨_, SqL.of (s _ _ q1), by rw [List.length_map]; exact Nat.le_refl _⟩) hD ?_ ?_
  · rintro i v τ ys H4 H5 ⟨o, rfl⟩ s4 hi hR ⟨rfl, hv⟩
    have hv := hv _ (SqL.of (s4 _ _ q1))
    rw [List.getElem?_map] at hv
    obtain ⟨n, hn, rfl⟩ := Option.map_eq_some_iff.mp hv
    have hp := s4 _ _ (s1 _ _ (hps n (List.mem_of_getElem? hn)))
    simp only [cDct, rNeD, sDPut, cTup, iZip, rEqD, rInD, rGtS, iDT, tDGet, tDNewT, cSrtD, cDctP, tDGet2, iZipL, rCat, L2.start, iRev, cLst, cMin, rRep, rEqL, rEqNil, cIntB, tDGet2, tDisp, tPairs, r_mt_append, r_mt_pop, rAppend, rPop, rIxT, rCatT, tTry, endT, tDropX, tRetX, tAsgX, tCallX, tRaise, tMsgR, tMsgS, cIsx, cIsxT, clsV, rMulS, r_mt_find, r_mt_join, tSeq, tAsg, gName, gTup, gCons, gNil, tRet, tRetN, tDrop, tNext, tNever, tOp, tUn, tVar, tC, tLst, tTup, tCons, tNil, tFor, tIfS, tAnd, tOr, tNot, tTest, tB, tAndV, tOrV, tNotV, tIf, tCB, tBM, tBM0, tyV, tSl, tPart, tNoPart, tAug, ipI, tChain, tCall, spP, tComp, tYes, capV, LenV, iRng1, iRng2, iStr, tDNewK, iList, iTup, rCat, rIxL, rIxT, rIxS, rEq, rNe, rI, rI0, rU, rIn, rSlS, rSlL, rAddS, rInS, rNotInS, rIsB, rIsNotB, rIsN, rNotN, cLen, cIsi, cAll, cAbs, cStr, cInt, r_mt_startswith, r_mt_upper, scal, List.map, List.replicate, List.length, List.append, List.cons_append, List.nil_append, List.append_nil, List.getElem?_cons_zero, List.getElem?_cons_succ, Option.some.injEq, exists_eq_left', exists_eq_left, V.int.injEq, V.ref.injEq, V.str.injEq, V.bl.injEq, V.ty.injEq, List.cons.injEq, and_true, true_and, and_assoc, exists_and_left, List.set_cons_zero, List.set_cons_succ, Nat.reduceSub, Nat.reduceAdd, decide_eq_true_eq, Bool.not_eq_true', decide_eq_false_iff_not, Int.reduceToNat, Int.reducePow, Int.reduceNeg, Int.reduceMul, Int.reduceAdd, if_true, ite_true, Bool.false_eq_true, ite_false, if_false]
    have hm : n.2 ∈ qs := hperm.mem_iff.mp (List.mem_map_of_mem (List.mem_of_getElem? hn))
    obtain ⟨w, hw⟩ := Option.isSome_iff_exists.mp ((mqs n.2).mp hm)
    have g : DGet H5 d (.ref n.1) ((lastW rows n.2).map V.int) := .inr ⟨dOf rows, plKey n.2, n.1, .inl (s4 _ _ (s1 _ _ d0)), rfl, hp, (val_dOf rows n.2).symm⟩
    rw [hw] at g
    have tk : (ps.map (·.2)).take (i + 1) = (ps.map (·.2)).take i ++ [n.2] := by rw [List.take_add_one, List.getElem?_map, hn]; rfl
    obtain ⟨out, hr, ho⟩ := hR
    refine ⟨_, g, rfl, ite2 (fun c => ⟨_, g, by decide, fun p hp2 => ⟨⟨_, rfl⟩, ?_, isV p hp2⟩⟩) fun c => ⟨⟨_, rfl⟩, ?_, Same.refl _⟩⟩
    · refine ⟨out ++ [(n.2, w)], rows_snoc (rows_mono (isV p hp2) hr) ⟨p, n.1, rfl, upd_same, isV p hp2 _ _ hp⟩, ?_⟩
      have hw0 : w ≠ 0 := fun z => c (by rw [z])
      rw [tk, List.filterMap_append, ← ho]
      simp [toRow, hw, hw0]
    · refine ⟨out, hr, ?_⟩
      have hw0 : w = 0 := by simpa using c
      rw [tk, List.filterMap_append, ← ho]
      simp [toRow, hw, hw0]
  · rintro ys H4 hly ⟨out, hr, ho⟩ s4 hq
    refine q D ys out H4 (S0.trans (s1.trans s4)) (fresh_of (S0.trans s1) hD) hq hr ?_
    rw [List.take_of_length_le (by rw [List.length_map]; exact Nat.le_refl _)] at ho
    subst ho
    exact tab_of hpw fun p => (hperm.mem_iff.trans (mqs p))
theorem last_mem {p : Pl} {w : Int} : ∀ {l : List Row}, lastW l p = some w → (p, w) ∈ l
  | [], h => by cases h
  | r :: t, h => by
    rw [lastW] at h
    cases e : lastW t p with
    | some w' =>
      rw [e] at h
      have : w' = w := by simpa using h
      subst this
      exact List.mem_cons_of_mem _ (last_mem e)
    | none =>
      rw [e] at h
      by_cases c : r.1 = p
      · rw [if_pos c] at h
        have : r.2 = w := by simpa using h
        rw [← c, ← this]; exact List.mem_cons_self
      · rw [if_neg c] at h; cases h
theorem tab_ok {rows out : List Row} (h : IsTab rows out) (h4 : ∀ r ∈ rows, okRow r) : ∀ r ∈ out, okRow r := fun r hr => h4 r (last_mem ((h.2 r.1 r.2).mp hr).1)
theorem tab_small {rows out : List Row} (h : IsTab rows out) : out.length ≤ rows.length := by
  have h1 := tab_len h
  have h2 := List.length_filter_le nzV (dOf rows)
  have h3 := len_dOf rows
  omega
def cRows (i : Nat) (ys : List V) (H : Hp) : Prop := ∃ rows : List Row, RowsAt H ys rows ∧ rows.length = i ∧ ∀ q ∈ rows, okRow q
theorem cRows_ts {i : Nat} {ys : List V} {H H' : Hp} (s : TSame H H') (h : cRows i ys H) : cRows i ys H' := by
  obtain ⟨rows, h1, h2⟩ := h
  exact ⟨rows, rows_tmono s h1, h2⟩
theorem cRows_snoc {i : Nat} {ys : List V} {H : Hp} {v : V} {q : Row} (h : cRows i ys H) (hr : RowAt H v q) (hk : okRow q) : cRows (i + 1) (ys ++ [v]) H := by
  obtain ⟨rows, h1, h2, h3⟩ := h
  refine ⟨rows ++ [q], rows_snoc h1 hr, by rw [List.length_append, h2]; rfl, fun z hz => ?_⟩
  rcases List.mem_append.mp hz with hz | hz
  · exact h3 z hz
  · rw [List.mem_singleton.mp hz]; exact hk
theorem rows_app {H : Hp} {b : List Row} {ys : List V} (h2 : RowsAt H ys b) : ∀ {xs : List V} {a : List Row}, RowsAt H xs a → RowsAt H (xs ++ ys) (a ++ b)
  | _, _, .nil => h2
  | _, _, .cons h r => .cons h (rows_app h2 r)
theorem rows_take {H : Hp} : ∀ (k : Nat) {xs : List V} {a : List Row}, RowsAt H xs a → RowsAt H (xs.take k) (a.take k)
  | 0, _, _, _ => .nil
  | _ + 1, _, _, .nil => .nil
  | k + 1, _, _, .cons h r => .cons h (rows_take k r)
theorem rows_drop {H : Hp} : ∀ (k : Nat) {xs : List V} {a : List Row}, RowsAt H xs a → RowsAt H (xs.drop k) (a.drop k)
  | 0, _, _, h => h
  | _ + 1, _, _, .nil => .nil
  | k + 1, _, _, .cons _ r => rows_drop k r
theorem LsAt.same {H H' : Hp} {a : Addr} {rows : List Row} (h : LsAt H a rows) (s : Same H H') : LsAt H' a rows := by
  obtain ⟨xs, h1, h2⟩ := h
  exact ⟨xs, s _ _ h1, rows_mono s h2⟩
theorem cutV_to (xs : List V) (k : Nat) (hk : k ≤ xs.length) : cutV xs none (some (k : Int)) = xs.take k := by
  unfold cutV
  rw [HT.sIx_none, HT.sIx_nat, Nat.min_eq_left hk]
  simp
theorem cutV_from (xs : List V) (k : Nat) (hk : k ≤ xs.length) : cutV xs (some (k : Int)) none = xs.drop k := by
  unfold cutV
  rw [HT.sIx_none, HT.sIx_nat, Nat.min_eq_left hk]
  exact List.take_of_length_le (by rw [List.length_drop]; exact Nat.le_refl _)
theorem cut_two (ns : List Int) (a b c : Int) : ∃ ys zs : List Int, cutV (ns.map V.int) (some a) (some b) = ys.map V.int ∧ cutV (ns.map V.int) (some b) (some c) = zs.map V.int ∧ ys.length + zs.length ≤ ns.length := by
  have e : ∀ lo hi : Option Int, cutV (ns.map V.int) lo hi = ((ns.drop (HT.sIx ns.length 0 lo)).take (HT.sIx ns.length ns.length hi - HT.sIx ns.length 0 lo)).map V.int := fun lo hi => by
    unfold cutV
    rw [List.map_take, List.map_drop, List.length_map]
  refine ⟨_, _, e _ _, e _ _, ?_⟩
  have d : HT.sIx ns.length ns.length (some b) = HT.sIx ns.length 0 (some b) := rfl
  have l1 := HT.sIx_le ns.length 0 (Nat.zero_le _) (some b)
  have l2 := HT.sIx_le ns.length ns.length (Nat.le_refl _) (some c)
  rw [d]
  simp only [List.length_take, List.length_drop]
  omega
theorem last_app (a b : List Row) (p : Pl) : lastW (a ++ b) p = (lastW b p).or (lastW a p) := by
  induction a with
  | nil => simp [lastW]
  | cons r t ih => rw [List.cons_append, lastW, ih, lastW, Option.or_assoc]
theorem tab_ext {r1 r2 out : List Row} (h : ∀ p, (lastW r1 p).getD 0 = (lastW r2 p).getD 0) (t : IsTab r1 out) : IsTab r2 out := by
  refine ⟨t.1, fun p w => (t.2 p w).trans ?_⟩
  have h := h p
  constructor
  · rintro ⟨e, n⟩
    rw [e] at h
    cases e2 : lastW r2 p with
    | none => rw [e2] at h; exact absurd h n
    | some w2 => rw [e2] at h; exact ⟨congrArg some (Eq.symm h), n⟩
  · rintro ⟨e, n⟩
    rw [e] at h
    cases e2 : lastW r1 p with
    | none => rw [e2] at h; exact absurd (Eq.symm h) n
    | some w2 => rw [e2] at h; exact ⟨congrArg some h, n⟩
theorem tab_over {t g d : List Row} (h : IsTab (t ++ g) d) : IsTab (d ++ g) d := tab_ext (fun p => by
  have e := tab_get h p
  rw [last_app, last_app]
  rw [last_app] at e
  cases eg : lastW g p with
  | some w => rfl
  | none => rw [eg] at e; exact e.symm) h
theorem tab_cut {t g1 g2 m d : List Row} (h1 : IsTab (t ++ g1) m) (h2 : IsTab (t ++ (g1 ++ g2)) d) : IsTab (m ++ g2) d := tab_ext (fun p => by
  have e := tab_get h1 p
  rw [← List.append_assoc, last_app (t ++ g1), last_app m]
  cases eg : lastW g2 p with
  | some w => rfl
  | none => exact e.symm) h2
theorem Fits.few {ps : List Pl} {rows : List Row} (h : Fits ps rows) : (dOf rows).length ≤ 63 := by
  obtain ⟨qs, e, nd, hm⟩ := keys_dOf rows
  have l : (dOf rows).length = qs.length := by have := congrArg List.length e; simpa using this
  rw [l]
  refine Nat.le_trans (nd_len_le nd fun p hp => ?_) h.1
  obtain ⟨w, hw⟩ := Option.isSome_iff_exists.mp ((hm p).mp hp)
  exact (h.2.2 _ (last_mem hw)).1
theorem Fits.tab {ps : List Pl} {rows out : List Row} (h : Fits ps rows) (t : IsTab rows out) : Fits ps out :=
  ⟨h.1, Nat.le_trans (tab_small t) h.2.1, fun q hq => h.2.2 q (last_mem ((t.2 q.1 q.2).mp hq).1)⟩
theorem Fits.len {ps : List Pl} {rows out : List Row} (h : Fits ps rows) (t : IsTab rows out) : out.length ≤ 63 := by
  have := nd_len_le t.1.nd (b := ps) (fun p hp => by
    obtain ⟨q, hq, rfl⟩ := List.mem_map.mp hp
    exact ((h.tab t).2.2 q hq).1)
  rw [List.length_map] at this
  exact Nat.le_trans this h.1
theorem Fits.app {ps : List Pl} {a b : List Row} (ha : Fits ps a) (hb : Fits ps b) (hl : a.length + b.length ≤ 500) : Fits ps (a ++ b) :=
  ⟨ha.1, by rw [List.length_append]; exact hl, fun q hq => (List.mem_append.mp hq).elim (ha.2.2 q) (hb.2.2 q)⟩
theorem Fits.sub {ps : List Pl} {a b : List Row} (h : Fits ps b) (s : ∀ q ∈ a, q ∈ b) (l : a.length ≤ b.length) : Fits ps a := ⟨h.1, Nat.le_trans l h.2.1, fun q hq => h.2.2 q (s q hq)⟩
theorem Fits.ok {ps : List Pl} {a : List Row} (h : Fits ps a) : ∀ q ∈ a, okRow q := fun q hq => (h.2.2 q hq).2
theorem rdp_table_of {a : Addr} {rows : List Row} {ps : List Pl} (h1 : LsAt H a rows) (h2 : Fits ps rows) (q : ∀ l out H', Same H H' → H l = none → LsAt H' l out → IsTab rows out → Q (.ref l) H') :
    rd_table_of K t { nx := fun _ H' => Q .non H', rt := Q } (L2.start ["rows", "worths"] [.ref a]) H := by
  obtain ⟨xs, hx, rx⟩ := h1
  exact rdp_table_gen hx rx h2.few (by have := h2.2.1; omega) fun l ys out H' s fr hy ry ti => q l out H' s fr ⟨ys, hy, ry⟩ ti
def tbI (a d : Addr) (rows : List Row) (H : Hp) (i : Nat) (σ : St) (H' : Hp) : Prop := (∃ o6 o7, σ = [some (.ref a), some (.ref d), o6, o7]) ∧ H' = upd H d (.dT (dOf (rows.take i)))
theorem rdp__law_due {a : Addr} {rows : List Row} {ps : List Pl} (h1 : LsAt H a rows) (h3 : Fits ps rows) (q0 : ∀ l out H', Same H H' → H l = none → LsAt H' l out → IsTab rows out → Q (.ref l) H') :
    rd__law_due K t { nx := fun _ H' => Q .non H', rt := Q } (L2.start ["rows", "last", "place", "worth"] [.ref a]) H := by
  obtain ⟨xs, h1, h2⟩ := h1
  have h4 := h3.few
  have h5 := h3.2.1
  have q : ∀ l ys out H', Same H H' → H l = none → H' l = some (.lst ys) → RowsAt H' ys out → IsTab rows out → Q (.ref l) H' := fun l ys out H' s fr hy ry ti => q0 l out H' s fr ⟨ys, hy, ry⟩ ti
  clear q0
  simp only [rd__law_due, cDct, rNeD, sDPut, cTup, iZip, rEqD, rInD, rGtS, iDT, tDGet, tDNewT, cSrtD, cDctP, tDGet2, iZipL, rCat, L2.start, iRev, cLst, cMin, rRep, rEqL, rEqNil, cIntB, tDGet2, tDisp, tPairs, r_mt_append, r_mt_pop, rAppend, rPop, rIxT, rCatT, tTry, endT, tDropX, tRetX, tAsgX, tCallX, tRaise, tMsgR, tMsgS, cIsx, cIsxT, clsV, rMulS, r_mt_find, r_mt_join, tSeq, tAsg, gName, gTup, gCons, gNil, tRet, tRetN, tDrop, tNext, tNever, tOp, tUn, tVar, tC, tLst, tTup, tCons, tNil, tFor, tIfS, tAnd, tOr, tNot, tTest, tB, tAndV, tOrV, tNotV, tIf, tCB, tBM, tBM0, tyV, tSl, tPart, tNoPart, tAug, ipI, tChain, tCall, spP, tComp, tYes, capV, LenV, iRng1, iRng2, iStr, tDNewK, iList, iTup, rCat, rIxL, rIxT, rIxS, rEq, rNe, rI, rI0, rU, rIn, rSlS, rSlL, rAddS, rInS, rNotInS, rIsB, rIsNotB, rIsN, rNotN, cLen, cIsi, cAll, cAbs, cStr, cInt, r_mt_startswith, r_mt_upper, scal, List.map, List.replicate, List.length, List.append, List.cons_append, List.nil_append, List.append_nil, List.getElem?_cons_zero, List.getElem?_cons_succ, Option.some.injEq, exists_eq_left', exists_eq_left, V.int.injEq, V.ref.injEq, V.str.injEq, V.bl.injEq, V.ty.injEq, List.cons.injEq, and_true, true_and, and_assoc, exists_and_left, List.set_cons_zero, List.set_cons_succ, Nat.reduceSub, Nat.reduceAdd, decide_eq_true_eq, Bool.not_eq_true', decide_eq_false_iff_not, Int.reduceToNat, Int.reducePow, Int.reduceNeg, Int.reduceMul, Int.reduceAdd, if_true, ite_true, Bool.false_eq_true, ite_false, if_false]
  intro d hd
  have S : ∀ u : HO, Same H (upd H d u) := fun u => isV (o := u) d hd
  have hl := rows_len h2
  refine ⟨⟨xs, SqL.of (S _ _ _ h1)⟩, loop_list xs (tbI a d rows H) ⟨⟨_, _, rfl⟩, rfl⟩ (fun i σ H' z => by rw [z.2]; exact SqL.of (S _ _ _ h1)) ?_ ?_⟩
  · rintro i v σ H' hv ⟨⟨o1, o2, rfl⟩, rfl⟩
    obtain ⟨q1, hq1, r, pl, rfl, t1, u1⟩ := rows_get (rows_mono (S (.dT (dOf (rows.take i)))) h2) hv
    simp only [cDct, rNeD, sDPut, cTup, iZip, rEqD, rInD, rGtS, iDT, tDGet, tDNewT, cSrtD, cDctP, tDGet2, iZipL, rCat, L2.start, iRev, cLst, cMin, rRep, rEqL, rEqNil, cIntB, tDGet2, tDisp, tPairs, r_mt_append, r_mt_pop, rAppend, rPop, rIxT, rCatT, tTry, endT, tDropX, tRetX, tAsgX, tCallX, tRaise, tMsgR, tMsgS, cIsx, cIsxT, clsV, rMulS, r_mt_find, r_mt_join, tSeq, tAsg, gName, gTup, gCons, gNil, tRet, tRetN, tDrop, tNext, tNever, tOp, tUn, tVar, tC, tLst, tTup, tCons, tNil, tFor, tIfS, tAnd, tOr, tNot, tTest, tB, tAndV, tOrV, tNotV, tIf, tCB, tBM, tBM0, tyV, tSl, tPart, tNoPart, tAug, ipI, tChain, tCall, spP, tComp, tYes, capV, LenV, iRng1, iRng2, iStr, tDNewK, iList, iTup, rCat, rIxL, rIxT, rIxS, rEq, rNe, rI, rI0, rU, rIn, rSlS, rSlL, rAddS, rInS, rNotInS, rIsB, rIsNotB, rIsN, rNotN, cLen, cIsi, cAll, cAbs, cStr, cInt, r_mt_startswith, r_mt_upper, scal, List.map, List.replicate, List.length, List.append, List.cons_append, List.nil_append, List.append_nil, List.getElem?_cons_zero, List.getElem?_cons_succ, Option.some.injEq, exists_eq_left', exists_eq_left, V.int.injEq, V.ref.injEq, V.str.injEq, V.bl.injEq, V.ty.injEq, List.cons.injEq, and_true, true_and, and_assoc, exists_and_left, List.set_cons_zero, List.set_cons_succ, Nat.reduceSub, Nat.reduceAdd, decide_eq_true_eq, Bool.not_eq_true', decide_eq_false_iff_not, Int.reduceToNat, Int.reducePow, Int.reduceNeg, Int.reduceMul, Int.reduceAdd, if_true, ite_true, Bool.false_eq_true, ite_false, if_false]
    refine ⟨_, SqT.of t1, rfl, _, _, rfl, _, _, rfl, rfl, ?_⟩
    have sm : (dOf (rows.take i)).length < sizeLine := by
      have h1 := len_dOf (rows.take i)
      have h2 := List.length_take_le' i rows
      exact Nat.lt_of_le_of_lt (by omega : _ ≤ 500) (by decide)
    refine ⟨_, DPut.t (k := plKey q1.1) upd_same u1 sm, ⟨_, _, rfl⟩, ?_⟩
    rw [upd_upd, take_dOf hq1]
  · rintro σ H' ⟨⟨o1, o2, rfl⟩, rfl⟩
    have e : rows.take xs.length = rows := List.take_of_length_le (by omega)
    rw [e]
    obtain ⟨qs, hqs, nqs, mqs⟩ := keys_dOf rows
    have ld := len_dOf rows
    generalize hH0 : upd H d (.dT (dOf rows)) = H0
    have S0 : Same H H0 := by rw [← hH0]; exact S _
    have d0 : H0 d = some (.dT (dOf rows)) := by rw [← hH0]; exact upd_same
    simp only [cDct, rNeD, sDPut, cTup, iZip, rEqD, rInD, rGtS, iDT, tDGet, tDNewT, cSrtD, cDctP, tDGet2, iZipL, rCat, L2.start, iRev, cLst, cMin, rRep, rEqL, rEqNil, cIntB, tDGet2, tDisp, tPairs, r_mt_append, r_mt_pop, rAppend, rPop, rIxT, rCatT, tTry, endT, tDropX, tRetX, tAsgX, tCallX, tRaise, tMsgR, tMsgS, cIsx, cIsxT, clsV, rMulS, r_mt_find, r_mt_join, tSeq, tAsg, gName, gTup, gCons, gNil, tRet, tRetN, tDrop, tNext, tNever, tOp, tUn, tVar, tC, tLst, tTup, tCons, tNil, tFor, tIfS, tAnd, tOr, tNot, tTest, tB, tAndV, tOrV, tNotV, tIf, tCB, tBM, tBM0, tyV, tSl, tPart, tNoPart, tAug, ipI, tChain, tCall, spP, tComp, tYes, capV, LenV, iRng1, iRng2, iStr, tDNewK, iList, iTup, rCat, rIxL, rIxT, rIxS, rEq, rNe, rI, rI0, rU, rIn, rSlS, rSlL, rAddS, rInS, rNotInS, rIsB, rIsNotB, rIsN, rNotN, cLen, cIsi, cAll, cAbs, cStr, cInt, r_mt_startswith, r_mt_upper, scal, List.map, List.replicate, List.length, List.append, List.cons_append, List.nil_append, List.append_nil, List.getElem?_cons_zero, List.getElem?_cons_succ, Option.some.injEq, exists_eq_left', exists_eq_left, V.int.injEq, V.ref.injEq, V.str.injEq, V.bl.injEq, V.ty.injEq, List.cons.injEq, and_true, true_and, and_assoc, exists_and_left, List.set_cons_zero, List.set_cons_succ, Nat.reduceSub, Nat.reduceAdd, decide_eq_true_eq, Bool.not_eq_true', decide_eq_false_iff_not, Int.reduceToNat, Int.reducePow, Int.reduceNeg, Int.reduceMul, Int.reduceAdd, if_true, ite_true, Bool.false_eq_true, ite_false, if_false]
    refine ⟨dOf rows, d0, qs, hqs, by omega, fun l ps hl0 hperm hpw hps => ?_⟩
    obtain ⟨H1, eH, s1, q1⟩ := new_obj (o := HO.lst (ps.map fun n => V.ref n.1)) hl0
    rw [← eH]
    clear eH
    refine ⟨⟨_, SqL.of q1⟩, fun D hD => ?_⟩
    refine comp_inv (J := Itl K l) ps.length (by have := hperm.length_eq; have := congrArg List.length hqs; simp at *; omega) (fun τ => ∃ o, τ = [o, some (.ref d)]) (cTab rows (ps.map (·.2))) (fun i ys H H' s h => cTab_ts s h) ⟨_, rfl⟩ ⟨[], .nil, rfl⟩ (fun i H s h => ⟨_, _, SqL.of (s _ _ q1), List.getElem?_eq_getElem (by rw [List.length_map]; exact h)⟩) (fun H s => ⟨_, SqL.of (s _ _ q1), by rw [List.length_map]; exact Nat.le_refl _⟩) hD ?_ ?_
    · rintro i v τ ys H4 H5 ⟨o, rfl⟩ s4 hi hR ⟨rfl, hv⟩
      have hv := hv _ (SqL.of (s4 _ _ q1))
      rw [List.getElem?_map] at hv
      obtain ⟨n, hn, rfl⟩ := Option.map_eq_some_iff.mp hv
      have hp := s4 _ _ (s1 _ _ (hps n (List.mem_of_getElem? hn)))
      simp only [cDct, rNeD, sDPut, cTup, iZip, rEqD, rInD, rGtS, iDT, tDGet, tDNewT, cSrtD, cDctP, tDGet2, iZipL, rCat, L2.start, iRev, cLst, cMin, rRep, rEqL, rEqNil, cIntB, tDGet2, tDisp, tPairs, r_mt_append, r_mt_pop, rAppend, rPop, rIxT, rCatT, tTry, endT, tDropX, tRetX, tAsgX, tCallX, tRaise, tMsgR, tMsgS, cIsx, cIsxT, clsV, rMulS, r_mt_find, r_mt_join, tSeq, tAsg, gName, gTup, gCons, gNil, tRet, tRetN, tDrop, tNext, tNever, tOp, tUn, tVar, tC, tLst, tTup, tCons, tNil, tFor, tIfS, tAnd, tOr, tNot, tTest, tB, tAndV, tOrV, tNotV, tIf, tCB, tBM, tBM0, tyV, tSl, tPart, tNoPart, tAug, ipI, tChain, tCall, spP, tComp, tYes, capV, LenV, iRng1, iRng2, iStr, tDNewK, iList, iTup, rCat, rIxL, rIxT, rIxS, rEq, rNe, rI, rI0, rU, rIn, rSlS, rSlL, rAddS, rInS, rNotInS, rIsB, rIsNotB, rIsN, rNotN, cLen, cIsi, cAll, cAbs, cStr, cInt, r_mt_startswith, r_mt_upper, scal, List.map, List.replicate, List.length, List.append, List.cons_append, List.nil_append, List.append_nil, List.getElem?_cons_zero, List.getElem?_cons_succ, Option.some.injEq, exists_eq_left', exists_eq_left, V.int.injEq, V.ref.injEq, V.str.injEq, V.bl.injEq, V.ty.injEq, List.cons.injEq, and_true, true_and, and_assoc, exists_and_left, List.set_cons_zero, List.set_cons_succ, Nat.reduceSub, Nat.reduceAdd, decide_eq_true_eq, Bool.not_eq_true', decide_eq_false_iff_not, Int.reduceToNat, Int.reducePow, Int.reduceNeg, Int.reduceMul, Int.reduceAdd, if_true, ite_true, Bool.false_eq_true, ite_false, if_false]
      have hm : n.2 ∈ qs := hperm.mem_iff.mp (List.mem_map_of_mem (List.mem_of_getElem? hn))
      obtain ⟨w, hw⟩ := Option.isSome_iff_exists.mp ((mqs n.2).mp hm)
      have g : DGet H5 d (.ref n.1) ((lastW rows n.2).map V.int) := .inr ⟨dOf rows, plKey n.2, n.1, .inl (s4 _ _ (s1 _ _ d0)), rfl, hp, (val_dOf rows n.2).symm⟩
      rw [hw] at g
      have tk : (ps.map (·.2)).take (i + 1) = (ps.map (·.2)).take i ++ [n.2] := by rw [List.take_add_one, List.getElem?_map, hn]; rfl
      obtain ⟨out, hr, ho⟩ := hR
      refine ⟨_, g, rfl, ite2 (fun c => ⟨_, g, by decide, fun p hp2 => ⟨⟨_, rfl⟩, ?_, isV p hp2⟩⟩) fun c => ⟨⟨_, rfl⟩, ?_, Same.refl _⟩⟩
      · refine ⟨out ++ [(n.2, w)], rows_snoc (rows_mono (isV p hp2) hr) ⟨p, n.1, rfl, upd_same, isV p hp2 _ _ hp⟩, ?_⟩
        have hw0 : w ≠ 0 := fun z => c (by rw [z])
        rw [tk, List.filterMap_append, ← ho]
        simp [toRow, hw, hw0]
      · refine ⟨out, hr, ?_⟩
        have hw0 : w = 0 := by simpa using c
        rw [tk, List.filterMap_append, ← ho]
        simp [toRow, hw, hw0]
    · rintro ys H4 hly ⟨out, hr, ho⟩ s4 hq
      refine q D ys out H4 (S0.trans (s1.trans s4)) (fresh_of (S0.trans s1) hD) hq hr ?_
      rw [List.take_of_length_le (by rw [List.length_map]; exact Nat.le_refl _)] at ho
      subst ho
      exact tab_of hpw fun p => (hperm.mem_iff.trans (mqs p))
theorem rdp_laid_on {a b : Addr} {tab gifts : List Row} {ps : List Pl} (h1 : LsAt H a tab) (h2 : LsAt H b gifts) (h3 : Fits ps (tab ++ gifts)) (q : ∀ l out H', Same H H' → H l = none → LsAt H' l out → IsTab (tab ++ gifts) out → Q (.ref l) H') :
    rd_laid_on K t { nx := fun _ H' => Q .non H', rt := Q } (L2.start ["table", "gifts"] [.ref a, .ref b]) H := by
  simp only [rd_laid_on, sp_table_of, cDct, rNeD, sDPut, cTup, iZip, rEqD, rInD, rGtS, iDT, tDGet, tDNewT, cSrtD, cDctP, tDGet2, iZipL, rCat, L2.start, iRev, cLst, cMin, rRep, rEqL, rEqNil, cIntB, tDGet2, tDisp, tPairs, r_mt_append, r_mt_pop, rAppend, rPop, rIxT, rCatT, tTry, endT, tDropX, tRetX, tAsgX, tCallX, tRaise, tMsgR, tMsgS, cIsx, cIsxT, clsV, rMulS, r_mt_find, r_mt_join, tSeq, tAsg, gName, gTup, gCons, gNil, tRet, tRetN, tDrop, tNext, tNever, tOp, tUn, tVar, tC, tLst, tTup, tCons, tNil, tFor, tIfS, tAnd, tOr, tNot, tTest, tB, tAndV, tOrV, tNotV, tIf, tCB, tBM, tBM0, tyV, tSl, tPart, tNoPart, tAug, ipI, tChain, tCall, spP, tComp, tYes, capV, LenV, iRng1, iRng2, iStr, tDNewK, iList, iTup, rCat, rIxL, rIxT, rIxS, rEq, rNe, rI, rI0, rU, rIn, rSlS, rSlL, rAddS, rInS, rNotInS, rIsB, rIsNotB, rIsN, rNotN, cLen, cIsi, cAll, cAbs, cStr, cInt, r_mt_startswith, r_mt_upper, scal, List.map, List.replicate, List.length, List.append, List.cons_append, List.nil_append, List.append_nil, List.getElem?_cons_zero, List.getElem?_cons_succ, Option.some.injEq, exists_eq_left', exists_eq_left, V.int.injEq, V.ref.injEq, V.str.injEq, V.bl.injEq, V.ty.injEq, List.cons.injEq, and_true, true_and, and_assoc, exists_and_left, List.set_cons_zero, List.set_cons_succ, Nat.reduceSub, Nat.reduceAdd, decide_eq_true_eq, Bool.not_eq_true', decide_eq_false_iff_not, Int.reduceToNat, Int.reducePow, Int.reduceNeg, Int.reduceMul, Int.reduceAdd, if_true, ite_true, Bool.false_eq_true, ite_false, if_false]
  obtain ⟨xs, hx, rx⟩ := h1
  obtain ⟨ys, hy, ry⟩ := h2
  have l := h3.2.1
  rw [List.length_append, ← rows_len rx, ← rows_len ry] at l
  refine ⟨xs, hx, ys, hy, Nat.le_trans l (by decide), fun p hp => ⟨tab ++ gifts, ⟨xs ++ ys, upd_same, rows_mono (isV p hp) (rows_app ry rx)⟩, ps, h3, fun l out H' s fr hl ti => q l out H' ((isV p hp).trans s) (fresh_of (isV p hp) fr) hl ti⟩⟩
theorem rdp_stands {a p : Addr} {tab : List Row} {q0 : Pl} (h1 : LsAt H a tab) (h5 : tab.length ≤ 500) (h6 : H p = some (.tup [.str q0.1, .int q0.2])) (q : ∀ H', Same H H' → Q (.int ((lastW tab q0).getD 0)) H') :
    rd_stands K t { nx := fun _ H' => Q .non H', rt := Q } (L2.start ["table", "place"] [.ref a, .ref p]) H := by
  simp only [rd_stands, cDct, rNeD, sDPut, cTup, iZip, rEqD, rInD, rGtS, iDT, tDGet, tDNewT, cSrtD, cDctP, tDGet2, iZipL, rCat, L2.start, iRev, cLst, cMin, rRep, rEqL, rEqNil, cIntB, tDGet2, tDisp, tPairs, r_mt_append, r_mt_pop, rAppend, rPop, rIxT, rCatT, tTry, endT, tDropX, tRetX, tAsgX, tCallX, tRaise, tMsgR, tMsgS, cIsx, cIsxT, clsV, rMulS, r_mt_find, r_mt_join, tSeq, tAsg, gName, gTup, gCons, gNil, tRet, tRetN, tDrop, tNext, tNever, tOp, tUn, tVar, tC, tLst, tTup, tCons, tNil, tFor, tIfS, tAnd, tOr, tNot, tTest, tB, tAndV, tOrV, tNotV, tIf, tCB, tBM, tBM0, tyV, tSl, tPart, tNoPart, tAug, ipI, tChain, tCall, spP, tComp, tYes, capV, LenV, iRng1, iRng2, iStr, tDNewK, iList, iTup, rCat, rIxL, rIxT, rIxS, rEq, rNe, rI, rI0, rU, rIn, rSlS, rSlL, rAddS, rInS, rNotInS, rIsB, rIsNotB, rIsN, rNotN, cLen, cIsi, cAll, cAbs, cStr, cInt, r_mt_startswith, r_mt_upper, scal, List.map, List.replicate, List.length, List.append, List.cons_append, List.nil_append, List.append_nil, List.getElem?_cons_zero, List.getElem?_cons_succ, Option.some.injEq, exists_eq_left', exists_eq_left, V.int.injEq, V.ref.injEq, V.str.injEq, V.bl.injEq, V.ty.injEq, List.cons.injEq, and_true, true_and, and_assoc, exists_and_left, List.set_cons_zero, List.set_cons_succ, Nat.reduceSub, Nat.reduceAdd, decide_eq_true_eq, Bool.not_eq_true', decide_eq_false_iff_not, Int.reduceToNat, Int.reducePow, Int.reduceNeg, Int.reduceMul, Int.reduceAdd, if_true, ite_true, Bool.false_eq_true, ite_false, if_false]
  obtain ⟨xs, h1, h2⟩ := h1
  refine ⟨xs, h1, tab, h2, by omega, fun d hd => ⟨.inr ⟨dOf tab, .inl upd_same⟩, ?_⟩⟩
  have S := isV (o := HO.dT (dOf tab)) d hd
  have g : DGet (upd H d (.dT (dOf tab))) d (.ref p) ((lastW tab q0).map V.int) := .inr ⟨dOf tab, plKey q0, p, .inl upd_same, rfl, S _ _ h6, (val_dOf tab q0).symm⟩
  refine ⟨_, g, ?_⟩
  have := q _ S
  cases e : lastW tab q0 with
  | none => rw [e] at this; exact this
  | some w => rw [e] at this; exact this
theorem rdp__law_number {c : Int} (q : ∀ w H', Same H H' → Q (.int w) H') :
    rd__law_number K t { nx := fun _ H' => Q .non H', rt := Q } (L2.start ["cell"] [.int c]) H := by
  simp only [rd__law_number, cDct, rNeD, sDPut, cTup, iZip, rEqD, rInD, rGtS, iDT, tDGet, tDNewT, cSrtD, cDctP, tDGet2, iZipL, rCat, L2.start, iRev, cLst, cMin, rRep, rEqL, rEqNil, cIntB, tDGet2, tDisp, tPairs, r_mt_append, r_mt_pop, rAppend, rPop, rIxT, rCatT, tTry, endT, tDropX, tRetX, tAsgX, tCallX, tRaise, tMsgR, tMsgS, cIsx, cIsxT, clsV, rMulS, r_mt_find, r_mt_join, tSeq, tAsg, gName, gTup, gCons, gNil, tRet, tRetN, tDrop, tNext, tNever, tOp, tUn, tVar, tC, tLst, tTup, tCons, tNil, tFor, tIfS, tAnd, tOr, tNot, tTest, tB, tAndV, tOrV, tNotV, tIf, tCB, tBM, tBM0, tyV, tSl, tPart, tNoPart, tAug, ipI, tChain, tCall, spP, tComp, tYes, capV, LenV, iRng1, iRng2, iStr, tDNewK, iList, iTup, rCat, rIxL, rIxT, rIxS, rEq, rNe, rI, rI0, rU, rIn, rSlS, rSlL, rAddS, rInS, rNotInS, rIsB, rIsNotB, rIsN, rNotN, cLen, cIsi, cAll, cAbs, cStr, cInt, r_mt_startswith, r_mt_upper, scal, List.map, List.replicate, List.length, List.append, List.cons_append, List.nil_append, List.append_nil, List.getElem?_cons_zero, List.getElem?_cons_succ, Option.some.injEq, exists_eq_left', exists_eq_left, V.int.injEq, V.ref.injEq, V.str.injEq, V.bl.injEq, V.ty.injEq, List.cons.injEq, and_true, true_and, and_assoc, exists_and_left, List.set_cons_zero, List.set_cons_succ, Nat.reduceSub, Nat.reduceAdd, decide_eq_true_eq, Bool.not_eq_true', decide_eq_false_iff_not, Int.reduceToNat, Int.reducePow, Int.reduceNeg, Int.reduceMul, Int.reduceAdd, if_true, ite_true, Bool.false_eq_true, ite_false, if_false]
  have P30 := pow10 (j := 30) (by decide) (by decide)
  have hb : (10000000000000000000000000000000000000000000000 : Int) < big := by decide +kernel
  exact ⟨by decide, ite2 (fun _ => ⟨dB, P30, P30, ⟨by omega, by omega⟩, by decide, P30, q _ _ (Same.refl H)⟩) fun _ => ⟨dB, by decide, q _ _ (Same.refl H)⟩⟩
theorem rdp_row2 {c sp : Int} {nm : Addr} (h1 : NamesAt H nm) (q : ∀ v q H', Same H H' → RowAt H' v q → okRow q → Q v H') :
    rd__law_row_2 K t { nx := fun _ H' => Q .non H', rt := Q } [some (.int c), some (.ref nm), some (.int sp)] H := by
  simp only [rd__law_row_2, sp__law_number, sp__law_mixed, cDct, rNeD, sDPut, cTup, iZip, rEqD, rInD, rGtS, iDT, tDGet, tDNewT, cSrtD, cDctP, tDGet2, iZipL, rCat, L2.start, iRev, cLst, cMin, rRep, rEqL, rEqNil, cIntB, tDGet2, tDisp, tPairs, r_mt_append, r_mt_pop, rAppend, rPop, rIxT, rCatT, tTry, endT, tDropX, tRetX, tAsgX, tCallX, tRaise, tMsgR, tMsgS, cIsx, cIsxT, clsV, rMulS, r_mt_find, r_mt_join, tSeq, tAsg, gName, gTup, gCons, gNil, tRet, tRetN, tDrop, tNext, tNever, tOp, tUn, tVar, tC, tLst, tTup, tCons, tNil, tFor, tIfS, tAnd, tOr, tNot, tTest, tB, tAndV, tOrV, tNotV, tIf, tCB, tBM, tBM0, tyV, tSl, tPart, tNoPart, tAug, ipI, tChain, tCall, spP, tComp, tYes, capV, LenV, iRng1, iRng2, iStr, tDNewK, iList, iTup, rCat, rIxL, rIxT, rIxS, rEq, rNe, rI, rI0, rU, rIn, rSlS, rSlL, rAddS, rInS, rNotInS, rIsB, rIsNotB, rIsN, rNotN, cLen, cIsi, cAll, cAbs, cStr, cInt, r_mt_startswith, r_mt_upper, scal, List.map, List.replicate, List.length, List.append, List.cons_append, List.nil_append, List.append_nil, List.getElem?_cons_zero, List.getElem?_cons_succ, Option.some.injEq, exists_eq_left', exists_eq_left, V.int.injEq, V.ref.injEq, V.str.injEq, V.bl.injEq, V.ty.injEq, List.cons.injEq, and_true, true_and, and_assoc, exists_and_left, List.set_cons_zero, List.set_cons_succ, Nat.reduceSub, Nat.reduceAdd, decide_eq_true_eq, Bool.not_eq_true', decide_eq_false_iff_not, Int.reduceToNat, Int.reducePow, Int.reduceNeg, Int.reduceMul, Int.reduceAdd, if_true, ite_true, Bool.false_eq_true, ite_false, if_false]
  have P33 := pow10 (j := 33) (by decide) (by decide)
  refine ⟨by decide, by decide, fun r1 H1 a1 b1 s1 => ?_⟩
  obtain ⟨ws, hw, hl, hn⟩ := h1.same s1
  obtain ⟨x, hx, hm⟩ := at_mod r1 2 (xs := ws.map V.str) (by rw [List.length_map, hl]) (by decide)
  obtain ⟨sh, hsh, rfl⟩ := List.mem_map.mp hm
  refine ⟨by decide, _, SqL.of hw, _, hx, fun n H2 s2 => ⟨by decide, fun p hp => ⟨by decide, by decide, fun r3 H3 a3 b3 s3 => ⟨P33, by decide, fun w H4 s4 => ⟨by decide, fun r hr => ?_⟩⟩⟩⟩⟩
  have sa := isV (o := HO.tup [V.str sh, V.int n]) p hp
  have sb := isV (o := HO.tup [V.ref p, V.int w]) r hr
  exact q (.ref r) ((sh, n), w) _ (s1.trans (s2.trans (sa.trans (s3.trans (s4.trans sb))))) ⟨r, p, rfl, upd_same, sb _ _ (s4 _ _ (s3 _ _ upd_same))⟩ (hn _ hsh)
theorem rdp__law_row {c : Int} {nm : Addr} (h1 : NamesAt H nm) (q : ∀ v q H', Same H H' → RowAt H' v q → okRow q → Q v H') :
    rd__law_row K t { nx := fun _ H' => Q .non H', rt := Q } (L2.start ["cell", "names", "spot"] [.int c, .ref nm]) H := by
  simp only [rd__law_row, sp__law_mixed, cDct, rNeD, sDPut, cTup, iZip, rEqD, rInD, rGtS, iDT, tDGet, tDNewT, cSrtD, cDctP, tDGet2, iZipL, rCat, L2.start, iRev, cLst, cMin, rRep, rEqL, rEqNil, cIntB, tDGet2, tDisp, tPairs, r_mt_append, r_mt_pop, rAppend, rPop, rIxT, rCatT, tTry, endT, tDropX, tRetX, tAsgX, tCallX, tRaise, tMsgR, tMsgS, cIsx, cIsxT, clsV, rMulS, r_mt_find, r_mt_join, tSeq, tAsg, gName, gTup, gCons, gNil, tRet, tRetN, tDrop, tNext, tNever, tOp, tUn, tVar, tC, tLst, tTup, tCons, tNil, tFor, tIfS, tAnd, tOr, tNot, tTest, tB, tAndV, tOrV, tNotV, tIf, tCB, tBM, tBM0, tyV, tSl, tPart, tNoPart, tAug, ipI, tChain, tCall, spP, tComp, tYes, capV, LenV, iRng1, iRng2, iStr, tDNewK, iList, iTup, rCat, rIxL, rIxT, rIxS, rEq, rNe, rI, rI0, rU, rIn, rSlS, rSlL, rAddS, rInS, rNotInS, rIsB, rIsNotB, rIsN, rNotN, cLen, cIsi, cAll, cAbs, cStr, cInt, r_mt_startswith, r_mt_upper, scal, List.map, List.replicate, List.length, List.append, List.cons_append, List.nil_append, List.append_nil, List.getElem?_cons_zero, List.getElem?_cons_succ, Option.some.injEq, exists_eq_left', exists_eq_left, V.int.injEq, V.ref.injEq, V.str.injEq, V.bl.injEq, V.ty.injEq, List.cons.injEq, and_true, true_and, and_assoc, exists_and_left, List.set_cons_zero, List.set_cons_succ, Nat.reduceSub, Nat.reduceAdd, decide_eq_true_eq, Bool.not_eq_true', decide_eq_false_iff_not, Int.reduceToNat, Int.reducePow, Int.reduceNeg, Int.reduceMul, Int.reduceAdd, if_true, ite_true, Bool.false_eq_true, ite_false, if_false]
  have hb : (10000000000000000000000000000000000000000000000 : Int) < big := by decide +kernel
  refine ⟨by decide, by decide, fun r1 H1 a1 b1 s1 => ⟨by decide, ite2 (fun _ => ⟨dB, .inr ⟨by decide, by decide⟩, ?_⟩) fun _ => ?_⟩⟩
  all_goals exact rdp_row2 (h1.same s1) fun v q0 H' s h1 h2 => q v q0 H' (s1.trans s) h1 h2
theorem find_next : ∀ k : Fin 26, (match atI (Str.ofString "bcdefghijklmnopqrstuvwxyza").cps.toList (findS (Str.ofString "abcdefghijklmnopqrstuvwxyz") ⟨#[97 + k.val]⟩) with | some c => inL c | none => false) = true := by decide +kernel
theorem find_letter {d : Nat} (h : inL d = true) : ∃ c, atI (Str.ofString "bcdefghijklmnopqrstuvwxyza").cps.toList (findS (Str.ofString "abcdefghijklmnopqrstuvwxyz") ⟨#[d]⟩) = some c ∧ inL c = true := by
  have h2 := inL_iff d h
  have := find_next ⟨d - 97, by omega⟩
  rw [show 97 + (d - 97) = d by omega] at this
  split at this
  · rename_i c e
    exact ⟨c, e, this⟩
  · cases this
theorem rdp_names2 {c : Int} {x : Str} (lw : LW x) (m : Nat) (hm : m < x.length) (q : ∀ nm H', Same H H' → NamesAt H' nm → Q (.ref nm) H') :
    rd__law_names_2 K t { nx := fun _ H' => Q .non H', rt := Q } [some (.int c), some (.str x), some (.int m), none] H := by
  simp only [rd__law_names_2, sp__law_mixed, sp__law_letters, sp__law_free, cDct, rNeD, sDPut, cTup, iZip, rEqD, rInD, rGtS, iDT, tDGet, tDNewT, cSrtD, cDctP, tDGet2, iZipL, rCat, L2.start, iRev, cLst, cMin, rRep, rEqL, rEqNil, cIntB, tDGet2, tDisp, tPairs, r_mt_append, r_mt_pop, rAppend, rPop, rIxT, rCatT, tTry, endT, tDropX, tRetX, tAsgX, tCallX, tRaise, tMsgR, tMsgS, cIsx, cIsxT, clsV, rMulS, r_mt_find, r_mt_join, tSeq, tAsg, gName, gTup, gCons, gNil, tRet, tRetN, tDrop, tNext, tNever, tOp, tUn, tVar, tC, tLst, tTup, tCons, tNil, tFor, tIfS, tAnd, tOr, tNot, tTest, tB, tAndV, tOrV, tNotV, tIf, tCB, tBM, tBM0, tyV, tSl, tPart, tNoPart, tAug, ipI, tChain, tCall, spP, tComp, tYes, capV, LenV, iRng1, iRng2, iStr, tDNewK, iList, iTup, rCat, rIxL, rIxT, rIxS, rEq, rNe, rI, rI0, rU, rIn, rSlS, rSlL, rAddS, rInS, rNotInS, rIsB, rIsNotB, rIsN, rNotN, cLen, cIsi, cAll, cAbs, cStr, cInt, r_mt_startswith, r_mt_upper, scal, List.map, List.replicate, List.length, List.append, List.cons_append, List.nil_append, List.append_nil, List.getElem?_cons_zero, List.getElem?_cons_succ, Option.some.injEq, exists_eq_left', exists_eq_left, V.int.injEq, V.ref.injEq, V.str.injEq, V.bl.injEq, V.ty.injEq, List.cons.injEq, and_true, true_and, and_assoc, exists_and_left, List.set_cons_zero, List.set_cons_succ, Nat.reduceSub, Nat.reduceAdd, decide_eq_true_eq, Bool.not_eq_true', decide_eq_false_iff_not, Int.reduceToNat, Int.reducePow, Int.reduceNeg, Int.reduceMul, Int.reduceAdd, if_true, ite_true, Bool.false_eq_true, ite_false, if_false]
  have lx := lw.2.2
  have two : ∀ (u v : Str) (H2 : Hp) (p : Addr), LW u → LW v → Same H H2 → H2 p = none → Q (.ref p) (upd H2 p (.lst [.str (freeW u), .str (freeW v)])) := fun u v H2 p hu hv s hp =>
    q p _ (s.trans (isV p hp)) ⟨[freeW u, freeW v], upd_same, rfl, fun w hw => by
      simp only [List.mem_cons, List.not_mem_nil, or_false] at hw
      rcases hw with rfl | rfl
      · exact free_name hu
      · exact free_name hv⟩
  have l1 := Txt.slice_le x none (some (m : Int))
  have l2 := Txt.slice_le x (some ((m : Int) + 1)) none
  obtain ⟨d, hd, hm1⟩ := at_lt (xs := x.cps.toList) (i := (m : Int)) (by omega) (by rw [← len_cps]; omega)
  obtain ⟨c2, hc2, hl2⟩ := find_letter (List.all_eq_true.mp lw.1 d hm1)
  have lw2 := LW_swap lw (k := m) hm hl2
  have l3 := lw2.2.2
  refine ⟨by decide, ite2 (fun _ => ite2 (fun h0 => ⟨small_size (by omega), by omega, fun H1 s1 => ⟨by omega, fun H2 s2 => ⟨by decide, fun p hp => two _ _ H2 p (LW_take lw (k := m) (by omega)) lw (s1.trans s2) hp⟩⟩⟩) fun _ => ?_) fun _ => ?_⟩
  all_goals exact ⟨small_size (by omega), d, hd, by decide, c2, hc2, by omega, fun H1 s1 => ⟨small_size (by omega), small_size (by rw [one_len]; omega), small_size (by omega), small_size (by rw [len_app, one_len]; omega), by omega, fun H2 s2 => ⟨by decide, fun p hp => two _ _ H2 p lw lw2 (s1.trans s2) hp⟩⟩⟩
theorem rdp__law_names {c : Int} (q : ∀ nm H', Same H H' → NamesAt H' nm → Q (.ref nm) H') :
    rd__law_names K t { nx := fun _ H' => Q .non H', rt := Q } (L2.start ["cell", "base", "at", "letter"] [.int c]) H := by
  simp only [rd__law_names, sp__law_mixed, sp__law_letters, cDct, rNeD, sDPut, cTup, iZip, rEqD, rInD, rGtS, iDT, tDGet, tDNewT, cSrtD, cDctP, tDGet2, iZipL, rCat, L2.start, iRev, cLst, cMin, rRep, rEqL, rEqNil, cIntB, tDGet2, tDisp, tPairs, r_mt_append, r_mt_pop, rAppend, rPop, rIxT, rCatT, tTry, endT, tDropX, tRetX, tAsgX, tCallX, tRaise, tMsgR, tMsgS, cIsx, cIsxT, clsV, rMulS, r_mt_find, r_mt_join, tSeq, tAsg, gName, gTup, gCons, gNil, tRet, tRetN, tDrop, tNext, tNever, tOp, tUn, tVar, tC, tLst, tTup, tCons, tNil, tFor, tIfS, tAnd, tOr, tNot, tTest, tB, tAndV, tOrV, tNotV, tIf, tCB, tBM, tBM0, tyV, tSl, tPart, tNoPart, tAug, ipI, tChain, tCall, spP, tComp, tYes, capV, LenV, iRng1, iRng2, iStr, tDNewK, iList, iTup, rCat, rIxL, rIxT, rIxS, rEq, rNe, rI, rI0, rU, rIn, rSlS, rSlL, rAddS, rInS, rNotInS, rIsB, rIsNotB, rIsN, rNotN, cLen, cIsi, cAll, cAbs, cStr, cInt, r_mt_startswith, r_mt_upper, scal, List.map, List.replicate, List.length, List.append, List.cons_append, List.nil_append, List.append_nil, List.getElem?_cons_zero, List.getElem?_cons_succ, Option.some.injEq, exists_eq_left', exists_eq_left, V.int.injEq, V.ref.injEq, V.str.injEq, V.bl.injEq, V.ty.injEq, List.cons.injEq, and_true, true_and, and_assoc, exists_and_left, List.set_cons_zero, List.set_cons_succ, Nat.reduceSub, Nat.reduceAdd, decide_eq_true_eq, Bool.not_eq_true', decide_eq_false_iff_not, Int.reduceToNat, Int.reducePow, Int.reduceNeg, Int.reduceMul, Int.reduceAdd, if_true, ite_true, Bool.false_eq_true, ite_false, if_false]
  have g1 := Int.emod_nonneg (c / 2) (b := 6) (by decide)
  have g2 := Int.emod_lt_of_pos (c / 2) (b := 6) (by decide)
  refine ⟨by decide, by decide, fun r1 H1 a1 b1 s1 => ⟨dB, by decide, by omega, by omega, fun x H2 hx hall s2 => ⟨by decide, by decide, fun r3 H3 a3 b3 s3 => ⟨small_size (by omega), by omega, ?_⟩⟩⟩⟩
  have S := s1.trans (s2.trans s3)
  have lw : LW x := ⟨hall, by omega, by omega⟩
  obtain ⟨m, em⟩ : ∃ m : Nat, r3 % (x.length : Int) = m := ⟨_, (Int.toNat_of_nonneg (Int.emod_nonneg _ (by omega))).symm⟩
  have hm : (m : Int) < x.length := by rw [← em]; exact Int.emod_lt_of_pos _ (by omega)
  rw [em]
  exact rdp_names2 lw m (by omega) fun nm H' s hn => q nm H' (S.trans s) hn
def alI (a b : Addr) (H : Hp) (i : Nat) (σ : St) (H' : Hp) : Prop := (∃ o1 o2 o3, σ = [some (.ref a), some (.ref b), o1, o2, o3]) ∧ Same H H'
def nuI (a b r r2 : Addr) (H : Hp) (i : Nat) (σ : St) (H' : Hp) : Prop := (∃ o3, σ = [some (.ref a), some (.ref b), some (.ref r), some (.ref r2), o3]) ∧ H' = H
theorem rdp_alike1 (kF : KF K) {a b : Addr} {xs ys : List V} {rows : List Row} (hx : H a = some (.lst xs)) (rx : RowsAt H xs rows) (hy : H b = some (.lst ys)) (ry : RowsAt H ys rows) (h3 : ∀ q ∈ rows, okRow q) (q : ∀ H', Same H H' → Q (.bl true) H') :
    rd__law_alike_1 K t { nx := fun _ H' => Q .non H', rt := Q } [some (.ref a), some (.ref b), none, none, none] H := by
  simp only [rd__law_alike_1, cDct, rNeD, sDPut, cTup, iZip, rEqD, rInD, rGtS, iDT, tDGet, tDNewT, cSrtD, cDctP, tDGet2, iZipL, rCat, L2.start, iRev, cLst, cMin, rRep, rEqL, rEqNil, cIntB, tDGet2, tDisp, tPairs, r_mt_append, r_mt_pop, rAppend, rPop, rIxT, rCatT, tTry, endT, tDropX, tRetX, tAsgX, tCallX, tRaise, tMsgR, tMsgS, cIsx, cIsxT, clsV, rMulS, r_mt_find, r_mt_join, tSeq, tAsg, gName, gTup, gCons, gNil, tRet, tRetN, tDrop, tNext, tNever, tOp, tUn, tVar, tC, tLst, tTup, tCons, tNil, tFor, tIfS, tAnd, tOr, tNot, tTest, tB, tAndV, tOrV, tNotV, tIf, tCB, tBM, tBM0, tyV, tSl, tPart, tNoPart, tAug, ipI, tChain, tCall, spP, tComp, tYes, capV, LenV, iRng1, iRng2, iStr, tDNewK, iList, iTup, rCat, rIxL, rIxT, rIxS, rEq, rNe, rI, rI0, rU, rIn, rSlS, rSlL, rAddS, rInS, rNotInS, rIsB, rIsNotB, rIsN, rNotN, cLen, cIsi, cAll, cAbs, cStr, cInt, r_mt_startswith, r_mt_upper, scal, List.map, List.replicate, List.length, List.append, List.cons_append, List.nil_append, List.append_nil, List.getElem?_cons_zero, List.getElem?_cons_succ, Option.some.injEq, exists_eq_left', exists_eq_left, V.int.injEq, V.ref.injEq, V.str.injEq, V.bl.injEq, V.ty.injEq, List.cons.injEq, and_true, true_and, and_assoc, exists_and_left, List.set_cons_zero, List.set_cons_succ, Nat.reduceSub, Nat.reduceAdd, decide_eq_true_eq, Bool.not_eq_true', decide_eq_false_iff_not, Int.reduceToNat, Int.reducePow, Int.reduceNeg, Int.reduceMul, Int.reduceAdd, if_true, ite_true, Bool.false_eq_true, ite_false, if_false]
  have lx := rows_len rx
  have ly := rows_len ry
  refine ⟨xs, SqL.of hx, ys, SqL.of hy, by omega, loop_zipL xs ys (alI a b H) ⟨⟨_, _, _, rfl⟩, Same.refl H⟩ (fun i σ H' z => ⟨SqL.of (z.2 _ _ hx), SqL.of (z.2 _ _ hy)⟩) ?_ ?_⟩
  · rintro i u v T σ H' hu hv hT ⟨⟨o1, o2, o3, rfl⟩, s⟩
    obtain ⟨q1, hq1, r, pl, rfl, t1, u1⟩ := rows_get (rows_mono s rx) hu
    obtain ⟨q2, hq2, r2, pl2, rfl, t2, u2⟩ := rows_get (rows_mono s ry) hv
    rw [hq1] at hq2
    cases hq2
    have S := isV (o := HO.tup [V.ref r, V.ref r2]) T hT
    simp only [cDct, rNeD, sDPut, cTup, iZip, rEqD, rInD, rGtS, iDT, tDGet, tDNewT, cSrtD, cDctP, tDGet2, iZipL, rCat, L2.start, iRev, cLst, cMin, rRep, rEqL, rEqNil, cIntB, tDGet2, tDisp, tPairs, r_mt_append, r_mt_pop, rAppend, rPop, rIxT, rCatT, tTry, endT, tDropX, tRetX, tAsgX, tCallX, tRaise, tMsgR, tMsgS, cIsx, cIsxT, clsV, rMulS, r_mt_find, r_mt_join, tSeq, tAsg, gName, gTup, gCons, gNil, tRet, tRetN, tDrop, tNext, tNever, tOp, tUn, tVar, tC, tLst, tTup, tCons, tNil, tFor, tIfS, tAnd, tOr, tNot, tTest, tB, tAndV, tOrV, tNotV, tIf, tCB, tBM, tBM0, tyV, tSl, tPart, tNoPart, tAug, ipI, tChain, tCall, spP, tComp, tYes, capV, LenV, iRng1, iRng2, iStr, tDNewK, iList, iTup, rCat, rIxL, rIxT, rIxS, rEq, rNe, rI, rI0, rU, rIn, rSlS, rSlL, rAddS, rInS, rNotInS, rIsB, rIsNotB, rIsN, rNotN, cLen, cIsi, cAll, cAbs, cStr, cInt, r_mt_startswith, r_mt_upper, scal, List.map, List.replicate, List.length, List.append, List.cons_append, List.nil_append, List.append_nil, List.getElem?_cons_zero, List.getElem?_cons_succ, Option.some.injEq, exists_eq_left', exists_eq_left, V.int.injEq, V.ref.injEq, V.str.injEq, V.bl.injEq, V.ty.injEq, List.cons.injEq, and_true, true_and, and_assoc, exists_and_left, List.set_cons_zero, List.set_cons_succ, Nat.reduceSub, Nat.reduceAdd, decide_eq_true_eq, Bool.not_eq_true', decide_eq_false_iff_not, Int.reduceToNat, Int.reducePow, Int.reduceNeg, Int.reduceMul, Int.reduceAdd, if_true, ite_true, Bool.false_eq_true, ite_false, if_false]
    refine ⟨_, SqT.of upd_same, rfl, _, _, rfl, _, _, rfl, rfl, ?_⟩
    generalize hH1 : upd H' T (.tup [.ref r, .ref r2]) = H1 at *
    simp only [cDct, rNeD, sDPut, cTup, iZip, rEqD, rInD, rGtS, iDT, tDGet, tDNewT, cSrtD, cDctP, tDGet2, iZipL, rCat, L2.start, iRev, cLst, cMin, rRep, rEqL, rEqNil, cIntB, tDGet2, tDisp, tPairs, r_mt_append, r_mt_pop, rAppend, rPop, rIxT, rCatT, tTry, endT, tDropX, tRetX, tAsgX, tCallX, tRaise, tMsgR, tMsgS, cIsx, cIsxT, clsV, rMulS, r_mt_find, r_mt_join, tSeq, tAsg, gName, gTup, gCons, gNil, tRet, tRetN, tDrop, tNext, tNever, tOp, tUn, tVar, tC, tLst, tTup, tCons, tNil, tFor, tIfS, tAnd, tOr, tNot, tTest, tB, tAndV, tOrV, tNotV, tIf, tCB, tBM, tBM0, tyV, tSl, tPart, tNoPart, tAug, ipI, tChain, tCall, spP, tComp, tYes, capV, LenV, iRng1, iRng2, iStr, tDNewK, iList, iTup, rCat, rIxL, rIxT, rIxS, rEq, rNe, rI, rI0, rU, rIn, rSlS, rSlL, rAddS, rInS, rNotInS, rIsB, rIsNotB, rIsN, rNotN, cLen, cIsi, cAll, cAbs, cStr, cInt, r_mt_startswith, r_mt_upper, scal, List.map, List.replicate, List.length, List.append, List.cons_append, List.nil_append, List.append_nil, List.getElem?_cons_zero, List.getElem?_cons_succ, Option.some.injEq, exists_eq_left', exists_eq_left, V.int.injEq, V.ref.injEq, V.str.injEq, V.bl.injEq, V.ty.injEq, List.cons.injEq, and_true, true_and, and_assoc, exists_and_left, List.set_cons_zero, List.set_cons_succ, Nat.reduceSub, Nat.reduceAdd, decide_eq_true_eq, Bool.not_eq_true', decide_eq_false_iff_not, Int.reduceToNat, Int.reducePow, Int.reduceNeg, Int.reduceMul, Int.reduceAdd, if_true, ite_true, Bool.false_eq_true, ite_false, if_false]
    refine ⟨_, .tup (S _ _ t1), true, kit_same _, ?_⟩
    rw [if_neg (by decide)]
    refine ⟨2, .inr ⟨_, SqT.of (S _ _ t1), rfl⟩, ?_⟩
    rw [if_neg (by decide)]
    refine ⟨_, SqT.of (S _ _ t1), _, rfl, _, .tup (S _ _ u1), true, kit_same _, ?_⟩
    rw [if_neg (by decide)]
    refine ⟨_, SqT.of (S _ _ t1), _, rfl, 2, .inr ⟨_, SqT.of (S _ _ u1), rfl⟩, ?_⟩
    rw [if_neg (by decide)]
    refine ⟨_, SqT.of (S _ _ t1), _, rfl, _, rfl, _, SqT.of (S _ _ u1), _, rfl, _, SqT.of (S _ _ t1), _, rfl, by decide, fun p hp => ?_⟩
    have S2 := isV (o := HO.tup [V.int q1.1.2, V.int q1.2]) p hp
    refine ⟨⟨_, SqT.of upd_same⟩, loop_tup [V.int q1.1.2, V.int q1.2] (nuI a b r r2 (upd H1 p (.tup [.int q1.1.2, .int q1.2]))) ⟨⟨_, rfl⟩, rfl⟩ (fun i σ H' z => by rw [z.2]; exact SqT.of upd_same) ?_ ?_⟩
    · rintro j v σ H2 hj ⟨⟨o3, rfl⟩, rfl⟩
      simp only [cDct, rNeD, sDPut, cTup, iZip, rEqD, rInD, rGtS, iDT, tDGet, tDNewT, cSrtD, cDctP, tDGet2, iZipL, rCat, L2.start, iRev, cLst, cMin, rRep, rEqL, rEqNil, cIntB, tDGet2, tDisp, tPairs, r_mt_append, r_mt_pop, rAppend, rPop, rIxT, rCatT, tTry, endT, tDropX, tRetX, tAsgX, tCallX, tRaise, tMsgR, tMsgS, cIsx, cIsxT, clsV, rMulS, r_mt_find, r_mt_join, tSeq, tAsg, gName, gTup, gCons, gNil, tRet, tRetN, tDrop, tNext, tNever, tOp, tUn, tVar, tC, tLst, tTup, tCons, tNil, tFor, tIfS, tAnd, tOr, tNot, tTest, tB, tAndV, tOrV, tNotV, tIf, tCB, tBM, tBM0, tyV, tSl, tPart, tNoPart, tAug, ipI, tChain, tCall, spP, tComp, tYes, capV, LenV, iRng1, iRng2, iStr, tDNewK, iList, iTup, rCat, rIxL, rIxT, rIxS, rEq, rNe, rI, rI0, rU, rIn, rSlS, rSlL, rAddS, rInS, rNotInS, rIsB, rIsNotB, rIsN, rNotN, cLen, cIsi, cAll, cAbs, cStr, cInt, r_mt_startswith, r_mt_upper, scal, List.map, List.replicate, List.length, List.append, List.cons_append, List.nil_append, List.append_nil, List.getElem?_cons_zero, List.getElem?_cons_succ, Option.some.injEq, exists_eq_left', exists_eq_left, V.int.injEq, V.ref.injEq, V.str.injEq, V.bl.injEq, V.ty.injEq, List.cons.injEq, and_true, true_and, and_assoc, exists_and_left, List.set_cons_zero, List.set_cons_succ, Nat.reduceSub, Nat.reduceAdd, decide_eq_true_eq, Bool.not_eq_true', decide_eq_false_iff_not, Int.reduceToNat, Int.reducePow, Int.reduceNeg, Int.reduceMul, Int.reduceAdd, if_true, ite_true, Bool.false_eq_true, ite_false, if_false]
      obtain ⟨n, rfl⟩ : ∃ n, v = .int n := by
        rcases j with _ | _ | j
        · exact ⟨_, (Option.some.inj hj).symm⟩
        · exact ⟨_, (Option.some.inj hj).symm⟩
        · cases hj
      refine ⟨_, .int n, true, kit_same _, ?_⟩
      rw [if_neg (by decide)]
      refine ⟨_, .int n, false, kF.i_b, ?_⟩
      rw [if_neg (by decide)]
      exact ⟨⟨_, rfl⟩, rfl⟩
    · rintro σ H2 ⟨⟨o3, rfl⟩, rfl⟩
      simp only [cDct, rNeD, sDPut, cTup, iZip, rEqD, rInD, rGtS, iDT, tDGet, tDNewT, cSrtD, cDctP, tDGet2, iZipL, rCat, L2.start, iRev, cLst, cMin, rRep, rEqL, rEqNil, cIntB, tDGet2, tDisp, tPairs, r_mt_append, r_mt_pop, rAppend, rPop, rIxT, rCatT, tTry, endT, tDropX, tRetX, tAsgX, tCallX, tRaise, tMsgR, tMsgS, cIsx, cIsxT, clsV, rMulS, r_mt_find, r_mt_join, tSeq, tAsg, gName, gTup, gCons, gNil, tRet, tRetN, tDrop, tNext, tNever, tOp, tUn, tVar, tC, tLst, tTup, tCons, tNil, tFor, tIfS, tAnd, tOr, tNot, tTest, tB, tAndV, tOrV, tNotV, tIf, tCB, tBM, tBM0, tyV, tSl, tPart, tNoPart, tAug, ipI, tChain, tCall, spP, tComp, tYes, capV, LenV, iRng1, iRng2, iStr, tDNewK, iList, iTup, rCat, rIxL, rIxT, rIxS, rEq, rNe, rI, rI0, rU, rIn, rSlS, rSlL, rAddS, rInS, rNotInS, rIsB, rIsNotB, rIsN, rNotN, cLen, cIsi, cAll, cAbs, cStr, cInt, r_mt_startswith, r_mt_upper, scal, List.map, List.replicate, List.length, List.append, List.cons_append, List.nil_append, List.append_nil, List.getElem?_cons_zero, List.getElem?_cons_succ, Option.some.injEq, exists_eq_left', exists_eq_left, V.int.injEq, V.ref.injEq, V.str.injEq, V.bl.injEq, V.ty.injEq, List.cons.injEq, and_true, true_and, and_assoc, exists_and_left, List.set_cons_zero, List.set_cons_succ, Nat.reduceSub, Nat.reduceAdd, decide_eq_true_eq, Bool.not_eq_true', decide_eq_false_iff_not, Int.reduceToNat, Int.reducePow, Int.reduceNeg, Int.reduceMul, Int.reduceAdd, if_true, ite_true, Bool.false_eq_true, ite_false, if_false]
      have d1 := row_dat (K := K) ((show RowAt H' (.ref r) q1 from ⟨r, pl, rfl, t1, u1⟩).same (S.trans S2))
      have d2 := row_dat (K := K) ((show RowAt H' (.ref r2) q1 from ⟨r2, pl2, rfl, t2, u2⟩).same (S.trans S2))
      have k1 := name_ok (h3 q1 (List.mem_of_getElem? hq1))
      have pd : plainD (rowD q1) = true := by simp [rowD, plainD, plainDs, k1]
      have dd : (rowD q1).depth ≤ 64 := by simp [rowD, PyData.depth, PyData.depthAll]
      refine ⟨_, d1, _, d2, pd, pd, dd, dd, fun b hb => ?_⟩
      rw [if_neg (by rw [hb.mpr rfl]; decide)]
      exact ⟨⟨_, _, _, rfl⟩, s.trans (S.trans S2)⟩
  · rintro σ H' ⟨⟨o1, o2, o3, rfl⟩, s⟩
    exact q _ s
theorem rdp__law_alike (kF : KF K) {a b : Addr} {rows : List Row} (h1 : LsAt H a rows) (h2 : LsAt H b rows) (h3 : ∀ q ∈ rows, okRow q) (h4 : rows.length ≤ 500) (q : ∀ H', Same H H' → Q (.bl true) H') :
    rd__law_alike K t { nx := fun _ H' => Q .non H', rt := Q } (L2.start ["found", "due", "one", "other", "number"] [.ref a, .ref b]) H := by
  obtain ⟨xs, hx, rx⟩ := h1
  obtain ⟨ys, hy, ry⟩ := h2
  have lx := rows_len rx
  have ly := rows_len ry
  simp only [rd__law_alike, cDct, rNeD, sDPut, cTup, iZip, rEqD, rInD, rGtS, iDT, tDGet, tDNewT, cSrtD, cDctP, tDGet2, iZipL, rCat, L2.start, iRev, cLst, cMin, rRep, rEqL, rEqNil, cIntB, tDGet2, tDisp, tPairs, r_mt_append, r_mt_pop, rAppend, rPop, rIxT, rCatT, tTry, endT, tDropX, tRetX, tAsgX, tCallX, tRaise, tMsgR, tMsgS, cIsx, cIsxT, clsV, rMulS, r_mt_find, r_mt_join, tSeq, tAsg, gName, gTup, gCons, gNil, tRet, tRetN, tDrop, tNext, tNever, tOp, tUn, tVar, tC, tLst, tTup, tCons, tNil, tFor, tIfS, tAnd, tOr, tNot, tTest, tB, tAndV, tOrV, tNotV, tIf, tCB, tBM, tBM0, tyV, tSl, tPart, tNoPart, tAug, ipI, tChain, tCall, spP, tComp, tYes, capV, LenV, iRng1, iRng2, iStr, tDNewK, iList, iTup, rCat, rIxL, rIxT, rIxS, rEq, rNe, rI, rI0, rU, rIn, rSlS, rSlL, rAddS, rInS, rNotInS, rIsB, rIsNotB, rIsN, rNotN, cLen, cIsi, cAll, cAbs, cStr, cInt, r_mt_startswith, r_mt_upper, scal, List.map, List.replicate, List.length, List.append, List.cons_append, List.nil_append, List.append_nil, List.getElem?_cons_zero, List.getElem?_cons_succ, Option.some.injEq, exists_eq_left', exists_eq_left, V.int.injEq, V.ref.injEq, V.str.injEq, V.bl.injEq, V.ty.injEq, List.cons.injEq, and_true, true_and, and_assoc, exists_and_left, List.set_cons_zero, List.set_cons_succ, Nat.reduceSub, Nat.reduceAdd, decide_eq_true_eq, Bool.not_eq_true', decide_eq_false_iff_not, Int.reduceToNat, Int.reducePow, Int.reduceNeg, Int.reduceMul, Int.reduceAdd, if_true, ite_true, Bool.false_eq_true, ite_false, if_false]
  refine ⟨_, .lst hx, true, kit_same _, ?_⟩
  rw [if_neg (by decide)]
  refine ⟨xs.length, .inl ⟨xs, SqL.of hx, rfl⟩, ys.length, .inl ⟨ys, SqL.of hy, rfl⟩, ?_⟩
  rw [if_neg (by rw [lx, ly]; simp)]
  exact rdp_alike1 kF hx rx hy ry h3 q
theorem LsAt.dat {H : Hp} {a : Addr} {rows : List Row} (h : LsAt H a rows) : Dat K H (.ref a) (.list (rows.map rowD)) := by
  obtain ⟨xs, h1, h2⟩ := h
  exact .lst (SqL.of h1) (rows_dat h2)
def twoD (a b : List Row) : PyData := .list [.list (a.map rowD), .list (b.map rowD)]
theorem two_plain {a b : List Row} (ha : ∀ q ∈ a, okRow q) (hb : ∀ q ∈ b, okRow q) : plainD (twoD a b) = true := by
  have h1 := plain_rows ha
  have h2 := plain_rows hb
  simp [twoD, plainD, plainDs, h1, h2]
theorem two_deep (a b : List Row) : (twoD a b).depth ≤ 64 := by
  have h1 := deep_rows a
  have h2 := deep_rows b
  simp only [twoD, PyData.depth, PyData.depthAll]
  omega
/-- what stands while gifts are laid -/
structure At8 (H : Hp) (a b c ha l1 l2 : Addr) (tab gifts out : List Row) (ps : List Pl) : Prop where
  ta : LsAt H a tab
  gi : LsAt H b gifts
  du : LsAt H c out
  hd : H ha = some (.lst [.ref l1, .ref l2])
  h1 : LsAt H l1 tab
  h2 : LsAt H l2 gifts
  fit : Fits ps (tab ++ gifts)
  tb : IsTab (tab ++ gifts) out
theorem At8.same {H H' : Hp} {a b c ha l1 l2 : Addr} {tab gifts out : List Row} {ps : List Pl} (h : At8 H a b c ha l1 l2 tab gifts out ps) (s : Same H H') : At8 H' a b c ha l1 l2 tab gifts out ps :=
  ⟨h.ta.same s, h.gi.same s, h.du.same s, s _ _ h.hd, h.h1.same s, h.h2.same s, h.fit, h.tb⟩
theorem Fits.left {ps : List Pl} {a b : List Row} (h : Fits ps (a ++ b)) : Fits ps a := h.sub (fun q hq => List.mem_append_left _ hq) (by rw [List.length_append]; omega)
theorem Fits.right {ps : List Pl} {a b : List Row} (h : Fits ps (a ++ b)) : Fits ps b := h.sub (fun q hq => List.mem_append_right _ hq) (by rw [List.length_append]; omega)
theorem At8.handed {H : Hp} {a b c ha l1 l2 : Addr} {tab gifts out : List Row} {ps : List Pl} (h : At8 H a b c ha l1 l2 tab gifts out ps) : Dat K H (.ref ha) (twoD tab gifts) :=
  .lst (SqL.of h.hd) (.cons h.h1.dat (.cons h.h2.dat .nil))
theorem At8.given {H : Hp} {a b c ha l1 l2 p : Addr} {tab gifts out : List Row} {ps : List Pl} (h : At8 H a b c ha l1 l2 tab gifts out ps) (hp : H p = none) : Dat K (upd H p (.lst [.ref a, .ref b])) (.ref p) (twoD tab gifts) :=
  .lst (SqL.of upd_same) (.cons (h.ta.same (isV p hp)).dat (.cons (h.gi.same (isV p hp)).dat .nil))
theorem upd_keeps {H1 H : Hp} {l : Addr} {o : HO} (s : Same H1 H) (fr : H1 l = none) : Same H1 (upd H l o) := fun b u e => by
  rw [upd_ne (ne_of_none e fr)]; exact s _ _ e
theorem rdp_laid6 {a b c ha l1 l2 l m : Addr} {tab gifts out o2 : List Row} {ps : List Pl} {H1 : Hp} (A : At8 H1 a b c ha l1 l2 tab gifts out ps) (s : Same H1 H) (fr : H1 m = none) (hm : LsAt H m o2) (hl : o2.length ≤ 500) (q : ∀ H', Same H1 H' → Q (.bl true) H') :
    rd__law_laid_6 K t { nx := fun _ H' => Q .non H', rt := Q } [some (.ref a), some (.ref b), some (.ref c), some (.ref ha), some (.ref l), some (.ref m)] H := by
  simp only [rd__law_laid_6, cDct, rNeD, sDPut, cTup, iZip, rEqD, rInD, rGtS, iDT, tDGet, tDNewT, cSrtD, cDctP, tDGet2, iZipL, rCat, L2.start, iRev, cLst, cMin, rRep, rEqL, rEqNil, cIntB, tDGet2, tDisp, tPairs, r_mt_append, r_mt_pop, rAppend, rPop, rIxT, rCatT, tTry, endT, tDropX, tRetX, tAsgX, tCallX, tRaise, tMsgR, tMsgS, cIsx, cIsxT, clsV, rMulS, r_mt_find, r_mt_join, tSeq, tAsg, gName, gTup, gCons, gNil, tRet, tRetN, tDrop, tNext, tNever, tOp, tUn, tVar, tC, tLst, tTup, tCons, tNil, tFor, tIfS, tAnd, tOr, tNot, tTest, tB, tAndV, tOrV, tNotV, tIf, tCB, tBM, tBM0, tyV, tSl, tPart, tNoPart, tAug, ipI, tChain, tCall, spP, tComp, tYes, capV, LenV, iRng1, iRng2, iStr, tDNewK, iList, iTup, rCat, rIxL, rIxT, rIxS, rEq, rNe, rI, rI0, rU, rIn, rSlS, rSlL, rAddS, rInS, rNotInS, rIsB, rIsNotB, rIsN, rNotN, cLen, cIsi, cAll, cAbs, cStr, cInt, r_mt_startswith, r_mt_upper, scal, List.map, List.replicate, List.length, List.append, List.cons_append, List.nil_append, List.append_nil, List.getElem?_cons_zero, List.getElem?_cons_succ, Option.some.injEq, exists_eq_left', exists_eq_left, V.int.injEq, V.ref.injEq, V.str.injEq, V.bl.injEq, V.ty.injEq, List.cons.injEq, and_true, true_and, and_assoc, exists_and_left, List.set_cons_zero, List.set_cons_succ, Nat.reduceSub, Nat.reduceAdd, decide_eq_true_eq, Bool.not_eq_true', decide_eq_false_iff_not, Int.reduceToNat, Int.reducePow, Int.reduceNeg, Int.reduceMul, Int.reduceAdd, if_true, ite_true, Bool.false_eq_true, ite_false, if_false]
  obtain ⟨zs, hz, rz⟩ := hm
  have lz := rows_len rz
  refine ⟨.inl ⟨_, SqL.of hz⟩, by decide, fun p hp => ⟨by decide, fun p2 hp2 => ?_⟩⟩
  have sa := isV (o := HO.tup [V.str (Str.ofString "z"), V.int 1]) p hp
  have sb := isV (o := HO.tup [V.ref p, V.int 5]) p2 hp2
  have S2 := s.trans (sa.trans sb)
  refine ⟨zs, sb _ _ (sa _ _ hz), Nat.lt_of_le_of_lt (by omega : zs.length ≤ 500) (by decide), by decide, fun p3 hp3 => ?_⟩
  have S4 := upd_keeps (o := HO.lst (zs ++ [V.ref p2])) S2 fr
  generalize upd (upd (upd H p (HO.tup [V.str (Str.ofString "z"), V.int 1])) p2 (HO.tup [V.ref p, V.int 5])) m (HO.lst (zs ++ [V.ref p2])) = H4 at *
  have A4 := A.same S4
  have S5 := isV (o := HO.lst [V.ref a, V.ref b]) p3 hp3
  have pd := two_plain A.fit.left.ok A.fit.right.ok
  have dd := two_deep tab gifts
  refine ⟨_, (A4.same S5).handed, _, A4.given hp3, pd, pd, dd, dd, fun b hb => ?_⟩
  rw [hb.mpr rfl]
  exact q _ (S4.trans S5)
theorem rdp_laid5 {a b c ha l1 l2 l : Addr} {tab gifts out : List Row} {ps : List Pl} {H1 : Hp} (A : At8 H1 a b c ha l1 l2 tab gifts out ps) (s : Same H1 H) (q : ∀ H', Same H1 H' → Q (.bl true) H') :
    rd__law_laid_5 K t { nx := fun _ H' => Q .non H', rt := Q } [some (.ref a), some (.ref b), some (.ref c), some (.ref ha), some (.ref l), none] H := by
  simp only [rd__law_laid_5, sp_table_of, cDct, rNeD, sDPut, cTup, iZip, rEqD, rInD, rGtS, iDT, tDGet, tDNewT, cSrtD, cDctP, tDGet2, iZipL, rCat, L2.start, iRev, cLst, cMin, rRep, rEqL, rEqNil, cIntB, tDGet2, tDisp, tPairs, r_mt_append, r_mt_pop, rAppend, rPop, rIxT, rCatT, tTry, endT, tDropX, tRetX, tAsgX, tCallX, tRaise, tMsgR, tMsgS, cIsx, cIsxT, clsV, rMulS, r_mt_find, r_mt_join, tSeq, tAsg, gName, gTup, gCons, gNil, tRet, tRetN, tDrop, tNext, tNever, tOp, tUn, tVar, tC, tLst, tTup, tCons, tNil, tFor, tIfS, tAnd, tOr, tNot, tTest, tB, tAndV, tOrV, tNotV, tIf, tCB, tBM, tBM0, tyV, tSl, tPart, tNoPart, tAug, ipI, tChain, tCall, spP, tComp, tYes, capV, LenV, iRng1, iRng2, iStr, tDNewK, iList, iTup, rCat, rIxL, rIxT, rIxS, rEq, rNe, rI, rI0, rU, rIn, rSlS, rSlL, rAddS, rInS, rNotInS, rIsB, rIsNotB, rIsN, rNotN, cLen, cIsi, cAll, cAbs, cStr, cInt, r_mt_startswith, r_mt_upper, scal, List.map, List.replicate, List.length, List.append, List.cons_append, List.nil_append, List.append_nil, List.getElem?_cons_zero, List.getElem?_cons_succ, Option.some.injEq, exists_eq_left', exists_eq_left, V.int.injEq, V.ref.injEq, V.str.injEq, V.bl.injEq, V.ty.injEq, List.cons.injEq, and_true, true_and, and_assoc, exists_and_left, List.set_cons_zero, List.set_cons_succ, Nat.reduceSub, Nat.reduceAdd, decide_eq_true_eq, Bool.not_eq_true', decide_eq_false_iff_not, Int.reduceToNat, Int.reducePow, Int.reduceNeg, Int.reduceMul, Int.reduceAdd, if_true, ite_true, Bool.false_eq_true, ite_false, if_false]
  exact ⟨_, SqL.of (s _ _ A.hd), _, rfl, l1, rfl, tab, A.h1.same s, ps, A.fit.left, fun m o2 H' s2 fr hm ti => rdp_laid6 A (s.trans s2) (fresh_of s fr) hm (A.fit.left.tab ti).2.1 q⟩
theorem rdp_laid3 {a b c ha l1 l2 l : Addr} {tab gifts out o2 : List Row} {ps : List Pl} {H1 : Hp} (A : At8 H1 a b c ha l1 l2 tab gifts out ps) (s : Same H1 H) (fr : H1 l = none) (hm : LsAt H l o2) (hl : o2.length ≤ 500) (q : ∀ H', Same H1 H' → Q (.bl true) H') :
    rd__law_laid_3 K t { nx := fun _ H' => Q .non H', rt := Q } [some (.ref a), some (.ref b), some (.ref c), some (.ref ha), some (.ref l), none] H := by
  simp only [rd__law_laid_3, cDct, rNeD, sDPut, cTup, iZip, rEqD, rInD, rGtS, iDT, tDGet, tDNewT, cSrtD, cDctP, tDGet2, iZipL, rCat, L2.start, iRev, cLst, cMin, rRep, rEqL, rEqNil, cIntB, tDGet2, tDisp, tPairs, r_mt_append, r_mt_pop, rAppend, rPop, rIxT, rCatT, tTry, endT, tDropX, tRetX, tAsgX, tCallX, tRaise, tMsgR, tMsgS, cIsx, cIsxT, clsV, rMulS, r_mt_find, r_mt_join, tSeq, tAsg, gName, gTup, gCons, gNil, tRet, tRetN, tDrop, tNext, tNever, tOp, tUn, tVar, tC, tLst, tTup, tCons, tNil, tFor, tIfS, tAnd, tOr, tNot, tTest, tB, tAndV, tOrV, tNotV, tIf, tCB, tBM, tBM0, tyV, tSl, tPart, tNoPart, tAug, ipI, tChain, tCall, spP, tComp, tYes, capV, LenV, iRng1, iRng2, iStr, tDNewK, iList, iTup, rCat, rIxL, rIxT, rIxS, rEq, rNe, rI, rI0, rU, rIn, rSlS, rSlL, rAddS, rInS, rNotInS, rIsB, rIsNotB, rIsN, rNotN, cLen, cIsi, cAll, cAbs, cStr, cInt, r_mt_startswith, r_mt_upper, scal, List.map, List.replicate, List.length, List.append, List.cons_append, List.nil_append, List.append_nil, List.getElem?_cons_zero, List.getElem?_cons_succ, Option.some.injEq, exists_eq_left', exists_eq_left, V.int.injEq, V.ref.injEq, V.str.injEq, V.bl.injEq, V.ty.injEq, List.cons.injEq, and_true, true_and, and_assoc, exists_and_left, List.set_cons_zero, List.set_cons_succ, Nat.reduceSub, Nat.reduceAdd, decide_eq_true_eq, Bool.not_eq_true', decide_eq_false_iff_not, Int.reduceToNat, Int.reducePow, Int.reduceNeg, Int.reduceMul, Int.reduceAdd, if_true, ite_true, Bool.false_eq_true, ite_false, if_false]
  obtain ⟨zs, hz, rz⟩ := hm
  have lz := rows_len rz
  refine ⟨.inl ⟨_, SqL.of hz⟩, by decide, fun p hp => ⟨by decide, fun p2 hp2 => ?_⟩⟩
  have sa := isV (o := HO.tup [V.str (Str.ofString "z"), V.int 1]) p hp
  have sb := isV (o := HO.tup [V.ref p, V.int 5]) p2 hp2
  have S2 := s.trans (sa.trans sb)
  refine ⟨zs, sb _ _ (sa _ _ hz), Nat.lt_of_le_of_lt (by omega : zs.length ≤ 500) (by decide), by decide, fun p3 hp3 => ?_⟩
  have S4 := upd_keeps (o := HO.lst (zs ++ [V.ref p2])) S2 fr
  generalize upd (upd (upd H p (HO.tup [V.str (Str.ofString "z"), V.int 1])) p2 (HO.tup [V.ref p, V.int 5])) l (HO.lst (zs ++ [V.ref p2])) = H4 at *
  have A4 := A.same S4
  have S5 := isV (o := HO.lst [V.ref a, V.ref b]) p3 hp3
  have pd := two_plain A.fit.left.ok A.fit.right.ok
  have dd := two_deep tab gifts
  refine ⟨_, (A4.same S5).handed, _, A4.given hp3, pd, pd, dd, dd, fun b hb => ?_⟩
  rw [if_neg (by rw [hb.mpr rfl]; decide)]
  exact rdp_laid5 A (S4.trans S5) q
theorem rdp_laid2 {a b c ha l1 l2 l : Addr} {tab gifts out : List Row} {ps : List Pl} {H1 : Hp} (A : At8 H1 a b c ha l1 l2 tab gifts out ps) (s : Same H1 H) (fr : H1 l = none) (hm : LsAt H l out) (q : ∀ H', Same H1 H' → Q (.bl true) H') :
    rd__law_laid_2 K t { nx := fun _ H' => Q .non H', rt := Q } [some (.ref a), some (.ref b), some (.ref c), some (.ref ha), some (.ref l), none] H := by
  simp only [rd__law_laid_2, sp__law_alike, cDct, rNeD, sDPut, cTup, iZip, rEqD, rInD, rGtS, iDT, tDGet, tDNewT, cSrtD, cDctP, tDGet2, iZipL, rCat, L2.start, iRev, cLst, cMin, rRep, rEqL, rEqNil, cIntB, tDGet2, tDisp, tPairs, r_mt_append, r_mt_pop, rAppend, rPop, rIxT, rCatT, tTry, endT, tDropX, tRetX, tAsgX, tCallX, tRaise, tMsgR, tMsgS, cIsx, cIsxT, clsV, rMulS, r_mt_find, r_mt_join, tSeq, tAsg, gName, gTup, gCons, gNil, tRet, tRetN, tDrop, tNext, tNever, tOp, tUn, tVar, tC, tLst, tTup, tCons, tNil, tFor, tIfS, tAnd, tOr, tNot, tTest, tB, tAndV, tOrV, tNotV, tIf, tCB, tBM, tBM0, tyV, tSl, tPart, tNoPart, tAug, ipI, tChain, tCall, spP, tComp, tYes, capV, LenV, iRng1, iRng2, iStr, tDNewK, iList, iTup, rCat, rIxL, rIxT, rIxS, rEq, rNe, rI, rI0, rU, rIn, rSlS, rSlL, rAddS, rInS, rNotInS, rIsB, rIsNotB, rIsN, rNotN, cLen, cIsi, cAll, cAbs, cStr, cInt, r_mt_startswith, r_mt_upper, scal, List.map, List.replicate, List.length, List.append, List.cons_append, List.nil_append, List.append_nil, List.getElem?_cons_zero, List.getElem?_cons_succ, Option.some.injEq, exists_eq_left', exists_eq_left, V.int.injEq, V.ref.injEq, V.str.injEq, V.bl.injEq, V.ty.injEq, List.cons.injEq, and_true, true_and, and_assoc, exists_and_left, List.set_cons_zero, List.set_cons_succ, Nat.reduceSub, Nat.reduceAdd, decide_eq_true_eq, Bool.not_eq_true', decide_eq_false_iff_not, Int.reduceToNat, Int.reducePow, Int.reduceNeg, Int.reduceMul, Int.reduceAdd, if_true, ite_true, Bool.false_eq_true, ite_false, if_false]
  have pd := two_plain A.fit.left.ok A.fit.right.ok
  have dd := two_deep tab gifts
  refine ⟨by decide, fun p hp => ?_⟩
  have A4 := A.same s
  have S5 := isV (o := HO.lst [V.ref a, V.ref b]) p hp
  refine ⟨_, (A4.same S5).handed, _, A4.given hp, pd, pd, dd, dd, fun b hb => ?_⟩
  rw [if_neg (by rw [hb.mpr rfl]; decide)]
  have fo := A.fit.tab A.tb
  refine ⟨out, hm.same S5, (A4.same S5).du, fo.ok, fo.2.1, fun H' s' => ?_⟩
  rw [if_neg (by decide)]
  exact rdp_laid3 A (s.trans (S5.trans s')) fr (hm.same (S5.trans s')) fo.2.1 q
theorem rdp_laid1 {a b c ha l1 l2 : Addr} {tab gifts out : List Row} {ps : List Pl} (A : At8 H a b c ha l1 l2 tab gifts out ps) (q : ∀ H', Same H H' → Q (.bl true) H') :
    rd__law_laid_1 K t { nx := fun _ H' => Q .non H', rt := Q } [some (.ref a), some (.ref b), some (.ref c), some (.ref ha), none, none] H := by
  simp only [rd__law_laid_1, sp_laid_on, cDct, rNeD, sDPut, cTup, iZip, rEqD, rInD, rGtS, iDT, tDGet, tDNewT, cSrtD, cDctP, tDGet2, iZipL, rCat, L2.start, iRev, cLst, cMin, rRep, rEqL, rEqNil, cIntB, tDGet2, tDisp, tPairs, r_mt_append, r_mt_pop, rAppend, rPop, rIxT, rCatT, tTry, endT, tDropX, tRetX, tAsgX, tCallX, tRaise, tMsgR, tMsgS, cIsx, cIsxT, clsV, rMulS, r_mt_find, r_mt_join, tSeq, tAsg, gName, gTup, gCons, gNil, tRet, tRetN, tDrop, tNext, tNever, tOp, tUn, tVar, tC, tLst, tTup, tCons, tNil, tFor, tIfS, tAnd, tOr, tNot, tTest, tB, tAndV, tOrV, tNotV, tIf, tCB, tBM, tBM0, tyV, tSl, tPart, tNoPart, tAug, ipI, tChain, tCall, spP, tComp, tYes, capV, LenV, iRng1, iRng2, iStr, tDNewK, iList, iTup, rCat, rIxL, rIxT, rIxS, rEq, rNe, rI, rI0, rU, rIn, rSlS, rSlL, rAddS, rInS, rNotInS, rIsB, rIsNotB, rIsN, rNotN, cLen, cIsi, cAll, cAbs, cStr, cInt, r_mt_startswith, r_mt_upper, scal, List.map, List.replicate, List.length, List.append, List.cons_append, List.nil_append, List.append_nil, List.getElem?_cons_zero, List.getElem?_cons_succ, Option.some.injEq, exists_eq_left', exists_eq_left, V.int.injEq, V.ref.injEq, V.str.injEq, V.bl.injEq, V.ty.injEq, List.cons.injEq, and_true, true_and, and_assoc, exists_and_left, List.set_cons_zero, List.set_cons_succ, Nat.reduceSub, Nat.reduceAdd, decide_eq_true_eq, Bool.not_eq_true', decide_eq_false_iff_not, Int.reduceToNat, Int.reducePow, Int.reduceNeg, Int.reduceMul, Int.reduceAdd, if_true, ite_true, Bool.false_eq_true, ite_false, if_false]
  refine ⟨_, SqL.of A.hd, _, rfl, _, SqL.of A.hd, _, rfl, l1, rfl, l2, rfl, tab, A.h1, gifts, A.h2, ps, A.fit, fun l o2 H' s fr hl ti => ?_⟩
  have e := tab_uniq A.tb ti
  subst e
  exact rdp_laid2 A s fr hl q
theorem rdp__law_laid {a b c : Addr} {tab gifts out : List Row} {ps : List Pl} (h1 : LsAt H a tab) (h2 : LsAt H b gifts) (h3 : LsAt H c out) (h4 : Fits ps (tab ++ gifts)) (h5 : IsTab (tab ++ gifts) out) (q : ∀ H', Same H H' → Q (.bl true) H') :
    rd__law_laid K t { nx := fun _ H' => Q .non H', rt := Q } (L2.start ["table", "gifts", "due", "handed", "found", "made"] [.ref a, .ref b, .ref c]) H := by
  simp only [rd__law_laid, cDct, rNeD, sDPut, cTup, iZip, rEqD, rInD, rGtS, iDT, tDGet, tDNewT, cSrtD, cDctP, tDGet2, iZipL, rCat, L2.start, iRev, cLst, cMin, rRep, rEqL, rEqNil, cIntB, tDGet2, tDisp, tPairs, r_mt_append, r_mt_pop, rAppend, rPop, rIxT, rCatT, tTry, endT, tDropX, tRetX, tAsgX, tCallX, tRaise, tMsgR, tMsgS, cIsx, cIsxT, clsV, rMulS, r_mt_find, r_mt_join, tSeq, tAsg, gName, gTup, gCons, gNil, tRet, tRetN, tDrop, tNext, tNever, tOp, tUn, tVar, tC, tLst, tTup, tCons, tNil, tFor, tIfS, tAnd, tOr, tNot, tTest, tB, tAndV, tOrV, tNotV, tIf, tCB, tBM, tBM0, tyV, tSl, tPart, tNoPart, tAug, ipI, tChain, tCall, spP, tComp, tYes, capV, LenV, iRng1, iRng2, iStr, tDNewK, iList, iTup, rCat, rIxL, rIxT, rIxS, rEq, rNe, rI, rI0, rU, rIn, rSlS, rSlL, rAddS, rInS, rNotInS, rIsB, rIsNotB, rIsN, rNotN, cLen, cIsi, cAll, cAbs, cStr, cInt, r_mt_startswith, r_mt_upper, scal, List.map, List.replicate, List.length, List.append, List.cons_append, List.nil_append, List.append_nil, List.getElem?_cons_zero, List.getElem?_cons_succ, Option.some.injEq, exists_eq_left', exists_eq_left, V.int.injEq, V.ref.injEq, V.str.injEq, V.bl.injEq, V.ty.injEq, List.cons.injEq, and_true, true_and, and_assoc, exists_and_left, List.set_cons_zero, List.set_cons_succ, Nat.reduceSub, Nat.reduceAdd, decide_eq_true_eq, Bool.not_eq_true', decide_eq_false_iff_not, Int.reduceToNat, Int.reducePow, Int.reduceNeg, Int.reduceMul, Int.reduceAdd, if_true, ite_true, Bool.false_eq_true, ite_false, if_false]
  obtain ⟨xs, hx, rx⟩ := h1
  obtain ⟨ys, hy, ry⟩ := h2
  refine ⟨xs, .inl (SqL.of hx), fun l1 hl1 => ?_⟩
  have s1 := isV (o := HO.lst xs) l1 hl1
  refine ⟨ys, .inl (SqL.of (s1 _ _ hy)), fun l2 hl2 => ⟨by decide, fun p hp => ?_⟩⟩
  have s2 := isV (o := HO.lst ys) l2 hl2
  have s3 := isV (o := HO.lst [V.ref l1, V.ref l2]) p hp
  have S := s1.trans (s2.trans s3)
  exact rdp_laid1 ⟨⟨xs, S _ _ hx, rows_mono S rx⟩, ⟨ys, S _ _ hy, rows_mono S ry⟩, h3.same S, upd_same, ⟨xs, s3 _ _ (s2 _ _ upd_same), rows_mono S rx⟩, ⟨ys, s3 _ _ upd_same, rows_mono S ry⟩, h4, h5⟩ fun H' s' => q H' (S.trans s')
/-- what stands in the law once the gifts are there -/
structure AtL (K : PySem.W.Frag) (H : Hp) (a tb gi du : Addr) (ns : List Int) (tab gifts due : List Row) (ps : List Pl) : Prop where
  sc : SqL K H a (ns.map V.int)
  hn : ns.length ≤ 63
  ta : LsAt H tb tab
  gi : LsAt H gi gifts
  du : LsAt H du due
  lt : tab.length ≤ 63
  lg : gifts.length ≤ 63
  fit : Fits ps (tab ++ gifts)
  nt : IsTab tab tab
  nd : IsTab (tab ++ gifts) due
theorem AtL.same {H H' : Hp} {a tb gi du : Addr} {ns : List Int} {tab gifts due : List Row} {ps : List Pl} (h : AtL K H a tb gi du ns tab gifts due ps) (s : Same H H') : AtL K H' a tb gi du ns tab gifts due ps :=
  ⟨h.sc.mono s, h.hn, h.ta.same s, h.gi.same s, h.du.same s, h.lt, h.lg, h.fit, h.nt, h.nd⟩
def l10I (a nm tb gi du am p : Addr) (mo : Int) (cu : Nat) (H : Hp) (i : Nat) (σ : St) (H' : Hp) : Prop := (∃ o1 o2, σ = [some (.ref a), some (.ref nm), some (.int mo), some (.ref tb), some (.ref gi), some (.ref du), some (.int cu), some (.ref am), some (.ref p), o1, o2]) ∧ Same H H'
theorem rdp_law10 {a nm tb gi du am : Addr} {mo : Int} {cu : Nat} {ns : List Int} {tab gifts due : List Row} {ps : List Pl} (A : AtL K H a tb gi du ns tab gifts due ps) (hc : cu ≤ gifts.length) (q : ∀ H', Q (.bl true) H') :
    rd_law_10 K t { nx := fun _ H' => Q .non H', rt := Q } [some (.ref a), some (.ref nm), some (.int mo), some (.ref tb), some (.ref gi), some (.ref du), some (.int cu), some (.ref am), none, none, none] H := by
  simp only [rd_law_10, sp_stands, cDct, rNeD, sDPut, cTup, iZip, rEqD, rInD, rGtS, iDT, tDGet, tDNewT, cSrtD, cDctP, tDGet2, iZipL, rCat, L2.start, iRev, cLst, cMin, rRep, rEqL, rEqNil, cIntB, tDGet2, tDisp, tPairs, r_mt_append, r_mt_pop, rAppend, rPop, rIxT, rCatT, tTry, endT, tDropX, tRetX, tAsgX, tCallX, tRaise, tMsgR, tMsgS, cIsx, cIsxT, clsV, rMulS, r_mt_find, r_mt_join, tSeq, tAsg, gName, gTup, gCons, gNil, tRet, tRetN, tDrop, tNext, tNever, tOp, tUn, tVar, tC, tLst, tTup, tCons, tNil, tFor, tIfS, tAnd, tOr, tNot, tTest, tB, tAndV, tOrV, tNotV, tIf, tCB, tBM, tBM0, tyV, tSl, tPart, tNoPart, tAug, ipI, tChain, tCall, spP, tComp, tYes, capV, LenV, iRng1, iRng2, iStr, tDNewK, iList, iTup, rCat, rIxL, rIxT, rIxS, rEq, rNe, rI, rI0, rU, rIn, rSlS, rSlL, rAddS, rInS, rNotInS, rIsB, rIsNotB, rIsN, rNotN, cLen, cIsi, cAll, cAbs, cStr, cInt, r_mt_startswith, r_mt_upper, scal, List.map, List.replicate, List.length, List.append, List.cons_append, List.nil_append, List.append_nil, List.getElem?_cons_zero, List.getElem?_cons_succ, Option.some.injEq, exists_eq_left', exists_eq_left, V.int.injEq, V.ref.injEq, V.str.injEq, V.bl.injEq, V.ty.injEq, List.cons.injEq, and_true, true_and, and_assoc, exists_and_left, List.set_cons_zero, List.set_cons_succ, Nat.reduceSub, Nat.reduceAdd, decide_eq_true_eq, Bool.not_eq_true', decide_eq_false_iff_not, Int.reduceToNat, Int.reducePow, Int.reduceNeg, Int.reduceMul, Int.reduceAdd, if_true, ite_true, Bool.false_eq_true, ite_false, if_false]
  obtain ⟨zs, hz, rz⟩ := A.du
  obtain ⟨gs, hg, rg⟩ := A.gi
  obtain ⟨ts, ht, rt⟩ := A.ta
  have lg := rows_len rg
  have lt := rows_len rt
  have fd := A.fit.tab A.nd
  have l1 := A.lg
  have l2 := A.lt
  refine ⟨zs, hz, due, rz, by have := fd.2.1; omega, fun p hp => ?_⟩
  have s1 := isV (o := HO.dT (dOf due)) p hp
  refine ⟨gs, SqL.of (s1 _ _ hg), fun p1 hp1 => ?_⟩
  rw [cutV_from gs cu (by omega)] at *
  have s2 := isV (o := HO.lst (gs.drop cu)) p1 hp1
  refine ⟨gs.drop cu, upd_same, ts, s2 _ _ (s1 _ _ ht), Nat.le_trans (by rw [List.length_drop]; omega : _ ≤ 500) (by decide), fun p2 hp2 => ?_⟩
  have s3 := isV (o := HO.lst (gs.drop cu ++ ts)) p2 hp2
  have h3 : upd (upd (upd H p (HO.dT (dOf due))) p1 (HO.lst (gs.drop cu))) p2 (HO.lst (gs.drop cu ++ ts)) p2 = some (.lst (gs.drop cu ++ ts)) := upd_same
  have hd3 := s3 _ _ (s2 _ _ (show upd H p (HO.dT (dOf due)) p = some (.dT (dOf due)) from upd_same))
  have S := s1.trans (s2.trans s3)
  generalize upd (upd (upd H p (HO.dT (dOf due))) p1 (HO.lst (gs.drop cu))) p2 (HO.lst (gs.drop cu ++ ts)) = H3 at *
  have R : RowsAt H3 (gs.drop cu ++ ts) (gifts.drop cu ++ tab) := rows_mono S (rows_app rt (rows_drop cu rg))
  have D3 : LsAt H3 du due := LsAt.same ⟨zs, hz, rz⟩ S
  refine ⟨⟨_, SqL.of h3⟩, loop_list (gs.drop cu ++ ts) (l10I a nm tb gi du am p mo cu H3) ⟨⟨_, _, rfl⟩, Same.refl H3⟩ (fun i σ H' z => SqL.of (z.2 _ _ h3)) ?_ ?_⟩
  · rintro i v σ H' hv ⟨⟨o1, o2, rfl⟩, s⟩
    obtain ⟨q1, hq1, r, pl, rfl, t1, u1⟩ := rows_get (rows_mono s R) hv
    simp only [cDct, rNeD, sDPut, cTup, iZip, rEqD, rInD, rGtS, iDT, tDGet, tDNewT, cSrtD, cDctP, tDGet2, iZipL, rCat, L2.start, iRev, cLst, cMin, rRep, rEqL, rEqNil, cIntB, tDGet2, tDisp, tPairs, r_mt_append, r_mt_pop, rAppend, rPop, rIxT, rCatT, tTry, endT, tDropX, tRetX, tAsgX, tCallX, tRaise, tMsgR, tMsgS, cIsx, cIsxT, clsV, rMulS, r_mt_find, r_mt_join, tSeq, tAsg, gName, gTup, gCons, gNil, tRet, tRetN, tDrop, tNext, tNever, tOp, tUn, tVar, tC, tLst, tTup, tCons, tNil, tFor, tIfS, tAnd, tOr, tNot, tTest, tB, tAndV, tOrV, tNotV, tIf, tCB, tBM, tBM0, tyV, tSl, tPart, tNoPart, tAug, ipI, tChain, tCall, spP, tComp, tYes, capV, LenV, iRng1, iRng2, iStr, tDNewK, iList, iTup, rCat, rIxL, rIxT, rIxS, rEq, rNe, rI, rI0, rU, rIn, rSlS, rSlL, rAddS, rInS, rNotInS, rIsB, rIsNotB, rIsN, rNotN, cLen, cIsi, cAll, cAbs, cStr, cInt, r_mt_startswith, r_mt_upper, scal, List.map, List.replicate, List.length, List.append, List.cons_append, List.nil_append, List.append_nil, List.getElem?_cons_zero, List.getElem?_cons_succ, Option.some.injEq, exists_eq_left', exists_eq_left, V.int.injEq, V.ref.injEq, V.str.injEq, V.bl.injEq, V.ty.injEq, List.cons.injEq, and_true, true_and, and_assoc, exists_and_left, List.set_cons_zero, List.set_cons_succ, Nat.reduceSub, Nat.reduceAdd, decide_eq_true_eq, Bool.not_eq_true', decide_eq_false_iff_not, Int.reduceToNat, Int.reducePow, Int.reduceNeg, Int.reduceMul, Int.reduceAdd, if_true, ite_true, Bool.false_eq_true, ite_false, if_false]
    refine ⟨_, SqT.of t1, rfl, _, _, rfl, _, _, rfl, rfl, ?_⟩
    simp only [cDct, rNeD, sDPut, cTup, iZip, rEqD, rInD, rGtS, iDT, tDGet, tDNewT, cSrtD, cDctP, tDGet2, iZipL, rCat, L2.start, iRev, cLst, cMin, rRep, rEqL, rEqNil, cIntB, tDGet2, tDisp, tPairs, r_mt_append, r_mt_pop, rAppend, rPop, rIxT, rCatT, tTry, endT, tDropX, tRetX, tAsgX, tCallX, tRaise, tMsgR, tMsgS, cIsx, cIsxT, clsV, rMulS, r_mt_find, r_mt_join, tSeq, tAsg, gName, gTup, gCons, gNil, tRet, tRetN, tDrop, tNext, tNever, tOp, tUn, tVar, tC, tLst, tTup, tCons, tNil, tFor, tIfS, tAnd, tOr, tNot, tTest, tB, tAndV, tOrV, tNotV, tIf, tCB, tBM, tBM0, tyV, tSl, tPart, tNoPart, tAug, ipI, tChain, tCall, spP, tComp, tYes, capV, LenV, iRng1, iRng2, iStr, tDNewK, iList, iTup, rCat, rIxL, rIxT, rIxS, rEq, rNe, rI, rI0, rU, rIn, rSlS, rSlL, rAddS, rInS, rNotInS, rIsB, rIsNotB, rIsN, rNotN, cLen, cIsi, cAll, cAbs, cStr, cInt, r_mt_startswith, r_mt_upper, scal, List.map, List.replicate, List.length, List.append, List.cons_append, List.nil_append, List.append_nil, List.getElem?_cons_zero, List.getElem?_cons_succ, Option.some.injEq, exists_eq_left', exists_eq_left, V.int.injEq, V.ref.injEq, V.str.injEq, V.bl.injEq, V.ty.injEq, List.cons.injEq, and_true, true_and, and_assoc, exists_and_left, List.set_cons_zero, List.set_cons_succ, Nat.reduceSub, Nat.reduceAdd, decide_eq_true_eq, Bool.not_eq_true', decide_eq_false_iff_not, Int.reduceToNat, Int.reducePow, Int.reduceNeg, Int.reduceMul, Int.reduceAdd, if_true, ite_true, Bool.false_eq_true, ite_false, if_false]
    refine ⟨due, D3.same s, fd.2.1, q1.1, u1, fun H4 s4 => ⟨.inr ⟨dOf due, .inl (s4 _ _ (s _ _ hd3))⟩, ?_⟩⟩
    have g : DGet H4 p (.ref pl) ((lastW due q1.1).map V.int) := .inr ⟨dOf due, plKey q1.1, pl, .inl (s4 _ _ (s _ _ hd3)), rfl, s4 _ _ u1, (val_dOf due q1.1).symm⟩
    refine ⟨_, g, ?_⟩
    cases e : lastW due q1.1 with
    | none => exact ⟨rfl, by rw [if_neg (by decide)]; exact ⟨⟨_, _, rfl⟩, s.trans s4⟩⟩
    | some w => exact ⟨rfl, by rw [if_neg (by simp)]; exact ⟨⟨_, _, rfl⟩, s.trans s4⟩⟩
  · rintro σ H' ⟨⟨o1, o2, rfl⟩, s⟩
    exact q _
theorem rdp_law9 {a nm tb gi du am : Addr} {mo : Int} {cu : Nat} {ns : List Int} {tab gifts due : List Row} {ps : List Pl} (A : AtL K H a tb gi du ns tab gifts due ps) (hc : cu ≤ gifts.length) (q : ∀ H', Q (.bl true) H') :
    rd_law_9 K t { nx := fun _ H' => Q .non H', rt := Q } [some (.ref a), some (.ref nm), some (.int mo), some (.ref tb), some (.ref gi), some (.ref du), some (.int cu), some (.ref am), none, none, none] H := by
  simp only [rd_law_9, sp__law_laid, sp__law_due, sp__law_alike, sp_table_of, cDct, rNeD, sDPut, cTup, iZip, rEqD, rInD, rGtS, iDT, tDGet, tDNewT, cSrtD, cDctP, tDGet2, iZipL, rCat, L2.start, iRev, cLst, cMin, rRep, rEqL, rEqNil, cIntB, tDGet2, tDisp, tPairs, r_mt_append, r_mt_pop, rAppend, rPop, rIxT, rCatT, tTry, endT, tDropX, tRetX, tAsgX, tCallX, tRaise, tMsgR, tMsgS, cIsx, cIsxT, clsV, rMulS, r_mt_find, r_mt_join, tSeq, tAsg, gName, gTup, gCons, gNil, tRet, tRetN, tDrop, tNext, tNever, tOp, tUn, tVar, tC, tLst, tTup, tCons, tNil, tFor, tIfS, tAnd, tOr, tNot, tTest, tB, tAndV, tOrV, tNotV, tIf, tCB, tBM, tBM0, tyV, tSl, tPart, tNoPart, tAug, ipI, tChain, tCall, spP, tComp, tYes, capV, LenV, iRng1, iRng2, iStr, tDNewK, iList, iTup, rCat, rIxL, rIxT, rIxS, rEq, rNe, rI, rI0, rU, rIn, rSlS, rSlL, rAddS, rInS, rNotInS, rIsB, rIsNotB, rIsN, rNotN, cLen, cIsi, cAll, cAbs, cStr, cInt, r_mt_startswith, r_mt_upper, scal, List.map, List.replicate, List.length, List.append, List.cons_append, List.nil_append, List.append_nil, List.getElem?_cons_zero, List.getElem?_cons_succ, Option.some.injEq, exists_eq_left', exists_eq_left, V.int.injEq, V.ref.injEq, V.str.injEq, V.bl.injEq, V.ty.injEq, List.cons.injEq, and_true, true_and, and_assoc, exists_and_left, List.set_cons_zero, List.set_cons_succ, Nat.reduceSub, Nat.reduceAdd, decide_eq_true_eq, Bool.not_eq_true', decide_eq_false_iff_not, Int.reduceToNat, Int.reducePow, Int.reduceNeg, Int.reduceMul, Int.reduceAdd, if_true, ite_true, Bool.false_eq_true, ite_false, if_false]
  have fg := A.fit.right
  refine ⟨Nat.zero_le _, fun p hp => ?_⟩
  have s1 := isV (o := HO.lst []) p hp
  refine ⟨gifts, A.gi.same s1, ps, fg, fun l out H' s fr hl ti => ?_⟩
  have A2 := A.same (s1.trans s)
  refine ⟨[], ⟨[], s _ _ upd_same, .nil⟩, gifts, A2.gi, out, hl, ps, fg, ti, fun H3 s3 => ?_⟩
  rw [if_neg (by decide)]
  have A3 := A2.same s3
  obtain ⟨gs, hg, rg⟩ := A3.gi
  refine ⟨gs, .inl (SqL.of hg), fun l2 hl2 => ?_⟩
  have s4 := isV (o := HO.lst gs) l2 hl2
  refine ⟨gifts, ⟨gs, upd_same, rows_mono s4 rg⟩, ps, fg, fun l3 o3 H4 s5 fr5 hl3 ti3 => ?_⟩
  have A4 := A3.same (s4.trans s5)
  refine ⟨gifts, A4.gi, ps, fg, fun l4 o4 H5 s6 fr6 hl4 ti4 => ?_⟩
  have e := tab_uniq ti3 ti4
  subst e
  have fo := fg.tab ti3
  refine ⟨o3, hl3.same s6, hl4, fo.ok, fo.2.1, fun H6 s7 => ?_⟩
  rw [if_neg (by decide)]
  exact rdp_law10 (A4.same (s6.trans s7)) hc q
theorem rdp_law8 {a nm tb gi du am : Addr} {mo : Int} {cu : Nat} {ns : List Int} {tab gifts due amid : List Row} {ps : List Pl} (A : AtL K H a tb gi du ns tab gifts due ps) (hc : cu ≤ gifts.length) (ha : LsAt H am amid) (hm : IsTab (tab ++ gifts.take cu) amid) (q : ∀ H', Q (.bl true) H') :
    rd_law_8 K t { nx := fun _ H' => Q .non H', rt := Q } [some (.ref a), some (.ref nm), some (.int mo), some (.ref tb), some (.ref gi), some (.ref du), some (.int cu), some (.ref am), none, none, none] H := by
  simp only [rd_law_8, sp__law_laid, sp__law_due, sp__law_alike, sp_table_of, cDct, rNeD, sDPut, cTup, iZip, rEqD, rInD, rGtS, iDT, tDGet, tDNewT, cSrtD, cDctP, tDGet2, iZipL, rCat, L2.start, iRev, cLst, cMin, rRep, rEqL, rEqNil, cIntB, tDGet2, tDisp, tPairs, r_mt_append, r_mt_pop, rAppend, rPop, rIxT, rCatT, tTry, endT, tDropX, tRetX, tAsgX, tCallX, tRaise, tMsgR, tMsgS, cIsx, cIsxT, clsV, rMulS, r_mt_find, r_mt_join, tSeq, tAsg, gName, gTup, gCons, gNil, tRet, tRetN, tDrop, tNext, tNever, tOp, tUn, tVar, tC, tLst, tTup, tCons, tNil, tFor, tIfS, tAnd, tOr, tNot, tTest, tB, tAndV, tOrV, tNotV, tIf, tCB, tBM, tBM0, tyV, tSl, tPart, tNoPart, tAug, ipI, tChain, tCall, spP, tComp, tYes, capV, LenV, iRng1, iRng2, iStr, tDNewK, iList, iTup, rCat, rIxL, rIxT, rIxS, rEq, rNe, rI, rI0, rU, rIn, rSlS, rSlL, rAddS, rInS, rNotInS, rIsB, rIsNotB, rIsN, rNotN, cLen, cIsi, cAll, cAbs, cStr, cInt, r_mt_startswith, r_mt_upper, scal, List.map, List.replicate, List.length, List.append, List.cons_append, List.nil_append, List.append_nil, List.getElem?_cons_zero, List.getElem?_cons_succ, Option.some.injEq, exists_eq_left', exists_eq_left, V.int.injEq, V.ref.injEq, V.str.injEq, V.bl.injEq, V.ty.injEq, List.cons.injEq, and_true, true_and, and_assoc, exists_and_left, List.set_cons_zero, List.set_cons_succ, Nat.reduceSub, Nat.reduceAdd, decide_eq_true_eq, Bool.not_eq_true', decide_eq_false_iff_not, Int.reduceToNat, Int.reducePow, Int.reduceNeg, Int.reduceMul, Int.reduceAdd, if_true, ite_true, Bool.false_eq_true, ite_false, if_false]
  obtain ⟨gs, hg, rg⟩ := A.gi
  obtain ⟨ts, ht, rt⟩ := A.ta
  have lg := rows_len rg
  have lt := rows_len rt
  have l1 := A.lg
  have l2 := A.lt
  have fc : Fits ps (tab ++ gifts.take cu) := A.fit.sub (fun q hq => (List.mem_append.mp hq).elim (fun h => List.mem_append_left _ h) fun h => List.mem_append_right _ (List.mem_of_mem_take h)) (by rw [List.length_append, List.length_append, List.length_take]; omega)
  have fa := fc.tab hm
  have la := fc.len hm
  have fd : Fits ps (gifts.drop cu) := A.fit.right.sub (fun q hq => List.mem_of_mem_drop hq) (by rw [List.length_drop]; omega)
  refine ⟨gs, SqL.of hg, fun p hp => ?_⟩
  rw [cutV_to gs cu (by omega)] at *
  have s1 := isV (o := HO.lst (gs.take cu)) p hp
  refine ⟨ts, s1 _ _ ht, gs.take cu, upd_same, Nat.le_trans (by rw [List.length_take]; omega : _ ≤ 500) (by decide), fun p1 hp1 => ?_⟩
  have s2 := isV (o := HO.lst (ts ++ gs.take cu)) p1 hp1
  have S2 := s1.trans s2
  refine ⟨tab ++ gifts.take cu, ⟨_, upd_same, rows_mono S2 (rows_app (rows_take cu rg) rt)⟩, ps, fc, fun l out H' s3 fr hl ti => ?_⟩
  have e := tab_uniq hm ti
  subst e
  have S3 := S2.trans s3
  refine ⟨amid, ha.same S3, hl, fa.ok, fa.2.1, fun H4 s4 => ?_⟩
  rw [if_neg (by decide)]
  have S4 := S3.trans s4
  have A4 := A.same S4
  refine ⟨gs, SqL.of (S4 _ _ hg), fun p5 hp5 => ?_⟩
  rw [cutV_from gs cu (by omega)] at *
  have s5 := isV (o := HO.lst (gs.drop cu)) p5 hp5
  have A5 := A4.same s5
  refine ⟨amid, ha.same (S4.trans s5), gifts.drop cu, ⟨_, upd_same, rows_mono (S4.trans s5) (rows_drop cu rg)⟩, due, A5.du, ps, fa.app fd (by rw [List.length_drop]; omega), tab_cut hm (by rw [List.take_append_drop]; exact A.nd), fun H6 s6 => ?_⟩
  rw [if_neg (by decide)]
  exact rdp_law9 (A5.same s6) hc q
theorem rdp_law7 {a nm tb gi du : Addr} {mo : Int} {cu : Nat} {ns : List Int} {tab gifts due : List Row} {ps : List Pl} (A : AtL K H a tb gi du ns tab gifts due ps) (hc : cu ≤ gifts.length) (q : ∀ H', Q (.bl true) H') :
    rd_law_7 K t { nx := fun _ H' => Q .non H', rt := Q } [some (.ref a), some (.ref nm), some (.int mo), some (.ref tb), some (.ref gi), some (.ref du), some (.int cu), none, none, none, none] H := by
  simp only [rd_law_7, sp_laid_on, cDct, rNeD, sDPut, cTup, iZip, rEqD, rInD, rGtS, iDT, tDGet, tDNewT, cSrtD, cDctP, tDGet2, iZipL, rCat, L2.start, iRev, cLst, cMin, rRep, rEqL, rEqNil, cIntB, tDGet2, tDisp, tPairs, r_mt_append, r_mt_pop, rAppend, rPop, rIxT, rCatT, tTry, endT, tDropX, tRetX, tAsgX, tCallX, tRaise, tMsgR, tMsgS, cIsx, cIsxT, clsV, rMulS, r_mt_find, r_mt_join, tSeq, tAsg, gName, gTup, gCons, gNil, tRet, tRetN, tDrop, tNext, tNever, tOp, tUn, tVar, tC, tLst, tTup, tCons, tNil, tFor, tIfS, tAnd, tOr, tNot, tTest, tB, tAndV, tOrV, tNotV, tIf, tCB, tBM, tBM0, tyV, tSl, tPart, tNoPart, tAug, ipI, tChain, tCall, spP, tComp, tYes, capV, LenV, iRng1, iRng2, iStr, tDNewK, iList, iTup, rCat, rIxL, rIxT, rIxS, rEq, rNe, rI, rI0, rU, rIn, rSlS, rSlL, rAddS, rInS, rNotInS, rIsB, rIsNotB, rIsN, rNotN, cLen, cIsi, cAll, cAbs, cStr, cInt, r_mt_startswith, r_mt_upper, scal, List.map, List.replicate, List.length, List.append, List.cons_append, List.nil_append, List.append_nil, List.getElem?_cons_zero, List.getElem?_cons_succ, Option.some.injEq, exists_eq_left', exists_eq_left, V.int.injEq, V.ref.injEq, V.str.injEq, V.bl.injEq, V.ty.injEq, List.cons.injEq, and_true, true_and, and_assoc, exists_and_left, List.set_cons_zero, List.set_cons_succ, Nat.reduceSub, Nat.reduceAdd, decide_eq_true_eq, Bool.not_eq_true', decide_eq_false_iff_not, Int.reduceToNat, Int.reducePow, Int.reduceNeg, Int.reduceMul, Int.reduceAdd, if_true, ite_true, Bool.false_eq_true, ite_false, if_false]
  obtain ⟨gs, hg, rg⟩ := A.gi
  obtain ⟨ts, ht, rt⟩ := A.ta
  have lg := rows_len rg
  have fc : Fits ps (tab ++ gifts.take cu) := A.fit.sub (fun q hq => (List.mem_append.mp hq).elim (fun h => List.mem_append_left _ h) fun h => List.mem_append_right _ (List.mem_of_mem_take h)) (by rw [List.length_append, List.length_append, List.length_take]; omega)
  refine ⟨ts, .inl (SqL.of ht), fun l hl => ?_⟩
  have s1 := isV (o := HO.lst ts) l hl
  refine ⟨gs, SqL.of (s1 _ _ hg), fun p hp => ?_⟩
  rw [cutV_to gs cu (by omega)] at *
  have s2 := isV (o := HO.lst (gs.take cu)) p hp
  have S2 := s1.trans s2
  exact ⟨tab, ⟨ts, s2 _ _ upd_same, rows_mono S2 rt⟩, gifts.take cu, ⟨_, upd_same, rows_mono S2 (rows_take cu rg)⟩, ps, fc, fun l1 out H' s fr hl ti => rdp_law8 (A.same (S2.trans s)) hc hl ti q⟩
theorem rdp_law6 {a nm tb gi du : Addr} {mo : Int} {ns : List Int} {tab gifts due : List Row} {ps : List Pl} (A : AtL K H a tb gi du ns tab gifts due ps) (q : ∀ H', Q (.bl true) H') :
    rd_law_6 K t { nx := fun _ H' => Q .non H', rt := Q } [some (.ref a), some (.ref nm), some (.int mo), some (.ref tb), some (.ref gi), some (.ref du), none, none, none, none, none] H := by
  simp only [rd_law_6, sp__law_cell_at, cDct, rNeD, sDPut, cTup, iZip, rEqD, rInD, rGtS, iDT, tDGet, tDNewT, cSrtD, cDctP, tDGet2, iZipL, rCat, L2.start, iRev, cLst, cMin, rRep, rEqL, rEqNil, cIntB, tDGet2, tDisp, tPairs, r_mt_append, r_mt_pop, rAppend, rPop, rIxT, rCatT, tTry, endT, tDropX, tRetX, tAsgX, tCallX, tRaise, tMsgR, tMsgS, cIsx, cIsxT, clsV, rMulS, r_mt_find, r_mt_join, tSeq, tAsg, gName, gTup, gCons, gNil, tRet, tRetN, tDrop, tNext, tNever, tOp, tUn, tVar, tC, tLst, tTup, tCons, tNil, tFor, tIfS, tAnd, tOr, tNot, tTest, tB, tAndV, tOrV, tNotV, tIf, tCB, tBM, tBM0, tyV, tSl, tPart, tNoPart, tAug, ipI, tChain, tCall, spP, tComp, tYes, capV, LenV, iRng1, iRng2, iStr, tDNewK, iList, iTup, rCat, rIxL, rIxT, rIxS, rEq, rNe, rI, rI0, rU, rIn, rSlS, rSlL, rAddS, rInS, rNotInS, rIsB, rIsNotB, rIsN, rNotN, cLen, cIsi, cAll, cAbs, cStr, cInt, r_mt_startswith, r_mt_upper, scal, List.map, List.replicate, List.length, List.append, List.cons_append, List.nil_append, List.append_nil, List.getElem?_cons_zero, List.getElem?_cons_succ, Option.some.injEq, exists_eq_left', exists_eq_left, V.int.injEq, V.ref.injEq, V.str.injEq, V.bl.injEq, V.ty.injEq, List.cons.injEq, and_true, true_and, and_assoc, exists_and_left, List.set_cons_zero, List.set_cons_succ, Nat.reduceSub, Nat.reduceAdd, decide_eq_true_eq, Bool.not_eq_true', decide_eq_false_iff_not, Int.reduceToNat, Int.reducePow, Int.reduceNeg, Int.reduceMul, Int.reduceAdd, if_true, ite_true, Bool.false_eq_true, ite_false, if_false]
  refine ⟨ns, 1, rfl, A.sc, A.hn, fun c H' s => ⟨dB, ?_⟩⟩
  have A2 := A.same s
  obtain ⟨gs, hg, rg⟩ := id A2.gi
  have lg := rows_len rg
  refine ⟨gs.length, .inl ⟨gs, SqL.of hg, rfl⟩, by omega, ?_⟩
  obtain ⟨cu, ec⟩ : ∃ cu : Nat, c / 61 % ((gs.length : Int) + 1) = cu := ⟨_, (Int.toNat_of_nonneg (Int.emod_nonneg _ (by omega))).symm⟩
  have hc : (cu : Int) < (gs.length : Int) + 1 := by rw [← ec]; exact Int.emod_lt_of_pos _ (by omega)
  rw [ec]
  exact rdp_law7 A2 (by omega) q
theorem rdp_law5 {a nm tb gi du : Addr} {mo : Int} {ns : List Int} {tab gifts due : List Row} {ps : List Pl} (A : AtL K H a tb gi du ns tab gifts due ps) (q : ∀ H', Q (.bl true) H') :
    rd_law_5 K t { nx := fun _ H' => Q .non H', rt := Q } [some (.ref a), some (.ref nm), some (.int mo), some (.ref tb), some (.ref gi), some (.ref du), none, none, none, none, none] H := by
  simp only [rd_law_5, sp__law_laid, cDct, rNeD, sDPut, cTup, iZip, rEqD, rInD, rGtS, iDT, tDGet, tDNewT, cSrtD, cDctP, tDGet2, iZipL, rCat, L2.start, iRev, cLst, cMin, rRep, rEqL, rEqNil, cIntB, tDGet2, tDisp, tPairs, r_mt_append, r_mt_pop, rAppend, rPop, rIxT, rCatT, tTry, endT, tDropX, tRetX, tAsgX, tCallX, tRaise, tMsgR, tMsgS, cIsx, cIsxT, clsV, rMulS, r_mt_find, r_mt_join, tSeq, tAsg, gName, gTup, gCons, gNil, tRet, tRetN, tDrop, tNext, tNever, tOp, tUn, tVar, tC, tLst, tTup, tCons, tNil, tFor, tIfS, tAnd, tOr, tNot, tTest, tB, tAndV, tOrV, tNotV, tIf, tCB, tBM, tBM0, tyV, tSl, tPart, tNoPart, tAug, ipI, tChain, tCall, spP, tComp, tYes, capV, LenV, iRng1, iRng2, iStr, tDNewK, iList, iTup, rCat, rIxL, rIxT, rIxS, rEq, rNe, rI, rI0, rU, rIn, rSlS, rSlL, rAddS, rInS, rNotInS, rIsB, rIsNotB, rIsN, rNotN, cLen, cIsi, cAll, cAbs, cStr, cInt, r_mt_startswith, r_mt_upper, scal, List.map, List.replicate, List.length, List.append, List.cons_append, List.nil_append, List.append_nil, List.getElem?_cons_zero, List.getElem?_cons_succ, Option.some.injEq, exists_eq_left', exists_eq_left, V.int.injEq, V.ref.injEq, V.str.injEq, V.bl.injEq, V.ty.injEq, List.cons.injEq, and_true, true_and, and_assoc, exists_and_left, List.set_cons_zero, List.set_cons_succ, Nat.reduceSub, Nat.reduceAdd, decide_eq_true_eq, Bool.not_eq_true', decide_eq_false_iff_not, Int.reduceToNat, Int.reducePow, Int.reduceNeg, Int.reduceMul, Int.reduceAdd, if_true, ite_true, Bool.false_eq_true, ite_false, if_false]
  have l1 := A.lg
  have ld := A.fit.len A.nd
  have fd := A.fit.tab A.nd
  refine ⟨tab, A.ta, gifts, A.gi, due, A.du, ps, A.fit, A.nd, fun H1 s1 => ?_⟩
  rw [if_neg (by decide)]
  have A1 := A.same s1
  refine ⟨due, A1.du, gifts, A1.gi, due, A1.du, ps, fd.app A.fit.right (by omega), tab_over A.nd, fun H2 s2 => ?_⟩
  rw [if_neg (by decide)]
  have A2 := A1.same s2
  refine ⟨Nat.zero_le _, fun p hp => ?_⟩
  have s3 := isV (o := HO.lst []) p hp
  have A3 := A2.same s3
  refine ⟨tab, A3.ta, [], ⟨[], upd_same, .nil⟩, tab, A3.ta, ps, by rw [List.append_nil]; exact A.fit.left, by rw [List.append_nil]; exact A.nt, fun H4 s4 => ?_⟩
  rw [if_neg (by decide)]
  exact rdp_law6 (A3.same s4) q
theorem rdp_law4 {a nm tb gi : Addr} {mo : Int} {ns : List Int} {tab gifts : List Row} {ps : List Pl} (hS : SqL K H a (ns.map V.int)) (hn : ns.length ≤ 63) (ht : LsAt H tb tab) (hg : LsAt H gi gifts) (lt : tab.length ≤ 63) (lg : gifts.length ≤ 63) (fit : Fits ps (tab ++ gifts)) (nt : IsTab tab tab) (q : ∀ H', Q (.bl true) H') :
    rd_law_4 K t { nx := fun _ H' => Q .non H', rt := Q } [some (.ref a), some (.ref nm), some (.int mo), some (.ref tb), some (.ref gi), none, none, none, none, none, none] H := by
  simp only [rd_law_4, sp__law_due, sp_table_of, cDct, rNeD, sDPut, cTup, iZip, rEqD, rInD, rGtS, iDT, tDGet, tDNewT, cSrtD, cDctP, tDGet2, iZipL, rCat, L2.start, iRev, cLst, cMin, rRep, rEqL, rEqNil, cIntB, tDGet2, tDisp, tPairs, r_mt_append, r_mt_pop, rAppend, rPop, rIxT, rCatT, tTry, endT, tDropX, tRetX, tAsgX, tCallX, tRaise, tMsgR, tMsgS, cIsx, cIsxT, clsV, rMulS, r_mt_find, r_mt_join, tSeq, tAsg, gName, gTup, gCons, gNil, tRet, tRetN, tDrop, tNext, tNever, tOp, tUn, tVar, tC, tLst, tTup, tCons, tNil, tFor, tIfS, tAnd, tOr, tNot, tTest, tB, tAndV, tOrV, tNotV, tIf, tCB, tBM, tBM0, tyV, tSl, tPart, tNoPart, tAug, ipI, tChain, tCall, spP, tComp, tYes, capV, LenV, iRng1, iRng2, iStr, tDNewK, iList, iTup, rCat, rIxL, rIxT, rIxS, rEq, rNe, rI, rI0, rU, rIn, rSlS, rSlL, rAddS, rInS, rNotInS, rIsB, rIsNotB, rIsN, rNotN, cLen, cIsi, cAll, cAbs, cStr, cInt, r_mt_startswith, r_mt_upper, scal, List.map, List.replicate, List.length, List.append, List.cons_append, List.nil_append, List.append_nil, List.getElem?_cons_zero, List.getElem?_cons_succ, Option.some.injEq, exists_eq_left', exists_eq_left, V.int.injEq, V.ref.injEq, V.str.injEq, V.bl.injEq, V.ty.injEq, List.cons.injEq, and_true, true_and, and_assoc, exists_and_left, List.set_cons_zero, List.set_cons_succ, Nat.reduceSub, Nat.reduceAdd, decide_eq_true_eq, Bool.not_eq_true', decide_eq_false_iff_not, Int.reduceToNat, Int.reducePow, Int.reduceNeg, Int.reduceMul, Int.reduceAdd, if_true, ite_true, Bool.false_eq_true, ite_false, if_false]
  obtain ⟨ts, h1, r1⟩ := ht
  obtain ⟨gs, h2, r2⟩ := hg
  have e1 := rows_len r1
  have e2 := rows_len r2
  refine ⟨ts, h1, gs, h2, Nat.le_trans (by omega : _ ≤ 500) (by decide), fun p hp => ?_⟩
  have s1 := isV (o := HO.lst (ts ++ gs)) p hp
  refine ⟨tab ++ gifts, ⟨_, upd_same, rows_mono s1 (rows_app r2 r1)⟩, ps, fit, fun du due H' s fr hd ti => ?_⟩
  have S := s1.trans s
  exact rdp_law5 ⟨hS.mono S, hn, ⟨ts, S _ _ h1, rows_mono S r1⟩, ⟨gs, S _ _ h2, rows_mono S r2⟩, hd, lt, lg, fit, nt, ti⟩ q
theorem rdp_law3 {a nm tb : Addr} {mo : Int} {ns zs : List Int} {tab r0 : List Row} (hS : SqL K H a (ns.map V.int)) (hn : ns.length ≤ 63) (hnm : NamesAt H nm) (ht : LsAt H tb tab) (h0 : IsTab r0 tab) (ok : ∀ q ∈ r0, okRow q) (ec : cutV (ns.map V.int) (some (2 + mo)) (some (82 + mo)) = zs.map V.int) (hl : r0.length + zs.length ≤ 63) (q : ∀ H', Q (.bl true) H') :
    rd_law_3 K t { nx := fun _ H' => Q .non H', rt := Q } [some (.ref a), some (.ref nm), some (.int mo), some (.ref tb), none, none, none, none, none, none, none] H := by
  simp only [rd_law_3, sp__law_row, cDct, rNeD, sDPut, cTup, iZip, rEqD, rInD, rGtS, iDT, tDGet, tDNewT, cSrtD, cDctP, tDGet2, iZipL, rCat, L2.start, iRev, cLst, cMin, rRep, rEqL, rEqNil, cIntB, tDGet2, tDisp, tPairs, r_mt_append, r_mt_pop, rAppend, rPop, rIxT, rCatT, tTry, endT, tDropX, tRetX, tAsgX, tCallX, tRaise, tMsgR, tMsgS, cIsx, cIsxT, clsV, rMulS, r_mt_find, r_mt_join, tSeq, tAsg, gName, gTup, gCons, gNil, tRet, tRetN, tDrop, tNext, tNever, tOp, tUn, tVar, tC, tLst, tTup, tCons, tNil, tFor, tIfS, tAnd, tOr, tNot, tTest, tB, tAndV, tOrV, tNotV, tIf, tCB, tBM, tBM0, tyV, tSl, tPart, tNoPart, tAug, ipI, tChain, tCall, spP, tComp, tYes, capV, LenV, iRng1, iRng2, iStr, tDNewK, iList, iTup, rCat, rIxL, rIxT, rIxS, rEq, rNe, rI, rI0, rU, rIn, rSlS, rSlL, rAddS, rInS, rNotInS, rIsB, rIsNotB, rIsN, rNotN, cLen, cIsi, cAll, cAbs, cStr, cInt, r_mt_startswith, r_mt_upper, scal, List.map, List.replicate, List.length, List.append, List.cons_append, List.nil_append, List.append_nil, List.getElem?_cons_zero, List.getElem?_cons_succ, Option.some.injEq, exists_eq_left', exists_eq_left, V.int.injEq, V.ref.injEq, V.str.injEq, V.bl.injEq, V.ty.injEq, List.cons.injEq, and_true, true_and, and_assoc, exists_and_left, List.set_cons_zero, List.set_cons_succ, Nat.reduceSub, Nat.reduceAdd, decide_eq_true_eq, Bool.not_eq_true', decide_eq_false_iff_not, Int.reduceToNat, Int.reducePow, Int.reduceNeg, Int.reduceMul, Int.reduceAdd, if_true, ite_true, Bool.false_eq_true, ite_false, if_false]
  refine ⟨_, hS, fun p hp => ?_⟩
  rw [ec]
  obtain ⟨H3, eH, s3, q3⟩ := new_obj (o := HO.lst (zs.map V.int)) hp
  rw [← eH]
  clear eH
  refine ⟨⟨_, SqL.of q3⟩, fun D hD => ?_⟩
  refine comp_inv (J := Itl K p) zs.length (by omega) (fun τ => ∃ o, τ = [o, some (.ref nm)]) cRows (fun i ys H H' s h => cRows_ts s h) ⟨_, rfl⟩ ⟨[], .nil, rfl, fun _ z => nomatch z⟩ (fun i H s h => ⟨zs.map V.int, _, SqL.of (s _ _ q3), List.getElem?_eq_getElem (by rw [List.length_map]; exact h)⟩) (fun H s => ⟨zs.map V.int, SqL.of (s _ _ q3), by rw [List.length_map]; exact Nat.le_refl _⟩) hD ?_ ?_
  · rintro i v τ ys H4 H5 ⟨o, rfl⟩ s4 hi hR ⟨rfl, hv⟩
    obtain ⟨c2, _, rfl⟩ := List.mem_map.mp (List.mem_of_getElem? (hv _ (SqL.of (s4 _ _ q3))))
    simp only [cDct, rNeD, sDPut, cTup, iZip, rEqD, rInD, rGtS, iDT, tDGet, tDNewT, cSrtD, cDctP, tDGet2, iZipL, rCat, L2.start, iRev, cLst, cMin, rRep, rEqL, rEqNil, cIntB, tDGet2, tDisp, tPairs, r_mt_append, r_mt_pop, rAppend, rPop, rIxT, rCatT, tTry, endT, tDropX, tRetX, tAsgX, tCallX, tRaise, tMsgR, tMsgS, cIsx, cIsxT, clsV, rMulS, r_mt_find, r_mt_join, tSeq, tAsg, gName, gTup, gCons, gNil, tRet, tRetN, tDrop, tNext, tNever, tOp, tUn, tVar, tC, tLst, tTup, tCons, tNil, tFor, tIfS, tAnd, tOr, tNot, tTest, tB, tAndV, tOrV, tNotV, tIf, tCB, tBM, tBM0, tyV, tSl, tPart, tNoPart, tAug, ipI, tChain, tCall, spP, tComp, tYes, capV, LenV, iRng1, iRng2, iStr, tDNewK, iList, iTup, rCat, rIxL, rIxT, rIxS, rEq, rNe, rI, rI0, rU, rIn, rSlS, rSlL, rAddS, rInS, rNotInS, rIsB, rIsNotB, rIsN, rNotN, cLen, cIsi, cAll, cAbs, cStr, cInt, r_mt_startswith, r_mt_upper, scal, List.map, List.replicate, List.length, List.append, List.cons_append, List.nil_append, List.append_nil, List.getElem?_cons_zero, List.getElem?_cons_succ, Option.some.injEq, exists_eq_left', exists_eq_left, V.int.injEq, V.ref.injEq, V.str.injEq, V.bl.injEq, V.ty.injEq, List.cons.injEq, and_true, true_and, and_assoc, exists_and_left, List.set_cons_zero, List.set_cons_succ, Nat.reduceSub, Nat.reduceAdd, decide_eq_true_eq, Bool.not_eq_true', decide_eq_false_iff_not, Int.reduceToNat, Int.reducePow, Int.reduceNeg, Int.reduceMul, Int.reduceAdd, if_true, ite_true, Bool.false_eq_true, ite_false, if_false]
    exact ⟨(hnm.same s3).same s4, fun u q0 H6 s6 hr hk => ⟨⟨_, rfl⟩, cRows_snoc (cRows_ts (Same.ts s6) hR) hr hk, s6⟩⟩
  · rintro ys H4 hly ⟨rows, hr, hlr, hok⟩ s4 hq
    have S := s3.trans s4
    have lt := tab_small h0
    have sub : ∀ r ∈ tab, r ∈ r0 := fun r hr => last_mem ((h0.2 r.1 r.2).mp hr).1
    refine rdp_law4 (ps := (r0 ++ rows).map (·.1)) (hS.mono S) hn (ht.same S) ⟨ys, hq, hr⟩ (by omega) (by omega) ⟨by rw [List.length_map, List.length_append]; omega, by rw [List.length_append]; omega, fun r hr => ?_⟩ (tab_self h0) q
    rcases List.mem_append.mp hr with h | h
    · exact ⟨List.mem_map_of_mem (List.mem_append_left _ (sub r h)), ok r (sub r h)⟩
    · exact ⟨List.mem_map_of_mem (List.mem_append_right _ h), hok r h⟩
theorem rdp_law2 {a nm : Addr} {mo : Int} {ns : List Int} (hS : SqL K H a (ns.map V.int)) (hn : ns.length ≤ 63) (hnm : NamesAt H nm) (q : ∀ H', Q (.bl true) H') :
    rd_law_2 K t { nx := fun _ H' => Q .non H', rt := Q } [some (.ref a), some (.ref nm), some (.int mo), none, none, none, none, none, none, none, none] H := by
  simp only [rd_law_2, sp__law_row, sp__law_due, sp_table_of, cDct, rNeD, sDPut, cTup, iZip, rEqD, rInD, rGtS, iDT, tDGet, tDNewT, cSrtD, cDctP, tDGet2, iZipL, rCat, L2.start, iRev, cLst, cMin, rRep, rEqL, rEqNil, cIntB, tDGet2, tDisp, tPairs, r_mt_append, r_mt_pop, rAppend, rPop, rIxT, rCatT, tTry, endT, tDropX, tRetX, tAsgX, tCallX, tRaise, tMsgR, tMsgS, cIsx, cIsxT, clsV, rMulS, r_mt_find, r_mt_join, tSeq, tAsg, gName, gTup, gCons, gNil, tRet, tRetN, tDrop, tNext, tNever, tOp, tUn, tVar, tC, tLst, tTup, tCons, tNil, tFor, tIfS, tAnd, tOr, tNot, tTest, tB, tAndV, tOrV, tNotV, tIf, tCB, tBM, tBM0, tyV, tSl, tPart, tNoPart, tAug, ipI, tChain, tCall, spP, tComp, tYes, capV, LenV, iRng1, iRng2, iStr, tDNewK, iList, iTup, rCat, rIxL, rIxT, rIxS, rEq, rNe, rI, rI0, rU, rIn, rSlS, rSlL, rAddS, rInS, rNotInS, rIsB, rIsNotB, rIsN, rNotN, cLen, cIsi, cAll, cAbs, cStr, cInt, r_mt_startswith, r_mt_upper, scal, List.map, List.replicate, List.length, List.append, List.cons_append, List.nil_append, List.append_nil, List.getElem?_cons_zero, List.getElem?_cons_succ, Option.some.injEq, exists_eq_left', exists_eq_left, V.int.injEq, V.ref.injEq, V.str.injEq, V.bl.injEq, V.ty.injEq, List.cons.injEq, and_true, true_and, and_assoc, exists_and_left, List.set_cons_zero, List.set_cons_succ, Nat.reduceSub, Nat.reduceAdd, decide_eq_true_eq, Bool.not_eq_true', decide_eq_false_iff_not, Int.reduceToNat, Int.reducePow, Int.reduceNeg, Int.reduceMul, Int.reduceAdd, if_true, ite_true, Bool.false_eq_true, ite_false, if_false]
  obtain ⟨cs, zs, e1, e2, el⟩ := cut_two ns 2 (2 + mo) (82 + mo)
  refine ⟨_, hS, fun p hp => ?_⟩
  rw [e1]
  obtain ⟨H3, eH, s3, q3⟩ := new_obj (o := HO.lst (cs.map V.int)) hp
  rw [← eH]
  clear eH
  refine ⟨⟨_, SqL.of q3⟩, fun D hD => ?_⟩
  refine comp_inv (J := Itl K p) cs.length (by omega) (fun τ => ∃ o, τ = [o, some (.ref nm)]) cRows (fun i ys H H' s h => cRows_ts s h) ⟨_, rfl⟩ ⟨[], .nil, rfl, fun _ z => nomatch z⟩ (fun i H s h => ⟨cs.map V.int, _, SqL.of (s _ _ q3), List.getElem?_eq_getElem (by rw [List.length_map]; exact h)⟩) (fun H s => ⟨cs.map V.int, SqL.of (s _ _ q3), by rw [List.length_map]; exact Nat.le_refl _⟩) hD ?_ ?_
  · rintro i v τ ys H4 H5 ⟨o, rfl⟩ s4 hi hR ⟨rfl, hv⟩
    obtain ⟨c2, _, rfl⟩ := List.mem_map.mp (List.mem_of_getElem? (hv _ (SqL.of (s4 _ _ q3))))
    simp only [cDct, rNeD, sDPut, cTup, iZip, rEqD, rInD, rGtS, iDT, tDGet, tDNewT, cSrtD, cDctP, tDGet2, iZipL, rCat, L2.start, iRev, cLst, cMin, rRep, rEqL, rEqNil, cIntB, tDGet2, tDisp, tPairs, r_mt_append, r_mt_pop, rAppend, rPop, rIxT, rCatT, tTry, endT, tDropX, tRetX, tAsgX, tCallX, tRaise, tMsgR, tMsgS, cIsx, cIsxT, clsV, rMulS, r_mt_find, r_mt_join, tSeq, tAsg, gName, gTup, gCons, gNil, tRet, tRetN, tDrop, tNext, tNever, tOp, tUn, tVar, tC, tLst, tTup, tCons, tNil, tFor, tIfS, tAnd, tOr, tNot, tTest, tB, tAndV, tOrV, tNotV, tIf, tCB, tBM, tBM0, tyV, tSl, tPart, tNoPart, tAug, ipI, tChain, tCall, spP, tComp, tYes, capV, LenV, iRng1, iRng2, iStr, tDNewK, iList, iTup, rCat, rIxL, rIxT, rIxS, rEq, rNe, rI, rI0, rU, rIn, rSlS, rSlL, rAddS, rInS, rNotInS, rIsB, rIsNotB, rIsN, rNotN, cLen, cIsi, cAll, cAbs, cStr, cInt, r_mt_startswith, r_mt_upper, scal, List.map, List.replicate, List.length, List.append, List.cons_append, List.nil_append, List.append_nil, List.getElem?_cons_zero, List.getElem?_cons_succ, Option.some.injEq, exists_eq_left', exists_eq_left, V.int.injEq, V.ref.injEq, V.str.injEq, V.bl.injEq, V.ty.injEq, List.cons.injEq, and_true, true_and, and_assoc, exists_and_left, List.set_cons_zero, List.set_cons_succ, Nat.reduceSub, Nat.reduceAdd, decide_eq_true_eq, Bool.not_eq_true', decide_eq_false_iff_not, Int.reduceToNat, Int.reducePow, Int.reduceNeg, Int.reduceMul, Int.reduceAdd, if_true, ite_true, Bool.false_eq_true, ite_false, if_false]
    exact ⟨(hnm.same s3).same s4, fun u q0 H6 s6 hr hk => ⟨⟨_, rfl⟩, cRows_snoc (cRows_ts (Same.ts s6) hR) hr hk, s6⟩⟩
  · rintro ys H4 hly ⟨rows, hr, hlr, hok⟩ s4 hq
    have S := s3.trans s4
    refine ⟨rows, ⟨ys, hq, hr⟩, rows.map (·.1), ⟨by rw [List.length_map]; omega, by omega, fun r hr => ⟨List.mem_map_of_mem hr, hok r hr⟩⟩, fun l out H5 s5 fr hl ti => ?_⟩
    have S5 := S.trans s5
    exact rdp_law3 (hS.mono S5) hn (hnm.same S5) hl ti hok e2 (by omega) q
theorem rdp_law {a : Addr} {ns : List Int} (hS : SqL K H a (ns.map V.int)) (hn : ns.length ≤ 63) (q : ∀ H', Q (.bl true) H') :
    rd_law K t { nx := fun _ H' => Q .non H', rt := Q } (L2.start ["script", "names", "most", "table", "gifts", "due", "cut", "amid", "have", "place", "worth"] [.ref a]) H := by
  simp only [rd_law, sp__law_cell_at, sp__law_names, cDct, rNeD, sDPut, cTup, iZip, rEqD, rInD, rGtS, iDT, tDGet, tDNewT, cSrtD, cDctP, tDGet2, iZipL, rCat, L2.start, iRev, cLst, cMin, rRep, rEqL, rEqNil, cIntB, tDGet2, tDisp, tPairs, r_mt_append, r_mt_pop, rAppend, rPop, rIxT, rCatT, tTry, endT, tDropX, tRetX, tAsgX, tCallX, tRaise, tMsgR, tMsgS, cIsx, cIsxT, clsV, rMulS, r_mt_find, r_mt_join, tSeq, tAsg, gName, gTup, gCons, gNil, tRet, tRetN, tDrop, tNext, tNever, tOp, tUn, tVar, tC, tLst, tTup, tCons, tNil, tFor, tIfS, tAnd, tOr, tNot, tTest, tB, tAndV, tOrV, tNotV, tIf, tCB, tBM, tBM0, tyV, tSl, tPart, tNoPart, tAug, ipI, tChain, tCall, spP, tComp, tYes, capV, LenV, iRng1, iRng2, iStr, tDNewK, iList, iTup, rCat, rIxL, rIxT, rIxS, rEq, rNe, rI, rI0, rU, rIn, rSlS, rSlL, rAddS, rInS, rNotInS, rIsB, rIsNotB, rIsN, rNotN, cLen, cIsi, cAll, cAbs, cStr, cInt, r_mt_startswith, r_mt_upper, scal, List.map, List.replicate, List.length, List.append, List.cons_append, List.nil_append, List.append_nil, List.getElem?_cons_zero, List.getElem?_cons_succ, Option.some.injEq, exists_eq_left', exists_eq_left, V.int.injEq, V.ref.injEq, V.str.injEq, V.bl.injEq, V.ty.injEq, List.cons.injEq, and_true, true_and, and_assoc, exists_and_left, List.set_cons_zero, List.set_cons_succ, Nat.reduceSub, Nat.reduceAdd, decide_eq_true_eq, Bool.not_eq_true', decide_eq_false_iff_not, Int.reduceToNat, Int.reducePow, Int.reduceNeg, Int.reduceMul, Int.reduceAdd, if_true, ite_true, Bool.false_eq_true, ite_false, if_false]
  refine ⟨ns, 0, rfl, hS, hn, fun c H1 s1 nm H2 s2 hnm => ⟨ns, 1, rfl, (hS.mono s1).mono s2, hn, fun c2 H3 s3 => ⟨by decide, ?_⟩⟩⟩
  exact rdp_law2 (hS.mono (s1.trans (s2.trans s3))) hn (hnm.same s3) q
end

section
variable {P : Program} {w : World} {K : PySem.W.Frag} {mg : Str → Option Value} {base : Heap} {t : Adr}
theorem ok__law_letters (T : Txt K mg t) : FnOk P w K mg base CX0 1 t.a__law_letters t.d__law_letters ["number", "many"] (sp__law_letters) := by
  refine T.f__law_letters.ok sc__law_letters (fun vs H Q E h => ?_) (fun cdv A outer s H vs Q E hr h => ?_)
  · obtain ⟨n, m, rfl, _⟩ := h; rfl
  obtain ⟨n, m, rfl, h0, h1, q⟩ := h
  exact ⟨rd__law_letters K t, (pss_cons (ps_set (i := 2) sc__law_letters.nd rfl (Or.inl rfl) (pe_str (x := "abcdefghijklmnopqrstuvwxyz")))
    (pss_cons (ps_set (i := 3) sc__law_letters.nd rfl (Or.inl rfl) (pe_str (x := "")))
    (pss_cons (ps_for PassesOwn.never rfl (pi_range1 rfl T.b_range (pa_cons (pv 1) pa_nil)) (pg_name (i := 4) sc__law_letters.nd rfl (Or.inl rfl)) (pss_cons (ps_set (i := 3) sc__law_letters.nd rfl (Or.inl rfl) (pe_op op_add_str (pv 3) (pe_ix ix_str (pv 2) (pe_op op_mod (pv 0) (pe_int (i := 26))) (fun _ _ => rfl))))
    (pss_one (ps_set (i := 0) sc__law_letters.nd rfl (Or.inl rfl) (pe_op op_add (pe_op op_fdivB (pv 0) (pe_int (i := 26))) (pe_op op_mulB (pe_op op_mulB (pe_int (i := 991)) (pv 4)) (pv 4)))))))
    (pss_one (ps_ret (pv 3)))))), rdp__law_letters h0 h1 q⟩
theorem ok__law_mixed (T : Txt K mg t) : FnOk P w K mg base CX0 1 t.a__law_mixed t.d__law_mixed ["cell", "k"] (sp__law_mixed) := by
  refine T.f__law_mixed.ok sc__law_mixed (fun vs H Q E h => ?_) (fun cdv A outer s H vs Q E hr h => ?_)
  · obtain ⟨c, k, rfl, _⟩ := h; rfl
  obtain ⟨c, k, rfl, hk, hk2, q⟩ := h
  exact ⟨rd__law_mixed K t, (pss_cons (ps_set (i := 2) sc__law_mixed.nd rfl (Or.inl rfl) (pe_op op_add (pe_op op_add (pe_op op_mod (pv 0) (pe_int (i := 2147483647))) (pe_op op_mulB (pe_int (i := 11)) (pv 1))) (pe_int (i := 7))))
    (pss_one (ps_ret (pe_op op_fdivB (pe_op op_mod (pe_op op_mulB (pv 2) (pe_op op_add (pe_op op_add (pv 2) (pe_int (i := 48271))) (pv 1))) (pe_int (i := 2147483647))) (pe_int (i := 5)))))), rdp__law_mixed hk hk2 q⟩
theorem ok__law_free (T : Txt K mg t) : FnOk P w K mg base CX0 1 t.a__law_free t.d__law_free ["name"] (sp__law_free) := by
  refine T.f__law_free.ok sc__law_free (fun vs H Q E h => ?_) (fun cdv A outer s H vs Q E hr h => ?_)
  · obtain ⟨x, rfl, _⟩ := h; rfl
  obtain ⟨x, rfl, hx, q⟩ := h
  exact ⟨rd__law_free K t, (pss_cons (ps_if (pt_cmpR op_in_seq (pv 0) (pe_tup (pa_str (x := "take") (pa_str (x := "give") (pa_str (x := "let") (pa_str (x := "say") (pa_str (x := "off") (pa_str (x := "if") (pa_str (x := "else") (pa_str (x := "end") (pa_str (x := "as") pa_nil)))))))))) (by with_unfolding_all rfl)) (pss_one (ps_ret (pe_op op_add_str (pv 0) (pe_str (x := "q")))))
      pss_nil)
    (pss_cons (ps_if (pt_cmpR op_in_seq (pv 0) (pe_tup (pa_cons (pe_str (x := "plus")) (pa_cons (pe_str (x := "minus")) (pa_cons (pe_str (x := "times")) (pa_cons (pe_str (x := "over")) (pa_cons (pe_str (x := "rest")) (pa_cons (pe_str (x := "under")) (pa_cons (pe_str (x := "same")) pa_nil)))))))) (by with_unfolding_all rfl)) (pss_one (ps_ret (pe_op op_add_str (pv 0) (pe_str (x := "q")))))
      pss_nil)
    (pss_one (ps_ret (pv 0))))), rdp__law_free hx q⟩
theorem ok__law_names (T : Txt K mg t) : FnOk P w K mg base CX0 2 t.a__law_names t.d__law_names ["cell"] (sp__law_names) := by
  refine T.f__law_names.ok sc__law_names (fun vs H Q E h => ?_) (fun cdv A outer s H vs Q E hr h => ?_)
  · obtain ⟨c, rfl, _⟩ := h; rfl
  obtain ⟨c, rfl, q⟩ := h
  exact ⟨rd__law_names K t, (pss_cons (ps_set (i := 1) sc__law_names.nd rfl (Or.inl rfl) (pe_call (FnOk.mono (ok__law_letters T) (by decide)) hr rfl T.m__law_letters T.f__law_letters.kp T.b__law_letters .nil pass0 (pa_cons (pe_call (FnOk.mono (ok__law_mixed T) (by decide)) hr rfl T.m__law_mixed T.f__law_mixed.kp T.b__law_mixed .nil pass0 (pa_cons (pv 0) (pa_cons (pe_int (i := 1)) pa_nil))) (pa_cons (pe_op op_add (pe_int (i := 1)) (pe_op op_mod (pe_op op_fdivB (pv 0) (pe_int (i := 2))) (pe_int (i := 6)))) pa_nil))))
    (pss_cons (ps_set (i := 2) sc__law_names.nd rfl (Or.inl rfl) (pe_op op_mod (pe_call (FnOk.mono (ok__law_mixed T) (by decide)) hr rfl T.m__law_mixed T.f__law_mixed.kp T.b__law_mixed .nil pass0 (pa_cons (pv 0) (pa_cons (pe_int (i := 2)) pa_nil))) (pe_callB call_len rfl T.b_len bt_len (pa_cons (pv 1) pa_nil))))
    (pss_cons (ps_if (PW.pt (pw_and (pt_cmpR op_eq (pe_op op_mod (pv 0) (pe_int (i := 2))) (pe_int (i := 1)) (nomark _)) (pw_and1 (pt_cmpR op_gt (pv 2) (pe_int (i := 0)) (nomark _))))) (pss_one (ps_ret (pe_lst (pa_cons (pe_call (FnOk.mono (ok__law_free T) (by decide)) hr rfl T.m__law_free T.f__law_free.kp T.b__law_free .nil pass0 (pa_cons (pe_slice sl_str (pv 1) po_none (po_some (pv 2))) pa_nil)) (pa_cons (pe_call (FnOk.mono (ok__law_free T) (by decide)) hr rfl T.m__law_free T.f__law_free.kp T.b__law_free .nil pass0 (pa_cons (pv 1) pa_nil)) pa_nil)))))
      pss_nil)
    (pss_cons (ps_set (i := 3) sc__law_names.nd rfl (Or.inl rfl) (pe_ix ix_str (pe_str (x := "bcdefghijklmnopqrstuvwxyza")) (pe_bm PySem.F.plainAttrs_str PySem.F.slot_str_find PySem.F.type_str_find mt_find (pe_str (x := "abcdefghijklmnopqrstuvwxyz")) (pa_cons (pe_ix ix_str (pv 1) (pv 2) (fun _ _ => rfl)) pa_nil)) (fun _ _ => rfl)))
    (pss_one (ps_ret (pe_lst (pa_cons (pe_call (FnOk.mono (ok__law_free T) (by decide)) hr rfl T.m__law_free T.f__law_free.kp T.b__law_free .nil pass0 (pa_cons (pv 1) pa_nil)) (pa_cons (pe_call (FnOk.mono (ok__law_free T) (by decide)) hr rfl T.m__law_free T.f__law_free.kp T.b__law_free .nil pass0 (pa_cons (pe_op op_add_str (pe_op op_add_str (pe_slice sl_str (pv 1) po_none (po_some (pv 2))) (pv 3)) (pe_slice sl_str (pv 1) (po_some (pe_op op_add (pv 2) (pe_int (i := 1)))) po_none)) pa_nil)) pa_nil))))))))), rdp__law_names q⟩
theorem ok__law_due (T : Txt K mg t) : FnOk P w K mg base CX0 1 t.a__law_due t.d__law_due ["rows"] (sp__law_due) := by
  refine T.f__law_due.ok sc__law_due (fun vs H Q E h => ?_) (fun cdv A outer s H vs Q E hr h => ?_)
  · obtain ⟨a, rows, ps, rfl, _⟩ := h; rfl
  obtain ⟨a, rows, ps, rfl, h1, h2, q⟩ := h
  exact ⟨rd__law_due K t, (pss_cons (ps_set (i := 1) sc__law_due.nd rfl (Or.inr rfl) pe_dnewT)
    (pss_cons (ps_for PassesOwn.never rfl (pi_list (pv 0)) (pg_tup rfl (pgs_cons (pg_name (i := 2) sc__law_due.nd rfl (Or.inl rfl)) (pgs_cons (pg_name (i := 3) sc__law_due.nd rfl (Or.inl rfl)) pgs_nil))) (pss_one (ps_dput (hu_of hr) (pv 1) (pv 2) (pv 3) rfl)))
    (pss_one (ps_ret (pe_comp rfl (osc := defScope s__law_due) (N := ["rows", "last", "place", "worth"]) (xs := ["place"]) (ix := [1]) (by decide +kernel) (pi_list (pe_callB (call_sortedD rfl) rfl T.b_sorted bt_sorted (pa_cons (pv 1) pa_nil))) (fun _ _ _ _ => (pg_name (i := 0) (show List.Nodup (["place", "last"] : List Str) from (by decide +kernel)) rfl (Or.inl rfl) (.inr rfl))) (fun _ _ _ _ => (pts_one (pt_cmpR op_ne (pe_dget (hu_of hr) (pv 1) (pv 0) (fun _ _ => rfl)) (pe_int (i := 0)) (nomark _)))) (fun _ _ _ _ => (pe_tup (pa_cons (pv 0) (pa_cons (pe_dget (hu_of hr) (pv 1) (pv 0) (fun _ _ => rfl)) pa_nil))))))))), rdp__law_due h1 h2 q⟩
theorem ok_table_of (T : Txt K mg t) : FnOk P w K mg base CX0 1 t.a_table_of t.d_table_of ["rows"] (sp_table_of) := by
  refine T.f_table_of.ok sc_table_of (fun vs H Q E h => ?_) (fun cdv A outer s H vs Q E hr h => ?_)
  · obtain ⟨a, rows, ps, rfl, _⟩ := h; rfl
  obtain ⟨a, rows, ps, rfl, h1, h2, q⟩ := h
  exact ⟨rd_table_of K t, (pss_cons (ps_set (i := 1) sc_table_of.nd rfl (Or.inr rfl) (pe_callTy (call_dict_pairs rfl (hu3 hr)) rfl T.b_dict bt_dict (pa_cons (pv 0) pa_nil)))
    (pss_one (ps_ret (pe_comp rfl (osc := defScope s_table_of) (N := ["rows", "worths"]) (xs := ["place"]) (ix := [1]) (by decide +kernel) (pi_list (pe_callB (call_sortedD rfl) rfl T.b_sorted bt_sorted (pa_cons (pv 1) pa_nil))) (fun _ _ _ _ => (pg_name (i := 0) (show List.Nodup (["place", "worths"] : List Str) from (by decide +kernel)) rfl (Or.inl rfl) (.inr rfl))) (fun _ _ _ _ => (pts_one (pt_cmpR op_ne (pe_dget (hu_of hr) (pv 1) (pv 0) (fun _ _ => rfl)) (pe_int (i := 0)) (nomark _)))) (fun _ _ _ _ => (pe_tup (pa_cons (pv 0) (pa_cons (pe_dget (hu_of hr) (pv 1) (pv 0) (fun _ _ => rfl)) pa_nil)))))))), rdp_table_of h1 h2 q⟩
theorem ok_laid_on (T : Txt K mg t) : FnOk P w K mg base CX0 2 t.a_laid_on t.d_laid_on ["table", "gifts"] (sp_laid_on) := by
  refine T.f_laid_on.ok sc_laid_on (fun vs H Q E h => ?_) (fun cdv A outer s H vs Q E hr h => ?_)
  · obtain ⟨a, b, tab, gifts, ps, rfl, _⟩ := h; rfl
  obtain ⟨a, b, tab, gifts, ps, rfl, h1, h2, h3, q⟩ := h
  exact ⟨rd_laid_on K t, (pss_one (ps_ret (pe_call (FnOk.mono (ok_table_of T) (by decide)) hr rfl T.m_table_of T.f_table_of.kp T.b_table_of .nil pass0 (pa_cons (pe_op op_cat (pv 0) (pv 1)) pa_nil)))), rdp_laid_on h1 h2 h3 q⟩
theorem ok__law_cell_at (T : Txt K mg t) : FnOk P w K mg base CX0 1 t.a__law_cell_at t.d__law_cell_at ["script", "k"] (sp__law_cell_at K) := by
  refine T.f__law_cell_at.ok sc__law_cell_at (fun vs H Q E h => ?_) (fun cdv A outer s H vs Q E hr h => ?_)
  · obtain ⟨a, ns, k, rfl, _⟩ := h; rfl
  obtain ⟨a, ns, k, rfl, hS, hl, q⟩ := h
  exact ⟨rd__law_cell_at K t, (pss_cons (ps_if (pt_cmpR op_lt (pv 1) (pe_callB call_len rfl T.b_len bt_len (pa_cons (pv 0) pa_nil)) (nomark _)) (pss_one (ps_ret (pe_ix ix_list (pv 0) (pv 1) (fun _ _ => rfl))))
      pss_nil)
    (pss_one (ps_ret (pe_int (i := 0))))), rdp__law_cell_at hS hl q⟩
theorem ok__law_number (T : Txt K mg t) : FnOk P w K mg base CX0 1 t.a__law_number t.d__law_number ["cell"] (sp__law_number) := by
  refine T.f__law_number.ok sc__law_number (fun vs H Q E h => ?_) (fun cdv A outer s H vs Q E hr h => ?_)
  · obtain ⟨c, rfl, _⟩ := h; rfl
  obtain ⟨c, rfl, q⟩ := h
  exact ⟨rd__law_number K t, (pss_cons (ps_if (pt_cmpR op_eq (pe_op op_mod (pv 0) (pe_int (i := 5))) (pe_int (i := 4)) (nomark _)) (pss_one (ps_ret (pe_op op_sub (pe_op op_mod (pe_op op_add (pe_op op_fdivB (pv 0) (pe_int (i := 5))) (pe_op op_pow (pe_int (i := 10)) (pe_int (i := 30)))) (pe_op op_add (pe_op op_mulB (pe_int (i := 2)) (pe_op op_pow (pe_int (i := 10)) (pe_int (i := 30)))) (pe_int (i := 1)))) (pe_op op_pow (pe_int (i := 10)) (pe_int (i := 30))))))
      pss_nil)
    (pss_one (ps_ret (pe_op op_sub (pe_op op_mod (pe_op op_fdivB (pv 0) (pe_int (i := 5))) (pe_int (i := 8))) (pe_int (i := 3)))))), rdp__law_number q⟩
theorem ok__law_row (T : Txt K mg t) : FnOk P w K mg base CX0 2 t.a__law_row t.d__law_row ["cell", "names"] (sp__law_row) := by
  refine T.f__law_row.ok sc__law_row (fun vs H Q E h => ?_) (fun cdv A outer s H vs Q E hr h => ?_)
  · obtain ⟨c, nm, rfl, _⟩ := h; rfl
  obtain ⟨c, nm, rfl, h1, q⟩ := h
  exact ⟨rd__law_row K t, (pss_cons (ps_set (i := 2) sc__law_row.nd rfl (Or.inl rfl) (pe_call (FnOk.mono (ok__law_mixed T) (by decide)) hr rfl T.m__law_mixed T.f__law_mixed.kp T.b__law_mixed .nil pass0 (pa_cons (pv 0) (pa_cons (pe_int (i := 3)) pa_nil))))
    (pss_cons (ps_if (pt_cmpR op_eq (pe_op op_mod (pv 2) (pe_int (i := 5))) (pe_int (i := 4)) (nomark _)) (pss_one (ps_set (i := 2) sc__law_row.nd rfl (Or.inl rfl) (pe_op op_add (pe_op op_mul (pe_op op_fdivB (pv 0) (pe_int (i := 5))) (pe_int (i := 5))) (pe_int (i := 4)))))
      pss_nil)
    (pss_one (ps_ret (pe_tup (pa_cons (pe_tup (pa_cons (pe_ix ix_list (pv 1) (pe_op op_mod (pe_call (FnOk.mono (ok__law_mixed T) (by decide)) hr rfl T.m__law_mixed T.f__law_mixed.kp T.b__law_mixed .nil pass0 (pa_cons (pv 0) (pa_cons (pe_int (i := 4)) pa_nil))) (pe_int (i := 2))) (fun _ _ => rfl)) (pa_cons (pe_call (FnOk.mono (ok__law_number T) (by decide)) hr rfl T.m__law_number T.f__law_number.kp T.b__law_number .nil pass0 (pa_cons (pv 2) pa_nil)) pa_nil))) (pa_cons (pe_call (FnOk.mono (ok__law_number T) (by decide)) hr rfl T.m__law_number T.f__law_number.kp T.b__law_number .nil pass0 (pa_cons (pe_op op_add (pe_call (FnOk.mono (ok__law_mixed T) (by decide)) hr rfl T.m__law_mixed T.f__law_mixed.kp T.b__law_mixed .nil pass0 (pa_cons (pv 0) (pa_cons (pe_int (i := 5)) pa_nil))) (pe_op op_mod (pv 0) (pe_op op_pow (pe_int (i := 10)) (pe_int (i := 33))))) pa_nil)) pa_nil))))))), rdp__law_row h1 q⟩
theorem ok__law_alike (T : Txt K mg t) : FnOk P w K mg base CX0 1 t.a__law_alike t.d__law_alike ["found", "due"] (sp__law_alike) := by
  refine T.f__law_alike.ok sc__law_alike (fun vs H Q E h => ?_) (fun cdv A outer s H vs Q E hr h => ?_)
  · obtain ⟨a, b, rows, rfl, _⟩ := h; rfl
  obtain ⟨a, b, rows, rfl, h1, h2, h3, h4, q⟩ := h
  exact ⟨rd__law_alike K t, (pss_cons (ps_if (PW.pt (pw_or (pt_not (pt_val (pe_callB call_isi rfl T.b_isinstance bt_isinstance (pa_cons (pv 0) (pa_cons (pe_bltn rfl T.b_list bt_list rfl) pa_nil))))) (pw_or1 (pt_cmpR op_ne (pe_callB call_len rfl T.b_len bt_len (pa_cons (pv 0) pa_nil)) (pe_callB call_len rfl T.b_len bt_len (pa_cons (pv 1) pa_nil)) (nomark _))))) (pss_one (ps_ret (pe_bl (b := false))))
      pss_nil)
    (pss_cons (ps_for PassesOwn.never rfl (pi_zipL rfl T.b_zip (pa_cons (pv 0) (pa_cons (pv 1) pa_nil))) (pg_tup rfl (pgs_cons (pg_name (i := 2) sc__law_alike.nd rfl (Or.inl rfl)) (pgs_cons (pg_name (i := 3) sc__law_alike.nd rfl (Or.inl rfl)) pgs_nil))) (pss_cons (ps_if (PW.pt (pw_or (pt_not (pt_val (pe_callB call_isi rfl T.b_isinstance bt_isinstance (pa_cons (pv 2) (pa_cons (pe_bltn rfl T.b_tuple bt_tuple rfl) pa_nil))))) (pw_or (pt_cmpR op_ne (pe_callB call_len rfl T.b_len bt_len (pa_cons (pv 2) pa_nil)) (pe_int (i := 2)) (nomark _)) (pw_or (pt_not (pt_val (pe_callB call_isi rfl T.b_isinstance bt_isinstance (pa_cons (pe_ix ix_tup (pv 2) (pe_int (i := 0)) (fun _ _ => rfl)) (pa_cons (pe_bltn rfl T.b_tuple bt_tuple rfl) pa_nil))))) (pw_or1 (pt_cmpR op_ne (pe_callB call_len rfl T.b_len bt_len (pa_cons (pe_ix ix_tup (pv 2) (pe_int (i := 0)) (fun _ _ => rfl)) pa_nil)) (pe_int (i := 2)) (nomark _))))))) (pss_one (ps_ret (pe_bl (b := false))))
      pss_nil)
    (pss_cons (ps_for PassesOwn.never rfl (pi_tup (pe_tup (pa_cons (pe_ix ix_tup (pe_ix ix_tup (pv 2) (pe_int (i := 0)) (fun _ _ => rfl)) (pe_int (i := 1)) (fun _ _ => rfl)) (pa_cons (pe_ix ix_tup (pv 2) (pe_int (i := 1)) (fun _ _ => rfl)) pa_nil)))) (pg_name (i := 4) sc__law_alike.nd rfl (Or.inl rfl)) (pss_one (ps_if (PW.pt (pw_or (pt_not (pt_val (pe_callB call_isi rfl T.b_isinstance bt_isinstance (pa_cons (pv 4) (pa_cons (pe_bltn rfl T.b_int bt_int rfl) pa_nil))))) (pw_or1 (pt_val (pe_callB call_isi rfl T.b_isinstance bt_isinstance (pa_cons (pv 4) (pa_cons (pe_bltn rfl T.b_bool bt_bool rfl) pa_nil))))))) (pss_one (ps_ret (pe_bl (b := false))))
      pss_nil)))
    (pss_one (ps_if (pt_cmpR (op_neAll (hu64 hr)) (pv 2) (pv 3) (nomark _)) (pss_one (ps_ret (pe_bl (b := false))))
      pss_nil)))))
    (pss_one (ps_ret (pe_bl (b := true)))))), rdp__law_alike (kf K) h1 h2 h3 h4 q⟩
theorem ok__law_laid (T : Txt K mg t) : FnOk P w K mg base CX0 3 t.a__law_laid t.d__law_laid ["table", "gifts", "due"] (sp__law_laid) := by
  refine T.f__law_laid.ok sc__law_laid (fun vs H Q E h => ?_) (fun cdv A outer s H vs Q E hr h => ?_)
  · obtain ⟨a, b, c, tab, gifts, out, ps, rfl, _⟩ := h; rfl
  obtain ⟨a, b, c, tab, gifts, out, ps, rfl, h1, h2, h3, h4, h5, q⟩ := h
  exact ⟨rd__law_laid K t, (pss_cons (ps_set (i := 3) sc__law_laid.nd rfl (Or.inl rfl) (pe_lst (pa_cons (pe_callTy call_list_of rfl T.b_list bt_list (pa_cons (pv 0) pa_nil)) (pa_cons (pe_callTy call_list_of rfl T.b_list bt_list (pa_cons (pv 1) pa_nil)) pa_nil))))
    (pss_cons (ps_set (i := 4) sc__law_laid.nd rfl (Or.inl rfl) (pe_call (FnOk.mono (ok_laid_on T) (by decide)) hr rfl T.m_laid_on T.f_laid_on.kp T.b_laid_on .nil pass0 (pa_cons (pe_ix ix_list (pv 3) (pe_int (i := 0)) (fun _ _ => rfl)) (pa_cons (pe_ix ix_list (pv 3) (pe_int (i := 1)) (fun _ _ => rfl)) pa_nil))))
    (pss_cons (ps_if (PW.pt (pw_or (pt_cmpR (op_neAll (hu64 hr)) (pv 3) (pe_lst (pa_cons (pv 0) (pa_cons (pv 1) pa_nil))) (nomark _)) (pw_or1 (pt_not (pt_val (pe_call (FnOk.mono (ok__law_alike T) (by decide)) hr rfl T.m__law_alike T.f__law_alike.kp T.b__law_alike .nil pass0 (pa_cons (pv 4) (pa_cons (pv 2) pa_nil)))))))) (pss_one (ps_ret (pe_bl (b := false))))
      pss_nil)
    (pss_cons (ps_expr (pe_bm PySem.F.plainAttrs_list PySem.F.slot_list_append PySem.F.type_list_append mt_append (pv 4) (pa_cons (pe_tup (pa_cons (pe_tup (pa_cons (pe_str (x := "z")) (pa_cons (pe_int (i := 1)) pa_nil))) (pa_cons (pe_int (i := 5)) pa_nil))) pa_nil)))
    (pss_cons (ps_if (pt_cmpR (op_neAll (hu64 hr)) (pv 3) (pe_lst (pa_cons (pv 0) (pa_cons (pv 1) pa_nil))) (nomark _)) (pss_one (ps_ret (pe_bl (b := false))))
      pss_nil)
    (pss_cons (ps_set (i := 5) sc__law_laid.nd rfl (Or.inl rfl) (pe_call (FnOk.mono (ok_table_of T) (by decide)) hr rfl T.m_table_of T.f_table_of.kp T.b_table_of .nil pass0 (pa_cons (pe_ix ix_list (pv 3) (pe_int (i := 0)) (fun _ _ => rfl)) pa_nil)))
    (pss_cons (ps_expr (pe_bm PySem.F.plainAttrs_list PySem.F.slot_list_append PySem.F.type_list_append mt_append (pv 5) (pa_cons (pe_tup (pa_cons (pe_tup (pa_cons (pe_str (x := "z")) (pa_cons (pe_int (i := 1)) pa_nil))) (pa_cons (pe_int (i := 5)) pa_nil))) pa_nil)))
    (pss_one (ps_ret (pe_cmpR (op_eqAll (hu64 hr)) (pv 3) (pe_lst (pa_cons (pv 0) (pa_cons (pv 1) pa_nil))) (nomark _))))))))))), rdp__law_laid h1 h2 h3 h4 h5 q⟩
theorem ok_stands (T : Txt K mg t) : FnOk P w K mg base CX0 1 t.a_stands t.d_stands ["table", "place"] (sp_stands) := by
  refine T.f_stands.ok sc_stands (fun vs H Q E h => ?_) (fun cdv A outer s H vs Q E hr h => ?_)
  · obtain ⟨a, p, tab, q0, rfl, _⟩ := h; rfl
  obtain ⟨a, p, tab, q0, rfl, h1, h2, h3, q⟩ := h
  exact ⟨rd_stands K t, (pss_one (ps_ret (pe_dget2 (hu_of hr) (pe_callTy (call_dict_pairs rfl (hu3 hr)) rfl T.b_dict bt_dict (pa_cons (pv 0) pa_nil)) (pv 1) (pe_int (i := 0)) ⟨rfl, rfl, rfl, rfl⟩))), rdp_stands h1 h2 h3 q⟩
theorem ok_law (T : Txt K mg t) : FnOk P w K mg base CX0 4 t.a_law t.d_law ["script"] (sp_law K) := by
  refine T.f_law.ok sc_law (fun vs H Q E h => ?_) (fun cdv A outer s H vs Q E hr h => ?_)
  · obtain ⟨a, ns, rfl, _⟩ := h; rfl
  obtain ⟨a, ns, rfl, hS, hn, q⟩ := h
  exact ⟨rd_law K t, (pss_cons (ps_set (i := 1) sc_law.nd rfl (Or.inr rfl) (pe_call (FnOk.mono (ok__law_names T) (by decide)) hr rfl T.m__law_names T.f__law_names.kp T.b__law_names .nil pass0 (pa_cons (pe_call (FnOk.mono (ok__law_cell_at T) (by decide)) hr rfl T.m__law_cell_at T.f__law_cell_at.kp T.b__law_cell_at .nil pass0 (pa_cons (pv 0) (pa_cons (pe_int (i := 0)) pa_nil))) pa_nil)))
    (pss_cons (ps_set (i := 2) sc_law.nd rfl (Or.inl rfl) (pe_op op_mod (pe_call (FnOk.mono (ok__law_cell_at T) (by decide)) hr rfl T.m__law_cell_at T.f__law_cell_at.kp T.b__law_cell_at .nil pass0 (pa_cons (pv 0) (pa_cons (pe_int (i := 1)) pa_nil))) (pe_int (i := 61))))
    (pss_cons (ps_set (i := 3) sc_law.nd rfl (Or.inl rfl) (pe_call (FnOk.mono (ok__law_due T) (by decide)) hr rfl T.m__law_due T.f__law_due.kp T.b__law_due .nil pass0 (pa_cons (pe_comp rfl (osc := defScope s_law) (N := ["script", "names", "most", "table", "gifts", "due", "cut", "amid", "have", "place", "worth"]) (xs := ["cell"]) (ix := [1]) (by decide +kernel) (pi_list (pe_slice sl_list (pv 0) (po_some (pe_int (i := 2))) (po_some (pe_op op_add (pe_int (i := 2)) (pv 2))))) (fun _ _ _ _ => (pg_name (i := 0) (show List.Nodup (["cell", "names"] : List Str) from (by decide +kernel)) rfl (Or.inl rfl) (.inr rfl))) (fun _ _ _ _ => pts_nil) (fun _ _ _ _ => (pe_call (FnOk.mono (ok__law_row T) (by decide)) hr rfl T.m__law_row T.f__law_row.kp T.b__law_row .nil pass0 (pa_cons (pv 0) (pa_cons (pv 1) pa_nil))))) pa_nil)))
    (pss_cons (ps_setComp (j := 4) sc_law.nd rfl rfl (Or.inl rfl) (osc := defScope s_law) (N := ["script", "names", "most", "table", "gifts", "due", "cut", "amid", "have", "place", "worth"]) (xs := ["cell"]) (ix := [1]) (by decide +kernel) (pi_list (pe_slice sl_list (pv 0) (po_some (pe_op op_add (pe_int (i := 2)) (pv 2))) (po_some (pe_op op_add (pe_int (i := 82)) (pv 2))))) (fun _ _ _ _ => (pg_name (i := 0) (show List.Nodup (["cell", "names"] : List Str) from (by decide +kernel)) rfl (Or.inl rfl) (.inr rfl))) (fun _ _ _ _ => pts_nil) (fun _ _ _ _ => (pe_call (FnOk.mono (ok__law_row T) (by decide)) hr rfl T.m__law_row T.f__law_row.kp T.b__law_row .nil pass0 (pa_cons (pv 0) (pa_cons (pv 1) pa_nil)))))
    (pss_cons (ps_set (i := 5) sc_law.nd rfl (Or.inl rfl) (pe_call (FnOk.mono (ok__law_due T) (by decide)) hr rfl T.m__law_due T.f__law_due.kp T.b__law_due .nil pass0 (pa_cons (pe_op op_cat (pv 3) (pv 4)) pa_nil)))
    (pss_cons (ps_if (PW.pt (pw_or (pt_not (pt_val (pe_call (FnOk.mono (ok__law_laid T) (by decide)) hr rfl T.m__law_laid T.f__law_laid.kp T.b__law_laid .nil pass0 (pa_cons (pv 3) (pa_cons (pv 4) (pa_cons (pv 5) pa_nil)))))) (pw_or (pt_not (pt_val (pe_call (FnOk.mono (ok__law_laid T) (by decide)) hr rfl T.m__law_laid T.f__law_laid.kp T.b__law_laid .nil pass0 (pa_cons (pv 5) (pa_cons (pv 4) (pa_cons (pv 5) pa_nil)))))) (pw_or1 (pt_not (pt_val (pe_call (FnOk.mono (ok__law_laid T) (by decide)) hr rfl T.m__law_laid T.f__law_laid.kp T.b__law_laid .nil pass0 (pa_cons (pv 3) (pa_cons (pe_lst pa_nil) (pa_cons (pv 3) pa_nil)))))))))) (pss_one (ps_ret (pe_bl (b := false))))
      pss_nil)
    (pss_cons (ps_set (i := 6) sc_law.nd rfl (Or.inl rfl) (pe_op op_mod (pe_op op_fdivB (pe_call (FnOk.mono (ok__law_cell_at T) (by decide)) hr rfl T.m__law_cell_at T.f__law_cell_at.kp T.b__law_cell_at .nil pass0 (pa_cons (pv 0) (pa_cons (pe_int (i := 1)) pa_nil))) (pe_int (i := 61))) (pe_op op_add (pe_callB call_len rfl T.b_len bt_len (pa_cons (pv 4) pa_nil)) (pe_int (i := 1)))))
    (pss_cons (ps_set (i := 7) sc_law.nd rfl (Or.inl rfl) (pe_call (FnOk.mono (ok_laid_on T) (by decide)) hr rfl T.m_laid_on T.f_laid_on.kp T.b_laid_on .nil pass0 (pa_cons (pe_callTy call_list_of rfl T.b_list bt_list (pa_cons (pv 3) pa_nil)) (pa_cons (pe_slice sl_list (pv 4) po_none (po_some (pv 6))) pa_nil))))
    (pss_cons (ps_if (PW.pt (pw_or (pt_not (pt_val (pe_call (FnOk.mono (ok__law_alike T) (by decide)) hr rfl T.m__law_alike T.f__law_alike.kp T.b__law_alike .nil pass0 (pa_cons (pv 7) (pa_cons (pe_call (FnOk.mono (ok__law_due T) (by decide)) hr rfl T.m__law_due T.f__law_due.kp T.b__law_due .nil pass0 (pa_cons (pe_op op_cat (pv 3) (pe_slice sl_list (pv 4) po_none (po_some (pv 6)))) pa_nil)) pa_nil))))) (pw_or1 (pt_not (pt_val (pe_call (FnOk.mono (ok__law_laid T) (by decide)) hr rfl T.m__law_laid T.f__law_laid.kp T.b__law_laid .nil pass0 (pa_cons (pv 7) (pa_cons (pe_slice sl_list (pv 4) (po_some (pv 6)) po_none) (pa_cons (pv 5) pa_nil))))))))) (pss_one (ps_ret (pe_bl (b := false))))
      pss_nil)
    (pss_cons (ps_if (PW.pt (pw_or (pt_not (pt_val (pe_call (FnOk.mono (ok__law_laid T) (by decide)) hr rfl T.m__law_laid T.f__law_laid.kp T.b__law_laid .nil pass0 (pa_cons (pe_lst pa_nil) (pa_cons (pv 4) (pa_cons (pe_call (FnOk.mono (ok__law_due T) (by decide)) hr rfl T.m__law_due T.f__law_due.kp T.b__law_due .nil pass0 (pa_cons (pv 4) pa_nil)) pa_nil)))))) (pw_or1 (pt_not (pt_val (pe_call (FnOk.mono (ok__law_alike T) (by decide)) hr rfl T.m__law_alike T.f__law_alike.kp T.b__law_alike .nil pass0 (pa_cons (pe_call (FnOk.mono (ok_table_of T) (by decide)) hr rfl T.m_table_of T.f_table_of.kp T.b_table_of .nil pass0 (pa_cons (pe_callTy call_list_of rfl T.b_list bt_list (pa_cons (pv 4) pa_nil)) pa_nil)) (pa_cons (pe_call (FnOk.mono (ok__law_due T) (by decide)) hr rfl T.m__law_due T.f__law_due.kp T.b__law_due .nil pass0 (pa_cons (pv 4) pa_nil)) pa_nil)))))))) (pss_one (ps_ret (pe_bl (b := false))))
      pss_nil)
    (pss_cons (ps_set (i := 8) sc_law.nd rfl (Or.inl rfl) (pe_callTy (call_dict_pairs rfl (hu3 hr)) rfl T.b_dict bt_dict (pa_cons (pv 5) pa_nil)))
    (pss_cons (ps_for PassesOwn.never rfl (pi_list (pe_op op_cat (pe_slice sl_list (pv 4) (po_some (pv 6)) po_none) (pv 3))) (pg_tup rfl (pgs_cons (pg_name (i := 9) sc_law.nd rfl (Or.inl rfl)) (pgs_cons (pg_name (i := 10) sc_law.nd rfl (Or.inl rfl)) pgs_nil))) (pss_one (ps_if (pt_cmpR op_ne (pe_call (FnOk.mono (ok_stands T) (by decide)) hr rfl T.m_stands T.f_stands.kp T.b_stands .nil pass0 (pa_cons (pv 5) (pa_cons (pv 9) pa_nil))) (pe_dget2 (hu_of hr) (pv 8) (pv 9) (pe_int (i := 0)) ⟨rfl, rfl, rfl, rfl⟩) (nomark _)) (pss_one (ps_ret (pe_bl (b := false))))
      pss_nil)))
    (pss_one (ps_ret (pe_bl (b := true)))))))))))))))), rdp_law hS hn q⟩
end
end K08
open PySem PySem.W PyProof.Rows
set_option maxRecDepth 100000 in
set_option maxHeartbeats 0 in
theorem PySem.Challenge.cw_forerun_k08_gifts_laid_holds : PySem.Challenge.rw_forerun_k08_gifts_laid.Holds := by
  w_on; o_law; k_head; (case hw => w_witness2)
  k_fill
  refine L2.walk_ofK (l := PySem.Challenge.rw_forerun_k08_gifts_laid) (n := 63) (k := 4) (x := "script") (CX := L2.CX0) (sp := K08.sp_law) rfl (by decide) rfl ⟨rfl, by decide, by decide⟩ (fun w h Y => PySem.W.kIn_of Y) ?F ?S ?C
  case F =>
    intro w mg fa h KX G hmg
    have T : ∃ t, K08.Txt (L2.KOf KX) mg t := by
      dsimp only [L2.KOf]
      refine' K08.txt_mk KX G ?qa0 ?ql0 ?qc0 ?qk0 ?qa1 ?ql1 ?qc1 ?qk1 ?qa2 ?ql2 ?qc2 ?qk2 ?qa3 ?ql3 ?qc3 ?qk3 ?qa4 ?ql4 ?qc4 ?qk4 ?qa5 ?ql5 ?qc5 ?qk5 ?qa6 ?ql6 ?qc6 ?qk6 ?qa7 ?ql7 ?qc7 ?qk7 ?qa8 ?ql8 ?qc8 ?qk8 ?qa9 ?ql9 ?qc9 ?qk9 ?qa10 ?ql10 ?qc10 ?qk10 ?qa11 ?ql11 ?qc11 ?qk11 ?qa12 ?ql12 ?qc12 ?qk12 ?qa13 ?ql13 ?qc13 ?qk13 ?qz0 ?qz1 ?qz2 ?qz3 ?qz4 ?qz5 ?qz6 ?qz7 ?qz8 ?qz9
      (case qa0 => k_is)
      (case ql0 => k_is)
      (case qc0 => k_is)
      (case qk0 => k_is)
      (case qa1 => k_is)
      (case ql1 => k_is)
      (case qc1 => k_is)
      (case qk1 => k_is)
      (case qa2 => k_is)
      (case ql2 => k_is)
      (case qc2 => k_is)
      (case qk2 => k_is)
      (case qa3 => k_is)
      (case ql3 => k_is)
      (case qc3 => k_is)
      (case qk3 => k_is)
      (case qa4 => k_is)
      (case ql4 => k_is)
      (case qc4 => k_is)
      (case qk4 => k_is)
      (case qa5 => k_is)
      (case ql5 => k_is)
      (case qc5 => k_is)
      (case qk5 => k_is)
      (case qa6 => k_is)
      (case ql6 => k_is)
      (case qc6 => k_is)
      (case qk6 => k_is)
      (case qa7 => k_is)
      (case ql7 => k_is)
      (case qc7 => k_is)
      (case qk7 => k_is)
      (case qa8 => k_is)
      (case ql8 => k_is)
      (case qc8 => k_is)
      (case qk8 => k_is)
      (case qa9 => k_is)
      (case ql9 => k_is)
      (case qc9 => k_is)
      (case qk9 => k_is)
      (case qa10 => k_is)
      (case ql10 => k_is)
      (case qc10 => k_is)
      (case qk10 => k_is)
      (case qa11 => k_is)
      (case ql11 => k_is)
      (case qc11 => k_is)
      (case qk11 => k_is)
      (case qa12 => k_is)
      (case ql12 => k_is)
      (case qc12 => k_is)
      (case qk12 => k_is)
      (case qa13 => k_is)
      (case ql13 => k_is)
      (case qc13 => k_is)
      (case qk13 => k_is)
      (case qz0 => k_is)
      (case qz1 => k_is)
      (case qz2 => k_is)
      (case qz3 => k_is)
      (case qz4 => k_is)
      (case qz5 => k_is)
      (case qz6 => k_is)
      (case qz7 => k_is)
      (case qz8 => k_is)
      (case qz9 => k_is)
    obtain ⟨t, T⟩ := T
    have e0 := hmg.symm.trans T.m_law
    cases e0
    exact ⟨_, T.w_law, fun base _ _ => K08.ok_law T⟩
  case S => exact fun K H a ns hl _ hS => ⟨a, ns, rfl, hS, hl, fun _ => rfl⟩
  case C => exact fun _ _ _ _ z => z
