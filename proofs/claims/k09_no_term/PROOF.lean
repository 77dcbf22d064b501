import PyProof.Rows.All
import Wide.All
import OpenK.AllK
import Wide.FinOn
import Lean
import PyProof.EqAt
import PyProof.EqKinds
import PyProof.TupleCall
import PySem.Challenge.RW_forerun_k09_no_term
import KE.KIntText
import KE.KRevIter
import KE.KTryMore
import PyProof.Conv_int_bool
import PyProof.MeetsStr
import PyProof.NsDelKeeps
import PyProof.Rows.EqDataRows
import PyProof.StrLaws
import PyProof.StrOps2
set_option Elab.async false
set_option linter.all false
set_option maxRecDepth 100000
/-! THE HAND LAYER, for ints, bools, texts, own classes, LISTS and tuples (index, slices, in, append, pop ..), calls, loops. Paste it whole ahead of your own text; what your proof does not reach may be deleted. -/
namespace L2
open PySem PySem.Spec PyProof.Rows

/-- a key: an int or a str -/
abbrev Key := Sum Int Str
def keyIs : Key → Value → Bool
  | .inl k, v => Value.isInt k v
  | .inr x, v => Value.isStrOf x v
def keyH (w : World) : Key → Int
  | .inl k => hashInt k
  | .inr x => hashStr w x
theorem keyIs_shape : ∀ {k : Key} {v : Value}, keyIs k v = true → (∃ i t, k = Sum.inl i ∧ v = Value.int i t) ∨ (∃ x t, k = Sum.inr x ∧ v = Value.str x t)
  | .inl i, v, h => by
    obtain ⟨t, e⟩ := Value.isInt_shape (k := i) (v := v) h
    exact .inl ⟨i, t, rfl, e⟩
  | .inr x, v, h => by
    obtain ⟨t, e⟩ := Value.isStrOf_shape (x := x) (v := v) h
    exact .inr ⟨x, t, rfl, e⟩
theorem key_ll (a b : Int) : decide ((Sum.inl a : Key) = Sum.inl b) = (a == b) := by
  by_cases e : a = b
  · subst e; simp
  · have h : ¬ (Sum.inl a : Key) = Sum.inl b := fun q => e (Sum.inl.inj q)
    rw [decide_eq_false h]
    exact (beq_eq_false_iff_ne.mpr e).symm
theorem key_rr (a b : Str) : decide ((Sum.inr a : Key) = Sum.inr b) = decide (a = b) := by
  by_cases e : a = b
  · subst e; simp
  · have h : ¬ (Sum.inr a : Key) = Sum.inr b := fun q => e (Sum.inr.inj q)
    rw [decide_eq_false h, decide_eq_false e]
theorem key_lr (a : Int) (b : Str) : decide ((Sum.inl a : Key) = Sum.inr b) = false := decide_eq_false (fun q => nomatch q)
theorem key_rl (a : Str) (b : Int) : decide ((Sum.inr a : Key) = Sum.inl b) = false := decide_eq_false (fun q => nomatch q)

def mixKind (prog : Program) (w : World) : PySem.KeyKind prog w Key where
  is := keyIs
  hash := keyH w
  inj := fun v a b ha hb => by
    rcases keyIs_shape ha with ⟨i, t, rfl, rfl⟩ | ⟨x, t, rfl, rfl⟩
    · rcases keyIs_shape hb with ⟨j, u, rfl, e⟩ | ⟨y, u, rfl, e⟩
      · injection e with e1 _; rw [e1]
      · exact nomatch e
    · rcases keyIs_shape hb with ⟨j, u, rfl, e⟩ | ⟨y, u, rfl, e⟩
      · exact nomatch e
      · injection e with e1 _; rw [e1]
  byValue := fun k v h => by
    rcases keyIs_shape h with ⟨i, t, rfl, rfl⟩ | ⟨x, t, rfl, rfl⟩ <;> rfl
  pyHash := fun hv h => by
    rcases keyIs_shape hv with ⟨i, t, rfl, rfl⟩ | ⟨x, t, rfl, rfl⟩
    · exact wpAny_pyHash_int h
    · exact wpAny_pyHash_str h
  eqBool := fun hu hv h => by
    rcases keyIs_shape hu with ⟨i, t, rfl, rfl⟩ | ⟨x, t, rfl, rfl⟩
    · rcases keyIs_shape hv with ⟨j, u, rfl, rfl⟩ | ⟨y, u, rfl, rfl⟩
      · rw [key_ll] at h; exact wpAny_eqBool_int h
      · rw [key_lr] at h; exact SeqAt.EqAt.int_str i t y u _ _ _ _ h
    · rcases keyIs_shape hv with ⟨j, u, rfl, rfl⟩ | ⟨y, u, rfl, rfl⟩
      · rw [key_rl] at h; exact SeqAt.EqAt.str_int x t j u _ _ _ _ h
      · rw [key_rr] at h; exact wpAny_eqBool_str h
  «strs» := fun k x t v h => by
    rcases keyIs_shape h with ⟨i, u, rfl, e⟩ | ⟨y, u, rfl, e⟩
    · exact nomatch e
    · injection e with e1 _
      subst e1
      cases v <;> rfl

end L2

namespace L2
open PySem PySem.Spec PyProof.Rows

/-- a value, without the heap -/
inductive V where
  | non | bl (b : Bool) | int (i : Int) | str (x : Str) | byt (b : Array UInt8) | flt (b : UInt64) | ref (a : Addr) | ty (n : String)
  deriving DecidableEq

def RelV : V → Value → Prop
  | .non, u => u = Value.none
  | .bl b, u => u = Value.bool b
  | .int i, u => ∃ t, u = Value.int i t
  | .str x, u => ∃ t, u = Value.str x t
  | .byt b, u => ∃ t, u = Value.bytes b t
  | .flt b, u => ∃ t, u = Value.float b t
  | .ref a, u => u = Value.ref a
  | .ty n, u => u = Value.type n

abbrev Vals : List V → List Value → Prop := Paired RelV
theorem Vals.length {xs : List V} {us : List Value} (r : Vals xs us) : xs.length = us.length := Paired.length r
theorem Vals.get : ∀ {xs : List V} {us : List Value} {i : Nat} {x : V}, Vals xs us → xs[i]? = some x → ∃ u, us[i]? = some u ∧ RelV x u
  | _, _, _, _, .nil, e => by simp at e
  | _, _, 0, _, .cons r _, e => by simp at e; subst e; exact ⟨_, rfl, r⟩
  | _, _, i + 1, x, .cons _ t, e => by
    obtain ⟨u, h1, h2⟩ := Vals.get (i := i) (x := x) t (by simpa using e)
    exact ⟨u, by simpa using h1, h2⟩
theorem Vals.append : ∀ {xs ys : List V} {us ws : List Value}, Vals xs us → Vals ys ws → Vals (xs ++ ys) (us ++ ws)
  | _, _, _, _, .nil, s => s
  | _, _, _, _, .cons r t, s => .cons r (Vals.append t s)
theorem Vals.take : ∀ {xs : List V} {us : List Value} (n : Nat), Vals xs us → Vals (xs.take n) (us.take n)
  | _, _, 0, _ => .nil
  | _, _, _ + 1, .nil => .nil
  | _, _, n + 1, .cons r t => .cons r (Vals.take n t)
theorem Vals.drop : ∀ {xs : List V} {us : List Value} (n : Nat), Vals xs us → Vals (xs.drop n) (us.drop n)
  | _, _, 0, r => r
  | _, _, _ + 1, .nil => .nil
  | _, _, n + 1, .cons _ t => Vals.drop n t
def RelO : Option V → Option Value → Prop
  | some v, some u => RelV v u
  | none, none => True
  | _, _ => False
def KV {κ : Type} : List (κ × V) → List (κ × Value) → Prop := Paired fun (p : κ × V) (q : κ × Value) => p.1 = q.1 ∧ RelV p.2 q.2

/-- a key of a dict (00_mix): an int or a text -/
def kV : Key → V
  | .inl i => .int i
  | .inr x => .str x

/-- what stands at a tracked address -/
inductive HO where
  /-- a list -/
  | lst (xs : List V)
  /-- a tuple (never changes) -/
  | tup (xs : List V)
  /-- a dict whose keys are ints and texts; one whose keys are tuples of ints and texts (the empty one is both) -/
  | dK (kvs : List (Key × V)) | dT (kvs : List (List Key × V))
  /-- a set of ints: its members, its size -/
  | set (S : Int → Bool) (n : Nat)
  /-- an instance of the class at C, its dict at dx, its attributes -/
  | ins (C dx : Addr) (fs : List (Str × V))
  /-- the dict of the instance at x -/
  | own (x : Addr)
  /-- the dict of an exception -/
  | xd (fs : List (Str × V))
  /-- a bound method, f of x -/
  | met (f x : Addr)
  /-- a range object lo, lo + 1, .. below hi -/
  | rng (lo hi : Int)
  /-- a thing that is known to the object (the script; a dict while a loop walks it): read, never written while it is so -/
  | frz (o : Obj) (u : HO)
  /-- a code object's table -/
  | tbl (ps : Array Value)
  /-- any other thing, by what is true of its one object (a def of one's own: SetO a S n := HO.ext fun h => ..) -/
  | ext (φ : Heap → Prop)

abbrev Hp := Addr → Option HO
def upd (H : Hp) (a : Addr) (o : HO) : Hp := fun b => if b = a then some o else H b
theorem upd_same {H : Hp} {a : Addr} {o : HO} : upd H a o a = some o := by unfold upd; rw [if_pos rfl]
theorem upd_ne {H : Hp} {a b : Addr} {o : HO} (h : b ≠ a) : upd H a o b = H b := by unfold upd; rw [if_neg h]
theorem ne_of_none {H : Hp} {a b : Addr} {o : HO} (h : H a = some o) (h' : H b = none) : a ≠ b := by
  intro e; subst e; rw [h] at h'; cases h'

section
variable (P : Program) (w : World)
def ObjOk (H : Hp) (h : Heap) (a : Addr) : HO → Prop
  | .lst xs => xs.length ≤ sizeLine ∧ ∃ (its : List Value) (n : Nat), Vals xs its ∧ h.get? a = some { cls := .type "list", data := .seq its.toArray n }
  | .tup xs => xs.length ≤ sizeLine ∧ ∃ its : List Value, Vals xs its ∧ IsTup h a its.toArray
  | .dK kvs => kvs.length ≤ sizeLine ∧ (a == sysModules) = false ∧ ∃ vs, KV kvs vs ∧ h.DictOf (mixKind P w) a vs
  | .dT kvs => kvs.length ≤ sizeLine ∧ (a == sysModules) = false ∧ ∃ xs : List (List Key × Addr × Value),
      Paired (fun (p : List Key × V) (q : List Key × Addr × Value) => p.1 = q.1 ∧ H q.2.1 = some (.tup (p.1.map kV)) ∧ RelV p.2 q.2.2) kvs xs ∧
      ∃ o es ep, h.get? a = some o ∧ o.ExactDict ∧ o.data = .dict es ep ∧ es.toList = xs.map (entryOfKey (tupleKind (mixKind P w))) ∧ (xs.map (·.1)).Nodup
  | .set S n => h.SetOf (intKind P w) a S n
  | .ins C dx fs => H dx = some (.own a) ∧ fs.length ≤ 1000 ∧ dx ≠ a ∧ h.get? a = some (PySem.W.instObj C dx) ∧
      ∃ mA, h.Ns1 dx mA ∧ (∀ f, RelO (fs.lookup f) (mA f)) ∧ PySem.Within mA (fs.map (·.1))
  | .own _ => ∃ o, h.get? a = some o
  | .xd fs => ∃ mA, h.Ns1 a mA ∧ ∀ f, RelO (fs.lookup f) (mA f)
  | .rng lo hi => ∃ t u v, h.get? a = some { cls := .type "range", data := .fields #[.int lo t, .int hi u, .int 1 v] }
  | .frz o u => h.get? a = some o ∧ ObjOk H h a u
  | .tbl ps => h.get? a = some { cls := .none, data := .fields ps }
  | .met f x => h.get? a = some (PySem.W.methodObj (.ref f) (.ref x))
  | .ext φ => φ h ∧ (∃ o, h.get? a = some o) ∧ ∀ h1 h2 : Heap, φ h1 → (∀ o, h1.get? a = some o → h2.get? a = some o) → φ h2
/-- the abstract heap is held -/
def HOk (H : Hp) (h : Heap) : Prop := ∀ a o, H a = some o → ObjOk P w H h a o
end

section
variable {P : Program} {w : World} {H H' : Hp} {h h' : Heap} {a : Addr} {o : HO}
theorem ObjOk.lt (x : ObjOk P w H h a o) : a < h.objs.size := by
  cases o with
  | lst xs => obtain ⟨_, _, _, _, e⟩ := x; exact Heap.lt_size e
  | tup xs => obtain ⟨_, _, _, p⟩ := x; exact p.lt
  | dK kvs => obtain ⟨_, _, _, _, o, _, _, e, _⟩ := x; exact Heap.lt_size e
  | dT kvs => obtain ⟨_, _, _, _, o, _, _, e, _⟩ := x; exact Heap.lt_size e
  | set S n => obtain ⟨o, _, _, _, e, _⟩ := x; exact Heap.lt_size e
  | ins C dx fs => obtain ⟨_, _, _, e, _⟩ := x; exact Heap.lt_size e
  | own y => obtain ⟨_, e⟩ := x; exact Heap.lt_size e
  | xd fs => obtain ⟨_, ⟨_, _, _, e, _⟩, _⟩ := x; exact Heap.lt_size e
  | rng lo hi => obtain ⟨_, _, _, e⟩ := x; exact Heap.lt_size e
  | frz ob u => obtain ⟨e, _⟩ := x; exact Heap.lt_size e
  | tbl ps => exact Heap.lt_size (show h.get? a = some _ from x)
  | met f y => exact Heap.lt_size (show h.get? a = some _ from x)
  | ext φ => obtain ⟨_, ⟨_, e⟩, _⟩ := x; exact Heap.lt_size e
theorem Paired.mapP {α β : Type} {F G : α → β → Prop} : ∀ {l₁ : List α} {l₂ : List β}, Paired F l₁ l₂ → (∀ a b, F a b → G a b) → Paired G l₁ l₂
  | _, _, .nil, _ => .nil
  | _, _, .cons r t, f => .cons (f _ _ r) (Paired.mapP t f)
/-- what an object's description leans on: its own object, its own dict, the tuples -/
theorem ObjOk.stay (x : ObjOk P w H h a o) (k : ∀ b u, (b = a ∨ H b = some (.own a)) → h.get? b = some u → h'.get? b = some u)
    (ho : ∀ b, H b = some (.own a) → H' b = some (.own a)) (ht : ∀ b xs, H b = some (.tup xs) → H' b = some (.tup xs)) : ObjOk P w H' h' a o := by
  induction o with
  | lst xs => obtain ⟨z, its, n, r, e⟩ := x; exact ⟨z, its, n, r, k _ _ (.inl rfl) e⟩
  | tup xs => obtain ⟨z, its, r, ob, e, c⟩ := x; exact ⟨z, its, r, ob, k _ _ (.inl rfl) e, c⟩
  | dK kvs => obtain ⟨z, y, vs, r, ob, es, ep, e, c⟩ := x; exact ⟨z, y, vs, r, ob, es, ep, k _ _ (.inl rfl) e, c⟩
  | dT kvs =>
    obtain ⟨z, y, xs, r, ob, es, ep, e, c⟩ := x
    exact ⟨z, y, xs, Paired.mapP r fun p q z => ⟨z.1, ht _ _ z.2.1, z.2.2⟩, ob, es, ep, k _ _ (.inl rfl) e, c⟩
  | set S n => obtain ⟨ob, es, ep, t, e, c⟩ := x; exact ⟨ob, es, ep, t, k _ _ (.inl rfl) e, c⟩
  | ins C dx fs =>
    obtain ⟨d, z, ne, e, mA, ⟨od, es, ep, e2, c⟩, r⟩ := x
    exact ⟨ho _ d, z, ne, k _ _ (.inl rfl) e, mA, ⟨od, es, ep, k _ _ (.inr d) e2, c⟩, r⟩
  | own y => obtain ⟨ob, e⟩ := x; exact ⟨ob, k _ _ (.inl rfl) e⟩
  | xd fs => obtain ⟨mA, ⟨od, es, ep, e, c⟩, r⟩ := x; exact ⟨mA, ⟨od, es, ep, k _ _ (.inl rfl) e, c⟩, r⟩
  | rng lo hi => obtain ⟨t, u, v, e⟩ := x; exact ⟨t, u, v, k _ _ (.inl rfl) e⟩
  | frz ob u ih => obtain ⟨e, q⟩ := x; exact ⟨k _ _ (.inl rfl) e, ih q⟩
  | tbl ps =>
    have e : h.get? a = some { cls := .none, data := .fields ps } := x
    show h'.get? a = some { cls := .none, data := .fields ps }
    exact k a _ (.inl rfl) e
  | met f y =>
    have e : h.get? a = some (PySem.W.methodObj (.ref f) (.ref y)) := x
    show h'.get? a = some (PySem.W.methodObj (.ref f) (.ref y))
    exact k a _ (.inl rfl) e
  | ext φ => obtain ⟨p, ⟨o, e⟩, st⟩ := x; exact ⟨st _ _ p fun o q => k _ _ (.inl rfl) q, ⟨o, k _ _ (.inl rfl) e⟩, st⟩
theorem HOk.lt (x : HOk P w H h) (e : H a = some o) : a < h.objs.size := (x a o e).lt
theorem HOk.fresh (x : HOk P w H h) (e : h.objs.size ≤ a) : H a = none := by
  cases q : H a with
  | none => rfl
  | some u => exact absurd (Nat.lt_of_lt_of_le (x.lt q) e) (Nat.lt_irrefl _)
/-- every object of the heap is kept -/
theorem HOk.kept (x : HOk P w H h) (k : ∀ b u, h.get? b = some u → h'.get? b = some u) : HOk P w H h' := fun a o e =>
  (x a o e).stay (fun b u _ q => k b u q) (fun _ q => q) fun _ _ q => q
/-- a new object is laid and tracked -/
theorem HOk.laid (x : HOk P w H h) (k : ∀ b u, h.get? b = some u → h'.get? b = some u) (hp : h.objs.size ≤ a) (new : ObjOk P w (upd H a o) h' a o) : HOk P w (upd H a o) h' := fun b u e => by
  have hn := x.fresh hp
  by_cases hb : b = a
  · subst hb; rw [upd_same] at e; cases e; exact new
  · rw [upd_ne hb] at e
    exact (x b u e).stay (fun c v _ q => k c v q) (fun c q => by rw [upd_ne (ne_of_none q hn)]; exact q) fun c xs q => by rw [upd_ne (ne_of_none q hn)]; exact q
end

/-- what may be read as u: it is u, or a known u -/
def Rd (H : Hp) (a : Addr) (u : HO) : Prop := H a = some u ∨ ∃ o, H a = some (.frz o u)
theorem Rd.ok {P : Program} {w : World} {H : Hp} {h : Heap} {a : Addr} {u : HO} (r : Rd H a u) (x : HOk P w H h) : ObjOk P w H h a u := by
  rcases r with r | ⟨o, r⟩
  · exact x a u r
  · obtain ⟨_, q⟩ := x a _ r
    exact q
/-- what may be written -/
def Mut : Option HO → Prop
  | some (.lst _) => True
  | some (.dK _) => True
  | some (.dT _) => True
  | some (.set _ _) => True
  | some (.ins _ _ _) => True
  | some (.ext _) => True
  | _ => False
section
variable {P : Program} {w : World} {H : Hp} {h h' : Heap} {x e : Addr} {o' : HO}
/-- the object at e is changed: x itself, or the dict of the instance x -/
theorem HOk.write (ok : HOk P w H h) (mu : Mut (H x)) (he : e = x ∨ H e = some (.own x)) (k : ∀ b u, b ≠ e → h.get? b = some u → h'.get? b = some u) (heo : ∃ u, h'.get? e = some u)
    (new : ObjOk P w (upd H x o') h' x o') : HOk P w (upd H x o') h' := fun b u q => by
  have nown : ∀ c y, H c = some (.own y) → c ≠ x := fun c y r z => by subst z; rw [r] at mu; exact mu
  have ntup : ∀ c xs, H c = some (.tup xs) → c ≠ x := fun c xs r z => by subst z; rw [r] at mu; exact mu
  by_cases hb : b = x
  · subst hb; rw [upd_same] at q; cases q; exact new
  · rw [upd_ne hb] at q
    by_cases hbe : b = e
    · have q' : H b = some (.own x) := by
        rcases he with z | z
        · exact absurd (hbe.trans z) hb
        · rw [hbe]; exact z
      rw [q] at q'; cases q'
      obtain ⟨v, hv⟩ := heo
      exact ⟨v, by rw [hbe]; exact hv⟩
    · refine (ok b u q).stay (fun c v hc r => k c v ?_ r) (fun c r => by rw [upd_ne (nown c b r)]; exact r) fun c xs r => by rw [upd_ne (ntup c xs r)]; exact r
      rcases hc with rfl | hc
      · exact hbe
      · rintro rfl
        rcases he with z | z
        · exact nown c b hc z
        · rw [hc] at z; cases z; exact hb rfl
end

/-! ### kept unless tracked; of the frames at fs (the callers') the slots may change (an exception that passes writes there); of the records at ex (iterators) nothing is said -/
structure Un (fs ex : List Addr) (H H' : Hp) (h h' : Heap) : Prop where
  keep : ∀ b o, h.get? b = some o → H b = none → b ∉ fs → b ∉ ex → h'.get? b = some o
  slot : ∀ b o, h.get? b = some o → H b = none → b ∈ fs → b ∉ ex → ∃ sl, h'.get? b = some { o with slots := sl }
  free : ∀ b o, h.get? b = some o → H b = none → b ∉ ex → H' b = none
  there : ∀ b o, h.get? b = some o → b ∉ ex → ∃ o', h'.get? b = some o'
  tups : ∀ b xs, H b = some (.tup xs) → H' b = some (.tup xs)
  frzs : ∀ b o u, H b = some (.frz o u) → H' b = some (.frz o u)
  tbls : ∀ b ps, H b = some (.tbl ps) → ∃ more, H' b = some (.tbl (ps ++ more))
section
variable {fs fs' ex ex' : List Addr} {H H1 H2 : Hp} {h h1 h2 h' : Heap} {a x e : Addr} {o : HO}
theorem Un.any (u : Un fs ex H H1 h h1) {b : Addr} {ob : Obj} (q : h.get? b = some ob) (n : H b = none) (hx : b ∉ ex) : ∃ sl, h1.get? b = some { ob with slots := sl } := by
  by_cases hb : b ∈ fs
  · exact u.slot b ob q n hb hx
  · exact ⟨ob.slots, u.keep b ob q n hb hx⟩
theorem Un.kept (k : ∀ b u, h.get? b = some u → h'.get? b = some u) : Un fs ex H H h h' :=
  ⟨fun b ob q _ _ _ => k b ob q, fun b ob q _ _ _ => ⟨ob.slots, k b ob q⟩, fun _ _ _ n _ => n, fun b ob q _ => ⟨ob, k b ob q⟩, fun _ _ q => q, fun _ _ _ q => q, fun _ ps q => ⟨#[], by rw [q]; simp⟩⟩
theorem Un.refl : Un fs ex H H h h := Un.kept fun _ _ q => q
theorem Un.laid (k : ∀ b u, h.get? b = some u → h'.get? b = some u) (hp : h.objs.size ≤ a) (hn : H a = none) : Un fs ex H (upd H a o) h h' where
  keep := fun b u q _ _ _ => k b u q
  slot := fun b u q _ _ _ => ⟨u.slots, k b u q⟩
  free := fun b u q n _ => by rw [upd_ne (Nat.ne_of_lt (Nat.lt_of_lt_of_le (Heap.lt_size q) hp))]; exact n
  there := fun b u q _ => ⟨u, k b u q⟩
  tups := fun b xs q => by rw [upd_ne (ne_of_none q hn)]; exact q
  frzs := fun b u xs q => by rw [upd_ne (ne_of_none q hn)]; exact q
  tbls := fun b ps q => ⟨#[], by rw [upd_ne (ne_of_none q hn), q]; simp⟩
theorem Un.write (mu : Mut (H x)) (he : e = x ∨ H e = some (.own x)) (k : ∀ b u, b ≠ e → h.get? b = some u → h'.get? b = some u) (heo : ∃ u, h'.get? e = some u) : Un fs ex H (upd H x o) h h' := by
  have hx : ∀ b, H b = none → b ≠ x := fun b n z => by subst z; rw [n] at mu; exact mu
  have hb : ∀ b, H b = none → b ≠ e := fun b n z => by
    subst z
    rcases he with r | r
    · exact hx b n r
    · rw [n] at r; cases r
  have hm : ∀ b u, H b = some u → ¬ Mut (some u) → b ≠ x := fun b u q nm z => by subst z; rw [q] at mu; exact nm mu
  refine ⟨fun b u q n _ _ => k b u (hb b n) q, fun b u q n _ _ => ⟨u.slots, k b u (hb b n) q⟩, fun b u q n _ => by rw [upd_ne (hx b n)]; exact n, fun b u q _ => ?_,
    fun b xs q => by rw [upd_ne (hm b _ q fun z => z)]; exact q, fun b u xs q => by rw [upd_ne (hm b _ q fun z => z)]; exact q, fun b ps q => ⟨#[], by rw [upd_ne (hm b _ q fun z => z), q]; simp⟩⟩
  by_cases hbe : b = e
  · subst hbe; exact heo
  · exact ⟨u, k b u hbe q⟩
end

/-! ### the heap without what is tracked -/
def trk (h : Heap) (H : Hp) : List Addr := (List.range h.objs.size).filter fun a => (H a).isSome
def hidT (h : Heap) (H : Hp) : Heap := PySem.W.hideAll h (trk h H)
theorem hidT_size (h : Heap) (H : Hp) : (hidT h H).objs.size = h.objs.size := PySem.W.hideAll_size _ _
theorem hidT_get {h : Heap} {H : Hp} {b : Addr} {o : Obj} (e : h.get? b = some o) (n : H b = none) : (hidT h H).get? b = some o :=
  PySem.W.hideAll_get _ e fun hm => by
    have q : (H b).isSome = true := (List.mem_filter.mp hm).2
    rw [n] at q; simp at q
theorem of_hidT {h : Heap} {H : Hp} {b : Addr} {o : Obj} (e : (hidT h H).get? b = some o) : h.get? b = some o ∧ H b = none := by
  have e' : h.get? b = some o := PySem.W.of_hideAll (trk h H) e
  refine ⟨e', ?_⟩
  cases q : H b with
  | none => rfl
  | some x =>
    have hm : b ∈ trk h H := List.mem_filter.mpr ⟨List.mem_range.mpr (Heap.lt_size e'), by simp [q]⟩
    have z : (hidT h H).get? b = none := PySem.W.hideAll_none (trk h H) hm
    rw [z] at e; cases e

/-! ### OpenK's ledger, filled with every new object but one -/
def allNews (g h : Heap) (L : Addr) : List (Addr × Obj) := (List.range h.objs.size).filterMap fun a => if a = L ∨ (g.get? a).isSome = true then none else (h.get? a).map fun o => (a, o)
def rest (g h : Heap) (L d : Addr) : List (Addr × Obj) := (allNews g h L).filter fun p => decide (p.1 ≠ d)
end L2

namespace L2
open PySem PySem.Spec PyProof.Rows

/-- the module's facts, over the base: the heap at the law's entry without what is tracked there -/
structure Mod (K : PySem.W.Frag) (mg : Str → Option Value) (base : Heap) : Prop where
  kin : K.In base
  glob : base.Ns mainGlobals mg
  blt : ∃ mb, base.Ns builtinsNs mb ∧ ∀ x : Str, x ≠ "__name__" → mb x = bootBuiltins x
  nolimit : base.NoLimit

/-- the context: a def's body (or a comprehension's block) running. base: fixed through the whole law; s₀, H₀: the entry; outer: the frames whose slots others may change (a def's callers); stack: all frames that run;
   ex: iterators that were made ahead of the entry and are walked here (a comprehension's); fn: the names whose cells were made at the entry (a def: all; a comprehension's block: its own); calm: not within an except suite; pn: pins that every state bears; xe: what is wanted of an exception that leaves the code -/
structure Cx where
  prog : Program
  w : World
  K : PySem.W.Frag
  mg : Str → Option Value
  base : Heap
  A : Around
  N : List Str
  s₀ : Shared
  H₀ : Hp
  env : Env
  outer : List Env
  stack : List Env
  ex : List Addr
  fn : Str → Bool
  calm : Bool
  pn : List (Addr × Obj)
  xe : Value → Shared → Prop
/-- the callers' frames -/
def frs (l : List Env) : List Addr := l.filterMap (·.frame)
abbrev Cx.fs (X : Cx) : List Addr := frs X.outer

def Vis (sc : Scope) (x : Str) : Prop := sc.names.lookup x = some .local ∨ sc.names.lookup x = some .cell ∨ sc.names.lookup x = some .free
def Loc (sc : Scope) (x : Str) : Prop := sc.names.lookup x = some .local ∨ sc.names.lookup x = some .cell
def Look (env : Env) (h : Heap) (m : Str → Option Value) (x : Str) (u : Value) : Prop :=
  (env.kindOf x = some .local ∧ m x = some u) ∨ ((env.kindOf x = some .cell ∨ env.kindOf x = some .free) ∧ ∃ c, env.cells.lookup x = some c ∧ h.IsCell c (some u))

structure Cx.Ok (X : Cx) : Prop where
  mod : Mod X.K X.mg X.base
  kind : X.env.scope.kind = .function
  glob : X.env.globals = mainGlobals
  blt : X.env.builtins = builtinsNs
  above : X.s₀.heap.objs.size ≤ X.env.locals
  inj : ∀ x y c, X.env.cells.lookup x = some c → X.env.cells.lookup y = some c → x = y
  has : ∀ x, (X.env.kindOf x = some .cell ∨ X.env.kindOf x = some .free) → ∃ c, X.env.cells.lookup x = some c
  cab : ∀ x c, X.fn x = true → X.env.cells.lookup x = some c → X.s₀.heap.objs.size ≤ c
  hd : X.calm = true → X.A.handled = none
  frames : X.A.frames = some X.stack
  stk : X.stack = X.outer ∨ (X.stack = X.env :: X.outer ∧ X.env.frame = some X.env.locals)
  exf : ∀ b ∈ X.ex, b ≠ X.env.locals ∧ ∀ x c, X.env.cells.lookup x = some c → c ≠ b
  bs : ∀ b o, X.base.get? b = some o → X.s₀.heap.get? b = some o ∧ X.H₀ b = none
  bsz : X.base.objs.size ≤ X.s₀.heap.objs.size
  noex : ∀ b o, X.base.get? b = some o → b ∉ X.ex
  exfs : ∀ b ∈ X.ex, b ∉ X.fs
  funs : X.s₀.heap.FunFrames X.base X.outer
  frf : ∀ b ∈ X.fs, X.H₀ b = none

structure Inv (X : Cx) (pins : List (Addr × Obj)) (σ : List (Option V)) (H : Hp) (s : Shared) : Prop where
  ok : X.Ok
  os : s.os = X.s₀.os
  bare : AllBare s.gens
  base : Un X.fs X.ex X.H₀ H X.s₀.heap s.heap
  loc : ∃ m, s.heap.Ns X.env.locals m ∧ ∀ (i : Nat) (x : Str) (v : V), X.N[i]? = some x → σ[i]? = some (some v) → Vis X.env.scope x → ∃ u, RelV v u ∧ Look X.env s.heap m x u
  cell : ∀ x c, X.env.cells.lookup x = some c → ∃ v, s.heap.IsCell c v
  free : H X.env.locals = none
  freeC : ∀ x c, X.env.cells.lookup x = some c → H c = none
  pin : ∀ p ∈ X.pn ++ pins, s.heap.get? p.1 = some p.2 ∧ H p.1 = none ∧ p.1 ≠ X.env.locals ∧ p.1 ∉ X.fs ∧ ∀ v, p.2.data ≠ .cell v
  hok : HOk X.prog X.w H s.heap
  len : σ.length = X.N.length

section
variable {X : Cx} {pins : List (Addr × Obj)} {σ : List (Option V)} {H H' : Hp} {s : Shared} {h' : Heap}

theorem Cx.Ok.nofr (ok : X.Ok) {b : Addr} {o : Obj} (e : X.base.get? b = some o) : b ∉ X.fs := fun hb => by
  have := (ok.funs.mem hb).1
  rw [e] at this; cases this
theorem Inv.bs (I : Inv X pins σ H s) : ∀ b o, X.base.get? b = some o → s.heap.get? b = some o ∧ H b = none := fun b o e =>
  ⟨I.base.keep b o (I.ok.bs b o e).1 (I.ok.bs b o e).2 (I.ok.nofr e) (I.ok.noex b o e), I.base.free b o (I.ok.bs b o e).1 (I.ok.bs b o e).2 (I.ok.noex b o e)⟩
theorem Inv.bk (I : Inv X pins σ H s) : ∀ b o, X.base.get? b = some o → s.heap.get? b = some o := fun b o e => (I.bs b o e).1
theorem Inv.mod (I : Inv X pins σ H s) : Mod X.K X.mg X.base := I.ok.mod
theorem Inv.kIn (I : Inv X pins σ H s) : X.K.In s.heap := I.ok.mod.kin.keeps I.bk
theorem Inv.lt (I : Inv X pins σ H s) : X.env.locals < s.heap.objs.size := let ⟨_, hn, _⟩ := I.loc; hn.lt
theorem Inv.sz (I : Inv X pins σ H s) : X.s₀.heap.objs.size ≤ s.heap.objs.size := Nat.le_trans I.ok.above (Nat.le_of_lt I.lt)
theorem Inv.nofs (I : Inv X pins σ H s) {a : Addr} (h : s.heap.objs.size ≤ a) : a ∉ X.fs := fun hb => by
  obtain ⟨_, o, ho, _⟩ := I.ok.funs.mem hb
  exact absurd (Nat.lt_of_lt_of_le (Heap.lt_size ho) (Nat.le_trans I.sz h)) (Nat.lt_irrefl _)
theorem Inv.cne (I : Inv X pins σ H s) : ∀ x c, X.env.cells.lookup x = some c → c ≠ X.env.locals := fun x c e z => by
  obtain ⟨v, o, ho, hd⟩ := I.cell x c e
  obtain ⟨m, ⟨o', es, ep, ho', hd', _⟩, _⟩ := I.loc
  rw [z, ho'] at ho; cases ho; rw [hd'] at hd; cases hd
theorem Inv.funs (I : Inv X pins σ H s) : s.heap.FunFrames X.base X.outer := by
  have all : ∀ (l : List Env), (∀ b ∈ frs l, b ∈ X.fs) → X.s₀.heap.FunFrames X.base l → s.heap.FunFrames X.base l := by
    intro l
    induction l with
    | nil => intro _ _; trivial
    | cons env r ih =>
      intro hs hl
      obtain ⟨hk, ⟨L, o, hf, hn, ho, hd⟩, hr⟩ := hl
      have hL : L ∈ X.fs := hs L (by unfold frs; rw [List.filterMap_cons, hf]; exact List.mem_cons_self)
      obtain ⟨sl, e⟩ := I.base.slot L o ho (I.ok.frf L hL) hL fun z => I.ok.exfs L z hL
      exact ⟨hk, ⟨L, _, hf, hn, e, hd⟩, ih (fun b hb => hs b (by unfold frs; rw [List.filterMap_cons, hf]; exact List.mem_cons_of_mem _ hb)) hr⟩
  exact all X.outer (fun _ hb => hb) I.ok.funs

/-- the frames that run, for a call -/
theorem Inv.stack (I : Inv X pins σ H s) : s.heap.FunFrames X.base X.stack := by
  rcases I.ok.stk with e | ⟨e, hf⟩
  · rw [e]; exact I.funs
  · rw [e]
    obtain ⟨m, hn, _⟩ := I.loc
    refine .cons (by rw [I.ok.kind]; decide) hf hn ?_ I.funs
    exact Heap.get?_none_of_le (Nat.le_trans I.ok.bsz I.ok.above)
theorem Inv.stkSub (I : Inv X pins σ H s) : ∀ b ∈ frs X.stack, b ∈ X.env.locals :: X.fs := fun b hb => by
  rcases I.ok.stk with e | ⟨e, hf⟩
  · rw [e] at hb; exact List.mem_cons_of_mem _ hb
  · rw [e] at hb
    unfold frs at hb
    rw [List.filterMap_cons, hf] at hb
    exact hb
theorem Inv.stkFree (I : Inv X pins σ H s) : ∀ b ∈ frs X.stack, H b = none := fun b hb => by
  rcases List.mem_cons.mp (I.stkSub b hb) with e | hb
  · rw [e]; exact I.free
  · obtain ⟨_, o, ho, _⟩ := I.ok.funs.mem hb
    exact I.base.free b o ho (I.ok.frf b hb) fun z => I.ok.exfs b z hb

/-- THE STEP: the untracked objects but the frame and the records at ch are kept (the callers' frames up to slots), the frame's map is kept, the new abstract heap is held -/
theorem Inv.step {g' : Array GenState} {t' : Nat} {d' : Drawn} {ch : List Addr} (I : Inv X pins σ H s)
    (hch : ∀ b ∈ ch, (b ∈ X.ex ∨ X.s₀.heap.objs.size ≤ b) ∧ b ≠ X.env.locals ∧ (∀ x c, X.env.cells.lookup x = some c → c ≠ b) ∧ ∀ p ∈ X.pn ++ pins, p.1 ≠ b)
    (keep : ∀ b o, b ≠ X.env.locals → b ∉ X.fs → b ∉ ch → s.heap.get? b = some o → H b = none → h'.get? b = some o)
    (slot : ∀ b o, b ≠ X.env.locals → b ∈ X.fs → b ∉ ch → s.heap.get? b = some o → H b = none → ∃ sl, h'.get? b = some { o with slots := sl }) (free : ∀ b o, b ∉ ch → s.heap.get? b = some o → H b = none → H' b = none)
    (there : ∀ b o, b ∉ ch → s.heap.get? b = some o → ∃ o', h'.get? b = some o')
    (tups : ∀ b xs, H b = some (.tup xs) → H' b = some (.tup xs)) (frzs : ∀ b o u, H b = some (.frz o u) → H' b = some (.frz o u)) (tbls : ∀ b ps, H b = some (.tbl ps) → ∃ more, H' b = some (.tbl (ps ++ more)))
    (ns : ∀ m, s.heap.Ns X.env.locals m → h'.Ns X.env.locals m) (hok : HOk X.prog X.w H' h') (hg : AllBare g') :
    Inv X pins σ H' { s with heap := h', gens := g', drawn := d', toks := t' } := by
  have neL : ∀ b o, X.s₀.heap.get? b = some o → b ≠ X.env.locals := fun b o e => Nat.ne_of_lt (Nat.lt_of_lt_of_le (Heap.lt_size e) I.ok.above)
  have neC : ∀ b o, X.s₀.heap.get? b = some o → b ∉ X.ex → b ∉ ch := fun b o e hx hb => by
    rcases (hch b hb).1 with z | z
    · exact hx z
    · exact absurd (Nat.lt_of_lt_of_le (Heap.lt_size e) z) (Nat.lt_irrefl _)
  have cellK : ∀ x c, X.env.cells.lookup x = some c → ∀ v, s.heap.IsCell c v → h'.IsCell c v := fun x c e v ⟨o, ho, hd⟩ => by
    have nch : c ∉ ch := fun z => (hch c z).2.2.1 x c e rfl
    by_cases hc : c ∈ X.fs
    · obtain ⟨sl, q⟩ := slot c o (I.cne x c e) hc nch ho (I.freeC x c e)
      exact ⟨_, q, hd⟩
    · exact ⟨o, keep c o (I.cne x c e) hc nch ho (I.freeC x c e), hd⟩
  refine ⟨I.ok, I.os, hg, ⟨fun b o e n hb hx => ?_, fun b o e n hb hx => ?_, fun b o e n hx => ?_, fun b o e hx => ?_, fun b xs e => tups b xs (I.base.tups b xs e), fun b o xs e => frzs b o xs (I.base.frzs b o xs e), fun b ps e => ?_⟩, ?_, fun x c e => ?_, ?_, fun x c e => ?_, fun p hp => ?_, hok, I.len⟩
  · exact keep b o (neL b o e) hb (neC b o e hx) (I.base.keep b o e n hb hx) (I.base.free b o e n hx)
  · obtain ⟨sl, e1⟩ := I.base.slot b o e n hb hx
    obtain ⟨sl', e2⟩ := slot b _ (neL b o e) hb (neC b o e hx) e1 (I.base.free b o e n hx)
    exact ⟨sl', e2⟩
  · obtain ⟨o', e1⟩ := I.base.there b o e hx
    exact free b o' (neC b o e hx) e1 (I.base.free b o e n hx)
  · obtain ⟨o', e1⟩ := I.base.there b o e hx
    exact there b o' (neC b o e hx) e1
  · obtain ⟨m1, e1⟩ := I.base.tbls b ps e
    obtain ⟨m2, e2⟩ := tbls b _ e1
    exact ⟨m1 ++ m2, by rw [e2, Array.append_assoc]⟩
  · obtain ⟨m, hn, hl⟩ := I.loc
    refine ⟨m, ns m hn, fun i x v e1 e2 e3 => ?_⟩
    obtain ⟨u, r, l⟩ := hl i x v e1 e2 e3
    refine ⟨u, r, ?_⟩
    rcases l with l | ⟨k, c, e, z⟩
    · exact .inl l
    · exact .inr ⟨k, c, e, cellK x c e _ z⟩
  · obtain ⟨v, z⟩ := I.cell x c e
    exact ⟨v, cellK x c e v z⟩
  · obtain ⟨m, ⟨o, _, _, ho, _⟩, _⟩ := I.loc
    exact free _ o (fun z => (hch _ z).2.1 rfl) ho I.free
  · obtain ⟨v, o, ho, hd⟩ := I.cell x c e
    exact free c o (fun z => (hch c z).2.2.1 x c e rfl) ho (I.freeC x c e)
  · obtain ⟨e, n, ne, nf, d⟩ := I.pin p hp
    have nch : p.1 ∉ ch := fun z => (hch p.1 z).2.2.2 p hp rfl
    exact ⟨keep p.1 p.2 ne nf nch e n, free p.1 p.2 nch e n, ne, nf, d⟩
/-- .. where the frame's own object is kept too -/
theorem Inv.un {t' : Nat} (I : Inv X pins σ H s) (u : Un X.fs [] H H' s.heap h') (hok : HOk X.prog X.w H' h') : Inv X pins σ H' { s with heap := h', toks := t' } := by
  obtain ⟨m, ⟨o, es, ep, ho, r⟩, _⟩ := id I.loc
  obtain ⟨sl, hL⟩ := u.any ho I.free (by simp)
  exact I.step (g' := s.gens) (d' := s.drawn) (ch := []) (fun _ z => nomatch z) (fun b o _ hb _ e n => u.keep b o e n hb (by simp)) (fun b o _ hb _ e n => u.slot b o e n hb (by simp)) (fun b o _ e n => u.free b o e n (by simp)) (fun b o _ e => u.there b o e (by simp)) u.tups u.frzs u.tbls (fun m' hm => by
    obtain ⟨o', es', ep', ho', r'⟩ := hm
    rw [ho] at ho'; cases ho'
    exact ⟨_, es', ep', hL, r'⟩) hok I.bare
/-- behind a call (or a comprehension's block): the slots of this frame may have changed too, the records at ch may have turned -/
theorem Inv.call {g' : Array GenState} {t' : Nat} {d' : Drawn} {ch : List Addr} (I : Inv X pins σ H s) (u : Un (frs X.stack) ch H H' s.heap h') (hok : HOk X.prog X.w H' h') (hg : AllBare g')
    (hch : ∀ b ∈ ch, (b ∈ X.ex ∨ X.s₀.heap.objs.size ≤ b) ∧ b ≠ X.env.locals ∧ (∀ x c, X.env.cells.lookup x = some c → c ≠ b) ∧ ∀ p ∈ X.pn ++ pins, p.1 ≠ b) :
    Inv X pins σ H' { s with heap := h', gens := g', drawn := d', toks := t' } := by
  obtain ⟨m, ⟨o, es, ep, ho, r⟩, _⟩ := id I.loc
  obtain ⟨sl, hL⟩ := u.any ho I.free fun z => (hch _ z).2.1 rfl
  exact I.step (ch := ch) hch (fun b o hL hb hc e n => u.keep b o e n (fun z => (List.mem_cons.mp (I.stkSub b z)).elim hL hb) hc) (fun b o _ _ hc e n => u.any e n hc) (fun b o hc e n => u.free b o e n hc) (fun b o hc e => u.there b o e hc) u.tups u.frzs u.tbls (fun m' hm => by
    obtain ⟨o', es', ep', ho', r'⟩ := hm
    rw [ho] at ho'; cases ho'
    exact ⟨_, es', ep', hL, r'⟩) hok hg
/-- an untracked record of ours (an iterator) has turned -/
theorem Inv.turned {t' : Nat} {it : Addr} (I : Inv X pins σ H s) (k : ∀ b o, b ≠ it → s.heap.get? b = some o → h'.get? b = some o) (hn : H it = none) (hL : it ≠ X.env.locals)
    (h1 : it ∈ X.ex ∨ X.s₀.heap.objs.size ≤ it) (h2 : ∀ x c, X.env.cells.lookup x = some c → c ≠ it) (h3 : ∀ p ∈ X.pn ++ pins, p.1 ≠ it) : Inv X pins σ H { s with heap := h', toks := t' } := by
  have nit : ∀ b u, H b = some u → b ≠ it := fun b u e z => by rw [z, hn] at e; cases e
  refine I.step (g' := s.gens) (d' := s.drawn) (ch := [it]) (fun b hb => ?_) (fun b o _ _ hc e _ => k b o (fun z => hc (by simp [z])) e) (fun b o _ _ hc e _ => ⟨o.slots, k b o (fun z => hc (by simp [z])) e⟩) (fun _ _ _ _ n => n)
    (fun b o hc e => ⟨o, k b o (fun z => hc (by simp [z])) e⟩) (fun _ _ e => e) (fun _ _ _ e => e) (fun b ps e => ⟨#[], by rw [e]; simp⟩) (fun m hm => ?_) (fun b u e => ?_) I.bare
  · have e : b = it := by simpa using hb
    subst e
    exact ⟨h1, hL, h2, h3⟩
  · obtain ⟨o, es, ep, ho, r⟩ := hm
    exact ⟨o, es, ep, k _ o (Ne.symm hL) ho, r⟩
  · refine (I.hok b u e).stay (fun c v hc q => k c v ?_ q) (fun _ q => q) fun _ _ q => q
    rcases hc with z | z
    · rw [z]; exact nit b u e
    · exact nit c _ z
theorem Inv.tok (I : Inv X pins σ H s) (t : Nat) : Inv X pins σ H { s with toks := t } := I.un (h' := s.heap) (t' := t) Un.refl I.hok
/-- all objects kept -/
theorem Inv.kept {t' : Nat} (I : Inv X pins σ H s) (k : ∀ b u, s.heap.get? b = some u → h'.get? b = some u) : Inv X pins σ H { s with heap := h', toks := t' } := I.un (Un.kept k) (I.hok.kept k)
/-- a new object laid and tracked -/
theorem Inv.laid {a : Addr} {o : HO} {t' : Nat} (I : Inv X pins σ H s) (k : ∀ b u, s.heap.get? b = some u → h'.get? b = some u) (hp : s.heap.objs.size ≤ a) (new : ObjOk X.prog X.w (upd H a o) h' a o) :
    Inv X pins σ (upd H a o) { s with heap := h', toks := t' } := I.un (Un.laid k hp (I.hok.fresh hp)) (I.hok.laid k hp new)
/-- an object written -/
theorem Inv.write {x e : Addr} {o : HO} {t' : Nat} (I : Inv X pins σ H s) (mu : Mut (H x)) (he : e = x ∨ H e = some (.own x)) (k : ∀ b u, b ≠ e → s.heap.get? b = some u → h'.get? b = some u) (heo : ∃ u, h'.get? e = some u)
    (new : ObjOk X.prog X.w (upd H x o) h' x o) : Inv X pins σ (upd H x o) { s with heap := h', toks := t' } := I.un (Un.write mu he k heo) (I.hok.write mu he k heo new)
theorem Inv.pins_of {pins' : List (Addr × Obj)} (I : Inv X pins σ H s) (h : ∀ p ∈ pins', s.heap.get? p.1 = some p.2 ∧ H p.1 = none ∧ p.1 ≠ X.env.locals ∧ p.1 ∉ X.fs ∧ ∀ v, p.2.data ≠ .cell v) : Inv X pins' σ H s :=
  ⟨I.ok, I.os, I.bare, I.base, I.loc, I.cell, I.free, I.freeC, fun p hp => (List.mem_append.mp hp).elim (fun z => I.pin p (List.mem_append_left _ z)) (h p), I.hok, I.len⟩

theorem nodup_ix {N : List Str} (hN : N.Nodup) {i j : Nat} {x : Str} (a : N[i]? = some x) (b : N[j]? = some x) : i = j := by
  obtain ⟨h1, e1⟩ := List.getElem?_eq_some_iff.mp a
  obtain ⟨h2, e2⟩ := List.getElem?_eq_some_iff.mp b
  exact (List.getElem_inj hN).mp (e1.trans e2.symm)

/-- a name is stored; what changed -/
theorem store_ok2 {M : Model} {A : Around} {E : Value → Shared → Prop} {i : Nat} {x : Str} {v : V} {u : Value} {Q : Unit → Shared → Prop} (I : Inv X pins σ H s) (hN : X.N.Nodup) (hi : X.N[i]? = some x) (hx : Loc X.env.scope x) (r : RelV v u)
    (h : ∀ s', Inv X pins (σ.set i (some v)) H s' → (∃ a, Heap.SameBut a s.heap s'.heap ∧ (a = X.env.locals ∨ X.env.cells.lookup x = some a)) → Q () s') (hf : X.fn x = true ∨ X.env.scope.names.lookup x = some .local := by first | exact .inl rfl | exact .inr rfl | assumption) : wpAny M A (storeName X.env x u) Q E s := by
  obtain ⟨m, hn, hl⟩ := id I.loc
  have hcls : (X.env.scope.kind == .class || (X.env.scope.kind == .module && X.env.locals != X.env.globals)) = false := by rw [I.ok.kind]; rfl
  have hiσ : i < σ.length := by rw [I.len]; exact (List.getElem?_eq_some_iff.mp hi).1
  have cne := I.cne
  have tracked : ∀ {a : Addr} {h' : Heap}, (∃ o, s.heap.get? a = some o ∧ H a = none) → Heap.SameBut a s.heap h' → HOk X.prog X.w H h' := fun {a h'} ha hs b ob e => by
    obtain ⟨_, _, hfree⟩ := ha
    refine (I.hok b ob e).stay (fun c w' hc q => (hs.2 c ?_).trans q) (fun _ q => q) fun _ _ q => q
    rintro rfl
    rcases hc with rfl | hc
    · rw [hfree] at e; cases e
    · rw [hfree] at hc; cases hc
  rcases hx with hk | hk
  · refine wpAny_storeName_local hk hn (fun h' hn' hs => ?_) hcls
    obtain ⟨oL, _, _, hoL, _⟩ := id hn
    refine h _ ⟨I.ok, I.os, I.bare, ⟨fun b o e n hb hx => ?_, fun b o e n hb hx => ?_, I.base.free, fun b o e hx => ?_, I.base.tups, I.base.frzs, I.base.tbls⟩, ⟨_, hn', fun j y v' e1 e2 e3 => ?_⟩, fun y c e => ?_, I.free, I.freeC, fun p hp => ?_, tracked ⟨oL, hoL, I.free⟩ hs, by simpa using I.len⟩ ⟨_, hs, .inl rfl⟩
    · exact (hs.2 b (Nat.ne_of_lt (Nat.lt_of_lt_of_le (Heap.lt_size e) I.ok.above))).trans (I.base.keep b o e n hb hx)
    · obtain ⟨sl, e1⟩ := I.base.slot b o e n hb hx
      exact ⟨sl, (hs.2 b (Nat.ne_of_lt (Nat.lt_of_lt_of_le (Heap.lt_size e) I.ok.above))).trans e1⟩
    · obtain ⟨o', e1⟩ := I.base.there b o e hx
      exact ⟨o', (hs.2 b (Nat.ne_of_lt (Nat.lt_of_lt_of_le (Heap.lt_size e) I.ok.above))).trans e1⟩
    · by_cases hj : j = i
      · subst hj
        rw [hi] at e1; cases e1
        rw [List.getElem?_set_self hiσ] at e2
        cases e2
        exact ⟨u, r, .inl ⟨hk, by simp⟩⟩
      · rw [List.getElem?_set_ne (Ne.symm hj)] at e2
        obtain ⟨u', r', q⟩ := hl j y v' e1 e2 e3
        refine ⟨u', r', ?_⟩
        rcases q with ⟨k, e⟩ | ⟨k, c, e, z⟩
        · refine .inl ⟨k, ?_⟩
          have : y ≠ x := fun e => hj (nodup_ix hN e1 (e ▸ hi))
          simp [this, e]
        · exact .inr ⟨k, c, e, z.sameBut hs (cne y c e)⟩
    · obtain ⟨w', z⟩ := I.cell y c e
      exact ⟨w', z.sameBut hs (cne y c e)⟩
    · obtain ⟨e, n, ne, nf, d⟩ := I.pin p hp
      exact ⟨(hs.2 p.1 ne).trans e, n, ne, nf, d⟩
  · have hfn : X.fn x = true := by
      rcases hf with z | z
      · exact z
      · rw [z] at hk; cases hk
    obtain ⟨c, hc⟩ := I.ok.has x (.inl hk)
    obtain ⟨w', z⟩ := I.cell x c hc
    refine wpAny_storeName_cell I.ok.kind hk hc z (fun h' hc' hs => ?_)
    obtain ⟨oc, hoc, hocd⟩ := id z
    refine h { s with heap := h' } ⟨I.ok, I.os, I.bare, ⟨fun b o e n hb hx => ?_, fun b o e n hb hx => ?_, I.base.free, fun b o e hx => ?_, I.base.tups, I.base.frzs, I.base.tbls⟩, ⟨m, hn.sameBut hs (Ne.symm (cne x c hc)), fun j y v' e1 e2 e3 => ?_⟩, fun y c' e => ?_, I.free, I.freeC, fun p hp => ?_, tracked ⟨oc, hoc, I.freeC x c hc⟩ hs, by simpa using I.len⟩ ⟨c, hs, .inr hc⟩
    · exact (hs.2 b (Nat.ne_of_lt (Nat.lt_of_lt_of_le (Heap.lt_size e) (I.ok.cab x c hfn hc)))).trans (I.base.keep b o e n hb hx)
    · obtain ⟨sl, e1⟩ := I.base.slot b o e n hb hx
      exact ⟨sl, (hs.2 b (Nat.ne_of_lt (Nat.lt_of_lt_of_le (Heap.lt_size e) (I.ok.cab x c hfn hc)))).trans e1⟩
    · obtain ⟨o', e1⟩ := I.base.there b o e hx
      exact ⟨o', (hs.2 b (Nat.ne_of_lt (Nat.lt_of_lt_of_le (Heap.lt_size e) (I.ok.cab x c hfn hc)))).trans e1⟩
    · by_cases hj : j = i
      · subst hj
        rw [hi] at e1; cases e1
        rw [List.getElem?_set_self hiσ] at e2
        cases e2
        exact ⟨u, r, .inr ⟨.inl hk, c, hc, hc'⟩⟩
      · rw [List.getElem?_set_ne (Ne.symm hj)] at e2
        obtain ⟨u', r', q⟩ := hl j y v' e1 e2 e3
        refine ⟨u', r', ?_⟩
        rcases q with q | ⟨k, c', e, z'⟩
        · exact .inl q
        · refine .inr ⟨k, c', e, z'.sameBut hs ?_⟩
          rintro rfl
          exact hj (nodup_ix hN e1 (I.ok.inj _ _ _ e hc ▸ hi))
    · by_cases hcc : c' = c
      · subst hcc; exact ⟨_, hc'⟩
      · obtain ⟨w2, z2⟩ := I.cell y c' e
        exact ⟨w2, z2.sameBut hs hcc⟩
    · obtain ⟨e, n, ne, nf, d⟩ := I.pin p hp
      refine ⟨(hs.2 p.1 ?_).trans e, n, ne, nf, d⟩
      intro q
      rw [q, hoc] at e
      have q' : oc = p.2 := Option.some.inj e
      exact d w' (by rw [← q']; exact hocd)
theorem store_ok {M : Model} {A : Around} {E : Value → Shared → Prop} {i : Nat} {x : Str} {v : V} {u : Value} {Q : Unit → Shared → Prop} (I : Inv X pins σ H s) (hN : X.N.Nodup) (hi : X.N[i]? = some x) (hx : Loc X.env.scope x) (r : RelV v u)
    (h : ∀ s', Inv X pins (σ.set i (some v)) H s' → Q () s') (hf : X.fn x = true ∨ X.env.scope.names.lookup x = some .local := by first | exact .inl rfl | exact .inr rfl | assumption) : wpAny M A (storeName X.env x u) Q E s :=
  store_ok2 I hN hi hx r (fun s' I' _ => h s' I') hf
/-- behind a call or a block, the state as it is -/
theorem Inv.call' {s' : Shared} {ch : List Addr} (I : Inv X pins σ H s) (ho : s'.os = s.os) (u : Un (frs X.stack) ch H H' s.heap s'.heap) (hok : HOk X.prog X.w H' s'.heap) (hg : AllBare s'.gens)
    (hch : ∀ b ∈ ch, (b ∈ X.ex ∨ X.s₀.heap.objs.size ≤ b) ∧ b ≠ X.env.locals ∧ (∀ x c, X.env.cells.lookup x = some c → c ≠ b) ∧ ∀ p ∈ X.pn ++ pins, p.1 ≠ b) : Inv X pins σ H' s' := by
  obtain ⟨h', g', d', t', o'⟩ := s'
  have e : o' = s.os := ho
  subst e
  exact I.call (g' := g') (t' := t') (d' := d') u hok hg hch
end

/-! ### the judgements -/
/-- an exception: its class, its own dict's address (where it has one), the abstract heap behind it -/
abbrev XK := Value → Option Addr → Hp → Prop
abbrev St := List (Option V)
abbrev VK := V → Hp → Prop
/-- an expression's reading; a test's; an argument list's -/
abbrev TE := St → Hp → VK → Prop
abbrev TT := St → Hp → (Bool → Hp → Prop) → Prop
abbrev TA := St → Hp → (List V → Hp → Prop) → Prop
/-- what is wanted behind a statement -/
structure Ends where
  nx : St → Hp → Prop
  rt : VK
  bk : St → Hp → Prop := fun _ _ => False
  ct : St → Hp → Prop := fun _ _ => False
abbrev TS := Ends → St → Hp → Prop

def EP (X : Cx) (pins : List (Addr × Obj)) (σ : St) (Q : VK) (u : Value) (s' : Shared) : Prop := ∃ v H', Inv X pins σ H' s' ∧ RelV v u ∧ Q v H'
def TP (X : Cx) (pins : List (Addr × Obj)) (σ : St) (Q : Bool → Hp → Prop) (b : Bool) (s' : Shared) : Prop := ∃ H', Inv X pins σ H' s' ∧ Q b H'
def AP (X : Cx) (pins : List (Addr × Obj)) (σ : St) (Q : List V → Hp → Prop) (us : List Value) (s' : Shared) : Prop := ∃ vs H', Inv X pins σ H' s' ∧ Vals vs us ∧ Q vs H'
def SP (X : Cx) (pins : List (Addr × Obj)) (D : Ends) (f : Flow) (s' : Shared) : Prop :=
  match f with
  | .next => ∃ σ' H', Inv X pins σ' H' s' ∧ D.nx σ' H'
  | .brk => ∃ σ' H', Inv X pins σ' H' s' ∧ D.bk σ' H'
  | .cont => ∃ σ' H', Inv X pins σ' H' s' ∧ D.ct σ' H'
  | .ret u => ∃ v σ' H', Inv X pins σ' H' s' ∧ RelV v u ∧ D.rt v H'

def PE (X : Cx) (e : Expr) (t : TE) : Prop :=
  ∀ (pins : List (Addr × Obj)) (s : Shared) (σ : St) (H : Hp) (Q : VK), Inv X pins σ H s → t σ H Q → wpAny (model X.prog X.w) X.A (eval e X.env) (EP X pins σ Q) X.xe s
def PT (X : Cx) (e : Expr) (t : TT) : Prop :=
  ∀ (pins : List (Addr × Obj)) (s : Shared) (σ : St) (H : Hp) (Q : Bool → Hp → Prop), Inv X pins σ H s → t σ H Q → wpAny (model X.prog X.w) X.A (isTrue e X.env (eval e X.env)) (TP X pins σ Q) X.xe s
/-- a test whatever its 'whole' is (and, or) -/
def PW (X : Cx) (e : Expr) (t : TT) : Prop :=
  ∀ (whole : Sem Value) (pins : List (Addr × Obj)) (s : Shared) (σ : St) (H : Hp) (Q : Bool → Hp → Prop), Inv X pins σ H s → t σ H Q → wpAny (model X.prog X.w) X.A (isTrue e X.env whole) (TP X pins σ Q) X.xe s
theorem PW.pt {X : Cx} {e : Expr} {t : TT} (h : PW X e t) : PT X e t := h _
/-- an argument list (no star), from the left -/
def PA (X : Cx) (es : List Expr) (t : TA) : Prop :=
  ∀ (pos : Pos) (pins : List (Addr × Obj)) (s : Shared) (σ : St) (H : Hp) (Q : List V → Hp → Prop), Inv X pins σ H s → t σ H Q → wpAny (model X.prog X.w) X.A (spliced (backTo pos (starEach es X.env))) (AP X pins σ Q) X.xe s
def PS (X : Cx) (st : Stmt) (t : TS) : Prop :=
  ∀ (pins : List (Addr × Obj)) (s : Shared) (σ : St) (H : Hp) (D : Ends), Inv X pins σ H s → t D σ H → wpAny (model X.prog X.w) X.A (exec st X.env) (SP X pins D) X.xe s
def PSs (X : Cx) (st : List Stmt) (t : TS) : Prop :=
  ∀ (pins : List (Addr × Obj)) (s : Shared) (σ : St) (H : Hp) (D : Ends), Inv X pins σ H s → t D σ H → wpAny (model X.prog X.w) X.A (execs st X.env) (SP X pins D) X.xe s
/-- weaken the end -/
theorem thn {α : Type} {t : Sem α} {Q Q' : α → Shared → Prop} {M : Model} {A : Around} {E : Value → Shared → Prop} {s : Shared} (h : wpAny M A t Q E s) (hQ : ∀ a s, Q a s → Q' a s) : wpAny M A t Q' E s := wpAny_mono h hQ fun _ _ x => x
end L2

namespace L2
open PySem PySem.Spec PyProof.Rows
section
variable {X : Cx}

/-! ### names and constants -/
def tVar (i : Nat) : TE := fun σ H Q => ∃ v, σ[i]? = some (some v) ∧ Q v H
def tC (v : V) : TE := fun _ H Q => Q v H
theorem pe_var {i : Nat} {x : Str} {pos : Pos} (hN : X.N[i]? = some x) (hv : Vis X.env.scope x) (hd : (x == ("__debug__" : Str)) = false := by decide) (hcd : (x == ("__classdict__" : Str)) = false := by decide) : PE X (.Name x pos) (tVar i) := by
  intro pins s σ H Q I h
  obtain ⟨v, e, h⟩ := h
  obtain ⟨m, hn, hl⟩ := I.loc
  obtain ⟨u, r, l⟩ := hl i x v hN e hv
  have fin : EP X pins σ Q u s := ⟨v, H, I, r, h⟩
  rcases l with ⟨hk, hm⟩ | ⟨hk, c, hc, hcell⟩
  · exact wpAny_Name (wpAny_loadName_local I.ok.kind hk hn hm fin) hd
  · rcases hk with hk | hk
    · exact wpAny_Name (wpAny_loadName_cell I.ok.kind hk hc hcell fin) hd
    · exact wpAny_Name (wpAny_loadName_free I.ok.kind hk hc hcell fin hcd) hd
theorem pe_int {i j pos} : PE X (.Constant (.int i) j pos) (tC (.int i)) := fun _ _ _ H _ I h => wpAny_Constant_int ⟨.int i, H, I.tok _, ⟨_, rfl⟩, h⟩
theorem pe_bl {b j pos} : PE X (.Constant (.bool b) j pos) (tC (.bl b)) := fun _ _ _ H _ I h => Constant_bool ⟨.bl b, H, I, rfl, h⟩
theorem pe_non {j pos} : PE X (.Constant .none j pos) (tC .non) := fun _ _ _ H _ I h => Constant_none ⟨.non, H, I, rfl, h⟩
theorem pe_str {x j pos} : PE X (.Constant (.str x) j pos) (tC (.str x)) := fun _ _ _ H _ I h => Calls.Constant_str ⟨.str x, H, I.tok _, ⟨_, rfl⟩, h⟩

/-- a global name of the def -/
def Gl (X : Cx) (x : Str) : Prop := X.env.kindOf x = some .globalImplicit
theorem ld_glob {E : Value → Shared → Prop} {pins : List (Addr × Obj)} {s : Shared} {σ : St} {H : Hp} {x : Str} {u : Value} {pos : Pos} {Q : Value → Shared → Prop} (I : Inv X pins σ H s) (hg : Gl X x) (hm : X.mg x = some u) (h : Q u s)
    (hd : (x == ("__debug__" : Str)) = false := by decide) : wpAny (model X.prog X.w) X.A (eval (.Name x pos) X.env) Q E s :=
  Calls.Name_function_global I.ok.kind hg (Calls.loadGlobal_global (by rw [I.ok.glob]; exact I.mod.glob.keeps I.bk) hm h) hd
theorem ld_blt {E : Value → Shared → Prop} {pins : List (Addr × Obj)} {s : Shared} {σ : St} {H : Hp} {x : Str} {u : Value} {pos : Pos} {Q : Value → Shared → Prop} (I : Inv X pins σ H s) (hg : Gl X x) (hm : X.mg x = none) (hv : bootBuiltins x = some u) (h : Q u s)
    (hn : x ≠ "__name__" := by decide) (hd : (x == ("__debug__" : Str)) = false := by decide) : wpAny (model X.prog X.w) X.A (eval (.Name x pos) X.env) Q E s := by
  obtain ⟨mb, h1, h2⟩ := I.mod.blt
  exact Calls.Name_function_global I.ok.kind hg (Calls.loadGlobal_builtin (by rw [I.ok.glob]; exact I.mod.glob.keeps I.bk) hm (by rw [I.ok.blt]; exact h1.keeps I.bk) ((h2 x hn).trans hv) h) hd
/-- a module's constant, a class, a function, as a value -/
theorem pe_glob {x : Str} {v : V} {u : Value} {pos : Pos} (hg : Gl X x) (hm : X.mg x = some u) (r : RelV v u) (hd : (x == ("__debug__" : Str)) = false := by decide) : PE X (.Name x pos) (tC v) :=
  fun _ _ _ H _ I h => ld_glob I hg hm ⟨v, H, I, r, h⟩ hd
theorem pe_bltn {x : Str} {v : V} {u : Value} {pos : Pos} (hg : Gl X x) (hm : X.mg x = none) (hv : bootBuiltins x = some u) (r : RelV v u) (hn : x ≠ "__name__" := by decide) (hd : (x == ("__debug__" : Str)) = false := by decide) : PE X (.Name x pos) (tC v) :=
  fun _ _ _ H _ I h => ld_blt I hg hm hv ⟨v, H, I, r, h⟩ hn hd

/-! ### arithmetic -/
variable {a b : Expr} {ta tb : TE} {pos : Pos}
/-! ### comparisons -/
/-- a comparison as a value, as a test -/
def tB (t : TE) : TT := fun σ H Q => t σ H fun x H1 => ∃ c, x = .bl c ∧ Q c H1
/-- an expression whose value is a bool, as a test -/
theorem pt_val {e : Expr} {t : TE} (h : PE X e t) (he : ∀ whole, isTrue e X.env whole = (do let v ← whole; standAt e.pos; holding [v] (truthy v)) := by intro _; rfl) : PT X e (tB t) := by
  intro pins s σ H Q I hw
  refine isTrue_plain (thn (h pins s σ H _ I hw) fun v s1 ⟨x, H1, I1, r1, q1⟩ => ?_) (he _)
  obtain ⟨d, rfl, q⟩ := q1
  cases r1
  exact wpAny_truthy_bool ⟨H1, I1, q⟩

/-! ### and, or, not -/
variable {tA tB' : TT} {rest : List Expr}
def tAnd (t u : TT) : TT := fun σ H Q => t σ H fun c H1 => if c = true then u σ H1 Q else Q false H1
def tOr (t u : TT) : TT := fun σ H Q => t σ H fun c H1 => if c = true then Q true H1 else u σ H1 Q
def tNot (t : TT) : TT := fun σ H Q => t σ H fun c H1 => Q (!c) H1
theorem pw_and1 (ha : PT X a tA) : PW X (.BoolOp .And [a] pos) tA := by
  intro wh pins s σ H Q I h
  refine isTrue_and (thn (ha pins s σ H Q I h) fun c s1 e => ?_)
  cases c with
  | true => exact isTrue_and_nil e
  | false => exact e
theorem pw_or1 (ha : PT X a tA) : PW X (.BoolOp .Or [a] pos) tA := by
  intro wh pins s σ H Q I h
  refine isTrue_or (thn (ha pins s σ H Q I h) fun c s1 e => ?_)
  cases c with
  | false => exact isTrue_or_nil e
  | true => exact e
theorem pw_and (ha : PT X a tA) (hb : PW X (.BoolOp .And (b :: rest) pos) tB') : PW X (.BoolOp .And (a :: b :: rest) pos) (tAnd tA tB') := by
  intro wh pins s σ H Q I h
  refine isTrue_and (thn (ha pins s σ H _ I h) fun c s1 ⟨H1, I1, q1⟩ => ?_)
  cases c with
  | true => exact hb wh pins s1 σ H1 Q I1 q1
  | false => exact ⟨H1, I1, q1⟩
theorem pw_or (ha : PT X a tA) (hb : PW X (.BoolOp .Or (b :: rest) pos) tB') : PW X (.BoolOp .Or (a :: b :: rest) pos) (tOr tA tB') := by
  intro wh pins s σ H Q I h
  refine isTrue_or (thn (ha pins s σ H _ I h) fun c s1 ⟨H1, I1, q1⟩ => ?_)
  cases c with
  | true => exact ⟨H1, I1, q1⟩
  | false => exact hb wh pins s1 σ H1 Q I1 q1
theorem pt_not (ha : PT X a tA) : PT X (.UnaryOp .Not a pos) (tNot tA) := by
  intro pins s σ H Q I h
  exact isTrue_not (ha pins s σ H (fun c H1 => Q (!c) H1) I h)
/-- .. as values (bools) -/
def tAndV (ta tb : TE) : TE := fun σ H Q => ta σ H fun x H1 => ∃ c, x = .bl c ∧ if c = true then tb σ H1 Q else Q (.bl false) H1
def tOrV (ta tb : TE) : TE := fun σ H Q => ta σ H fun x H1 => ∃ c, x = .bl c ∧ if c = true then Q (.bl true) H1 else tb σ H1 Q
def tNotV (ta : TE) : TE := fun σ H Q => ta σ H fun x H1 => ∃ c, x = .bl c ∧ Q (.bl (!c)) H1
theorem pe_one {op} {t : TE} (h : PE X a t) : PE X (.BoolOp op [a] pos) t := fun pins s σ H Q I hw => BoolOp_one (h pins s σ H Q I hw)
theorem pe_and (ha : PE X a ta) (hb : PE X (.BoolOp .And (b :: rest) pos) tb) : PE X (.BoolOp .And (a :: b :: rest) pos) (tAndV ta tb) := by
  intro pins s σ H Q I h
  refine BoolOp_and (thn (ha pins s σ H _ I h) fun v s1 ⟨x, H1, I1, r1, q1⟩ => ?_)
  obtain ⟨c, rfl, q1⟩ := q1
  cases r1
  refine wpAny_truthy_bool ?_
  cases c with
  | true => exact hb pins s1 σ H1 Q I1 q1
  | false => exact ⟨.bl false, H1, I1, rfl, q1⟩
theorem pe_not (ha : PE X a ta) : PE X (.UnaryOp .Not a pos) (tNotV ta) := by
  intro pins s σ H Q I h
  refine UnaryOp_ (thn (ha pins s σ H _ I h) fun v s1 ⟨x, H1, I1, r1, q1⟩ => ?_)
  obtain ⟨c, rfl, q1⟩ := q1
  cases r1
  exact not_of (wpAny_truthy_bool ⟨.bl (!c), H1, I1, rfl, q1⟩)
/-- a if t else b -/
def tIf (t : TT) (ta tb : TE) : TE := fun σ H Q => t σ H fun c H1 => if c = true then ta σ H1 Q else tb σ H1 Q
theorem pe_ifExp {c : Expr} (hc : PT X c tA) (ha : PE X a ta) (hb : PE X b tb) : PE X (.IfExp c a b pos) (tIf tA ta tb) := by
  intro pins s σ H Q I h
  refine wpAny_IfExp (thn (hc pins s σ H _ I h) fun d s1 ⟨H1, I1, q1⟩ => ?_)
  cases d with
  | true => exact ha pins s1 σ H1 Q I1 q1
  | false => exact hb pins s1 σ H1 Q I1 q1
end
end L2

namespace L2
open PySem PySem.Spec PyProof.Rows

/-! ### a list, a tuple that is read: tracked, frozen, or an object of the module -/
def SqL (K : PySem.W.Frag) (H : Hp) (a : Addr) (xs : List V) : Prop :=
  Rd H a (.lst xs) ∨
    ∃ (o : Obj) (its : Array Value) (n : Nat), K.lookup a = some o ∧ o.cls = .type "list" ∧ o.dict = none ∧ o.data = .seq its n ∧ its.size ≤ sizeLine ∧ Vals xs its.toList
def SqT (K : PySem.W.Frag) (H : Hp) (a : Addr) (xs : List V) : Prop :=
  Rd H a (.tup xs) ∨
    ∃ (o : Obj) (its : Array Value) (n : Nat), K.lookup a = some o ∧ o.cls = .type "tuple" ∧ o.data = .seq its n ∧ its.size ≤ sizeLine ∧ Vals xs its.toList
def absV : Value → Option V
  | .none => some .non
  | .bool b => some (.bl b)
  | .int i _ => some (.int i)
  | .str x _ => some (.str x)
  | .bytes b _ => some (.byt b)
  | .float b _ => some (.flt b)
  | .ref a => some (.ref a)
  | .type n => some (.ty n)
  | _ => none
theorem RelV.abs {x : V} {u : Value} (r : RelV x u) : absV u = some x := by
  cases x with
  | non => cases r; rfl
  | bl _ => cases r; rfl
  | int _ => obtain ⟨t, rfl⟩ := r; rfl
  | str _ => obtain ⟨t, rfl⟩ := r; rfl
  | byt _ => obtain ⟨t, rfl⟩ := r; rfl
  | flt _ => obtain ⟨t, rfl⟩ := r; rfl
  | ref _ => cases r; rfl
  | ty _ => cases r; rfl
theorem RelV.inj {x y : V} {u : Value} (r : RelV x u) (q : RelV y u) : x = y := Option.some.inj (r.abs.symm.trans q.abs)
theorem Vals.inj : ∀ {xs ys : List V} {us : List Value}, Vals xs us → Vals ys us → xs = ys
  | _, _, _, .nil, .nil => rfl
  | _, _, _, .cons r t, .cons r' t' => by rw [r.inj r', Vals.inj t t']
section
variable {X : Cx} {pins : List (Addr × Obj)} {σ : St} {H : Hp} {s : Shared} {a : Addr} {xs ys : List V}
theorem SqL.of {K : PySem.W.Frag} (h : H a = some (.lst xs)) : SqL K H a xs := .inl (.inl h)
theorem SqT.of {K : PySem.W.Frag} (h : H a = some (.tup xs)) : SqT K H a xs := .inl (.inl h)
theorem Inv.list (I : Inv X pins σ H s) (h : SqL X.K H a xs) : ∃ its : List Value, Vals xs its ∧ PlainL s.heap a its.toArray ∧ xs.length ≤ sizeLine := by
  rcases h with h | ⟨o, its, n, hk, hc, hd, hs, hz, r⟩
  · obtain ⟨z, its, n, r, e⟩ := h.ok I.hok
    exact ⟨its, r, ⟨_, n, e, rfl, rfl, rfl⟩, z⟩
  · refine ⟨its.toList, r, ⟨o, n, I.kIn a o hk, hc, hd, by simpa using hs⟩, ?_⟩
    have e := r.length
    simp only [Array.length_toList] at e
    omega
theorem Inv.tuple (I : Inv X pins σ H s) (h : SqT X.K H a xs) : ∃ its : List Value, Vals xs its ∧ IsTup s.heap a its.toArray ∧ xs.length ≤ sizeLine := by
  rcases h with h | ⟨o, its, n, hk, hc, hs, hz, r⟩
  · obtain ⟨z, its, r, p⟩ := h.ok I.hok
    exact ⟨its, r, p, z⟩
  · refine ⟨its.toList, r, ⟨o, I.kIn a o hk, hc, n, by simpa using hs⟩, ?_⟩
    have e := r.length
    simp only [Array.length_toList] at e
    omega
theorem Inv.list_inj (I : Inv X pins σ H s) (h : SqL X.K H a xs) (h' : SqL X.K H a ys) : xs = ys := by
  obtain ⟨its, r, ⟨o, n, e, _, _, d⟩, _⟩ := I.list h
  obtain ⟨its', r', ⟨o', n', e', _, _, d'⟩, _⟩ := I.list h'
  rw [e] at e'; cases e'
  rw [d] at d'
  injection d' with d1 _
  have : its = its' := by simpa using congrArg Array.toList d1
  subst this
  exact r.inj r'
theorem Inv.tuple_inj (I : Inv X pins σ H s) (h : SqT X.K H a xs) (h' : SqT X.K H a ys) : xs = ys := by
  obtain ⟨its, r, ⟨o, e, _, n, d⟩, _⟩ := I.tuple h
  obtain ⟨its', r', ⟨o', e', _, n', d'⟩, _⟩ := I.tuple h'
  rw [e] at e'; cases e'
  rw [d] at d'
  injection d' with d1 _
  have : its = its' := by simpa using congrArg Array.toList d1
  subst this
  exact r.inj r'
end

/-! ### another wish about exceptions -/
abbrev Cx.wish (X : Cx) (E : Value → Shared → Prop) : Cx := { X with xe := E }
/-- no exception leaves -/
abbrev Cx.nox (X : Cx) : Cx := X.wish fun _ _ => False
theorem Cx.Ok.wish {X : Cx} (ok : X.Ok) (E : Value → Shared → Prop) : (X.wish E).Ok :=
  ⟨ok.mod, ok.kind, ok.glob, ok.blt, ok.above, ok.inj, ok.has, ok.cab, ok.hd, ok.frames, ok.stk, ok.exf, ok.bs, ok.bsz, ok.noex, ok.exfs, ok.funs, ok.frf⟩
theorem Cx.Ok.unwish {X : Cx} {E : Value → Shared → Prop} (ok : (X.wish E).Ok) : X.Ok :=
  ⟨ok.mod, ok.kind, ok.glob, ok.blt, ok.above, ok.inj, ok.has, ok.cab, ok.hd, ok.frames, ok.stk, ok.exf, ok.bs, ok.bsz, ok.noex, ok.exfs, ok.funs, ok.frf⟩
section
variable {X : Cx} {pins : List (Addr × Obj)} {σ : St} {H : Hp} {s : Shared} {E : Value → Shared → Prop}
theorem Inv.wish (I : Inv X pins σ H s) (E : Value → Shared → Prop) : Inv (X.wish E) pins σ H s := ⟨I.ok.wish E, I.os, I.bare, I.base, I.loc, I.cell, I.free, I.freeC, I.pin, I.hok, I.len⟩
theorem Inv.unwish (I : Inv (X.wish E) pins σ H s) : Inv X pins σ H s := ⟨I.ok.unwish, I.os, I.bare, I.base, I.loc, I.cell, I.free, I.freeC, I.pin, I.hok, I.len⟩
theorem SP.unwish {D : Ends} {f : Flow} {s' : Shared} (h : SP (X.wish E) pins D f s') : SP X pins D f s' := by
  cases f with
  | next => obtain ⟨σ', H', I, q⟩ := h; exact ⟨σ', H', I.unwish, q⟩
  | brk => obtain ⟨σ', H', I, q⟩ := h; exact ⟨σ', H', I.unwish, q⟩
  | cont => obtain ⟨σ', H', I, q⟩ := h; exact ⟨σ', H', I.unwish, q⟩
  | ret u => obtain ⟨v, σ', H', I, r, q⟩ := h; exact ⟨v, σ', H', I.unwish, r, q⟩
theorem PSs.nox {st : List Stmt} {t : TS} (h : PSs X.nox st t) : PSs X st t := fun pins s σ H D I hw =>
  wpAny_mono (h pins s σ H D (I.wish _) hw) (fun _ _ q => q.unwish) fun _ _ z => False.elim z
end

/-! ### blocks and small statements -/
section
variable {X : Cx} {st : Stmt} {rest : List Stmt} {t u : TS} {e : Expr} {te : TE} {pos : Pos}
def tNext : TS := fun D σ H => D.nx σ H
def tSeq (t u : TS) : TS := fun D σ H => t { D with nx := u D } σ H
theorem pss_nil : PSs X [] tNext := fun _ _ σ H _ I h => wpAny_execs_nil ⟨σ, H, I, h⟩
theorem pss_cons (h1 : PS X st t) (h2 : PSs X rest u) : PSs X (st :: rest) (tSeq t u) := by
  intro pins s σ H D I h
  refine wpAny_execs_cons (thn (h1 pins s σ H { D with nx := u D } I h) fun f s1 q => ?_)
  cases f with
  | next =>
    obtain ⟨σ', H', I', q⟩ := q
    exact h2 pins s1 σ' H' D I' q
  | ret v => exact q
  | brk => exact q
  | cont => exact q
theorem pss_one (h1 : PS X st t) : PSs X [st] t := by
  intro pins s σ H D I h
  refine wpAny_execs_cons (thn (h1 pins s σ H D I h) fun f s1 q => ?_)
  cases f with
  | next => exact wpAny_execs_nil q
  | ret v => exact q
  | brk => exact q
  | cont => exact q
/-- in a def's body nothing is shown -/
theorem Inv.quiet {pins : List (Addr × Obj)} {σ : St} {H : Hp} {s : Shared} (I : Inv X pins σ H s) : interactive X.env = false := by simp [interactive, I.ok.kind]
/-- an expression whose value is dropped -/
def tDrop (te : TE) : TS := fun D σ H => te σ H fun _ H1 => D.nx σ H1
theorem ps_expr (he : PE X e te) (hs : swapsWith e none pos.line X.env = pure false := by rfl) : PS X (.Expr e pos) (tDrop te) := by
  intro pins s σ H D I h
  exact wpAny_Expr_any (thn (he pins s σ H _ I h) fun v s1 ⟨x, H1, I1, r1, q1⟩ => ⟨σ, H1, I1, q1⟩) I.quiet hs
def tRet (te : TE) : TS := fun D σ H => te σ H D.rt
theorem ps_ret (he : PE X e te) : PS X (.Return (some e) pos) (tRet te) := by
  intro pins s σ H D I h
  exact wpAny_Return_some (thn (he pins s σ H _ I h) fun v s1 ⟨x, H1, I1, r1, q1⟩ => ⟨x, σ, H1, I1, r1, q1⟩)
def tRetN : TS := fun D _ H => D.rt .non H
def tIfS (c : TT) (t u : TS) : TS := fun D σ H => c σ H fun b H1 => if b = true then t D σ H1 else u D σ H1
theorem ps_if {c : Expr} {a b : List Stmt} {tc : TT} (hc : PT X c tc) (ha : PSs X a t) (hb : PSs X b u) : PS X (.If c a b pos) (tIfS tc t u) := by
  intro pins s σ H D I h
  refine wpAny_If (thn (hc pins s σ H _ I h) fun d s1 ⟨H1, I1, q1⟩ => ?_)
  cases d with
  | true => exact ha pins s1 σ H1 D I1 q1
  | false => exact hb pins s1 σ H1 D I1 q1
/-- code that the proof never comes to -/
def tNever : TS := fun _ _ _ => False
end

/-! ### targets -/
abbrev TG := V → St → Hp → (St → Hp → Prop) → Prop
abbrev TGs := List V → St → Hp → (St → Hp → Prop) → Prop
def PG (X : Cx) (target : Expr) (t : TG) : Prop :=
  ∀ (pins : List (Addr × Obj)) (s : Shared) (σ : St) (H : Hp) (v : V) (u : Value) (Q : St → Hp → Prop), Inv X pins σ H s → RelV v u → t v σ H Q →
    wpAny (model X.prog X.w) X.A (assign target X.env u) (fun _ s' => ∃ σ' H', Inv X pins σ' H' s' ∧ Q σ' H') X.xe s
/-- a op= b, by values -/
abbrev TIp := V → V → Hp → VK → Prop
def PIp (X : Cx) (op : Operator) (t : TIp) : Prop :=
  ∀ (pins : List (Addr × Obj)) (s : Shared) (σ : St) (H : Hp) (x y : V) (v u : Value) (Q : VK), Inv X pins σ H s → RelV x v → RelV y u → t x y H Q →
    wpAny (model X.prog X.w) X.A (inplaceOp op v u) (EP X pins σ Q) X.xe s
section
variable {X : Cx} {pos : Pos}
def gName (i : Nat) : TG := fun v σ H Q => Q (σ.set i (some v)) H
theorem pg_name {i : Nat} {x : Str} (hN : X.N.Nodup) (hi : X.N[i]? = some x) (hx : Loc X.env.scope x) (hf : X.fn x = true ∨ X.env.scope.names.lookup x = some .local := by first | exact .inl rfl | exact .inr rfl | assumption) : PG X (.Name x pos) (gName i) := by
  intro pins s σ H v u Q I r h
  exact wpAny_assign_Name (store_ok I hN hi hx r (fun s' I' => ⟨_, H, I', h⟩) hf)
def gNil : TGs := fun vs σ H Q => vs = [] ∧ Q σ H
def gCons (t : TG) (u : TGs) : TGs := fun vs σ H Q => ∃ v r, vs = v :: r ∧ t v σ H fun σ' H' => u r σ' H' Q
/-- (a, b, ..) = a tuple of that length -/
def gTup (K : PySem.W.Frag) (n : Nat) (t : TGs) : TG := fun v σ H Q => ∃ a xs, v = .ref a ∧ SqT K H a xs ∧ xs.length = n ∧ t xs σ H Q
/-- target = value -/
def tAsg (te : TE) (g : TG) : TS := fun D σ H => te σ H fun x H1 => g x σ H1 D.nx
/-- name = value -/
theorem ps_set {i : Nat} {x : Str} {e : Expr} {te : TE} {pos' : Pos} (hN : X.N.Nodup) (hi : X.N[i]? = some x) (hx : Loc X.env.scope x) (he : PE X e te) (hs : swapsWith e (some (.Name x pos')) pos.line X.env = pure false := by rfl) (hf : X.fn x = true ∨ X.env.scope.names.lookup x = some .local := by first | exact .inl rfl | exact .inr rfl | assumption) :
    PS X (.Assign [.Name x pos'] e pos) (tAsg te (gName i)) := by
  intro pins s σ H D I h
  refine wpAny_Assign_Name (thn (he pins s σ H _ I h) fun v s1 ⟨y, H1, I1, r1, q1⟩ => ?_) hs
  exact store_ok I1 hN hi hx r1 (fun s2 I2 => ⟨_, H1, I2, q1⟩) hf
/-- name op= e -/
def tAug (i : Nat) (te : TE) (ti : TIp) : TS := fun D σ H => ∃ x, σ[i]? = some (some x) ∧ te σ H fun y H1 => ti x y H1 fun z H2 => D.nx (σ.set i (some z)) H2
theorem ps_aug {i : Nat} {x : Str} {e : Expr} {te : TE} {op : Operator} {ti : TIp} {pos' : Pos} (hN : X.N.Nodup) (hi : X.N[i]? = some x) (hx : Loc X.env.scope x) (he : PE X e te) (ho : PIp X op ti) (hf : X.fn x = true ∨ X.env.scope.names.lookup x = some .local := by first | exact .inl rfl | exact .inr rfl | assumption) :
    PS X (.AugAssign (.Name x pos') op e pos) (tAug i te ti) := by
  intro pins s σ H D I h
  obtain ⟨v, e1, h⟩ := h
  obtain ⟨m, hn, hl⟩ := I.loc
  have vis : Vis X.env.scope x := by rcases hx with k | k; exact .inl k; exact .inr (.inl k)
  obtain ⟨u, r, l⟩ := hl i x v hi e1 vis
  refine wpAny_AugAssign_Name ?_
  have go : wpAny (model X.prog X.w) X.A (eval e X.env) (fun w s₂ => wpAny (model X.prog X.w) X.A (inplaceOp op u w) (fun r s₃ => wpAny (model X.prog X.w) X.A (storeName X.env x r) (fun _ => SP X pins D .next) X.xe s₃) X.xe s₂) X.xe s := by
    refine thn (he pins s σ H _ I h) fun w s1 ⟨y, H1, I1, r1, q1⟩ => ?_
    refine thn (ho pins s1 σ H1 v y u w _ I1 r r1 q1) fun z s2 ⟨zv, H2, I2, r2, q2⟩ => ?_
    exact store_ok I2 hN hi hx r2 (fun s3 I3 => ⟨_, H2, I3, q2⟩) hf
  rcases l with ⟨hk, hm⟩ | ⟨hk, c, hc, hcell⟩
  · exact wpAny_loadName_local I.ok.kind hk hn hm go
  · rcases hk with hk | hk
    · exact wpAny_loadName_cell I.ok.kind hk hc hcell go
    · rcases hx with k | k
      · have : X.env.scope.names.lookup x = some .free := hk
        rw [k] at this; cases this
      · have : X.env.scope.names.lookup x = some .free := hk
        rw [k] at this; cases this
/-- ints -/
def ipI (f : Int → Int → Int) : TIp := fun x y H Q => ∃ i j, x = .int i ∧ y = .int j ∧ Q (.int (f i j)) H
theorem ip_add : PIp X .Add (ipI fun i j => i + j) := by
  intro pins s σ H x y v u Q I r1 r2 h
  obtain ⟨i, j, e1, e2, q⟩ := h
  subst e1; subst e2
  obtain ⟨t, rfl⟩ := r1
  obtain ⟨t', rfl⟩ := r2
  exact iadd_int ⟨.int _, H, I.tok _, ⟨_, rfl⟩, q⟩
theorem ip_sub : PIp X .Sub (ipI fun i j => i - j) := by
  intro pins s σ H x y v u Q I r1 r2 h
  obtain ⟨i, j, e1, e2, q⟩ := h
  subst e1; subst e2
  obtain ⟨t, rfl⟩ := r1
  obtain ⟨t', rfl⟩ := r2
  exact isub_int ⟨.int _, H, I.tok _, ⟨_, rfl⟩, q⟩
end

/-! ### while -/
section
variable {X : Cx} {pos : Pos}
/-- the invariant W with its measure -/
def tWhile (c : TT) (tb : TS) : TS := fun D σ H => ∃ W : Nat → St → Hp → Prop, (∃ m, W m σ H) ∧ ∀ m σ H, W m σ H →
  c σ H fun b H1 => if b = true then ∃ N : St → Hp → Prop, (∀ σ' H', N σ' H' → ∃ m', m' < m ∧ W m' σ' H') ∧ tb { D with nx := N, ct := N, bk := D.nx } σ H1 else D.nx σ H1
theorem ps_while {c : Expr} {body : List Stmt} {tc : TT} {tb : TS} (hp : PassesOwn (model X.prog X.w) X.A X.env X.xe) (hc : PT X c tc) (hb : PSs X body tb) : PS X (.While c body [] pos) (tWhile tc tb) := by
  intro pins s σ H D I h
  obtain ⟨W, ⟨m0, w0⟩, turn⟩ := h
  refine wpAny_While (codeAny_whileLoop (fun n s' => ∃ σ' H', Inv X pins σ' H' s' ∧ W n σ' H') ?_ m0 ⟨σ, H, I, w0⟩)
  rintro n s1 ⟨σ1, H1, I1, w1⟩
  refine wpAny_passesOwn hp (thn (hc pins s1 σ1 H1 _ I1 (turn n σ1 H1 w1)) fun b s2 ⟨H2, I2, q2⟩ => ?_)
  cases b with
  | true =>
    obtain ⟨N, hN, q2⟩ := q2
    rw [if_pos rfl]
    refine wpAny_passesOwn hp (thn (hb pins s2 σ1 H2 _ I2 q2) fun f s3 q3 => ?_)
    cases f with
    | next =>
      obtain ⟨σ3, H3, I3, n3⟩ := q3
      obtain ⟨m', hm, w3⟩ := hN σ3 H3 n3
      exact ⟨m', hm, σ3, H3, I3, w3⟩
    | cont =>
      obtain ⟨σ3, H3, I3, n3⟩ := q3
      obtain ⟨m', hm, w3⟩ := hN σ3 H3 n3
      exact ⟨m', hm, σ3, H3, I3, w3⟩
    | brk => exact q3
    | ret v => exact q3
  | false =>
    rw [if_neg Bool.false_ne_true]
    exact wpAny_execs_nil ⟨σ1, H2, I2, q2⟩
end

/-! ### what a loop or a comprehension walks -/
/-- at turn i: it yields x (the heap may grow), or it stops -/
structure It where
  go : Nat → Hp → Prop
  yld : Nat → Hp → V → Hp → Prop
  stop : Nat → Hp → Prop
/-- the iterator's own objects may turn: they are not the frame's, not pinned, younger than the entry (or a comprehension's own) -/
def FpOk (X : Cx) (pins : List (Addr × Obj)) (H : Hp) (b : Addr) : Prop :=
  H b = none ∧ b ≠ X.env.locals ∧ b ∉ X.fs ∧ (b ∈ X.ex ∨ X.s₀.heap.objs.size ≤ b) ∧ (∀ x c, X.env.cells.lookup x = some c → c ≠ b) ∧ ∀ p ∈ X.pn ++ pins, p.1 ≠ b
theorem Inv.fpOk {X : Cx} {pins : List (Addr × Obj)} {σ : St} {H H' : Hp} {s : Shared} {b : Addr} (I : Inv X pins σ H s) (hb : s.heap.objs.size ≤ b) (hn : H' b = none) : FpOk X pins H' b := by
  refine ⟨hn, Nat.ne_of_gt (Nat.lt_of_lt_of_le I.lt hb), I.nofs hb, .inr (Nat.le_trans I.sz hb), fun x c e z => ?_, fun p hp z => ?_⟩
  · obtain ⟨v, q⟩ := I.cell x c e
    exact absurd (Nat.lt_of_lt_of_le q.lt (by rw [z]; exact hb)) (Nat.lt_irrefl _)
  · exact absurd (Nat.lt_of_lt_of_le (Heap.lt_size (I.pin p hp).1) (by rw [z]; exact hb)) (Nat.lt_irrefl _)
structure Turn (P : Program) (w : World) (K : PySem.W.Frag) (tg : Expr) (J : It) (fp : List Addr) (it : Addr) (tn : Nat → Heap → Prop) : Prop where
  mem : it ∈ fp
  obj : ∀ i h, tn i h → ∀ b ∈ fp, ∃ o, h.get? b = some o ∧ ∀ v, o.data ≠ .cell v
  keep : ∀ i h h', tn i h → (∀ b ∈ fp, ∀ o, h.get? b = some o → h'.get? b = some o) → tn i h'
  item : ∀ (X : Cx), X.prog = P → X.w = w → X.K = K → X.calm = true → ∀ (i : Nat) (pins : List (Addr × Obj)) (s : Shared) (σ : St) (H : Hp) (E : Value → Shared → Prop), Inv X pins σ H s → (∀ b ∈ fp, FpOk X pins H b) → tn i s.heap → J.go i H →
    wpAny (model P w) X.A (pyNext (.ref it)) (fun r s1 => ∃ u, r = some u ∧
      wpAny (model P w) X.A (letOwnedTupleGo tg (.ref it) u) (fun _ s2 => ∃ x H', Inv X pins σ H' s2 ∧ RelV x u ∧ J.yld i H x H' ∧ tn (i + 1) s2.heap ∧ ∀ b ∈ fp, H' b = none) E s1) E s
  done : ∀ (X : Cx), X.prog = P → X.w = w → X.K = K → X.calm = true → ∀ (i : Nat) (pins : List (Addr × Obj)) (s : Shared) (σ : St) (H : Hp) (E : Value → Shared → Prop), Inv X pins σ H s → (∀ b ∈ fp, FpOk X pins H b) → tn i s.heap → J.stop i H →
    wpAny (model P w) X.A (pyNext (.ref it)) (fun r s1 => r = none ∧ Inv X pins σ H s1) E s
  self : ∀ (A : Around) (i : Nat) (s : Shared) (Q : Value → Shared → Prop) (E : Value → Shared → Prop), tn i s.heap → Q (.ref it) s → wpAny (model P w) A (pyIter (.ref it)) Q E s
abbrev TI := St → Hp → (It → Hp → Prop) → Prop
/-- an iterator has come -/
def PIE (X : Cx) (pins : List (Addr × Obj)) (σ : St) (tg : Expr) (R : It → Hp → Prop) (itv : Value) (s2 : Shared) : Prop :=
  ∃ (it : Addr) (fp : List Addr) (tn : Nat → Heap → Prop) (J : It) (H' : Hp), itv = .ref it ∧ Inv X pins σ H' s2 ∧ Turn X.prog X.w X.K tg J fp it tn ∧ tn 0 s2.heap ∧ (∀ b ∈ fp, FpOk X pins H' b) ∧ R J H'
def PI (X : Cx) (tg iter : Expr) (wi : TI) : Prop :=
  ∀ (pins : List (Addr × Obj)) (s : Shared) (σ : St) (H : Hp) (R : It → Hp → Prop), Inv X pins σ H s → wi σ H R →
    wpAny (model X.prog X.w) X.A (eval iter X.env) (fun v s1 => wpAny (model X.prog X.w) X.A (pyIter v) (PIE X pins σ tg R) X.xe s1) X.xe s

/-- the step ahead of the store is nothing for an iterator that keeps no tuple -/
theorem go_of {M : Model} {A : Around} {E : Value → Shared → Prop} {s : Shared} {tg : Expr} {it : Addr} {u : Value} {o : Obj} {n : String} {vs : Array Value} {Q : Unit → Shared → Prop} (ho : s.heap.get? it = some o) (hc : o.cls = .type n) (hd : o.data = .fields vs)
    (hn : ["enumerate", "zip", "dict_itemiterator", "dict_reverseitemiterator", "odict_iterator", "itertools.zip_longest", "itertools.pairwise"].contains n = false) (hQ : Q () s) : wpAny M A (letOwnedTupleGo tg (.ref it) u) Q E s := by
  unfold letOwnedTupleGo
  cases tg <;> first
    | exact wpAny_pure hQ
    | (cases u <;> first
        | exact wpAny_pure hQ
        | (refine wpAny_bind (wpAny_load ho ?_)
           rw [hc, hd]
           show wpAny M A (if (["enumerate", "zip", "dict_itemiterator", "dict_reverseitemiterator", "odict_iterator", "itertools.zip_longest", "itertools.pairwise"].contains n && vs[0]? == some (rawInt _)) = true then _ else _) Q E s
           rw [if_neg (by intro h; rw [hn, Bool.false_and] at h; cases h)]
           exact wpAny_pure hQ))

/-- the list at a, as it stands at each turn (a loop may append to it) -/
def Itl (K : PySem.W.Frag) (a : Addr) : It :=
  ⟨fun i H => ∃ xs x, SqL K H a xs ∧ xs[i]? = some x, fun i H x H' => H' = H ∧ ∀ xs, SqL K H a xs → xs[i]? = some x, fun i H => ∃ xs, SqL K H a xs ∧ xs.length ≤ i⟩
def Itt (K : PySem.W.Frag) (a : Addr) : It :=
  ⟨fun i H => ∃ xs x, SqT K H a xs ∧ xs[i]? = some x, fun i H x H' => H' = H ∧ ∀ xs, SqT K H a xs → xs[i]? = some x, fun i H => ∃ xs, SqT K H a xs ∧ xs.length ≤ i⟩
/-- lo, lo + 1, .. (n of them) -/
def Itr (lo : Int) (n : Nat) : It := ⟨fun i _ => i < n, fun i H x H' => H' = H ∧ x = .int (lo + i), fun i _ => n ≤ i⟩
theorem turn_list {P : Program} {w : World} {K : PySem.W.Frag} {tg : Expr} (a it : Addr) : Turn P w K tg (Itl K a) [it] it (fun i h => h.IsListIter it a i) where
  mem := by simp
  obj := fun i h st b hb => by
    have e : b = it := by simpa using hb
    subst e
    obtain ⟨o, e, c, d⟩ := st
    exact ⟨o, e, fun v z => by rw [d] at z; cases z⟩
  keep := fun i h h' st k => st.at fun o e => k it (by simp) o e
  item := by
    intro X hP hw hK hc i pins s σ H E I hf st hg
    subst hP hw hK
    obtain ⟨xs, x, hq, hx⟩ := hg
    obtain ⟨its, rv, p, hz⟩ := I.list hq
    obtain ⟨u, hu, ru⟩ := rv.get hx
    obtain ⟨f0, f1, f2, f3, f4, f5⟩ := hf it (by simp)
    refine wpAny_pyNext_list_item st p.isList (x := u) (by simpa using hu) fun h' st' sb => ?_
    have I1 : Inv X pins σ H { s with heap := h' } := I.turned (t' := s.toks) (fun b o hb e => (sb.2 b hb).trans e) f0 f1 f3 f4 f5
    obtain ⟨o, e, c, d⟩ := id st'
    exact ⟨u, rfl, go_of (s := { s with heap := h' }) e c d (by decide) ⟨x, H, I1, ru, ⟨rfl, fun ys hy => by rw [I.list_inj hy hq]; exact hx⟩, st', fun b hb => (hf b hb).1⟩⟩
  done := by
    intro X hP hw hK hc i pins s σ H E I hf st hg
    subst hP hw hK
    obtain ⟨xs, hq, hx⟩ := hg
    obtain ⟨its, rv, p, hz⟩ := I.list hq
    obtain ⟨f0, f1, f2, f3, f4, f5⟩ := hf it (by simp)
    have hl := rv.length
    exact wpAny_pyNext_list_end (I.ok.hd hc) st p.isList (by simp; omega) fun h' eb => ⟨rfl, I.turned (t' := s.toks) (fun b o hb e => eb b o hb e) f0 f1 f3 f4 f5⟩
  self := fun _ _ _ _ _ st h => wpAny_pyIter_listiter st h
theorem turn_tuple {P : Program} {w : World} {K : PySem.W.Frag} {tg : Expr} (a it : Addr) : Turn P w K tg (Itt K a) [it] it (fun i h => h.IsTupleIter it a i) where
  mem := by simp
  obj := fun i h st b hb => by
    have e : b = it := by simpa using hb
    subst e
    obtain ⟨o, e, c, d⟩ := st
    exact ⟨o, e, fun v z => by rw [d] at z; cases z⟩
  keep := fun i h h' st k => st.at fun o e => k it (by simp) o e
  item := by
    intro X hP hw hK hc i pins s σ H E I hf st hg
    subst hP hw hK
    obtain ⟨xs, x, hq, hx⟩ := hg
    obtain ⟨its, rv, p, hz⟩ := I.tuple hq
    obtain ⟨u, hu, ru⟩ := rv.get hx
    obtain ⟨f0, f1, f2, f3, f4, f5⟩ := hf it (by simp)
    refine wpAny_pyNext_tuple_item st (show s.heap.IsTuple a its.toArray from p) (x := u) (by simpa using hu) fun h' st' sb => ?_
    have I1 : Inv X pins σ H { s with heap := h' } := I.turned (t' := s.toks) (fun b o hb e => (sb.2 b hb).trans e) f0 f1 f3 f4 f5
    obtain ⟨o, e, c, d⟩ := id st'
    exact ⟨u, rfl, go_of (s := { s with heap := h' }) e c d (by decide) ⟨x, H, I1, ru, ⟨rfl, fun ys hy => by rw [I.tuple_inj hy hq]; exact hx⟩, st', fun b hb => (hf b hb).1⟩⟩
  done := by
    intro X hP hw hK hc i pins s σ H E I hf st hg
    subst hP hw hK
    obtain ⟨xs, hq, hx⟩ := hg
    obtain ⟨its, rv, p, hz⟩ := I.tuple hq
    obtain ⟨f0, f1, f2, f3, f4, f5⟩ := hf it (by simp)
    have hl := rv.length
    exact wpAny_pyNext_tuple_end (I.ok.hd hc) st (show s.heap.IsTuple a its.toArray from p) (by simp; omega) fun h' eb => ⟨rfl, I.turned (t' := s.toks) (fun b o hb e => eb b o hb e) f0 f1 f3 f4 f5⟩
  self := fun _ _ _ _ _ st h => wpAny_pyIter_tupleiter st h
theorem turn_range {P : Program} {w : World} {K : PySem.W.Frag} {tg : Expr} (it : Addr) (lo : Int) (n : Nat) : Turn P w K tg (Itr lo n) [it] it (fun i h => IsRangeIter h it (lo + (i : Nat) * 1) ((n : Int) - (i : Nat)) 1) where
  mem := by simp
  obj := fun i h st b hb => by
    have e : b = it := by simpa using hb
    subst e
    exact ⟨_, st, fun v z => by
      have z' : Data.fields _ = Data.cell v := z
      cases z'⟩
  keep := fun i h h' st k => k it (by simp) _ st
  item := by
    intro X hP hw hK hc i pins s σ H E I hf st hg
    subst hP hw hK
    obtain ⟨f0, f1, f2, f3, f4, f5⟩ := hf it (by simp)
    have W := Walks.range (prog := X.prog) (w := X.w) (I.ok.hd hc) it lo 1 n
    refine W.item i s _ _ hg st fun v h' tk hv st' kk => ?_
    obtain ⟨t, rfl⟩ := hv
    have I1 : Inv X pins σ H { s with heap := h', toks := tk } := I.turned (fun b o hb e => kk b o (by simpa using hb) e) f0 f1 f3 f4 f5
    refine ⟨_, rfl, go_of (s := { s with heap := h', toks := tk }) (n := "range_iterator") st' rfl rfl (by decide) ⟨.int (lo + i), H, I1, ⟨t, ?_⟩, ⟨rfl, rfl⟩, st', fun b hb => (hf b hb).1⟩⟩
    rw [Int.mul_one]
  done := by
    intro X hP hw hK hc i pins s σ H E I hf st hg
    subst hP hw hK
    obtain ⟨f0, f1, f2, f3, f4, f5⟩ := hf it (by simp)
    exact wpAny_pyNext_range_end (I.ok.hd hc) st (by have : n ≤ i := hg; omega) fun h' eb => ⟨rfl, I.turned (t' := s.toks) (fun b o hb e => eb b o hb e) f0 f1 f3 f4 f5⟩
  self := fun _ _ _ _ _ st h => wpAny_pyIter_rangeiter st h
end L2

namespace L2
open PySem PySem.Spec PyProof.Rows
section
variable {X : Cx} {tg : Expr}
def iList (K : PySem.W.Frag) (tl : TE) : TI := fun σ H R => tl σ H fun x H1 => ∃ a, x = .ref a ∧ (∃ xs, SqL K H1 a xs) ∧ R (Itl K a) H1
def iTup (K : PySem.W.Frag) (tl : TE) : TI := fun σ H R => tl σ H fun x H1 => ∃ a, x = .ref a ∧ (∃ xs, SqT K H1 a xs) ∧ R (Itt K a) H1
theorem pi_list {l : Expr} {tl : TE} (hl : PE X l tl) : PI X tg l (iList X.K tl) := by
  intro pins s σ H R I h
  refine thn (hl pins s σ H _ I h) fun v s1 ⟨x, H1, I1, r1, q1⟩ => ?_
  obtain ⟨a, e, ⟨xs, hq⟩, q⟩ := q1
  subst e
  cases r1
  obtain ⟨its, rv, p, hz⟩ := I1.list hq
  refine wpAny_pyIter_list p.isList ?_
  refine ⟨s1.heap.objs.size, [s1.heap.objs.size], _, _, H1, rfl, I1.kept (t' := s1.toks) fun b o e => Heap.get?_push_of_some _ e, turn_list a _, ⟨_, Heap.get?_push_size _ rfl, rfl, rfl⟩, fun b hb => ?_, q⟩
  have e : b = s1.heap.objs.size := by simpa using hb
  subst e
  exact I1.fpOk (Nat.le_refl _) (I1.hok.fresh (Nat.le_refl _))
theorem pi_tup {l : Expr} {tl : TE} (hl : PE X l tl) : PI X tg l (iTup X.K tl) := by
  intro pins s σ H R I h
  refine thn (hl pins s σ H _ I h) fun v s1 ⟨x, H1, I1, r1, q1⟩ => ?_
  obtain ⟨a, e, ⟨xs, hq⟩, q⟩ := q1
  subst e
  cases r1
  obtain ⟨its, rv, p, hz⟩ := I1.tuple hq
  refine wpAny_pyIter_tuple (show s1.heap.IsTuple a its.toArray from p) ?_
  refine ⟨s1.heap.objs.size, [s1.heap.objs.size], _, _, H1, rfl, I1.kept (t' := s1.toks) fun b o e => Heap.get?_push_of_some _ e, turn_tuple a _, ⟨_, Heap.get?_push_size _ rfl, rfl, rfl⟩, fun b hb => ?_, q⟩
  have e : b = s1.heap.objs.size := by simpa using hb
  subst e
  exact I1.fpOk (Nat.le_refl _) (I1.hok.fresh (Nat.le_refl _))
/-- a range object just made, walked -/
theorem range_it {pins : List (Addr × Obj)} {σ : St} {H : Hp} {s : Shared} {R : It → Hp → Prop} {E : Value → Shared → Prop} {lo hi : Int} {t u v : Tok} {tk : Nat} (I : Inv X pins σ H s) (h1 : -(2 ^ 62) ≤ lo) (h2 : lo < 2 ^ 62) (h3 : -(2 ^ 62) ≤ hi) (h4 : hi < 2 ^ 62)
    (q : R (Itr lo (hi - lo).toNat) H) : wpAny (model X.prog X.w) X.A (pyIter (.ref s.heap.objs.size)) (PIE X pins σ tg R) E { s with heap := s.heap.push { cls := .type "range", data := .fields #[.int lo t, .int hi u, .int 1 v] }, toks := tk } := by
  refine wpAny_pyIter_range (IsRange.new ..) (small_one h1 h2 h3 h4) ?_
  have I1 : Inv X pins σ H { s with heap := s.heap.push { cls := .type "range", data := .fields #[.int lo t, .int hi u, .int 1 v] }, toks := tk } := I.kept fun b o e => Heap.get?_push_of_some _ e
  refine ⟨(s.heap.push { cls := .type "range", data := .fields #[.int lo t, .int hi u, .int 1 v] }).objs.size, [(s.heap.push { cls := .type "range", data := .fields #[.int lo t, .int hi u, .int 1 v] }).objs.size], _, _, H, rfl,
    I1.kept (t' := tk) fun b o e => Heap.get?_push_of_some _ e, turn_range _ lo (hi - lo).toNat, ?_, fun b hb => ?_, q⟩
  · have e1 : lo + ((0 : Nat) : Int) * 1 = lo := by simp
    have e2 : (((hi - lo).toNat : Nat) : Int) - ((0 : Nat) : Int) = Builtin.Range.rangeSize lo hi 1 := by rw [rangeSize_one]; split <;> omega
    show IsRangeIter _ _ (lo + ((0 : Nat) : Int) * 1) ((((hi - lo).toNat : Nat) : Int) - ((0 : Nat) : Int)) 1
    rw [e1, e2]
    exact Heap.get?_push_size _ rfl
  · have e : b = (s.heap.push { cls := .type "range", data := .fields #[.int lo t, .int hi u, .int 1 v] }).objs.size := by simpa using hb
    subst e
    exact I1.fpOk (Nat.le_refl _) (I1.hok.fresh (Nat.le_refl _))
def iRng1 (ta : TA) : TI := fun σ H R => ta σ H fun vs H1 => ∃ j : Int, vs = [.int j] ∧ -(2 ^ 62) ≤ j ∧ j < 2 ^ 62 ∧ R (Itr 0 j.toNat) H1
def iRng2 (ta : TA) : TI := fun σ H R => ta σ H fun vs H1 => ∃ i j : Int, vs = [.int i, .int j] ∧ (-(2 ^ 62) ≤ i ∧ i < 2 ^ 62 ∧ -(2 ^ 62) ≤ j ∧ j < 2 ^ 62) ∧ R (Itr i (j - i).toNat) H1
theorem pi_range1 {a : Expr} {ta : TA} {p pos : Pos} (hg : Gl X "range") (hm : X.mg "range" = none) (ha : PA X [a] ta) (hs : starEach [a] X.env = [(false, eval a X.env)] := by rfl) : PI X tg (.Call (.Name "range" p) [a] [] pos) (iRng1 ta) := by
  intro pins s σ H R I h
  refine Call_ (ld_blt I hg hm boot_range (PyProof.Rows.callWith_type1 (thn (ha pos pins s σ H _ I h) fun us s1 ⟨vs, H1, I1, r1, q1⟩ => ?_) hs rfl))
  obtain ⟨j, e, q1, q2, q⟩ := q1
  subst e
  cases r1 with
  | cons r rr =>
    cases rr
    obtain ⟨t, rfl⟩ := r
    exact call_range_1 (range_it I1 (by omega) (by omega) q1 q2 (by simpa using q))
theorem pi_range2 {a b : Expr} {ta : TA} {p pos : Pos} (hg : Gl X "range") (hm : X.mg "range" = none) (ha : PA X [a, b] ta) (hs : starEach [a, b] X.env = [(false, eval a X.env), (false, eval b X.env)] := by rfl) (hs2 : starEach [b] X.env = [(false, eval b X.env)] := by rfl) :
    PI X tg (.Call (.Name "range" p) [a, b] [] pos) (iRng2 ta) := by
  intro pins s σ H R I h
  refine Call_ (ld_blt I hg hm boot_range (PyProof.Rows.callWith_type1 (thn (ha pos pins s σ H _ I h) fun us s1 ⟨vs, H1, I1, r1, q1⟩ => ?_) (by rw [hs, hs2]) (by rw [hs2]; rfl)))
  obtain ⟨i, j, e, ⟨q1, q2, q3, q4⟩, q⟩ := q1
  subst e
  cases r1 with
  | cons r rr =>
    cases rr with
    | cons r' rr =>
      cases rr
      obtain ⟨t, rfl⟩ := r
      obtain ⟨t', rfl⟩ := r'
      exact call_range_2 (range_it I1 q1 q2 q3 q4 q)

/-! ### for -/
/-- W: the invariant by the turn and a measure; N: what the body is to reach -/
def tFor (wi : TI) (g : TG) (tb : TS) : TS := fun D σ H => wi σ H fun J H1 => ∃ W : Nat → Nat → St → Hp → Prop, (∃ m, W 0 m σ H1) ∧ ∀ i m σ H, W i m σ H →
  (J.stop i H ∧ D.nx σ H) ∨ (J.go i H ∧ ∃ N : St → Hp → Prop, (∀ σ' H', N σ' H' → ∃ m', m' < m ∧ W (i + 1) m' σ' H') ∧ ∀ x H', J.yld i H x H' → g x σ H' fun σ2 H2 => tb { D with nx := N, ct := N, bk := D.nx } σ2 H2)
/-- the records at fp as they stand -/
def pinsAt (fp : List Addr) (h : Heap) : List (Addr × Obj) := fp.filterMap fun b => (h.get? b).map fun o => (b, o)
theorem mem_pinsAt {fp : List Addr} {h : Heap} {b : Addr} {o : Obj} (hb : b ∈ fp) (e : h.get? b = some o) : (b, o) ∈ pinsAt fp h := List.mem_filterMap.mpr ⟨b, hb, by rw [e]; rfl⟩
theorem of_pinsAt {fp : List Addr} {h : Heap} {p : Addr × Obj} (hp : p ∈ pinsAt fp h) : p.1 ∈ fp ∧ h.get? p.1 = some p.2 := by
  obtain ⟨b, hb, e⟩ := List.mem_filterMap.mp hp
  cases q : h.get? b with
  | none => rw [q] at e; cases e
  | some o =>
    rw [q] at e
    have e' : (b, o) = p := Option.some.inj e
    subst e'
    exact ⟨hb, q⟩
theorem Inv.pinned {pins : List (Addr × Obj)} {σ : St} {H : Hp} {s : Shared} {fp : List Addr} (I : Inv X pins σ H s) (hf : ∀ b ∈ fp, FpOk X pins H b) (ho : ∀ b ∈ fp, ∃ o, s.heap.get? b = some o ∧ ∀ v, o.data ≠ .cell v) : Inv X (pins ++ pinsAt fp s.heap) σ H s :=
  I.pins_of fun p hp => (List.mem_append.mp hp).elim (fun z => I.pin p (List.mem_append_right _ z)) fun z => by
    obtain ⟨hb, e⟩ := of_pinsAt z
    obtain ⟨f0, f1, f2, _⟩ := hf p.1 hb
    obtain ⟨o, e', d⟩ := ho p.1 hb
    rw [e] at e'; cases e'
    exact ⟨e, f0, f1, f2, d⟩
theorem Inv.unpinned {pins pl : List (Addr × Obj)} {σ : St} {H : Hp} {s : Shared} (I : Inv X (pins ++ pl) σ H s) : Inv X pins σ H s := I.pins_of fun p hp => I.pin p (List.mem_append_right _ (List.mem_append_left _ hp))
theorem ps_for {iter : Expr} {body : List Stmt} {wi : TI} {g : TG} {tb : TS} {pos : Pos} (hp : PassesOwn (model X.prog X.w) X.A X.env X.xe) (hc : X.calm = true) (hi : PI X tg iter wi) (hg : PG X tg g) (hb : PSs X body tb)
    (hs : ∀ x, foldedSetIterable iter X.env x = pure x := by intro _; rfl) : PS X (.For tg iter body [] pos) (tFor wi g tb) := by
  intro pins s σ H D I h
  refine wpAny_For (thn (hi pins s σ H _ I h) fun v s1 h1 => thn h1 fun itv s2 h2 => ?_) hs
  obtain ⟨it, fp, tn, J, H2, e, I2, T, st2, f2, W, ⟨m0, w0⟩, turn⟩ := h2
  subst e
  -- what stays true of the iterator's objects through the loop
  have stat : ∀ {H' : Hp}, (∀ b ∈ fp, H' b = none) → ∀ b ∈ fp, FpOk X pins H' b := fun hn b hb => ⟨hn b hb, (f2 b hb).2⟩
  refine codeAny_forLoop_any (fun n s' => ∃ i σ' H', Inv X pins σ' H' s' ∧ tn i s'.heap ∧ (∀ b ∈ fp, H' b = none) ∧ W i n σ' H') ?_ m0 ⟨0, σ, H2, I2, st2, fun b hb => (f2 b hb).1, w0⟩
  rintro n s3 ⟨i, σ3, H3, I3, st3, fr3, w3⟩
  rcases turn i n σ3 H3 w3 with ⟨stop, qn⟩ | ⟨go, N, hN, step⟩
  · refine wpAny_passesOwn hp (thn (T.done X rfl rfl rfl hc i pins s3 σ3 H3 X.xe I3 (stat fr3) st3 stop) fun r s4 ⟨hr, I4⟩ => ?_)
    subst hr
    exact wpAny_execs_nil ⟨σ3, H3, I4, qn⟩
  · refine wpAny_passesOwn hp (thn (T.item X rfl rfl rfl hc i pins s3 σ3 H3 X.xe I3 (stat fr3) st3 go) fun r s4 ⟨u, hr, h4⟩ => ?_)
    subst hr
    refine wpAny_passesOwn hp (thn h4 fun _ s5 ⟨x, H5, I5, r5, y5, st5, fr5⟩ => ?_)
    have I5' := I5.pinned (stat fr5) (T.obj _ _ st5)
    refine wpAny_passesOwn hp (thn (hg _ s5 σ3 H5 x u _ I5' r5 (step x H5 y5)) fun _ s6 ⟨σ6, H6, I6, q6⟩ => ?_)
    refine wpAny_passesOwn hp (thn (hb _ s6 σ6 H6 _ I6 q6) fun f s7 q7 => ?_)
    have again : ∀ {σ7 : St} {H7 : Hp}, Inv X (pins ++ pinsAt fp s5.heap) σ7 H7 s7 → N σ7 H7 → ∃ m, m < n ∧ ∃ i σ' H', Inv X pins σ' H' s7 ∧ tn i s7.heap ∧ (∀ b ∈ fp, H' b = none) ∧ W i m σ' H' := fun {σ7 H7} I7 n7 => by
      obtain ⟨m', hm, w7⟩ := hN σ7 H7 n7
      refine ⟨m', hm, i + 1, σ7, H7, I7.unpinned, T.keep _ _ _ st5 fun b hb o e => (I7.pin (b, o) (List.mem_append_right _ (List.mem_append_right _ (mem_pinsAt hb e)))).1, fun b hb => ?_, w7⟩
      obtain ⟨o, e, d⟩ := T.obj _ _ st5 b hb
      exact (I7.pin (b, o) (List.mem_append_right _ (List.mem_append_right _ (mem_pinsAt hb e)))).2.1
    cases f with
    | next => obtain ⟨σ7, H7, I7, n7⟩ := q7; exact again I7 n7
    | cont => obtain ⟨σ7, H7, I7, n7⟩ := q7; exact again I7 n7
    | brk => obtain ⟨σ7, H7, I7, q7⟩ := q7; exact ⟨σ7, H7, I7.unpinned, q7⟩
    | ret v => obtain ⟨x7, σ7, H7, I7, r7, q7⟩ := q7; exact ⟨x7, σ7, H7, I7.unpinned, r7, q7⟩
end

/-! ### the forms one uses -/
end L2

namespace L2
open PySem PySem.Spec PyProof.Rows

abbrev R2 := V → V → Hp → VK → Prop
/-- a two-place operation on values: f is binaryOp op, inplaceOp op or compareOp op -/
def OpR (X : Cx) (f : Value → Value → Sem Value) (r : R2) : Prop :=
  ∀ (pins : List (Addr × Obj)) (s : Shared) (σ : St) (H : Hp) (x y : V) (v u : Value) (Q : VK), Inv X pins σ H s → RelV x v → RelV y u → r x y H Q →
    wpAny (model X.prog X.w) X.A (f v u) (EP X pins σ Q) X.xe s
/-- a one-place operation -/
def UnR (X : Cx) (f : Value → Sem Value) (r : V → Hp → VK → Prop) : Prop :=
  ∀ (pins : List (Addr × Obj)) (s : Shared) (σ : St) (H : Hp) (x : V) (v : Value) (Q : VK), Inv X pins σ H s → RelV x v → r x H Q →
    wpAny (model X.prog X.w) X.A (f v) (EP X pins σ Q) X.xe s
/-- a call of a value that is known (a builtin, a type) with values -/
def CallR (X : Cx) (f : Value) (r : List V → Hp → VK → Prop) : Prop :=
  ∀ (pins : List (Addr × Obj)) (s : Shared) (σ : St) (H : Hp) (xs : List V) (us : List Value) (Q : VK), Inv X pins σ H s → Vals xs us → r xs H Q →
    wpAny (model X.prog X.w) X.A (call f us) (EP X pins σ Q) X.xe s
def tOp (r : R2) (ta tb : TE) : TE := fun σ H Q => ta σ H fun x H1 => tb σ H1 fun y H2 => r x y H2 Q
def tUn (r : V → Hp → VK → Prop) (ta : TE) : TE := fun σ H Q => ta σ H fun x H1 => r x H1 Q
/-- ints in, under C, and a value out -/
def rI (C : Int → Int → Prop) (g : Int → Int → V) : R2 := fun x y H Q => ∃ i j, x = .int i ∧ y = .int j ∧ C i j ∧ Q (g i j) H
def rI0 (g : Int → Int → V) : R2 := fun x y H Q => ∃ i j, x = .int i ∧ y = .int j ∧ Q (g i j) H
def rU (g : Int → V) : V → Hp → VK → Prop := fun x H Q => ∃ i, x = .int i ∧ Q (g i) H

section
variable {X : Cx} {a b c : Expr} {ta tb tc : TE} {pos : Pos}

theorem binT (ha : PE X a ta) (hb : PE X b tb) {pins : List (Addr × Obj)} {s : Shared} {σ : St} {H : Hp} {R : V → V → Hp → Prop} (I : Inv X pins σ H s)
    (h : ta σ H fun x H1 => tb σ H1 fun y H2 => R x y H2) {Q : Value → Shared → Prop} {f : Value → Value → Sem Value}
    (hf : ∀ v u s2 x y H2, Inv X pins σ H2 s2 → RelV x v → RelV y u → R x y H2 → wpAny (model X.prog X.w) X.A (f v u) Q X.xe s2) :
    wpAny (model X.prog X.w) X.A (eval a X.env) (fun v s₁ => wpAny (model X.prog X.w) X.A (eval b X.env) (fun u s₂ => wpAny (model X.prog X.w) X.A (f v u) Q X.xe s₂) X.xe s₁) X.xe s := by
  refine thn (ha pins s σ H _ I h) fun v s1 ⟨x, H1, I1, r1, q1⟩ => ?_
  refine thn (hb pins s1 σ H1 _ I1 q1) fun u s2 ⟨y, H2, I2, r2, q2⟩ => ?_
  exact hf v u s2 x y H2 I2 r1 r2 q2

theorem pe_op {op : Operator} {r : R2} (ho : OpR X (binaryOp op) r) (ha : PE X a ta) (hb : PE X b tb) : PE X (.BinOp a op b pos) (tOp r ta tb) := by
  intro pins s σ H Q I h
  exact wpAny_BinOp (binT ha hb I h fun v u s2 x y H2 I2 rx ry q => ho pins s2 σ H2 x y v u Q I2 rx ry q)
theorem pe_un {op : UnaryOp} {r : V → Hp → VK → Prop} (ho : UnR X (unaryOp op) r) (ha : PE X a ta) : PE X (.UnaryOp op a pos) (tUn r ta) := by
  intro pins s σ H Q I h
  exact UnaryOp_ (thn (ha pins s σ H _ I h) fun v s1 ⟨x, H1, I1, r1, q1⟩ => ho pins s1 σ H1 x v Q I1 r1 q1)
/-! ### ints -/
theorem opI {f : Value → Value → Sem Value} {C : Int → Int → Prop} {g : Int → Int → Int}
    (rule : ∀ (i j : Int) (t u : Tok) (s : Shared) (Q : Value → Shared → Prop) (E : Value → Shared → Prop), C i j → Q (.int (g i j) s.toks) { s with toks := s.toks + 1 } → wpAny (model X.prog X.w) X.A (f (.int i t) (.int j u)) Q E s) :
    OpR X f (rI C fun i j => .int (g i j)) := by
  intro pins s σ H x y v u Q I rx ry h
  obtain ⟨i, j, rfl, rfl, hc, q⟩ := h
  obtain ⟨t, rfl⟩ := rx
  obtain ⟨t', rfl⟩ := ry
  exact rule i j t t' s _ _ hc ⟨.int (g i j), H, I.tok _, ⟨_, rfl⟩, q⟩
theorem opI0 {f : Value → Value → Sem Value} {g : Int → Int → Int}
    (rule : ∀ (i j : Int) (t u : Tok) (s : Shared) (Q : Value → Shared → Prop) (E : Value → Shared → Prop), Q (.int (g i j) s.toks) { s with toks := s.toks + 1 } → wpAny (model X.prog X.w) X.A (f (.int i t) (.int j u)) Q E s) :
    OpR X f (rI0 fun i j => .int (g i j)) := by
  intro pins s σ H x y v u Q I rx ry h
  obtain ⟨i, j, rfl, rfl, q⟩ := h
  obtain ⟨t, rfl⟩ := rx
  obtain ⟨t', rfl⟩ := ry
  exact rule i j t t' s _ _ ⟨.int (g i j), H, I.tok _, ⟨_, rfl⟩, q⟩
theorem opB0 {f : Value → Value → Sem Value} {g : Int → Int → Bool}
    (rule : ∀ (i j : Int) (t u : Tok) (s : Shared) (Q : Value → Shared → Prop) (E : Value → Shared → Prop), Q (.bool (g i j)) s → wpAny (model X.prog X.w) X.A (f (.int i t) (.int j u)) Q E s) :
    OpR X f (rI0 fun i j => .bl (g i j)) := by
  intro pins s σ H x y v u Q I rx ry h
  obtain ⟨i, j, rfl, rfl, q⟩ := h
  obtain ⟨t, rfl⟩ := rx
  obtain ⟨t', rfl⟩ := ry
  exact rule i j t t' s _ _ ⟨.bl (g i j), H, I, rfl, q⟩

def CPow (i j : Int) : Prop := 0 ≤ j ∧ j ≤ 1000000 ∧ i.natAbs < 2 ^ 64
theorem op_add : OpR X (binaryOp .Add) (rI0 fun i j => .int (i + j)) := opI0 fun _ _ _ _ _ _ _ q => add_int q
theorem op_sub : OpR X (binaryOp .Sub) (rI0 fun i j => .int (i - j)) := opI0 fun _ _ _ _ _ _ _ q => sub_int q
/-- % by a positive divisor of any size -/
theorem op_mod : OpR X (binaryOp .Mod) (rI (fun _ j => 0 < j) fun i j => .int (i % j)) := opI fun i j _ _ _ _ _ hc q => by
  have h1 : (0 : Int) < j := hc
  exact mod_int' (by omega) (by rw [Int.fmod_eq_emod_of_nonneg i (by omega)]; exact q)
theorem op_pow : OpR X (binaryOp .Pow) (rI CPow fun i j => .int (i ^ j.toNat)) := opI fun _ _ _ _ _ _ _ hc q => pow_int_small hc.1 hc.2.1 hc.2.2 q
theorem unI {f : Value → Sem Value} {g : Int → Int}
    (rule : ∀ (i : Int) (t : Tok) (s : Shared) (Q : Value → Shared → Prop) (E : Value → Shared → Prop), Q (.int (g i) s.toks) { s with toks := s.toks + 1 } → wpAny (model X.prog X.w) X.A (f (.int i t)) Q E s) :
    UnR X f (rU fun i => .int (g i)) := by
  intro pins s σ H x v Q I rx h
  obtain ⟨i, rfl, q⟩ := h
  obtain ⟨t, rfl⟩ := rx
  exact rule i t s _ _ ⟨.int (g i), H, I.tok _, ⟨_, rfl⟩, q⟩
theorem un_neg : UnR X (unaryOp .USub) (rU fun i => .int (-i)) := unI fun _ _ _ _ _ q => neg_int q
/-! ### bools among ints: n += (a < b) -/
end

/-! ### comparisons -/
/-- the scalars that == tells apart as data does -/
def scal : V → V → Bool
  | .non, .non => true | .non, .int _ => true | .int _, .non => true | .non, .bl _ => true | .bl _, .non => true | .non, .str _ => true | .str _, .non => true
  | .int _, .int _ => true | .bl _, .bl _ => true | .str _, .str _ => true | .byt _, .byt _ => true
  | .int _, .str _ => true | .str _, .int _ => true | .bl _, .str _ => true | .str _, .bl _ => true
  | _, _ => false
def rEq : R2 := fun x y H Q => scal x y = true ∧ Q (.bl (decide (x = y))) H
def rNe : R2 := fun x y H Q => scal x y = true ∧ Q (.bl (!decide (x = y))) H

theorem dec_int {i j : Int} : decide (V.int i = V.int j) = (i == j) := by
  rw [Bool.eq_iff_iff]
  simp
theorem dec_bl {i j : Bool} : decide (V.bl i = V.bl j) = (i == j) := by
  rw [Bool.eq_iff_iff]
  simp
theorem dec_str {i j : Str} : decide (V.str i = V.str j) = (i == j) := by
  rw [Bool.eq_iff_iff]
  simp
theorem dec_byt {i j : Array UInt8} : decide (V.byt i = V.byt j) = (i.toList == j.toList) := by
  rw [Bool.eq_iff_iff]
  cases i
  cases j
  simp

section
variable {X : Cx} {a b c : Expr} {ta tb tc : TE} {pos : Pos}
theorem fin_bl {pins : List (Addr × Obj)} {σ : St} {H : Hp} {s : Shared} {Q : VK} {k k' : Bool} (I : Inv X pins σ H s) (q : Q (.bl k) H) (e : k = k') : EP X pins σ Q (.bool k') s := by
  subst e
  exact ⟨.bl k, H, I, rfl, q⟩
theorem op_eq : OpR X (compareOp .Eq) rEq := by
  intro pins s σ H x y v u Q I rx ry h
  obtain ⟨hs, q⟩ := h
  cases x with
  | non =>
    cases rx
    cases y with
    | non => cases ry; exact PySem.EqNone.eq_none_none (fin_bl I q (by simp))
    | bl j => cases ry; exact PySem.EqNone.eq_none_bool (fin_bl I q (by simp))
    | int j => obtain ⟨t', rfl⟩ := ry; exact PySem.EqNone.eq_none_int (fin_bl I q (by simp))
    | str j => obtain ⟨t', rfl⟩ := ry; exact PySem.EqNone.eq_none_str (fin_bl I q (by simp))
    | _ => exact absurd (show false = true from hs) Bool.false_ne_true
  | bl i =>
    cases rx
    cases y with
    | non => cases ry; exact PySem.EqNone.eq_bool_none (fin_bl I q (by simp))
    | bl j => cases ry; exact eq_bool (fin_bl I q dec_bl)
    | str j => obtain ⟨t', rfl⟩ := ry; exact PySem.EqMixed.eq_bool_str (fin_bl I q (by simp))
    | _ => exact absurd (show false = true from hs) Bool.false_ne_true
  | int i =>
    obtain ⟨t, rfl⟩ := rx
    cases y with
    | non => cases ry; exact PySem.EqNone.eq_int_none (fin_bl I q (by simp))
    | int j => obtain ⟨t', rfl⟩ := ry; exact eq_int (fin_bl I q dec_int)
    | str j => obtain ⟨t', rfl⟩ := ry; exact PySem.EqMixed.eq_int_str (fin_bl I q (by simp))
    | _ => exact absurd (show false = true from hs) Bool.false_ne_true
  | str i =>
    obtain ⟨t, rfl⟩ := rx
    cases y with
    | non => cases ry; exact PySem.EqNone.eq_str_none (fin_bl I q (by simp))
    | bl j => cases ry; exact PySem.EqMixed.eq_str_bool (fin_bl I q (by simp))
    | int j => obtain ⟨t', rfl⟩ := ry; exact PySem.EqMixed.eq_str_int (fin_bl I q (by simp))
    | str j => obtain ⟨t', rfl⟩ := ry; exact eq_str (fin_bl I q dec_str)
    | _ => exact absurd (show false = true from hs) Bool.false_ne_true
  | byt i =>
    obtain ⟨t, rfl⟩ := rx
    cases y with
    | byt j => obtain ⟨t', rfl⟩ := ry; exact PySem.W.eq_bytes (fin_bl I q dec_byt)
    | _ => exact absurd (show false = true from hs) Bool.false_ne_true
  | _ => cases y <;> exact absurd (show false = true from hs) Bool.false_ne_true
theorem op_ne : OpR X (compareOp .NotEq) rNe := by
  intro pins s σ H x y v u Q I rx ry h
  obtain ⟨hs, q⟩ := h
  cases x with
  | non =>
    cases rx
    cases y with
    | non => cases ry; exact PySem.EqNone.ne_none_none (fin_bl I q (by simp))
    | bl j => cases ry; exact PySem.EqNone.ne_none_bool (fin_bl I q (by simp))
    | int j => obtain ⟨t', rfl⟩ := ry; exact PySem.EqNone.ne_none_int (fin_bl I q (by simp))
    | str j => obtain ⟨t', rfl⟩ := ry; exact PySem.EqNone.ne_none_str (fin_bl I q (by simp))
    | _ => exact absurd (show false = true from hs) Bool.false_ne_true
  | bl i =>
    cases rx
    cases y with
    | non => cases ry; exact PySem.EqNone.ne_bool_none (fin_bl I q (by simp))
    | bl j => cases ry; exact ne_bool (fin_bl I q (congrArg not dec_bl))
    | str j => obtain ⟨t', rfl⟩ := ry; exact PySem.EqMixed.ne_bool_str (fin_bl I q (by simp))
    | _ => exact absurd (show false = true from hs) Bool.false_ne_true
  | int i =>
    obtain ⟨t, rfl⟩ := rx
    cases y with
    | non => cases ry; exact PySem.EqNone.ne_int_none (fin_bl I q (by simp))
    | int j => obtain ⟨t', rfl⟩ := ry; exact ne_int (fin_bl I q (congrArg not dec_int))
    | str j => obtain ⟨t', rfl⟩ := ry; exact PySem.EqMixed.ne_int_str (fin_bl I q (by simp))
    | _ => exact absurd (show false = true from hs) Bool.false_ne_true
  | str i =>
    obtain ⟨t, rfl⟩ := rx
    cases y with
    | non => cases ry; exact PySem.EqNone.ne_str_none (fin_bl I q (by simp))
    | bl j => cases ry; exact PySem.EqMixed.ne_str_bool (fin_bl I q (by simp))
    | int j => obtain ⟨t', rfl⟩ := ry; exact PySem.EqMixed.ne_str_int (fin_bl I q (by simp))
    | str j => obtain ⟨t', rfl⟩ := ry; exact ne_str (fin_bl I q (congrArg not dec_str))
    | _ => exact absurd (show false = true from hs) Bool.false_ne_true
  | byt i =>
    obtain ⟨t, rfl⟩ := rx
    cases y with
    | byt j => obtain ⟨t', rfl⟩ := ry; exact PySem.W.ne_bytes (fin_bl I q (congrArg not dec_byt))
    | _ => exact absurd (show false = true from hs) Bool.false_ne_true
  | _ => cases y <;> exact absurd (show false = true from hs) Bool.false_ne_true

theorem op_lt : OpR X (compareOp .Lt) (rI0 fun i j => .bl (decide (i < j))) := opB0 fun _ _ _ _ _ _ _ q => lt_int q
theorem op_le : OpR X (compareOp .LtE) (rI0 fun i j => .bl (decide (i ≤ j))) := opB0 fun _ _ _ _ _ _ _ q => le_int q
theorem op_gt : OpR X (compareOp .Gt) (rI0 fun i j => .bl (decide (j < i))) := opB0 fun _ _ _ _ _ _ _ q => gt_int q
theorem op_ge : OpR X (compareOp .GtE) (rI0 fun i j => .bl (decide (j ≤ i))) := opB0 fun _ _ _ _ _ _ _ q => ge_int q
/-- the one string within the other -/
theorem op_in_str : OpR X (compareOp .In) (fun x y H Q => ∃ i j, x = .str i ∧ y = .str j ∧ Q (.bl (!(Builtin.Str.occurrences j i 0 j.length 1).isEmpty)) H) := by
  intro pins s σ H x y v u Q I rx ry h
  obtain ⟨i, j, rfl, rfl, q⟩ := h
  obtain ⟨t, rfl⟩ := rx
  obtain ⟨t', rfl⟩ := ry
  exact in_str (fin_bl I q rfl)

/-- is None, is not None: the right side a value none -/
theorem op_isN : OpR X (compareOp .Is) (fun x y H Q => y = .non ∧ Q (.bl (decide (x = .non))) H) := by
  intro pins s σ H x y v u Q I rx ry h
  obtain ⟨rfl, q⟩ := h
  cases ry
  refine is_none_gen (fin_bl I q ?_)
  cases x <;> first
    | (cases rx; rfl)
    | (obtain ⟨t, rfl⟩ := rx; rfl)
theorem op_notN : OpR X (compareOp .IsNot) (fun x y H Q => y = .non ∧ Q (.bl (!decide (x = .non))) H) := by
  intro pins s σ H x y v u Q I rx ry h
  obtain ⟨rfl, q⟩ := h
  cases ry
  refine isnot_none_gen (fin_bl I q ?_)
  cases x <;> first
    | (cases rx; rfl)
    | (obtain ⟨t, rfl⟩ := rx; rfl)

theorem op_notin_str : OpR X (compareOp .NotIn) (fun x y H Q => ∃ i j, x = .str i ∧ y = .str j ∧ Q (.bl (!(!(Builtin.Str.occurrences j i 0 j.length 1).isEmpty))) H) := by
  intro pins s σ H x y v u Q I rx ry h
  obtain ⟨i, j, rfl, rfl, q⟩ := h
  obtain ⟨t, rfl⟩ := rx
  obtain ⟨t', rfl⟩ := ry
  exact notIn_str (fin_bl I q rfl)
theorem nomark (b : Expr) {op : CmpOp} (h : op ≠ .In := by decide) (h2 : op ≠ .NotIn := by decide) : behindInMarks op b = false := by
  have e1 : (op == CmpOp.In) = false := by cases op <;> first | rfl | exact absurd rfl h
  have e2 : (op == CmpOp.NotIn) = false := by cases op <;> first | rfl | exact absurd rfl h2
  cases b <;> simp [behindInMarks, e1, e2]
/-- a comparison as a value; hm: nomark b, or (for in, not in) by with_unfolding_all rfl -/
theorem pe_cmpR {op : CmpOp} {r : R2} (ho : OpR X (compareOp op) r) (ha : PE X a ta) (hb : PE X b tb) (hm : behindInMarks op b = false) : PE X (.Compare a [op] [b] pos) (tOp r ta tb) := by
  intro pins s σ H Q I h
  exact wpAny_Compare1 (binT ha hb I h fun v u s2 x y H2 I2 rx ry q => ho pins s2 σ H2 x y v u Q I2 rx ry q) hm
/-- a reading of a value as a test -/
def tTest (t : TE) : TT := fun σ H Q => t σ H fun x H' => ∃ k, x = .bl k ∧ Q k H'
theorem pt_cmpR {op : CmpOp} {r : R2} (ho : OpR X (compareOp op) r) (ha : PE X a ta) (hb : PE X b tb) (hm : behindInMarks op b = false) : PT X (.Compare a [op] [b] pos) (tTest (tOp r ta tb)) := by
  intro pins s σ H Q I h
  refine wpAny_isTrue_Compare1 (thn (ha pins s σ H _ I h) fun v s1 ⟨x, H1, I1, r1, q1⟩ => thn (hb pins s1 σ H1 _ I1 q1) fun u s2 ⟨y, H2, I2, r2, q2⟩ =>
    thn (ho pins s2 σ H2 x y v u _ I2 r1 r2 q2) fun c s3 ⟨z, H3, I3, r3, k, e, q3⟩ => ?_) hm
  subst e
  cases r3
  exact wpAny_truthy_bool ⟨H3, I3, q3⟩
/-- a op1 b op2 c -/
def tChain (r r' : R2) (ta tb tc : TE) : TE := fun σ H Q => ta σ H fun x H1 => tb σ H1 fun y H2 => r x y H2 fun z H3 => ∃ k, z = .bl k ∧
  (if k = true then tc σ H3 fun w' H4 => r' y w' H4 Q else Q (.bl false) H3)
theorem pe_chain {op op' : CmpOp} {r r' : R2} (ho : OpR X (compareOp op) r) (ho' : OpR X (compareOp op') r') (ha : PE X a ta) (hb : PE X b tb) (hc : PE X c tc)
    (hm : lastMarks [op, op'] [b, c] = false := by with_unfolding_all rfl) : PE X (.Compare a [op, op'] [b, c] pos) (tChain r r' ta tb tc) := by
  intro pins s σ H Q I h
  refine Compare_chain (thn (ha pins s σ H _ I h) fun v s1 ⟨x, H1, I1, r1, q1⟩ => chain_link (thn (hb pins s1 σ H1 _ I1 q1) fun u s2 ⟨y, H2, I2, r2, q2⟩ =>
    thn (ho pins s2 σ H2 x y v u _ I2 r1 r2 q2) fun d s3 ⟨z, H3, I3, r3, k, e, q3⟩ => ?_)) hm
  subst e
  cases r3
  refine wpAny_truthy_bool ?_
  cases k with
  | false => exact ite_ff ⟨.bl false, H3, I3, rfl, q3⟩
  | true => exact ite_tt (chain_last (thn (hc pins s3 σ H3 _ I3 q3) fun w' s4 ⟨z', H4, I4, r4, q4⟩ => ho' pins s4 σ H4 y z' u w' Q I4 r2 r4 q4))
theorem pt_chain {op op' : CmpOp} {r r' : R2} (ho : OpR X (compareOp op) r) (ho' : OpR X (compareOp op') r') (ha : PE X a ta) (hb : PE X b tb) (hc : PE X c tc)
    (hm : lastMarks [op, op'] [b, c] = false := by with_unfolding_all rfl) : PT X (.Compare a [op, op'] [b, c] pos) (tTest (tChain r r' ta tb tc)) := by
  intro pins s σ H Q I h
  refine isTrue_chain (thn (ha pins s σ H _ I h) fun v s1 ⟨x, H1, I1, r1, q1⟩ => test_link (thn (hb pins s1 σ H1 _ I1 q1) fun u s2 ⟨y, H2, I2, r2, q2⟩ =>
    thn (ho pins s2 σ H2 x y v u _ I2 r1 r2 q2) fun d s3 ⟨z, H3, I3, r3, k, e, q3⟩ => ?_)) hm
  subst e
  cases r3
  refine wpAny_truthy_bool ?_
  cases k with
  | false =>
    obtain ⟨k', e', q'⟩ := q3
    cases e'
    exact ite_ff ⟨H3, I3, q'⟩
  | true =>
    refine ite_tt (test_last (thn (hc pins s3 σ H3 _ I3 q3) fun w' s4 ⟨z', H4, I4, r4, q4⟩ => thn (ho' pins s4 σ H4 y z' u w' _ I4 r2 r4 q4) fun d' s5 ⟨z2, H5, I5, r5, k2, e2, q5⟩ => ?_))
    subst e2
    cases r5
    exact wpAny_truthy_bool ⟨H5, I5, q5⟩

/-! ### truth -/
theorem line63 : (sizeLine : Nat) < 2 ^ 63 := by rw [sizeLine_eq]; decide
/-! ### strs and bytes -/
theorem op_add_str : OpR X (binaryOp .Add) (fun x y H Q => ∃ i j, x = .str i ∧ y = .str j ∧ i.length + j.length ≤ sizeLine ∧ Q (.str (i ++ j)) H) := by
  intro pins s σ H x y v u Q I rx ry h
  obtain ⟨i, j, rfl, rfl, hz, q⟩ := h
  obtain ⟨t, rfl⟩ := rx
  obtain ⟨t', rfl⟩ := ry
  exact add_str (fun t' tk => ⟨.str (i ++ j), H, I.tok _, ⟨_, rfl⟩, q⟩) hz
/-! ### scalar builtins, by CallR -/
theorem vals1 {x : V} {us : List Value} (r : Vals [x] us) : ∃ u, us = [u] ∧ RelV x u := by
  cases r with
  | cons r1 r2 => cases r2; exact ⟨_, rfl, r1⟩
theorem vals2 {x y : V} {us : List Value} (r : Vals [x, y] us) : ∃ u w', us = [u, w'] ∧ RelV x u ∧ RelV y w' := by
  cases r with
  | cons r1 r2 =>
    cases r2 with
    | cons r3 r4 => cases r4; exact ⟨_, _, rfl, r1, r3⟩
theorem call_min2 (hc : X.calm = true) : CallR X (.builtin "min") (fun xs H Q => ∃ i j, xs = [.int i, .int j] ∧ Q (.int (if j < i then j else i)) H) := by
  intro pins s σ H xs us Q I r h
  obtain ⟨i, j, rfl, q⟩ := h
  obtain ⟨u, w', rfl, ⟨t, rfl⟩, ⟨t', rfl⟩⟩ := vals2 r
  refine min_two_ints (I.ok.hd hc) fun h' tk k => ⟨_, H, I.kept k, ?_, q⟩
  by_cases hj : j < i
  · rw [if_pos hj, if_pos hj]; exact ⟨_, rfl⟩
  · rw [if_neg hj, if_neg hj]; exact ⟨_, rfl⟩
theorem call_str_int : CallR X (.type "str") (fun xs H Q => ∃ i, xs = [.int i] ∧ i.natAbs.log2 < 1920 ∧ Q (.str (toString i)) H) := by
  intro pins s σ H xs us Q I r h
  obtain ⟨i, rfl, hz, q⟩ := h
  obtain ⟨u, rfl, t, rfl⟩ := vals1 r
  exact PySem.P.str_of_int hz ⟨.str _, H, I.tok _, ⟨_, rfl⟩, q⟩
/-- len of a str, a bytes, a list, a tuple -/
def LenV (K : PySem.W.Frag) (x : V) (H : Hp) (n : Nat) : Prop :=
  match x with
  | .str y => y.length ≤ sizeLine ∧ n = y.length
  | .byt y => y.size ≤ sizeLine ∧ n = y.size
  | .ref p => (∃ xs, SqL K H p xs ∧ n = xs.length) ∨ ∃ xs, SqT K H p xs ∧ n = xs.length
  | _ => False
theorem call_len : CallR X (.builtin "len") (fun xs H Q => ∃ x n, xs = [x] ∧ LenV X.K x H n ∧ Q (.int n) H) := by
  intro pins s σ H xs us Q I r h
  obtain ⟨x, n, rfl, e, q⟩ := h
  obtain ⟨u, rfl, rx⟩ := vals1 r
  have hl := line63
  have hs : sizeLine = 16777216 := sizeLine_eq
  cases x with
  | str y =>
    obtain ⟨t, rfl⟩ := rx
    obtain ⟨hy, e'⟩ : y.length ≤ sizeLine ∧ n = y.length := e
    subst e'
    exact len_str (by omega) ⟨.int _, H, I.tok _, ⟨_, rfl⟩, q⟩
  | byt y =>
    obtain ⟨t, rfl⟩ := rx
    obtain ⟨hy, e'⟩ : y.size ≤ sizeLine ∧ n = y.size := e
    subst e'
    exact PySem.W.len_bytes (by omega) ⟨.int _, H, I.tok _, ⟨_, rfl⟩, q⟩
  | ref p =>
    cases rx
    have e' : (∃ xs, SqL X.K H p xs ∧ n = xs.length) ∨ ∃ xs, SqT X.K H p xs ∧ n = xs.length := e
    rcases e' with ⟨xs, hx, e'⟩ | ⟨xs, hx, e'⟩
    · subst e'
      obtain ⟨its, r', pl, hz⟩ := I.list hx
      have hlen := r'.length
      exact Calls.call_len_list pl.isList (by simp only [List.size_toArray]; omega) ⟨.int xs.length, H, I.tok _, ⟨_, by simp only [List.size_toArray]; rw [hlen]⟩, q⟩
    · subst e'
      obtain ⟨its, r', pl, hz⟩ := I.tuple hx
      have hlen := r'.length
      exact len_tuple pl (by simp only [List.size_toArray]; omega) ⟨.int xs.length, H, I.tok _, ⟨_, by simp only [List.size_toArray]; rw [hlen]⟩, q⟩
  | _ => exact (show False from e).elim
end
end L2

namespace L2
open PySem PySem.Spec PyProof.Rows

/-! ### an instance, its attributes a map -/
structure ObjM (h : Heap) (x dx C : Addr) (mA : Str → Option Value) : Prop where
  obj : h.get? x = some (PySem.W.instObj C dx)
  ns : h.Ns1 dx mA
  ne : dx ≠ x

theorem lookIn_ns {h : Heap} {dx : Addr} {mA : Str → Option Value} (n : h.Ns1 dx mA) : ∃ od, h.get? dx = some od ∧ ∀ name, PySem.W.lookIn name od = some (mA name) := by
  obtain ⟨o, es, ep, ho, hd, hk, _, hm⟩ := n
  refine ⟨o, ho, fun name => ?_⟩
  have e := hm name
  unfold nsFind findBy at e
  rw [← Array.find?_toList] at e
  unfold PySem.W.lookIn
  rw [hd]
  dsimp only
  split
  · rename_i y q
    rw [q] at e
    exact congrArg some e
  · rename_i q
    rw [q] at e
    have a : es.toList.any (·.refKey) = false := by
      rw [List.any_eq_false]
      intro y hy
      obtain ⟨z, t, hkey⟩ := hk y (Array.mem_toList_iff.mp hy)
      simp [DictEntry.refKey, hkey]
    have a' : ¬ es.toList.any (·.refKey) = true := by rw [a]; exact Bool.false_ne_true
    rw [if_neg a']
    exact congrArg some e

theorem ObjM.look {h : Heap} {x dx C : Addr} {mA : Str → Option Value} (I : ObjM h x dx C mA) : ∃ od, PySem.W.InstAt h x (PySem.W.instObj C dx) C (some od) ∧ ∀ name, PySem.W.lookIn name od = some (mA name) :=
  let ⟨od, ho, hl⟩ := lookIn_ns I.ns
  ⟨od, ⟨I.obj, rfl, rfl, ho⟩, hl⟩

section
variable {prog : Program} {w : World} {A : Around} {E : Value → Shared → Prop} {s : Shared} {K : PySem.W.Frag} {x dx C f : Addr} {mA : Str → Option Value} {name : Str} {v : Value}

end

/-! ### the attributes as a list of pairs -/
def putF (f : Str) (v : V) : List (Str × V) → List (Str × V)
  | [] => [(f, v)]
  | (g, x) :: r => if g = f then (g, v) :: r else (g, x) :: putF f v r
section
variable {P : Program} {w : World} {H H' : Hp} {h h' : Heap} {a C dx : Addr} {fs fs' : List (Str × V)}
theorem ins_get (hok : HOk P w H h) (e : H a = some (.ins C dx fs)) : ∃ mA, ObjM h a dx C mA ∧ (∀ f, RelO (fs.lookup f) (mA f)) ∧ PySem.Within mA (fs.map (·.1)) ∧ fs.length ≤ 1000 ∧ H dx = some (.own a) := by
  obtain ⟨d, z, ne, ob, mA, n, r, q⟩ := (show ObjOk P w H h a (.ins C dx fs) from hok a _ e)
  exact ⟨mA, ⟨ob, n, ne⟩, r, q, z, d⟩
end

/-! ### what of the text a class must have -/
structure Cls (K : PySem.W.Frag) (C : Addr) : Prop where
  pg : PySem.W.plainGet K C Str.empty = true
  hd : PySem.W.hasDictIn K C = true
  po : PySem.W.plainOver K C = true
  sa : PySem.W.findIn K (.ref C) "__setattr__" = some (some (.builtin "object.__setattr__"))
theorem Cls.get {K : PySem.W.Frag} {C : Addr} (c : Cls K C) (f : Str) : PySem.W.plainGet K C f = true := c.pg
section
variable {X : Cx} {pins : List (Addr × Obj)} {σ : St} {H : Hp} {s : Shared} {a C dx : Addr} {fs : List (Str × V)} {f : Str} {v : V} {A : Around} {E : Value → Shared → Prop}

end

/-! ### readings and rules -/
section
variable {X : Cx} {o e value : Expr} {f : Str} {pos pos' tpos : Pos} {ta tv : TE}
end

/-! ### isinstance -/
section
variable {X : Cx} {pins : List (Addr × Obj)} {σ : St} {H : Hp} {s : Shared} {A : Around} {E : Value → Shared → Prop} {Q : Value → Shared → Prop} {c : Value} {b : Bool}
/-- the type of a value, as the fragment's deciders take it; for an instance its class -/
inductive TyOf (K : PySem.W.Frag) (H : Hp) : V → Value → Prop where
  | non : TyOf K H .non (.type "NoneType")
  | bl (x : Bool) : TyOf K H (.bl x) (.type "bool")
  | int (i : Int) : TyOf K H (.int i) (.type "int")
  | str (x : Str) : TyOf K H (.str x) (.type "str")
  | flt (x : UInt64) : TyOf K H (.flt x) (.type "float")
  | lst {a : Addr} {xs : List V} (e : H a = some (.lst xs)) : TyOf K H (.ref a) (.type "list")
  | frz {a : Addr} {o : Obj} {xs : List V} (e : H a = some (.frz o (.lst xs))) : TyOf K H (.ref a) (.type "list")
  | tup {a : Addr} {xs : List V} (e : H a = some (.tup xs)) : TyOf K H (.ref a) (.type "tuple")
  | dK {a : Addr} {kvs : List (Key × V)} (e : H a = some (.dK kvs)) : TyOf K H (.ref a) (.type "dict")
  | dT {a : Addr} {kvs : List (List Key × V)} (e : H a = some (.dT kvs)) : TyOf K H (.ref a) (.type "dict")
  | ins {a C dx : Addr} {fs : List (Str × V)} (e : H a = some (.ins C dx fs)) (cl : Cls K C) (ha : PySem.W.findIn K (.ref C) "__class__" = some (some (.builtin "object.__class__")))
      (hn : PySem.W.specialIn K (.builtin "object.__class__") "__get__" = some (some (.builtin "getset_descriptor.__get__"))) (htk : PySem.W.takesIn K (.builtin "object.__class__") = some true)
      (hm : PySem.W.mroIn K C (.type "object") = some true) : TyOf K H (.ref a) (.ref C)
/-- isinstance(x, c) for one class c, a built-in or an own one: kitOne's answer -/
theorem isinst_ok {x : V} {u t : Value} (I : Inv X pins σ H s) (rx : RelV x u) (ty : TyOf X.K H x t) (e : PySem.W.kitOne X.K t c = some b) (h : ∀ tk, Q (.bool b) { s with toks := tk }) :
    wpAny (model X.prog X.w) A (call (.builtin "isinstance") [u, c]) Q E s := by
  cases ty with
  | non => cases (show u = Value.none from rx); exact PySem.W.kia_one PySem.W.kitx_none I.kIn True.intro e (fun z => nomatch z) h
  | bl y => cases (show u = Value.bool y from rx); exact PySem.W.kia_one PySem.W.kitx_bool I.kIn True.intro e (fun z => nomatch z) h
  | int i => obtain ⟨t, q⟩ := (show ∃ t, u = Value.int i t from rx); cases q; exact PySem.W.kia_one PySem.W.kitx_int I.kIn True.intro e (fun z => nomatch z) h
  | str y => obtain ⟨t, q⟩ := (show ∃ t, u = Value.str y t from rx); cases q; exact PySem.W.kia_one PySem.W.kitx_str I.kIn True.intro e (fun z => nomatch z) h
  | flt y => obtain ⟨t, q⟩ := (show ∃ t, u = Value.float y t from rx); cases q; exact PySem.W.kia_one PySem.W.kitx_float I.kIn True.intro e (fun z => nomatch z) h
  | @lst a xs ea =>
    cases (show u = Value.ref a from rx)
    obtain ⟨_, _, n, _, h1⟩ := (show ObjOk X.prog X.w H s.heap a (.lst xs) from I.hok a _ ea)
    exact PySem.W.kia_one PySem.W.kitx_list I.kIn ⟨_, h1, rfl⟩ e (fun z => nomatch z) h
  | @frz a ob xs ea =>
    cases (show u = Value.ref a from rx)
    obtain ⟨_, _, _, n, _, h1⟩ := (show ObjOk X.prog X.w H s.heap a (.frz ob (.lst xs)) from I.hok a _ ea)
    exact PySem.W.kia_one PySem.W.kitx_list I.kIn ⟨_, h1, rfl⟩ e (fun z => nomatch z) h
  | @tup a xs ea =>
    cases (show u = Value.ref a from rx)
    obtain ⟨_, _, _, p⟩ := (show ObjOk X.prog X.w H s.heap a (.tup xs) from I.hok a _ ea)
    obtain ⟨o, h1, h2, _⟩ := p
    exact PySem.W.kia_one PySem.W.kitx_tuple I.kIn ⟨o, h1, h2⟩ e (fun z => nomatch z) h
  | @dK a kvs ea =>
    cases (show u = Value.ref a from rx)
    obtain ⟨_, _, vs, _, p⟩ := (show ObjOk X.prog X.w H s.heap a (.dK kvs) from I.hok a _ ea)
    obtain ⟨o, es, ep, h1, h2, _⟩ := p
    exact PySem.W.kia_one PySem.W.kitx_dict I.kIn ⟨o, h1, h2.1⟩ e (fun z => nomatch z) h
  | @dT a kvs ea =>
    cases (show u = Value.ref a from rx)
    obtain ⟨_, _, xs, _, o, es, ep, h1, h2, _⟩ := (show ObjOk X.prog X.w H s.heap a (.dT kvs) from I.hok a _ ea)
    exact PySem.W.kia_one PySem.W.kitx_dict I.kIn ⟨o, h1, h2.1⟩ e (fun z => nomatch z) h
  | @ins a C dx fs ea cl ha hn htk hm =>
    cases (show u = Value.ref a from rx)
    obtain ⟨mA, O, _⟩ := ins_get I.hok ea
    obtain ⟨od, J, _⟩ := O.look
    exact PySem.W.kia_one (PySem.W.kitx_own (cl.get _) cl.hd ha hn htk hm) I.kIn J e (fun z => nomatch z) h
end
end L2

namespace L2
open PySem PySem.Spec PyProof.Rows

/-! ### room -/
structure Room (k : Nat) (A : Around) : Prop where
  hd : A.handled = none
  dp : A.depth + 3 * k + 5 < recursionLimit
  un : A.units + 16 * k + 200 < cLine
theorem Room.mono {j k : Nat} {A : Around} (r : Room k A) (h : j ≤ k) : Room j A := ⟨r.hd, by have := r.dp; omega, by have := r.un; omega⟩
theorem Room.deeper {k : Nat} {A : Around} (r : Room (k + 1) A) (env : Env) : Room k (A.deeper env) :=
  ⟨r.hd, by have := r.dp; show A.depth + 1 + 3 * k + 5 < _; omega, by have := r.un; show A.units + 3 + 16 * k + 200 < _; omega⟩
theorem Room.depth {k : Nat} {A : Around} (r : Room k A) : A.depth < recursionLimit := by have := r.dp; omega
/-! ### argument lists and displays -/
def tNil : TA := fun _ H Q => Q [] H
def tCons (ta : TE) (tr : TA) : TA := fun σ H Q => ta σ H fun x H1 => tr σ H1 fun xs H2 => Q (x :: xs) H2
section
variable {X : Cx} {e : Expr} {es : List Expr} {te : TE} {t : TA} {pos : Pos}
theorem pa_nil : PA X [] tNil := fun _ _ _ _ H Q I h => Calls.spliced_nil ⟨[], H, I, .nil, h⟩
theorem pa_cons (ha : PE X e te) (hr : PA X es t) (hs : starEach (e :: es) X.env = (false, eval e X.env) :: starEach es X.env := by rfl) : PA X (e :: es) (tCons te t) := by
  intro pos pins s σ H Q I h
  rw [hs]
  show wpAny _ _ (spliced ((false, eval e X.env) :: backTo pos (starEach es X.env))) _ _ s
  refine Calls.spliced_cons (thn (ha pins s σ H _ I h) fun u s1 ⟨x, H1, I1, r1, q1⟩ => ?_)
  exact thn (hr pos pins s1 σ H1 _ I1 q1) fun us s2 ⟨xs, H2, I2, r2, q2⟩ => ⟨x :: xs, H2, I2, .cons r1 r2, q2⟩

/-- a tuple, a list of written items -/
def tTup (t : TA) : TE := fun σ H Q => t σ H fun xs H1 => xs.length ≤ sizeLine ∧ ∀ p, H1 p = none → Q (.ref p) (upd H1 p (.tup xs))
def tLst (t : TA) : TE := fun σ H Q => t σ H fun xs H1 => xs.length ≤ sizeLine ∧ ∀ p, H1 p = none → Q (.ref p) (upd H1 p (.lst xs))
theorem pe_tup {x1} (h : PA X es t) : PE X (.Tuple es x1 pos) (tTup t) := by
  intro pins s σ H Q I hq
  refine wpAny_Tuple_spliced (thn (h pos pins s σ H _ I hq) fun us s1 ⟨xs, H1, I1, r, z, q⟩ => ⟨by rw [← r.length]; exact z, ?_⟩)
  have hf : H1 s1.heap.objs.size = none := I1.hok.fresh (Nat.le_refl _)
  refine ⟨.ref s1.heap.objs.size, upd H1 s1.heap.objs.size (.tup xs), I1.laid (t' := s1.toks) (fun b u e => Heap.get?_push_of_some _ e) (Nat.le_refl _) ?_, rfl, q _ hf⟩
  exact ⟨z, us, r, ⟨_, Heap.get?_push_size _ rfl, rfl, _, rfl⟩⟩
theorem pe_lst (h : PA X es t) : PE X (.List es pos) (tLst t) := by
  intro pins s σ H Q I hq
  refine wpAny_List_spliced (thn (h pos pins s σ H _ I hq) fun us s1 ⟨xs, H1, I1, r, z, q⟩ => ⟨by rw [← r.length]; exact z, ?_⟩)
  have hf : H1 s1.heap.objs.size = none := I1.hok.fresh (Nat.le_refl _)
  refine ⟨.ref s1.heap.objs.size, upd H1 s1.heap.objs.size (.lst xs), I1.laid (t' := s1.toks) (fun b u e => Heap.get?_push_of_some _ e) (Nat.le_refl _) ?_, rfl, q _ hf⟩
  exact ⟨z, us, 0, r, Heap.get?_push_size _ rfl⟩
end

/-! ### what a def promises -/
/-- a def's promise: the bound arguments in the parameters' order, the heap, the wanted end, the wanted exception -/
abbrev Sp := List V → Hp → VK → XK → Prop
/-- how an exception lies behind a call (file 08 gives it): the callers' frames, abstract heap and state ahead of the call, the wish, the exception, the state -/
abbrev CXT := List Env → Hp → Shared → XK → Value → Shared → Prop

/-- the state at a call -/
structure Env0 (P : Program) (w : World) (K : PySem.W.Frag) (mg : Str → Option Value) (base : Heap) (A : Around) (outer : List Env) (s : Shared) (H : Hp) : Prop where
  frames : A.frames = some outer
  mod : Mod K mg base
  bs : ∀ b o, base.get? b = some o → s.heap.get? b = some o ∧ H b = none
  bsz : base.objs.size ≤ s.heap.objs.size
  funs : s.heap.FunFrames base outer
  frf : ∀ b ∈ frs outer, H b = none
  hok : HOk P w H s.heap
  bare : AllBare s.gens
/-- a call's end -/
def CE (outer : List Env) (P : Program) (w : World) (H : Hp) (s : Shared) (Q : VK) (u : Value) (s' : Shared) : Prop :=
  ∃ v H', s'.os = s.os ∧ AllBare s'.gens ∧ Un (frs outer) [] H H' s.heap s'.heap ∧ HOk P w H' s'.heap ∧ RelV v u ∧ Q v H'
def CR (CX : CXT) (outer : List Env) (P : Program) (w : World) (H : Hp) (s : Shared) (Q : VK) (E : XK) (r : Result) (s' : Shared) : Prop :=
  match r with
  | .ok (.ret u) => CE outer P w H s Q u s'
  | .ok _ => False
  | .error e => CX outer H s E e s'
structure FnOk (P : Program) (w : World) (K : PySem.W.Frag) (mg : Str → Option Value) (base : Heap) (CX : CXT) (k : Nat) (f : Addr) (fd : FuncData) (ps : List Str) (sp : Sp) : Prop where
  len : ∀ vs H Q E, sp vs H Q E → vs.length = ps.length
  run : ∀ (A : Around) (outer : List Env) (s : Shared) (H : Hp) (args : Args) (us : List Value) (vs : List V) (Q : VK) (E : XK), Room k A → Env0 P w K mg base A outer s H → BindsTo s fd args (ps.zip us) → Vals vs us → sp vs H Q E →
    codeAny (model P w) A (.call (.ref f) args) (CR CX outer P w H s Q E) s
theorem FnOk.mono {P : Program} {w : World} {K : PySem.W.Frag} {mg : Str → Option Value} {base : Heap} {CX : CXT} {j k : Nat} {f : Addr} {fd : FuncData} {ps : List Str} {sp : Sp} (F : FnOk P w K mg base CX j f fd ps sp) (h : j ≤ k) :
    FnOk P w K mg base CX k f fd ps sp := ⟨F.len, fun A outer s H args us vs Q E hr => F.run A outer s H args us vs Q E (hr.mono h)⟩
section
variable {X : Cx} {pins : List (Addr × Obj)} {σ : St} {H : Hp} {s s' : Shared}
/-- from a body: what a callee wants -/
theorem Inv.env0 (I : Inv X pins σ H s) : Env0 X.prog X.w X.K X.mg X.base X.A X.stack s H :=
  ⟨I.ok.frames, I.ok.mod, I.bs, Nat.le_trans I.ok.bsz I.sz, I.stack, I.stkFree, I.hok, I.bare⟩
/-- behind a call -/
theorem Inv.after {Q : VK} {u : Value} (I : Inv X pins σ H s) (h : CE X.stack X.prog X.w H s Q u s') : EP X pins σ Q u s' := by
  obtain ⟨v, H', os, bare, un, hok, r, q⟩ := h
  obtain ⟨hh, g, d, t, os'⟩ := s'
  obtain rfl : os' = s.os := os
  exact ⟨v, H', I.call (h' := hh) (g' := g) (d' := d) (t' := t) (ch := []) un hok bare (fun b z => absurd z (by simp)), r, q⟩
end

/-! ### calls -/
/-- f(..): the written arguments, then the defaults dvs; E: what is wanted of an exception -/
def tCall (sp : Sp) (dvs : List V) (E : XK) (t : TA) : TE := fun σ H Q => t σ H fun vs H1 => sp (vs ++ dvs) H1 Q E
/-- how the parameters are bound: us the positional arguments, kw the keywords' values by name, ds the defaults that fill up -/
def Binds (K : PySem.W.Frag) (fd : FuncData) (ps : List Str) (ds : List Value) : Prop :=
  ∀ (s : Shared) (us : List Value), K.In s.heap → (us ++ ds).length = ps.length → BindsTo s fd ⟨us, []⟩ (ps.zip (us ++ ds))
/-- every parameter is given -/
theorem Binds.all {K : PySem.W.Frag} {fd : FuncData} {ps : List Str} (h : ∀ us : List Value, us.length = ps.length → bindArgs fd ⟨us, []⟩ = pure (ps.zip us)) : Binds K fd ps [] := fun s us _ hl => by
  rw [List.append_nil] at hl ⊢
  exact .of_eq (h us hl)

/-- an exception of a callee reaches what this body wants of exceptions -/
def Passes (CX : CXT) (X : Cx) (E : XK) : Prop := ∀ (pins : List (Addr × Obj)) (σ : St) (H : Hp) (s : Shared) (e : Value) (s' : Shared), Inv X pins σ H s → CX X.stack H s E e s' → X.xe e s'

section
variable {X : Cx} {CX : CXT} {k : Nat} {f C : Addr} {fd : FuncData} {ps : List Str} {sp : Sp} {dvs : List V} {ds : List Value} {E : XK} {x m : Str} {p pos apos : Pos} {e o : Expr} {es : List Expr} {ta : TE} {t : TA}

/-- the callee runs -/
theorem run_fn {pins : List (Addr × Obj)} {σ : St} {H : Hp} {s : Shared} {Q : VK} {us : List Value} {vs : List V} (F : FnOk X.prog X.w X.K X.mg X.base CX k f fd ps sp) (hr : Room k X.A) (hb : Binds X.K fd ps ds) (hd : Vals dvs ds) (hx : Passes CX X E)
    (I : Inv X pins σ H s) (r : Vals vs us) (h : sp (vs ++ dvs) H Q E) : wpAny (model X.prog X.w) X.A (call (.ref f) us) (EP X pins σ Q) X.xe s := by
  have r2 : Vals (vs ++ dvs) (us ++ ds) := r.append hd
  have hl : (us ++ ds).length = ps.length := by rw [← r2.length]; exact F.len _ _ _ _ h
  refine wpAny_call (codeAny_mono (F.run X.A X.stack s H ⟨us, []⟩ (us ++ ds) (vs ++ dvs) Q E hr I.env0 (hb s us I.kIn hl) r2 h) fun r s' hq => ?_)
  cases r with
  | error e => exact hx pins σ H s e s' I hq
  | ok fl =>
    cases fl with
    | ret u => exact I.after hq
    | next => exact False.elim hq
    | brk => exact False.elim hq
    | cont => exact False.elim hq

theorem pe_call (F : FnOk X.prog X.w X.K X.mg X.base CX k f fd ps sp) (hr : Room k X.A) (hg : Gl X x) (hm : X.mg x = some (.ref f)) (hk : PySem.W.keepIn X.K (.ref f) = true) (hb : Binds X.K fd ps ds) (hd : Vals dvs ds) (hx : Passes CX X E)
    (ha : PA X (e :: es) t) (hdb : (x == ("__debug__" : Str)) = false := by decide) (he : starEach (e :: es) X.env = (false, eval e X.env) :: starEach es X.env := by rfl) (hpl : (backTo pos (starEach es X.env)).any (·.1) = false := by rfl) :
    PE X (.Call (.Name x p) (e :: es) [] pos) (tCall sp dvs E t) := by
  intro pins s σ H Q I h
  refine wpAny_Call_Name_kw (ld_glob I hg hm ?_ hdb)
  refine PySem.W.callWith_K (h₀ := X.base) I.ok.mod.kin hk (thn (ha pos pins s σ H _ I h) fun us s1 ⟨vs, H1, I1, r, q⟩ => ⟨I1.kIn, ?_⟩) he hpl
  exact run_fn F hr hb hd hx I1 r q
end

/-! ### keywords -/
section
variable {X : Cx} {CX : CXT} {k : Nat} {f C : Addr} {fd : FuncData} {ps ks : List Str} {sp : Sp} {E : XK} {x m : Str} {p pos apos kpos : Pos} {e o : Expr} {es : List Expr} {kws : List Keyword} {te ta : TE} {t tk : TA} {nm : Option Str}
variable {g : List Value → List Value → List Value} {gV : List V → List V → List V}
end

/-! ### a def's body keeps its promise -/
/-- names: the parameters first -/
structure FnScope (N P : List Str) (sc : Scope) : Prop where
  kind : sc.kind = .function
  co : sc.isCoroutine = false
  gen : sc.isGenerator = false
  nd : N.Nodup
  pre : N.take P.length = P
  par : ∀ x ∈ P, sc.names.lookup x = some .local ∨ sc.names.lookup x = some .cell
  nofree : ∀ y ∈ sc.names, y.2 ≠ .free

theorem bindL_out {kindOf : Str → Option NameKind} {x : Str} : ∀ {binds : List (Str × Value)} {m : Str → Option Value}, (∀ v, (x, v) ∉ binds) → bindL kindOf binds m x = m x
  | [], _, _ => rfl
  | (n, v) :: r, m, h => by
    unfold bindL
    rw [bindL_out fun w hw => h w (List.mem_cons_of_mem _ hw)]
    split
    · have : x ≠ n := by rintro rfl; exact h v List.mem_cons_self
      simp [this]
    · rfl
theorem bindC_out {kindOf : Str → Option NameKind} {x : Str} : ∀ {binds : List (Str × Value)} {m : Str → Option Value}, (∀ v, (x, v) ∉ binds) → bindC kindOf binds m x = m x
  | [], _, _ => rfl
  | (n, v) :: r, m, h => by
    unfold bindC
    rw [bindC_out fun w hw => h w (List.mem_cons_of_mem _ hw)]
    split
    · rfl
    · have : x ≠ n := by rintro rfl; exact h v List.mem_cons_self
      simp [this]
theorem bindL_get {kindOf : Str → Option NameKind} {x : Str} {v : Value} : ∀ {P : List Str} {vs : List Value} {i : Nat} {m : Str → Option Value}, P.Nodup → P[i]? = some x → vs[i]? = some v → kindOf x = some .local →
    bindL kindOf (P.zip vs) m x = some v
  | [], _, _, _, _, h, _, _ => by simp at h
  | _ :: _, [], _, _, _, _, h, _ => by simp at h
  | p :: P, w :: vs, 0, m, nd, h1, h2, hk => by
    simp at h1 h2; subst h1; subst h2
    show bindL kindOf ((p, w) :: P.zip vs) m p = _
    unfold bindL
    rw [bindL_out fun v hv => (List.nodup_cons.mp nd).1 (List.of_mem_zip hv).1, if_pos hk]
    simp
  | p :: P, w :: vs, i + 1, m, nd, h1, h2, hk => by
    show bindL kindOf ((p, w) :: P.zip vs) m x = _
    unfold bindL
    exact bindL_get (i := i) (List.nodup_cons.mp nd).2 (by simpa using h1) (by simpa using h2) hk
theorem bindC_get {kindOf : Str → Option NameKind} {x : Str} {v : Value} : ∀ {P : List Str} {vs : List Value} {i : Nat} {m : Str → Option Value}, P.Nodup → P[i]? = some x → vs[i]? = some v → kindOf x ≠ some .local →
    bindC kindOf (P.zip vs) m x = some v
  | [], _, _, _, _, h, _, _ => by simp at h
  | _ :: _, [], _, _, _, _, h, _ => by simp at h
  | p :: P, w :: vs, 0, m, nd, h1, h2, hk => by
    simp at h1 h2; subst h1; subst h2
    show bindC kindOf ((p, w) :: P.zip vs) m p = _
    unfold bindC
    rw [bindC_out fun v hv => (List.nodup_cons.mp nd).1 (List.of_mem_zip hv).1, if_neg hk]
    simp
  | p :: P, w :: vs, i + 1, m, nd, h1, h2, hk => by
    show bindC kindOf ((p, w) :: P.zip vs) m x = _
    unfold bindC
    exact bindC_get (i := i) (List.nodup_cons.mp nd).2 (by simpa using h1) (by simpa using h2) hk

/-- the names' values at the entry -/
def start (N : List Str) (vs : List V) : St := vs.map some ++ List.replicate (N.length - vs.length) none

/-- the context of a def's body, at its entry; an exception leaves the frame, then lies as CX says -/
def cxOf (CX : CXT) (P : Program) (w : World) (K : PySem.W.Frag) (mg : Str → Option Value) (base : Heap) (N : List Str) (qual : Str) (scope : Scope) (f : Addr) (cd : Value) (A : Around) (outer : List Env) (s : Shared) (H : Hp) (E : XK) : Cx where
  prog := P
  w := w
  K := K
  mg := mg
  base := base
  A := A.deeper (envOfC qual scope s.heap.objs.size f cd)
  N := N
  s₀ := s
  H₀ := H
  env := envOfC qual scope s.heap.objs.size f cd
  outer := outer
  stack := envOfC qual scope s.heap.objs.size f cd :: outer
  ex := []
  calm := true
  fn := fun _ => true
  pn := []
  xe := fun e s' => wpAny (model P w) (A.deeper (envOfC qual scope s.heap.objs.size f cd)) (leaving (envOfC qual scope s.heap.objs.size f cd) e) (fun _ s'' => CX outer H s E e s'') (fun e' s'' => CX outer H s E e' s'') s'

theorem cell_has {sc : Scope} {n : Nat} {x : Str} (h : sc.names.lookup x = some .cell) : ∃ c, (cellsFrom n sc.names []).lookup x = some c := by
  have q := PySem.W.cellsFrom_some sc.names n [] (.inl h)
  exact Option.isSome_iff_exists.mp q

theorem inv_start {CX : CXT} {P : Program} {w : World} {K : PySem.W.Frag} {mg : Str → Option Value} {base : Heap} {N ps : List Str} {qual : Str} {scope : Scope} {f : Addr} {cd : Value} {A : Around} {outer : List Env} {s s1 : Shared} {H : Hp} {E : XK} {us : List Value} {vs : List V}
    (S : FnScope N ps scope) (hd : A.handled = none) (e0 : Env0 P w K mg base A outer s H) (hl : vs.length = ps.length) (r : Vals vs us)
    (x : InCallC s s.heap.objs.size (bindL (envOfC qual scope s.heap.objs.size f cd).kindOf (ps.zip us) fun _ => none) (cellsFrom (s.heap.objs.size + 1) scope.names []) (bindC (envOfC qual scope s.heap.objs.size f cd).kindOf (ps.zip us) fun _ => none) s1) :
    Inv (cxOf CX P w K mg base N qual scope f cd A outer s H E) [] (start N vs) H s1 := by
  have hpl : ps.length ≤ N.length := by have := congrArg List.length S.pre; rw [List.length_take] at this; omega
  obtain ⟨h1, tk, rfl, hk⟩ := x.done
  have noA : ∀ b : Addr, b ∉ (cxOf CX P w K mg base N qual scope f cd A outer s H E).ex := fun b z => absurd (show b ∈ ([] : List Addr) from z) (by simp)
  refine ⟨⟨e0.mod, S.kind, rfl, rfl, Nat.le_refl _, fun y z c h1 h2 => ?_, fun y hy => ?_, fun y c _ h => ?_, fun _ => hd, Around.frames_deeper e0.frames, .inr ⟨rfl, rfl⟩, fun b z => absurd z (noA b), e0.bs, e0.bsz, fun b _ _ => noA b, fun b z => absurd z (noA b), e0.funs, e0.frf⟩,
    rfl, e0.bare, Un.kept hk, ⟨_, x.toInCall.ns, fun i y v h1 h2 h3 => ?_⟩, fun y c h => ⟨_, x.cell y c h⟩, e0.hok.fresh (Nat.le_refl _), fun y c h => ?_, fun p hp => absurd (show p ∈ ([] : List (Addr × Obj)) from hp) (by simp), e0.hok.kept hk, ?_⟩
  · exact name_of_addr x.apart (PySem.mem_of_lookup h1) (PySem.mem_of_lookup h2)
  · have hy : scope.names.lookup y = some .cell ∨ scope.names.lookup y = some .free := hy
    rcases hy with hy | hy
    · exact cell_has hy
    · exact absurd rfl (S.nofree _ (PySem.mem_of_lookup hy))
  · exact Nat.le_of_lt (x.above y c (PySem.mem_of_lookup h))
  · have hi : i < vs.length := by
      unfold start at h2
      by_cases hi : i < vs.length
      · exact hi
      · rw [List.getElem?_append_right (by simpa using hi)] at h2
        rw [List.getElem?_replicate] at h2
        split at h2 <;> cases h2
    have ha : vs[i]? = some v := by
      unfold start at h2
      rw [List.getElem?_append_left (by simpa using hi), List.getElem?_map] at h2
      cases e : vs[i]? with
      | none => rw [e] at h2; cases h2
      | some a => rw [e] at h2; cases h2; rfl
    obtain ⟨u, hu, rv⟩ := r.get ha
    have hp : ps[i]? = some y := by
      rw [← S.pre, List.getElem?_take_of_lt (by omega)]; exact h1
    have ndP : ps.Nodup := by rw [← S.pre]; exact S.nd.sublist (List.take_sublist _ _)
    refine ⟨u, rv, ?_⟩
    rcases S.par y (List.mem_of_getElem? hp) with k | k
    · exact .inl ⟨k, bindL_get ndP hp hu k⟩
    · obtain ⟨c, e⟩ := cell_has (n := s.heap.objs.size + 1) k
      refine .inr ⟨.inl k, c, e, ?_⟩
      have q := x.cell y c e
      rw [bindC_get ndP hp hu (by show scope.names.lookup y ≠ _; rw [k]; decide)] at q
      exact q
  · exact e0.hok.fresh (Nat.le_of_lt (x.above y c (PySem.mem_of_lookup h)))
  · unfold start
    show _ = N.length
    rw [List.length_append, List.length_map, List.length_replicate]
    omega

/-- THE RULE: a def (or a method) of the text, by its body. The body's reading t is chosen for each entry; it is run at the parameters' values -/
theorem fn_of {CX : CXT} {P : Program} {w : World} {K : PySem.W.Frag} {mg : Str → Option Value} {base : Heap} {k : Nat} {f : Addr} {name qual : Str} {params : Arguments} {body : List Stmt} {scope : Scope} {dV kV doc pm cdv ct oc : Value} {an od : Option Addr}
    {osl : Array (Option Value)} {N ps : List Str} {sp : Sp} (lk : K.lookup f = some ⟨oc, od, .func (PySem.W.fnOf name qual params body scope dV kV doc pm an cdv ct), osl⟩) (hcd : PySem.W.codeIn K cdv qual = true) (S : FnScope N ps scope)
    (len : ∀ vs H Q E, sp vs H Q E → vs.length = ps.length)
    (hbody : ∀ (A : Around) (outer : List Env) (s : Shared) (H : Hp) (vs : List V) (Q : VK) (E : XK), Room k (A.deeper (envOfC qual scope s.heap.objs.size f cdv)) → sp vs H Q E →
      ∃ t, PSs (cxOf CX P w K mg base N qual scope f cdv A outer s H E) body t ∧ t { nx := fun _ H' => Q .non H', rt := Q } (start N vs) H) :
    FnOk P w K mg base CX (k + 1) f (PySem.W.fnOf name qual params body scope dV kV doc pm an cdv ct) ps sp := by
  refine ⟨len, fun A outer s H args us vs Q E hr e0 hb r hsp => ?_⟩
  have hl := len _ _ _ _ hsp
  have KX : K.In s.heap := e0.mod.kin.keeps fun b o e => (e0.bs b o e).1
  have lim : s.heap.NoLimit := e0.mod.nolimit.keeps fun b o e => (e0.bs b o e).1
  have hkind : ∀ y ∈ ps.zip us, scope.names.lookup y.1 = some .local ∨ (scope.names.lookup y.1 = some .cell ∧ ((cellsFrom (s.heap.objs.size + 1) scope.names []).lookup y.1).isSome = true) := fun ⟨n, v⟩ hy => by
    rcases S.par n (List.of_mem_zip hy).1 with q | q
    · exact .inl q
    · exact .inr ⟨q, PySem.W.cellsFrom_some _ _ _ (.inl q)⟩
  refine codeAny_call_function hr.depth (KX _ _ lk) rfl S.co S.gen rfl (PySem.W.codeRec_of KX hcd) (hb _ _ _ _ ?_)
  refine wpAny_newFunctionEnv_cells S.kind hkind fun env he s1 x => ?_
  subst he
  refine ⟨lim.keeps x.toInCall.keep, codeAny_func ?_⟩
  obtain ⟨t, ht, hq⟩ := hbody A outer s H vs Q E (hr.deeper _) hsp
  have I : Inv (cxOf CX P w K mg base N qual scope f cdv A outer s H E) [] (start N vs) H s1 := inv_start S hr.hd e0 hl r x
  refine wpAny_mono (ht [] s1 (start N vs) H _ I hq) (fun fl s' hs => ?_) fun e s' hs => hs
  have fin : ∀ {σ' : St} {H' : Hp} {v : V} {u : Value}, Inv (cxOf CX P w K mg base N qual scope f cdv A outer s H E) [] σ' H' s' → RelV v u → Q v H' → CE outer P w H s Q u s' :=
    fun {σ' H' v u} J rv q => ⟨v, H', J.os, J.bare, J.base, J.hok, rv, q⟩
  cases fl with
  | ret u =>
    obtain ⟨v, σ', H', J, rv, q⟩ := hs
    exact fin J rv q
  | next =>
    obtain ⟨σ', H', J, q⟩ := hs
    exact fin (v := V.non) (u := Value.none) J rfl q
  | brk =>
    obtain ⟨_, _, _, q⟩ := hs
    exact False.elim q
  | cont =>
    obtain ⟨_, _, _, q⟩ := hs
    exact False.elim q
end L2

namespace L2
open PySem PySem.Spec PyProof.Rows
section
variable {X : Cx} {x : Str} {p pos : Pos} {e : Expr} {es : List Expr} {t : TA} {id T : String} {r : List V → Hp → VK → Prop}

def tCB (r : List V → Hp → VK → Prop) (t : TA) : TE := fun σ H Q => t σ H fun vs H1 => r vs H1 Q
/-- f(e, ..), f a built-in function -/
theorem pe_callB (hc : CallR X (.builtin id) r) (hg : Gl X x) (hm : X.mg x = none) (hv : bootBuiltins x = some (.builtin id)) (ha : PA X (e :: es) t) (hn : x ≠ "__name__" := by decide) (hdb : (x == ("__debug__" : Str)) = false := by decide)
    (he : starEach (e :: es) X.env = (false, eval e X.env) :: starEach es X.env := by rfl) (hpl : (backTo pos (starEach es X.env)).any (·.1) = false := by rfl) : PE X (.Call (.Name x p) (e :: es) [] pos) (tCB r t) := by
  intro pins s σ H Q I h
  refine wpAny_Call_Name_kw (ld_blt I hg hm hv ?_ hn hdb)
  exact PyProof.Rows.callWith_builtin1 (thn (ha pos pins s σ H _ I h) fun us s1 ⟨vs, H1, I1, r1, q1⟩ => hc pins s1 σ H1 vs us Q I1 r1 q1) he hpl
/-- T(e, ..), T a built-in type -/
theorem pe_callTy (hc : CallR X (.type T) r) (hg : Gl X x) (hm : X.mg x = none) (hv : bootBuiltins x = some (.type T)) (ha : PA X (e :: es) t) (hn : x ≠ "__name__" := by decide) (hdb : (x == ("__debug__" : Str)) = false := by decide)
    (he : starEach (e :: es) X.env = (false, eval e X.env) :: starEach es X.env := by rfl) (hpl : (backTo pos (starEach es X.env)).any (·.1) = false := by rfl) : PE X (.Call (.Name x p) (e :: es) [] pos) (tCB r t) := by
  intro pins s σ H Q I h
  refine wpAny_Call_Name_kw (ld_blt I hg hm hv ?_ hn hdb)
  exact PyProof.Rows.callWith_type1 (thn (ha pos pins s σ H _ I h) fun us s1 ⟨vs, H1, I1, r1, q1⟩ => hc pins s1 σ H1 vs us Q I1 r1 q1) he hpl
end
end L2

namespace HT
open PySem PyProof.Rows

/-- t < u of tuples of ints -/
def lexLt : List Int → List Int → Bool
  | [], [] => false
  | [], _ :: _ => true
  | _ :: _, [] => false
  | x :: xs, y :: ys => if x = y then lexLt xs ys else decide (x < y)
section
open PySem.SeqAt
open PySem.AutoSeq1 (wpAny_loadPart')
open PySem.MeetsSeq PySem.MeetsSeq2 PySem.MeetsSeq3

end

section
variable {prog : Program} {w : World} {A : Around} {E : Value → Shared → Prop} {s : Shared}

/-- t + u, t not empty -/
theorem cat_tup {t b : Addr} {vs ws : List Value} {Q : Value → Shared → Prop} (ht : IsTup s.heap t vs.toArray) (hb : IsTup s.heap b ws.toArray) (hv : vs ≠ [])
    (h1 : ws = [] → Q (.ref t) s) (h2 : ws ≠ [] → Q (.ref s.heap.objs.size) { s with heap := s.heap.push { cls := .type "tuple", data := .seq (vs ++ ws).toArray } })
    (hsz : vs.length + ws.length ≤ sizeLine) : wpAny (model prog w) A (binaryOp .Add (.ref t) (.ref b)) Q E s := by
  obtain ⟨⟨cls, dd, data, sl⟩, ho, hc, n, hd⟩ := id ht
  obtain ⟨⟨cls2, dd2, data2, sl2⟩, ho2, hc2, n2, hd2⟩ := id hb
  simp only at hc hd hc2 hd2
  subst hc hd hc2 hd2
  have e : vs.toArray ++ ws.toArray = (vs ++ ws).toArray := by simp
  by_cases hw : ws = []
  · exact concat_meets ⟨_, ho, rfl⟩ ⟨_, ho2, rfl⟩ noFill_tuple_add seq_tuple_add PySem.F.slot_tuple_add PySem.F.entry_tuple_add (PySem.F.args_tuple_add_2 _ _)
      (tuple_addW1 t b vs.toArray ws.toArray n n2 dd dd2 sl sl2 (by simpa using hv) (by simp [hw])) ⟨ho, ho2, h1 hw⟩
  · refine concat_meets ⟨_, ho, rfl⟩ ⟨_, ho2, rfl⟩ noFill_tuple_add seq_tuple_add PySem.F.slot_tuple_add PySem.F.entry_tuple_add (PySem.F.args_tuple_add_2 _ _)
      (tuple_addW2 t b vs.toArray ws.toArray n n2 dd dd2 sl sl2 (by simpa using hv) (by simpa using hw) (by rw [List.size_toArray, List.size_toArray]; exact hsz)) ⟨ho, ho2, ?_⟩
    rw [e]
    exact h2 hw

/-! ### t[a:b], not the whole -/
/-- a slice's bound as a place among n (d where it is left out) -/
def sIx (n d : Nat) : Option Int → Nat
  | none => d
  | some v => if v < 0 then (v + (n : Int)).toNat else min v.toNat n
theorem sIx_none (n d : Nat) : sIx n d none = d := rfl
theorem sIx_nat (n d k : Nat) : sIx n d (some (k : Int)) = min k n := by
  show (if (k : Int) < 0 then ((k : Int) + (n : Int)).toNat else min (k : Int).toNat n) = min k n
  rw [if_neg (by omega), Int.toNat_natCast]
theorem sIx_le (n d : Nat) (hd : d ≤ n) (o : Option Int) : sIx n d o ≤ n := by
  cases o with
  | none => exact hd
  | some v =>
    show (if v < 0 then (v + (n : Int)).toNat else min v.toNat n) ≤ n
    by_cases hv : v < 0
    · rw [if_pos hv]; omega
    · rw [if_neg hv]; exact Nat.min_le_right _ _
end
end HT

namespace L2
open PySem PySem.Spec PyProof.Rows

/-! ### the parts of a slice -/
abbrev TO := St → Hp → (Option Int → Hp → Prop) → Prop
/-- a slice's part (left out, or an int) -/
def PO (X : Cx) (e : Option Expr) (t : TO) : Prop :=
  ∀ (pins : List (Addr × Obj)) (s : Shared) (σ : St) (H : Hp) (Q : Option Int → Hp → Prop), Inv X pins σ H s → t σ H Q →
    wpAny (model X.prog X.w) X.A (evalPart e X.env) (fun u s' => ∃ o H', Inv X pins σ H' s' ∧ IsPart u o ∧ Q o H') X.xe s
def tNoPart : TO := fun _ H Q => Q none H
def tPart (t : TE) : TO := fun σ H Q => t σ H fun x H1 => ∃ i, x = .int i ∧ Q (some i) H1

section
variable {X : Cx} {e : Expr} {te : TE} {lo hi : Option Expr} {tl th : TO} {pos p2 : Pos}

theorem po_none : PO X none tNoPart := by
  intro pins s σ H Q I h
  rw [evalPart_none]
  exact wpAny_pure ⟨none, H, I, .none, h⟩
theorem po_some (h : PE X e te) : PO X (some e) (tPart te) := by
  intro pins s σ H Q I hw
  rw [evalPart_some]
  refine thn (h pins s σ H _ I hw) fun u s1 ⟨x, H1, I1, r1, q1⟩ => ?_
  obtain ⟨i, rfl, q⟩ := q1
  obtain ⟨t, rfl⟩ := r1
  exact ⟨some i, H1, I1, .int i t, q⟩

/-- what a slice of a value is, by values: the slice object stands at sl -/
def SlR (X : Cx) (r : V → Option Int → Option Int → Hp → VK → Prop) : Prop :=
  ∀ (pins : List (Addr × Obj)) (s : Shared) (σ : St) (H : Hp) (x : V) (v vl vu : Value) (lo hi : Option Int) (sl : Addr) (Q : VK), Inv X pins σ H s → RelV x v → s.heap.IsSliceOf sl vl vu .none → IsPart vl lo → IsPart vu hi → r x lo hi H Q →
    ∃ T id, typeLookup (.type T) "__getitem__" = pure (some (.builtin id)) ∧ s.TypeIs v T ∧ wpAny (model X.prog X.w) X.A (getItem v (.ref sl)) (EP X pins σ Q) X.xe s
def tSl (r : V → Option Int → Option Int → Hp → VK → Prop) (te : TE) (tl th : TO) : TE := fun σ H Q => te σ H fun x H1 => tl σ H1 fun l H2 => th σ H2 fun u H3 => r x l u H3 Q
/-- a[lo:hi], any a -/
theorem pe_slice {r : V → Option Int → Option Int → Hp → VK → Prop} (hr : SlR X r) (he : PE X e te) (hl : PO X lo tl) (hu : PO X hi th) : PE X (.Subscript e (.Slice lo hi none p2) pos) (tSl r te tl th) := by
  intro pins s σ H Q I h
  refine Subscript_ (thn (he pins s σ H _ I h) fun v s1 ⟨x, H1, I1, r1, q1⟩ => ?_)
  refine wpAny_Slice (thn (hl pins s1 σ H1 _ I1 q1) fun vl s2 ⟨l, H2, I2, pl, q2⟩ => thn (hu pins s2 σ H2 _ I2 q2) fun vu s3 ⟨u, H3, I3, pu, q3⟩ => ?_)
  rw [evalPart_none]
  refine wpAny_pure ?_
  have I4 : Inv X pins σ H3 { s3 with heap := s3.heap.push { cls := .type "slice", data := .fields #[vl, vu, .none] } } := I3.kept (t' := s3.toks) fun b ob q => Heap.get?_push_of_some _ q
  obtain ⟨T, id, hT, ht, hg⟩ := hr pins { s3 with heap := s3.heap.push { cls := .type "slice", data := .fields #[vl, vu, .none] } } σ H3 x v vl vu l u s3.heap.objs.size Q I4 r1 (Heap.IsSliceOf.new ..) pl pu q3
  show wpAny (model X.prog X.w) X.A (subscriptTail e (.Slice lo hi none p2) v (.ref s3.heap.objs.size)) (EP X pins σ Q) X.xe { s3 with heap := s3.heap.push { cls := .type "slice", data := .fields #[vl, vu, .none] } }
  exact tail_any (ops := [.ref s3.heap.objs.size, v]) ht hT hg (by with_unfolding_all rfl)

/-- the items of xs[lo:hi] -/
def cutV (xs : List V) (lo hi : Option Int) : List V := (xs.drop (HT.sIx xs.length 0 lo)).take (HT.sIx xs.length xs.length hi - HT.sIx xs.length 0 lo)
theorem cutV_length (xs : List V) (lo hi : Option Int) : (cutV xs lo hi).length ≤ xs.length := by
  unfold cutV
  rw [List.length_take, List.length_drop]
  omega
/-! ### t < u, t + u -/
/-- t + u, t not empty: u empty gives t itself -/
def rCatT (K : PySem.W.Frag) : R2 := fun x y H Q => ∃ a b xs ys, x = .ref a ∧ y = .ref b ∧ SqT K H a xs ∧ SqT K H b ys ∧ xs ≠ [] ∧ xs.length + ys.length ≤ sizeLine ∧
  (ys = [] → Q (.ref a) H) ∧ (ys ≠ [] → ∀ p, H p = none → Q (.ref p) (upd H p (.tup (xs ++ ys))))
theorem Vals.nil_iff {xs : List V} {us : List Value} (r : Vals xs us) : us = [] ↔ xs = [] := by
  cases r with
  | nil => simp
  | cons _ _ => simp
theorem op_catT : OpR X (binaryOp .Add) (rCatT X.K) := by
  intro pins s σ H x y v u Q I rx ry h
  obtain ⟨a, b, xs, ys, rfl, rfl, ha, hb, hx, hz, q1, q2⟩ := h
  cases rx
  cases ry
  obtain ⟨its, r1, p1, _⟩ := I.tuple ha
  obtain ⟨its2, r2, p2, _⟩ := I.tuple hb
  refine HT.cat_tup p1 p2 (fun z => hx (r1.nil_iff.mp z)) (fun z => ⟨.ref a, H, I, rfl, q1 (r2.nil_iff.mp z)⟩) (fun z => ?_) (by rw [← r1.length, ← r2.length]; exact hz)
  refine ⟨.ref s.heap.objs.size, _, I.laid (t' := s.toks) (o := .tup (xs ++ ys)) (fun b ob q => Heap.get?_push_of_some _ q) (Nat.le_refl _) ?_, rfl, q2 (fun w => z (r2.nil_iff.mpr w)) _ (I.hok.fresh (Nat.le_refl _))⟩
  exact ⟨by rw [List.length_append]; exact hz, _, r1.append r2, IsTup.new _ _⟩
end
end L2

namespace L2
open PySem PySem.Spec PyProof.Rows

/-! ### places -/
/-- the place that an index of any sign means -/
def ixN (n : Nat) (i : Int) : Option Nat := if 0 ≤ i then (if i < n then some i.toNat else none) else if -(n : Int) ≤ i then some (i + n).toNat else none
def atI {α : Type} (xs : List α) (i : Int) : Option α := (ixN xs.length i).bind fun j => xs[j]?
theorem ixN_seq {n : Nat} {i : Int} {j : Nat} (h : ixN n i = some j) : seqIndex? i n = some j ∧ j < n ∧ -(n : Int) ≤ i ∧ i < n := by
  unfold ixN at h
  by_cases h0 : 0 ≤ i
  · rw [if_pos h0] at h
    by_cases h1 : i < n
    · rw [if_pos h1] at h
      have e : i.toNat = j := Option.some.inj h
      exact ⟨by rw [seqIndex_of h0 h1, e], by omega, by omega, h1⟩
    · rw [if_neg h1] at h; cases h
  · rw [if_neg h0] at h
    by_cases h1 : -(n : Int) ≤ i
    · rw [if_pos h1] at h
      have e : (i + n).toNat = j := Option.some.inj h
      exact ⟨by rw [seqIndex_neg (by omega) h1, e], by omega, h1, by omega⟩
    · rw [if_neg h1] at h; cases h
theorem atI_get {α : Type} {xs : List α} {i : Int} {v : α} (h : atI xs i = some v) : ∃ j, seqIndex? i xs.length = some j ∧ xs[j]? = some v ∧ j < xs.length ∧ -(xs.length : Int) ≤ i ∧ i < xs.length := by
  unfold atI at h
  cases e : ixN xs.length i with
  | none => rw [e] at h; cases h
  | some j =>
    rw [e] at h
    obtain ⟨h1, h2, h3, h4⟩ := ixN_seq e
    exact ⟨j, h1, h, h2, h3, h4⟩
theorem atI_nat {α : Type} {xs : List α} {j : Nat} {v : α} (h : xs[j]? = some v) : atI xs (j : Int) = some v := by
  have hj : j < xs.length := (List.getElem?_eq_some_iff.mp h).1
  have e : ixN xs.length (j : Int) = some j := by
    unfold ixN
    rw [if_pos (by omega), if_pos (by omega)]; simp
  unfold atI; rw [e]; exact h
/-! ### what may be subscripted -/
/-- what stands as an index of a plain subscript -/
def PlainIx (b : Expr) : Prop := ∀ o i, subscripted b false o i = operate [o, i] (getItem o i)
/-- a subscript by values -/
def IxR (X : Cx) (r : R2) : Prop :=
  ∀ (value slice : Expr) (pins : List (Addr × Obj)) (s : Shared) (σ : St) (H : Hp) (x y : V) (v u : Value) (Q : VK), Inv X pins σ H s → RelV x v → RelV y u → r x y H Q →
    subscripted slice false v u = operate [v, u] (getItem v u) → wpAny (model X.prog X.w) X.A (subscriptTail value slice v u) (EP X pins σ Q) X.xe s
/-- a call of a builtin's method by values: the receiver, the arguments -/
def MtR (X : Cx) (id : String) (r : V → List V → Hp → VK → Prop) : Prop :=
  ∀ (pins : List (Addr × Obj)) (s : Shared) (σ : St) (H : Hp) (x : V) (xs : List V) (v : Value) (us : List Value) (Q : VK), Inv X pins σ H s → RelV x v → Vals xs us → r x xs H Q →
    wpAny (model X.prog X.w) X.A (call (.builtin id) (v :: us)) (EP X pins σ Q) X.xe s
section
variable {X : Cx} {a b : Expr} {ta tb : TE} {pos : Pos}
/-- a[b] -/
theorem pe_ix {r : R2} (hr : IxR X r) (ha : PE X a ta) (hb : PE X b tb) (hs : PlainIx b) : PE X (.Subscript a b pos) (tOp r ta tb) := by
  intro pins s σ H Q I h
  exact Subscript_ (binT ha hb I h fun v u s2 x y H2 I2 rx ry q => hr a b pins s2 σ H2 x y v u Q I2 rx ry q (hs _ _))

def rIxL (K : PySem.W.Frag) : R2 := fun x y H Q => ∃ p xs i v, x = .ref p ∧ y = .int i ∧ SqL K H p xs ∧ atI xs i = some v ∧ Q v H
def rIxT (K : PySem.W.Frag) : R2 := fun x y H Q => ∃ p xs i v, x = .ref p ∧ y = .int i ∧ SqT K H p xs ∧ atI xs i = some v ∧ Q v H
def rIxS : R2 := fun x y H Q => ∃ z i c, x = .str z ∧ y = .int i ∧ z.length ≤ sizeLine ∧ atI z.cps.toList i = some c ∧ Q (.str ⟨#[c]⟩) H
theorem ix_list : IxR X (rIxL X.K) := by
  intro value slice pins s σ H x y v u Q I rx ry h hs
  obtain ⟨p, xs, i, z, rfl, rfl, hq, he, q⟩ := h
  cases rx
  obtain ⟨t, rfl⟩ := ry
  obtain ⟨its, r, pl, hz⟩ := I.list hq
  obtain ⟨j, h1, h2, h3, h4, h5⟩ := atI_get he
  obtain ⟨w, ew, rw'⟩ := r.get h2
  have hl := r.length
  have hn := line63
  have fin : EP X pins σ Q w s := ⟨z, H, I, rw', q⟩
  by_cases h0 : 0 ≤ i
  · have hj : i.toNat = j := by
      rw [seqIndex_of h0 h5] at h1
      exact Option.some.inj h1
    exact item_listR pl.isList h0 (by omega) (by rw [hj]; simpa using ew) fin hs
  · have hj : (i + (its.toArray.size : Int)).toNat = j := by
      rw [seqIndex_neg (by omega) h4] at h1
      rw [List.size_toArray, ← hl]
      exact Option.some.inj h1
    exact subscriptTail_builtinR (x := w) pl.isList.typeIs slot_list_getitem.lookup
      (wpAny_getItem_list_neg (Q := fun r s' => r = w ∧ EP X pins σ Q r s') pl.isList (by omega) (by rw [List.size_toArray] <;> omega) (by omega) (by rw [hj]; simpa using ew) ⟨rfl, fin⟩) hs
theorem ix_tup : IxR X (rIxT X.K) := by
  intro value slice pins s σ H x y v u Q I rx ry h hs
  obtain ⟨p, xs, i, z, rfl, rfl, hq, he, q⟩ := h
  cases rx
  obtain ⟨t, rfl⟩ := ry
  obtain ⟨its, r, pl, hz⟩ := I.tuple hq
  obtain ⟨j, h1, h2, h3, h4, h5⟩ := atI_get he
  obtain ⟨w, ew, rw'⟩ := r.get h2
  have hl := r.length
  have hn := line63
  have fin : EP X pins σ Q w s := ⟨z, H, I, rw', q⟩
  exact subscriptTail_builtinR (x := w) pl.typeIs slot_tuple_getitem.lookup
    (getItem_tuple (j := j) (Q := fun r s' => r = w ∧ EP X pins σ Q r s') pl (by omega) (by omega) (by rw [List.size_toArray, ← hl]; exact h1) (by simpa using ew) ⟨rfl, fin⟩) hs
theorem ix_str : IxR X rIxS := by
  intro value slice pins s σ H x y v u Q I rx ry h hs
  obtain ⟨z, i, c, rfl, rfl, hz, he, q⟩ := h
  obtain ⟨t, rfl⟩ := rx
  obtain ⟨t', rfl⟩ := ry
  obtain ⟨j, h1, h2, h3, h4, h5⟩ := atI_get he
  have hl : z.cps.toList.length = z.length := by simp [Str.length]
  rw [hl] at h1 h4 h5
  have hn := line63
  exact tail_any (typeIs_str s z t) slot_str_getitem.lookup (getItem_str (c := c) (by
    have e1 : decide (i < -(2 ^ 63 : Int)) = false := decide_eq_false (by omega)
    have e2 : decide (i ≥ 2 ^ 63) = false := decide_eq_false (by omega)
    rw [e1, e2, Bool.or_false]) (by rw [h1]; simpa using h2) ⟨.str ⟨#[c]⟩, H, I.tok _, ⟨_, rfl⟩, q⟩) hs
/-! ### xs[i] = v, any sign -/
/-! ### slices -/
theorem slice_bounds (lo hi : Option Int) (n : Nat) : (sliceBounds lo hi none n).1 = ((HT.sIx n 0 lo : Nat) : Int) ∧ (sliceBounds lo hi none n).2.1 = ((HT.sIx n n hi : Nat) : Int) ∧ (sliceBounds lo hi none n).2.2 = 1 := by
  refine ⟨?_, ?_, rfl⟩
  · cases lo with
    | none => simp [sliceBounds, HT.sIx]
    | some i =>
      simp only [sliceBounds, HT.sIx, Option.getD_none, show (1 : Int) > 0 by decide, if_true]
      by_cases h : i < 0
      · simp only [h, if_true] <;> omega
      · simp only [h, if_false] <;> omega
  · cases hi with
    | none => simp [sliceBounds, HT.sIx]
    | some i =>
      simp only [sliceBounds, HT.sIx, Option.getD_none, show (1 : Int) > 0 by decide, if_true]
      by_cases h : i < 0
      · simp only [h, if_true] <;> omega
      · simp only [h, if_false] <;> omega
theorem slicePick_cut (its : List Value) (lo hi : Option Int) : slicePick its.toArray lo hi none = ((its.drop (HT.sIx its.length 0 lo)).take (HT.sIx its.length its.length hi - HT.sIx its.length 0 lo)).toArray := by
  obtain ⟨h1, h2, h3⟩ := slice_bounds lo hi its.toArray.size
  unfold slicePick
  rw [h1, h2, h3]
  simp only [sliceRange_one, pick_run, List.size_toArray] <;> rfl
/-- xs[lo:hi] of a list: a new list -/
def rSlL (K : PySem.W.Frag) : V → Option Int → Option Int → Hp → VK → Prop := fun x lo hi H Q => ∃ a xs, x = .ref a ∧ SqL K H a xs ∧ ∀ p, H p = none → Q (.ref p) (upd H p (.lst (cutV xs lo hi)))
theorem sl_list : SlR X (rSlL X.K) := by
  intro pins s σ H x v vl vu lo hi sl Q I rx hs pl pu h
  obtain ⟨a, xs, rfl, hx, q⟩ := h
  cases rx
  obtain ⟨its, r, ht, hz⟩ := I.list hx
  have hlen := r.length
  refine ⟨"list", _, slot_list_getitem.lookup, ht.isList.typeIs, ?_⟩
  refine wpAny_getItem_list_slice ht.isList hs pl pu .none (by simp) ?_ (by rw [List.size_toArray] <;> omega)
  rw [slicePick_cut, ← hlen]
  refine ⟨.ref s.heap.objs.size, _, I.laid (t' := s.toks) (o := .lst (cutV xs lo hi)) (fun b ob q => Heap.get?_push_of_some _ q) (Nat.le_refl _) ?_, rfl, q _ (I.hok.fresh (Nat.le_refl _))⟩
  exact ⟨Nat.le_trans (cutV_length xs lo hi) hz, _, 0, (r.drop (HT.sIx xs.length 0 lo)).take (HT.sIx xs.length xs.length hi - HT.sIx xs.length 0 lo), Heap.get?_push_size _ rfl⟩

/-! ### in, not in: flat items -/
def flatV : V → Bool
  | .non => true
  | .bl _ => true
  | .int _ => true
  | .str _ => true
  | _ => false
/-- == of flat values -/
def eqV : V → V → Bool
  | .non, .non => true
  | .bl a, .bl b => a == b
  | .bl a, .int b => (if a then 1 else 0) == b
  | .int a, .bl b => a == (if b then 1 else 0)
  | .int a, .int b => a == b
  | .str a, .str b => a == b
  | _, _ => false
theorem eqAt_V {A : Around} {s : Shared} {y x : V} {u v : Value} (ry : RelV y u) (rx : RelV x v) (fy : flatV y = true) (fx : flatV x = true) : SeqAt.EqAt A s u v (eqV y x) := by
  cases y with
  | non =>
    cases ry
    cases x with
    | non => cases rx; exact SeqAt.EqAt.same _
    | bl b => cases rx; exact SeqAt.EqAt.none_bool b
    | int b => obtain ⟨t, rfl⟩ := rx; exact SeqAt.EqAt.none_int b t
    | str b => obtain ⟨t, rfl⟩ := rx; exact SeqAt.EqAt.none_str b t
    | _ => exact absurd (show false = true from fx) Bool.false_ne_true
  | bl a =>
    cases ry
    cases x with
    | non => cases rx; exact SeqAt.EqAt.bool_none a
    | bl b => cases rx; exact SeqAt.EqAt.bool_bool a b
    | int b => obtain ⟨t, rfl⟩ := rx; exact SeqAt.EqAt.bool_int a b t
    | str b => obtain ⟨t, rfl⟩ := rx; exact SeqAt.EqAt.bool_str a b t
    | _ => exact absurd (show false = true from fx) Bool.false_ne_true
  | int a =>
    obtain ⟨t', rfl⟩ := ry
    cases x with
    | non => cases rx; exact SeqAt.EqAt.int_none a t'
    | bl b => cases rx; exact SeqAt.EqAt.int_bool a t' b
    | int b => obtain ⟨t, rfl⟩ := rx; exact SeqAt.EqAt.int_int a t' b t
    | str b => obtain ⟨t, rfl⟩ := rx; exact SeqAt.EqAt.int_str a t' b t
    | _ => exact absurd (show false = true from fx) Bool.false_ne_true
  | str a =>
    obtain ⟨t', rfl⟩ := ry
    cases x with
    | non => cases rx; exact SeqAt.EqAt.str_none a t'
    | bl b => cases rx; exact SeqAt.EqAt.str_bool a t' b
    | int b => obtain ⟨t, rfl⟩ := rx; exact SeqAt.EqAt.str_int a t' b t
    | str b => obtain ⟨t, rfl⟩ := rx; exact SeqAt.EqAt.str_str a t' b t
    | _ => exact absurd (show false = true from fx) Bool.false_ne_true
  | _ => exact absurd (show false = true from fy) Bool.false_ne_true
/-- the items' answers, read off the values (a value's own answer does not lean on its token) -/
def eqU (x : V) (u : Value) : Bool := match u with
  | .none => eqV .non x
  | .bool b => eqV (.bl b) x
  | .int i _ => eqV (.int i) x
  | .str z _ => eqV (.str z) x
  | _ => false
theorem eqU_of {x y : V} {u : Value} (r : RelV y u) (f : flatV y = true) : eqU x u = eqV y x := by
  cases y with
  | non => cases r; rfl
  | bl b => cases r; rfl
  | int i => obtain ⟨t, rfl⟩ := r; rfl
  | str z => obtain ⟨t, rfl⟩ := r; rfl
  | _ => exact absurd (show false = true from f) Bool.false_ne_true
theorem any_eqU {x : V} : ∀ {xs : List V} {us : List Value}, Vals xs us → xs.all flatV = true → us.any (eqU x) = xs.any fun y => eqV y x
  | _, _, .nil, _ => rfl
  | y :: xs, u :: us, .cons r t, f => by
    rw [List.all_cons, Bool.and_eq_true] at f
    rw [List.any_cons, List.any_cons, eqU_of r f.1, any_eqU t f.2]
theorem mem_eqAt {A : Around} {s : Shared} {x : V} {v : Value} (rx : RelV x v) (fx : flatV x = true) : ∀ {xs : List V} {us : List Value}, Vals xs us → xs.all flatV = true → ∀ u ∈ us, SeqAt.EqAt A s u v (eqU x u)
  | _, _, .nil, _ => fun u hu => by cases hu
  | y :: xs, u :: us, .cons r t, f => fun u' hu => by
    rw [List.all_cons, Bool.and_eq_true] at f
    rcases List.mem_cons.mp hu with rfl | hu
    · rw [eqU_of r f.1]; exact eqAt_V r rx f.1 fx
    · exact mem_eqAt rx fx t f.2 u' hu
def inV (x : V) (xs : List V) : Bool := xs.any fun y => eqV y x
/-- x in a list or tuple of flat items -/
def rIn (K : PySem.W.Frag) (neg : Bool) : R2 := fun x y H Q => ∃ p xs, y = .ref p ∧ (SqL K H p xs ∨ SqT K H p xs) ∧ flatV x = true ∧ xs.all flatV = true ∧ Q (.bl (if neg then !inV x xs else inV x xs)) H
theorem op_in_seq : OpR X (compareOp .In) (rIn X.K false) := by
  intro pins s σ H x y v u Q I rx ry h
  obtain ⟨p, xs, rfl, hq, fx, fs, q⟩ := h
  cases ry
  rcases hq with hq | hq
  · obtain ⟨its, r, pl, hz⟩ := I.list hq
    refine SeqAt.in_listAt (eqU x) pl.isList (fun w hw => mem_eqAt rx fx r fs w (by simpa using hw)) ⟨.bl _, H, I, rfl, ?_⟩
    rw [show its.toArray.any (eqU x) = its.any (eqU x) by simp, any_eqU r fs]
    exact q
  · obtain ⟨its, r, pl, hz⟩ := I.tuple hq
    refine SeqAt.in_tupleAt (eqU x) pl (fun w hw => mem_eqAt rx fx r fs w (by simpa using hw)) ⟨.bl _, H, I, rfl, ?_⟩
    rw [show its.toArray.any (eqU x) = its.any (eqU x) by simp, any_eqU r fs]
    exact q
/-! ### len, list(x), tuple(x) of any list or tuple that is read -/
theorem call_list_of : CallR X (.type "list") (fun xs H Q => ∃ p ys, xs = [.ref p] ∧ (SqL X.K H p ys ∨ SqT X.K H p ys) ∧ ∀ l, H l = none → Q (.ref l) (upd H l (.lst ys))) := by
  intro pins s σ H xs us Q I r h
  obtain ⟨p, ys, rfl, hq, q⟩ := h
  obtain ⟨u, rfl, rx⟩ := vals1 r
  cases rx
  have fin : ∀ (its : List Value), Vals ys its → ys.length ≤ sizeLine → ∀ (h' : Heap) (c' : Nat), (∀ b o', s.heap.get? b = some o' → h'.get? b = some o') →
      h'.get? s.heap.objs.size = some { cls := .type "list", dict := none, data := .seq its.toArray c', slots := #[] } → EP X pins σ Q (.ref s.heap.objs.size) { s with heap := h' } := fun its r' hz h' c' kp e =>
    ⟨.ref s.heap.objs.size, _, I.laid (t' := s.toks) kp (Nat.le_refl _) (show ObjOk X.prog X.w _ h' _ (.lst ys) from ⟨hz, its, c', r', e⟩), rfl, q _ (I.hok.fresh (Nat.le_refl _))⟩
  rcases hq with hq | hq
  · obtain ⟨its, r', pl, hz⟩ := I.list hq
    have hlen := r'.length
    obtain ⟨o, ho, hc, n, hd⟩ := pl.isList
    exact call_list_seq p (.inl rfl) ho hc hd (fun h' c' kp e => fin its r' hz h' c' kp e) (by simp only [List.size_toArray] <;> omega)
  · obtain ⟨its, r', pl, hz⟩ := I.tuple hq
    have hlen := r'.length
    obtain ⟨o, ho, hc, n, hd⟩ := pl
    exact call_list_seq p (.inr rfl) ho hc hd (fun h' c' kp e => fin its r' hz h' c' kp e) (by simp only [List.size_toArray] <;> omega)
/-! ### the call of a builtin's method: o.m(..) -/
/-- the value is of that builtin type -/
def tyV (K : PySem.W.Frag) (T : String) (x : V) (H : Hp) : Prop := match x with
  | .str _ => T = "str"
  | .int _ => T = "int"
  | .ref p => (T = "list" ∧ ∃ xs, SqL K H p xs) ∨ (T = "tuple" ∧ ∃ o, K.lookup p = some o ∧ o.cls = .type "tuple" ∧ o.dict = none) ∨
      (T = "dict" ∧ ((∃ kvs, H p = some (.dK kvs)) ∨ ∃ kvs, H p = some (.dT kvs))) ∨ (T = "set" ∧ ∃ S n, H p = some (.set S n))
  | _ => False
theorem tyV_is {pins : List (Addr × Obj)} {σ : St} {H : Hp} {s : Shared} {T : String} {x : V} {v : Value} (I : Inv X pins σ H s) (r : RelV x v) (ty : tyV X.K T x H) :
    s.TypeIs v T ∧ ∀ a, v = .ref a → ∃ ob, s.heap.get? a = some ob ∧ ob.dict = none := by
  cases x with
  | str z =>
    obtain ⟨t, rfl⟩ := r
    cases (show T = "str" from ty)
    exact ⟨typeIs_str s z t, fun _ e => nomatch e⟩
  | int i =>
    obtain ⟨t, rfl⟩ := r
    cases (show T = "int" from ty)
    exact ⟨typeIs_int s i t, fun _ e => nomatch e⟩
  | ref p =>
    cases r
    rcases ty with ⟨rfl, xs, hq⟩ | ⟨rfl, o, hk, hc, hd⟩ | ⟨rfl, hk⟩ | ⟨rfl, S, n, hk⟩
    · obtain ⟨its, _, pl, _⟩ := I.list hq
      refine ⟨pl.isList.typeIs, fun a e => ?_⟩
      cases e
      obtain ⟨o, n, e, c, hd, _⟩ := pl
      exact ⟨o, e, hd⟩
    · refine ⟨⟨o, I.kIn p o hk, hc⟩, fun a e => ?_⟩
      cases e
      exact ⟨o, I.kIn _ o hk, hd⟩
    · have z : ∃ o, s.heap.get? p = some o ∧ o.ExactDict := by
        rcases hk with ⟨kvs, hk⟩ | ⟨kvs, hk⟩
        · obtain ⟨_, _, _, _, o, _, _, e, ex, _⟩ := I.hok p _ hk
          exact ⟨o, e, ex⟩
        · obtain ⟨_, _, _, _, o, _, _, e, ex, _⟩ := I.hok p _ hk
          exact ⟨o, e, ex⟩
      obtain ⟨o, e, ex⟩ := z
      refine ⟨⟨o, e, ex.1⟩, fun a e2 => ?_⟩
      cases e2
      exact ⟨o, e, ex.2.1⟩
    · obtain ⟨o, _, _, _, e, ex, _⟩ := I.hok p _ hk
      refine ⟨⟨o, e, ex.1⟩, fun a e2 => ?_⟩
      cases e2
      exact ⟨o, e, ex.2.1⟩
  | _ => exact False.elim ty
def tBM0 (K : PySem.W.Frag) (T : String) (r : V → List V → Hp → VK → Prop) (to : TE) : TE := fun σ H Q => to σ H fun x H1 => tyV K T x H1 ∧ r x [] H1 Q
def tBM (K : PySem.W.Frag) (T : String) (r : V → List V → Hp → VK → Prop) (to : TE) (t : TA) : TE := fun σ H Q => to σ H fun x H1 => tyV K T x H1 ∧ t σ H1 fun xs H2 => r x xs H2 Q
variable {o e : Expr} {es : List Expr} {to : TE} {t : TA} {name : Str} {apos cpos : Pos} {T id : String} {r : V → List V → Hp → VK → Prop}
theorem pe_bm0 (pa : PlainAttrs T) (slot : Slot T name id) (hty : typeOf (.builtin id) = pure (.type "method_descriptor")) (hm : MtR X id r) (ho : PE X o to)
    (hbase : attributeBase o name X.env (eval o X.env) = eval o X.env := by rfl) (hline : (apos.endLine == cpos.line) = true := by rfl) : PE X (.Call (.Attribute o name apos) [] [] cpos) (tBM0 X.K T r to) := by
  intro pins s σ H Q I h
  refine wpAny_Call_method0_late hbase hline (thn (ho pins s σ H _ I h) fun v s1 ⟨x, H1, I1, r1, ty, q1⟩ => ?_)
  obtain ⟨h1, h2⟩ := tyV_is I1 r1 ty
  exact ⟨T, id, pa, slot, hty, h1, h2, Calls.callWith_builtin rfl (PySem.evalArgs_none (hm pins s1 σ H1 x [] v [] Q I1 r1 .nil q1))⟩
theorem pe_bm (pa : PlainAttrs T) (slot : Slot T name id) (hty : typeOf (.builtin id) = pure (.type "method_descriptor")) (hm : MtR X id r) (ho : PE X o to) (ha : PA X (e :: es) t)
    (hbase : attributeBase o name X.env (eval o X.env) = eval o X.env := by rfl)
    (hfew : ((backTo cpos (starEach (e :: es) X.env)).all (fun x => !x.1) && (backToKw cpos (keywordEach [] X.env)).all (fun x => x.1.isSome)
      && decide ((e :: es).length + ([] : List Keyword).length + (if ([] : List Keyword).isEmpty then 0 else 1) < 30)) = true := by rfl)
    (hline : (apos.endLine == cpos.line) = true := by rfl) (hs : starEach (e :: es) X.env = (false, eval e X.env) :: starEach es X.env := by rfl) (hplain : (backTo cpos (starEach es X.env)).any (·.1) = false := by rfl) :
    PE X (.Call (.Attribute o name apos) (e :: es) [] cpos) (tBM X.K T r to t) := by
  intro pins s σ H Q I h
  refine wpAny_Call_method_late hbase hfew hline rfl (thn (ho pins s σ H _ I h) fun v s1 ⟨x, H1, I1, r1, ty, q1⟩ => ?_)
  obtain ⟨h1, h2⟩ := tyV_is I1 r1 ty
  refine ⟨T, id, pa, slot, hty, h1, h2, ?_⟩
  have hA := ha cpos pins s1 σ H1 _ I1 q1
  rw [hs] at hA ⊢
  refine Calls.callWith_builtin (by show (false || (backTo cpos (starEach es X.env)).any (·.1)) = false; rw [hplain] <;> rfl) (Calls.evalArgs_plain ?_)
  exact thn hA fun us s2 ⟨vs, H2, I2, r2, q2⟩ => hm pins s2 σ H2 x vs v us Q I2 r1 r2 q2
/- xs.append(e), list.index on a module's tuple .. are MtR facts of 06m -/
end
end L2

namespace L2
open PySem PySem.Spec PyProof.Rows

def MtM (X : Cx) (id : String) (r : V → List V → Hp → VK → Prop) : Prop :=
  ∀ (pins : List (Addr × Obj)) (s : Shared) (σ : St) (H : Hp) (x : V) (xs : List V) (v : Value) (us : List Value) (Q : VK), Inv X pins σ H s → RelV x v → Vals xs us → r x xs H Q →
    wpAny (model X.prog X.w) X.A (call (.builtin id) (v :: us)) (EP X pins σ Q) X.xe s

/-! ### lists of values -/
theorem Vals.one : ∀ {x : V} {us : List Value}, Vals [x] us → ∃ u, us = [u] ∧ RelV x u
  | _, _, .cons r .nil => ⟨_, rfl, r⟩
theorem Vals.zero : ∀ {us : List Value}, Vals [] us → us = []
  | _, .nil => rfl
theorem Vals.dropLast {xs : List V} {us : List Value} (h : Vals xs us) : Vals xs.dropLast us.dropLast := by
  induction h with
  | nil => exact .nil
  | cons r t ih =>
    cases t with
    | nil => exact .nil
    | cons q t' => exact .cons r ih
theorem Vals.rep {xs : List V} {us : List Value} (h : Vals xs us) : ∀ k : Nat, Vals (List.replicate k xs).flatten (List.replicate k us).flatten
  | 0 => .nil
  | k + 1 => by
    rw [List.replicate_succ, List.replicate_succ, List.flatten_cons, List.flatten_cons]
    exact Vals.append h (Vals.rep h k)
theorem erase_last {α : Type} (l : List α) : l.eraseIdx (l.length - 1) = l.dropLast := by
  induction l with
  | nil => rfl
  | cons a r ih =>
    cases r with
    | nil => rfl
    | cons b r =>
      have e : (a :: b :: r).length - 1 = ((b :: r).length - 1) + 1 := by
        have h1 : (a :: b :: r).length = r.length + 2 := rfl
        have h2 : (b :: r).length = r.length + 1 := rfl
        omega
      rw [e, List.eraseIdx_cons_succ, ih]
      all_goals rfl
theorem foldl_rep (its : List Value) : ∀ (k : Nat) (acc : List Value),
    List.foldl (fun x1 x2 => x1 ++ x2) acc.toArray (List.replicate k its.toArray) = (acc ++ (List.replicate k its).flatten).toArray
  | 0, acc => by simp
  | k + 1, acc => by
    have e : acc.toArray ++ its.toArray = (acc ++ its).toArray := by simp
    have e2 : (acc ++ its) ++ (List.replicate k its).flatten = acc ++ (List.replicate (k + 1) its).flatten := by
      rw [List.replicate_succ, List.flatten_cons, List.append_assoc]
    rw [← e2, ← foldl_rep its k (acc ++ its), ← e, List.replicate_succ, List.foldl_cons]

section
variable {X : Cx} {pins : List (Addr × Obj)} {σ : St} {H : Hp} {s : Shared} {l b : Addr} {xs ys zs : List V}

/-! ### the two steps: a tracked list is rewritten, a new list is laid -/
theorem Inv.lset {its its' : List Value} {n : Nat} {f : Array Value → Array Value} {t' : Nat} (I : Inv X pins σ H s) (hH : H l = some (.lst xs))
    (e : s.heap.get? l = some { cls := .type "list", data := .seq its.toArray n }) (hf : f its.toArray = its'.toArray) (hv : Vals ys its') (hz : ys.length ≤ sizeLine) :
    Inv X pins σ (upd H l (.lst ys)) { s with heap := s.heap.update l (Obj.mapSeq f), toks := t' } := by
  have q := PySem.IsL.update e f
  rw [hf] at q
  refine I.write (x := l) (e := l) (by rw [hH]; exact trivial) (.inl rfl) (fun b' u hb hu => (Heap.get?_update_other s.heap (Obj.mapSeq f) (Ne.symm hb)).trans hu) ⟨_, q⟩ ?_
  exact ⟨hz, its', _, hv, q⟩
theorem Inv.lnew {its : List Value} {t' : Nat} (I : Inv X pins σ H s) (hv : Vals ys its) (hz : ys.length ≤ sizeLine) :
    Inv X pins σ (upd H s.heap.objs.size (.lst ys)) { s with heap := s.heap.push { cls := .type "list", data := .seq its.toArray }, toks := t' } :=
  I.laid (fun _ _ q => Heap.get?_push_of_some _ q) (Nat.le_refl _) ⟨hz, its, 0, hv, Heap.get?_push_size _ rfl⟩
theorem Inv.fresh (I : Inv X pins σ H s) : H s.heap.objs.size = none := I.hok.fresh (Nat.le_refl _)
theorem Inv.lstM (I : Inv X pins σ H s) (hH : H l = some (.lst xs)) : xs.length ≤ sizeLine ∧ ∃ (its : List Value) (n : Nat), Vals xs its ∧ xs.length = its.length ∧ s.heap.get? l = some { cls := .type "list", data := .seq its.toArray n } := by
  obtain ⟨z, its, n, r, e⟩ := I.hok l _ hH
  exact ⟨z, its, n, r, r.length, e⟩

theorem notLongL {n : Nat} (h : n ≤ sizeLine) : Builtin.List.listTooLong n = false := by
  unfold Builtin.List.listTooLong
  exact decide_eq_false (by omega)
end

section
variable {X : Cx}

/-! ### methods -/
def rAppend : V → List V → Hp → VK → Prop := fun x vs H Q => ∃ l xs y, x = .ref l ∧ vs = [y] ∧ H l = some (.lst xs) ∧ xs.length < sizeLine ∧ Q .non (upd H l (.lst (xs ++ [y])))
theorem mt_append : MtM X "list.append" rAppend := by
  intro pins s σ H x vs v us Q I rx rv h
  obtain ⟨l, xs, y, rfl, rfl, hH, hz, q⟩ := h
  cases rx
  obtain ⟨u, rfl, ru⟩ := rv.one
  obtain ⟨z, its, n, r, hl, e⟩ := I.lstM hH
  refine call_meets F.slot_list_append ⟨_, e, rfl⟩ F.entry_list_append (F.args_list_append_2 _ _) (PySem.list_append l its.toArray n u (by rw [List.size_toArray]; omega)) ⟨e, ?_⟩
  refine ⟨.non, _, I.lset (its' := its ++ [u]) hH e (by simp) (r.append (.cons ru .nil)) ?_, rfl, q⟩
  rw [List.length_append, List.length_singleton]
  omega

def rPop : V → List V → Hp → VK → Prop := fun x vs H Q => ∃ l xs y, x = .ref l ∧ vs = [] ∧ H l = some (.lst xs) ∧ xs[xs.length - 1]? = some y ∧ Q y (upd H l (.lst xs.dropLast))
theorem mt_pop : MtM X "list.pop" rPop := by
  intro pins s σ H x vs v us Q I rx rv h
  obtain ⟨l, xs, y, rfl, rfl, hH, hy, q⟩ := h
  cases rx
  have hus := rv.zero
  subst hus
  obtain ⟨z, its, n, r, hl, e⟩ := I.lstM hH
  obtain ⟨u, hu, ru⟩ := r.get hy
  have hy' : its.toArray[its.toArray.size - 1]? = some u := by
    show its.toArray[its.length - 1]? = some u
    rw [← Array.getElem?_toList, ← hl]
    exact hu
  refine call_meets F.slot_list_pop ⟨_, e, rfl⟩ F.entry_list_pop (F.args_list_pop_1 _) (MeetsSeq.list_pop_last l its.toArray n u hy' (by rw [List.size_toArray]; omega)) ⟨e, ?_⟩
  refine ⟨y, _, I.lset (its' := its.dropLast) hH e ?_ r.dropLast ?_, ru, q⟩
  · show its.toArray.eraseIdxIfInBounds (its.toArray.size - 1) = its.dropLast.toArray
    rw [List.size_toArray, List.eraseIdxIfInBounds_toArray, erase_last]
  · rw [List.length_dropLast]
    omega

/-! ### list + list, list += list, list * int -/
def rCat : R2 := fun x y H Q => ∃ l b xs zs, x = .ref l ∧ y = .ref b ∧ H l = some (.lst xs) ∧ H b = some (.lst zs) ∧ xs.length + zs.length ≤ sizeLine ∧ ∀ p, H p = none → Q (.ref p) (upd H p (.lst (xs ++ zs)))
theorem op_cat : OpR X (binaryOp .Add) rCat := by
  intro pins s σ H x y v u Q I rx ry h
  obtain ⟨l, b, xs, zs, rfl, rfl, hH, hB, hz, q⟩ := h
  cases rx
  cases ry
  obtain ⟨z, its, n, r, hl, e⟩ := I.lstM hH
  obtain ⟨z2, its2, n2, r2, hl2, e2⟩ := I.lstM hB
  refine PySem.P.add_list e e2 ?_ (by rw [List.size_toArray, List.size_toArray]; omega)
  have ea : its.toArray ++ its2.toArray = (its ++ its2).toArray := by simp
  rw [ea]
  exact ⟨.ref _, _, I.lnew (t' := s.toks) (r.append r2) (by rw [List.length_append]; omega), rfl, q _ I.fresh⟩
/-- a list times an int (a negative one is nothing) -/
def rRep : R2 := fun x y H Q => ∃ l k xs, x = .ref l ∧ y = .int k ∧ H l = some (.lst xs) ∧ -(2 ^ 63) ≤ k ∧ k < 2 ^ 63 ∧ xs.length * k.toNat ≤ sizeLine ∧
  ∀ p, H p = none → Q (.ref p) (upd H p (.lst (List.replicate k.toNat xs).flatten))
theorem len_rep {α : Type} (xs : List α) (k : Nat) : (List.replicate k xs).flatten.length = k * xs.length := by
  induction k with
  | zero => simp
  | succ k ih => rw [List.replicate_succ, List.flatten_cons, List.length_append, ih, Nat.succ_mul, Nat.add_comm]
theorem op_rep : OpR X (binaryOp .Mult) rRep := by
  intro pins s σ H x y v u Q I rx ry h
  obtain ⟨l, k, xs, rfl, rfl, hH, h1, h2, hz, q⟩ := h
  cases rx
  obtain ⟨t, rfl⟩ := ry
  obtain ⟨z, its, n, r, hl, e⟩ := I.lstM hH
  have hlen : its.toArray.size * k.toNat ≤ sizeLine := by rw [List.size_toArray, ← hl]; exact hz
  have hcap : ¬ its.toArray.size * k.toNat > (2 ^ 63 - 1) / 8 := by
    have : (sizeLine : Nat) ≤ (2 ^ 63 - 1) / 8 := by decide
    omega
  have hfit : ¬ (!Builtin.List.listFitsIndex k) = true := by
    rw [fitsIndex_both h1 h2]
    exact Bool.false_ne_true
  have hlong : ¬ Builtin.List.listTooLong (its.toArray.size * k.toNat) = true := by
    rw [notLongL hlen]
    exact Bool.false_ne_true
  have hnew : List.foldl (fun x1 x2 => x1 ++ x2) #[] (List.replicate (if its.toArray.isEmpty = true then 0 else k.toNat) its.toArray) = (List.replicate k.toNat its).flatten.toArray := by
    have f0 : ∀ m : Nat, List.foldl (fun x1 x2 => x1 ++ x2) #[] (List.replicate m its.toArray) = (List.replicate m its).flatten.toArray := fun m => by
      have := foldl_rep its m []
      rw [List.nil_append] at this
      exact this
    rw [f0]
    cases its with
    | nil => simp
    | cons a r' => rw [if_neg (by simp)]
  refine wpAny_binaryOp_repeat_ref (T := "list") (U := "int") (by decide) ⟨_, e, rfl⟩ (fun s' => typeIs_int s' k t) noFill_list_mul F.fills_int_mul F.slot_int_rmul repeat_list F.slot_int_index.lookup
    (call_meets F.slot_int_rmul (typeIs_int s k t) F.entry_int_rmul (F.args_int_rmul_2 _ _) (int___rmul___int_list k t l its.toArray n)
      ⟨e, rfl, ⟨_, e, rfl⟩, call_meets F.slot_list_mul ⟨_, e, rfl⟩ F.entry_list_mul (F.args_list_mul_2 _ _) (AutoListH.list___mul___list_int_3 l its.toArray n k t hfit hcap hlong) ⟨e, ?_⟩⟩)
  rw [hnew]
  exact ⟨.ref _, _, I.lnew (t' := s.toks) (r.rep k.toNat) (by rw [len_rep, Nat.mul_comm]; exact hz), rfl, q _ I.fresh⟩

/-! ### del xs[i] -/
end

/-! ### xs[a:b] = ys -/
section
variable {prog : Program} {w : World} {A : Around} {E : Value → Shared → Prop} {s : Shared}
set_option maxRecDepth 100000 in
end

section
variable {X : Cx}
end
end L2

namespace L2
open PySem PySem.Spec PyProof.Rows

/-! ### lists of pairs as tables -/
section
variable {κ : Type} [DecidableEq κ]
def valV (kvs : List (κ × V)) (k : κ) : Option V := (kvs.find? fun kv => decide (kv.1 = k)).map (·.2)
/-- in its place, or at the end -/
def putK (kvs : List (κ × V)) (k : κ) (v : V) : List (κ × V) :=
  if (kvs.any fun kv => decide (kv.1 = k)) = true then kvs.map (fun kv => if kv.1 = k then (kv.1, v) else kv) else kvs ++ [(k, v)]
def dropK (kvs : List (κ × V)) (k : κ) : List (κ × V) := kvs.filter fun kv => decide (kv.1 ≠ k)

end


/-! ### a tracked dict, its keys ints and texts or tuples of these -/
section
variable {P : Program} {w : World} {H : Hp} {h : Heap} {a : Addr}
end

/-- what the dict at a holds at the key y -/
def DGet (H : Hp) (a : Addr) (y : V) (r : Option V) : Prop :=
  (∃ kvs k, Rd H a (.dK kvs) ∧ y = kV k ∧ r = valV kvs k) ∨ ∃ kvs k b, Rd H a (.dT kvs) ∧ y = .ref b ∧ H b = some (.tup (k.map kV)) ∧ r = valV kvs k
section
variable {X : Cx} {pins : List (Addr × Obj)} {σ : St} {H : Hp} {s : Shared} {a : Addr} {y v : V} {u r : Value} {o : Option V} {A : Around} {E : Value → Shared → Prop}

end

section
variable {X : Cx} {pins : List (Addr × Obj)} {σ : St} {H : Hp} {s : Shared} {a : Addr} {kvs : List (Key × V)} {k : Key} {u : Value} {A : Around} {E : Value → Shared → Prop}
end


/-! ### readings and rules -/
section
variable {X : Cx} {o i e value : Expr} {pos pos' tpos : Pos} {td ty tv : TE}
end


/-! ### displays -/
/-- {}, to be a dict of the kind that is wanted -/
def tDNewK : TE := fun _ H Q => ∀ p, H p = none → Q (.ref p) (upd H p (.dK []))
section
variable {X : Cx} {pos : Pos}
end

/-- the pairs of a display, from the left -/
def tPairs : List (TE × TE) → St → Hp → (List (V × V) → Hp → Prop) → Prop
  | [], _, H, Q => Q [] H
  | (tk, tv) :: r, σ, H, Q => tk σ H fun x H1 => tv σ H1 fun y H2 => tPairs r σ H2 fun ps H3 => Q ((x, y) :: ps) H3
def mergeK (kvs more : List (Key × V)) : List (Key × V) := more.foldl (fun acc kv => putK acc kv.1 kv.2) kvs
/-- {k: v, ..} with keys ints and texts; the new dict stands empty while the pairs are made -/
def tDisp (trs : List (TE × TE)) : TE := fun σ H Q => ∀ p, H p = none → tPairs trs σ (upd H p (.dK [])) fun ps H2 => H2 p = some (.dK []) ∧ ∃ kvs : List (Key × V), ps = kvs.map (fun kv => (kV kv.1, kv.2)) ∧ kvs.length ≤ 15 ∧ Q (.ref p) (upd H2 p (.dK (mergeK [] kvs)))
/-! ### methods -/
/-- a is a dict, whatever its keys -/
def IsD (H : Hp) (a : Addr) : Prop := (∃ kvs, Rd H a (.dK kvs)) ∨ ∃ kvs, Rd H a (.dT kvs)
section
variable {X : Cx} {pins : List (Addr × Obj)} {σ : St} {H : Hp} {s : Shared} {a : Addr} {y d : V} {u r : Value} {o : Option V} {A : Around} {E : Value → Shared → Prop}
end

def tDGet2 (td ty tx : TE) : TE := fun σ H Q => td σ H fun x H1 => ∃ a, x = .ref a ∧ IsD H1 a ∧ ty σ H1 fun y H2 => tx σ H2 fun z H3 => ∃ o, DGet H3 a y o ∧ Q (o.getD z) H3
section
variable {X : Cx} {o e f : Expr} {apos cpos : Pos} {td ty tx : TE}
end

/-! ### dict(d): a copy -/
section
variable {X : Cx} {pins : List (Addr × Obj)} {σ : St} {H : Hp} {s : Shared} {a : Addr} {kvs : List (Key × V)} {A : Around} {E : Value → Shared → Prop}
end


section
variable {X : Cx} {pins : List (Addr × Obj)} {σ : St} {H : Hp} {s : Shared} {a : Addr} {y : V} {u : Value} {A : Around} {E : Value → Shared → Prop}
end
end L2


namespace Att
open PySem PySem.W PySem.Calls PyProof.Rows

/-! ### the script -/
theorem ints_of_wellAll {P : Params} {h : Heap} : ∀ (ns : List Int) (vs : List Value), WellAll P h vs (ns.map WData.int) → IntsAre vs ns := by
  intro ns
  induction ns with
  | nil =>
    intro vs w
    rw [List.map_nil] at w
    cases w
    exact .nil
  | cons n ns ih =>
    intro vs w
    rw [List.map_cons] at w
    cases w with
    | cons a b =>
      cases a
      exact .cons _ _ (ih _ b)

theorem script_of {l : OpenLaw} {n : Nat} (hn : l.most = some n) {P : Params} {h : Heap} {args : List WData} {vals : List Value}
    (hpre : l.row.toRowW.claim.pre args = true) (hwl : WellAll P h vals args) :
    ∃ a vs ns, vals = [Value.ref a] ∧ args = [WData.list (ns.map WData.int)] ∧ h.get? a = some { cls := .type "list", data := .seq vs.toArray } ∧ IntsAre vs ns ∧ ns.length ≤ n := by
  have hsh : WShape.hasAll [] args [.list .int] = true := (pre_splitW hpre).1
  have hc : l.pre.holds [] { args := args } = true := (pre_splitW hpre).2
  obtain ⟨d, r, rfl, h1, h2⟩ := hasAllW_cons hsh
  obtain rfl := hasAllW_nil h2
  obtain ⟨xs, rfl, h3⟩ := hasW_list h1
  obtain ⟨ns, rfl⟩ := items_int h3
  have hlen : ns.length ≤ n := by
    unfold OpenLaw.pre at hc
    have h4 : (WTm.not (.lt (.lit (.int (n : Int))) (.len (.arg 0)))).holds [] { args := [.list (ns.map .int)] } = true := by
      have h4 := (holds_andW hc).1
      rw [hn] at h4
      exact h4
    have h5 := condW_of h4 (w_not (w_lt w_lit (w_len_list (w_arg rfl))))
    rw [List.length_map] at h5
    refine Nat.le_of_not_lt fun q => ?_
    have q' : (n : Int) < ((ns.length : Nat) : Int) := by omega
    first
      | (rw [decide_eq_true q'] at h5; exact absurd h5 (by decide))
      | (simp at h5; omega)
  cases hwl with
  | cons w1 w2 =>
    cases w2
    cases w1 with
    | list ho hall => exact ⟨_, _, ns, rfl, rfl, ho, ints_of_wellAll ns _ hall, hlen⟩

theorem post_true (l : OpenLaw) (args : List WData) : l.row.toRowW.claim.post args (.bool true) args = true :=
  postW_of (r := l.row.toRowW) (X := (true == true))
    (show WShape.has [] (.bool true) .bool = true by first | rfl | decide | simp [WShape.has, WShape.arms, WShape.armsAll])
    (show (WTm.eq .res (.lit (.bool true))).value [] { args := args, res := some (.bool true), after := args } = some (.bool (true == true)) from w_eq_bool (w_res rfl) w_lit) rfl

/-! ### the attachment: holds_open's last premise (the goal 'hc' behind k_head) from a wpAny of the law's body -/
/-- the same from a codeAny of the CALL (for a layer whose function contracts speak of calls) -/
theorem attach_call {l : OpenLaw} {n : Nat} {q : Program} {loose : List Str} {XP : (Str → Option Value) → Heap → Prop} {YP : World → Heap → Prop} {d : DefRec}
    (hn : l.most = some n) (hdf : d.params.defaults = [])
    (call : ∀ (w : World) (s₀ s₁ : Shared) (mg mb : Str → Option Value) (fa : Addr) (o : Obj) (pm cd doc : Value) (a : Addr) (vs : List Value) (ns : List Int),
      Ground q loose [] XP w s₀ mg mb s₁.heap → YP w s₁.heap →
      s₁.heap.get? fa = some o → o.data = .func (docDef d.name d.params d.body d.scope pm cd doc) → s₁.heap.CodeRec cd d.name → mg d.name = some (.ref fa) →
      s₁.heap.get? a = some { cls := .type "list", data := .seq vs.toArray } → IntsAre vs ns → ns.length ≤ n → s₁.gens = #[] →
      codeAny (model l.prog w) callerA (.call (.ref fa) ⟨[.ref a], []⟩) (fun r s' => r = .ok (.ret (.bool true)) ∧ OldK s₁.heap s'.heap ∧ s'.os = s₁.os ∧ AllBare s'.gens) s₁) :
    WalkO q loose XP YP l.row.toRowW d [] (fun f vs => PySem.call f vs) := by
  intro w s₀ s₁ mg mb G Y fa o pm cd doc dV kV ho hd hcd hD hmg hg args vals as hpre hlay hrd hwl hlo
  obtain rfl : dV = .none := Dflts.none hD hdf
  obtain rfl : kV = .none := Dflts.noKw hD
  obtain ⟨a, vs, ns, rfl, rfl, hobj, hints, hlen⟩ := script_of hn hpre hwl
  refine enter_call (codeAny_mono (call w s₀ s₁ mg mb fa o pm cd doc a vs ns G Y ho (fd_plain hd) hcd hmg hobj hints hlen hg) fun r s' hq => ?_)
  obtain ⟨rfl, h2, h3, h4⟩ := hq
  exact ⟨.inl ⟨.bool true, .bool true, [], rfl, fun _ => rfl, .bool true, post_true l _, fun _ => ⟨List.Pairwise.nil, fun _ hm => (nomatch hm)⟩⟩, h2, h3, h4⟩

/-! ### rules over ANY heap (no ledger) from facts about the written part K: the library's own take a ledger (News) for what they write -/
section
variable {prog : Program} {w : World} {A : Around} {E : Value → Shared → Prop} {s : Shared} {K : Frag}

/-! the whole heap as the ledger: makes every rule that writes through a ledger a rule over any heap -/
def ledger (h : Heap) (L d : Addr) : List (Addr × Obj) := (List.range h.objs.size).filterMap fun a => if a = L ∨ a = d then none else (h.get? a).map fun o => (a, o)
end
end Att

namespace L2
open PySem PySem.Spec PyProof.Rows

theorem vals_ints : ∀ {vs : List Value} {ns : List Int}, IntsAre vs ns → Vals (ns.map V.int) vs
  | _, _, .nil => .nil
  | _, _, .cons n t h => .cons ⟨t, rfl⟩ (vals_ints h)

/-- nothing is tracked but the script, known to the object (or it is an object of the module) -/
def Only (H : Hp) : Prop := ∀ b, H b = none ∨ ∃ o xs, H b = some (.frz o (.lst xs))

/-- THE HEAD: the law's promise, at the heap behind the top. F, the promise of the law's def, may use that base is part of the heap (so K.In base, base.Ns mainGlobals mg stand in Mod) -/
theorem law_call {P : Program} {w : World} {K : PySem.W.Frag} {mg mb : Str → Option Value} {CX : CXT} {k : Nat} {fa a : Addr} {fd : FuncData} {x : Str} {sp : Sp} {s₁ : Shared} {vs : List Value} {ns : List Int}
    (KX : K.In s₁.heap) (hns : s₁.heap.Ns mainGlobals mg) (hb : s₁.heap.Ns builtinsNs mb) (hbb : ∀ x : Str, x ≠ "__name__" → mb x = bootBuiltins x) (hlim : s₁.heap.NoLimit) (hg : s₁.gens = #[])
    (ha : s₁.heap.get? a = some { cls := .type "list", data := .seq vs.toArray }) (hi : IntsAre vs ns) (hl : ns.length ≤ sizeLine) (hr : Room k callerA)
    (F : ∀ base : Heap, K.In base → base.Ns mainGlobals mg → FnOk P w K mg base CX k fa fd [x] sp) (hbind : ∀ (s : Shared) (u : Value), BindsTo s fd ⟨[u], []⟩ [(x, u)])
    (hsp : ∀ H : Hp, Only H → SqL K H a (ns.map V.int) → sp [.ref a] H (fun v _ => v = .bl true) fun _ _ _ => False)
    (hCX : ∀ H e s', CX [] H s₁ (fun _ _ _ => False) e s' → False) :
    codeAny (model P w) callerA (.call (.ref fa) ⟨[.ref a], []⟩) (fun r s' => r = .ok (.ret (.bool true)) ∧ OldK s₁.heap s'.heap ∧ s'.os = s₁.os ∧ AllBare s'.gens) s₁ := by
  have rv := vals_ints hi
  have lenV := hi.length
  -- from an abstract heap in which nothing but the script may be tracked
  have core : ∀ H : Hp, Only H → SqL K H a (ns.map V.int) → HOk P w H s₁.heap → (∀ b, H b ≠ none → b = a) → (H a ≠ none → K.lookup a = none) →
      codeAny (model P w) callerA (.call (.ref fa) ⟨[.ref a], []⟩) (fun r s' => r = .ok (.ret (.bool true)) ∧ OldK s₁.heap s'.heap ∧ s'.os = s₁.os ∧ AllBare s'.gens) s₁ := by
    intro H hO hS hok hA hK
    have base_of : ∀ {b : Addr} {o : Obj}, s₁.heap.get? b = some o → H b = none → (hidT s₁.heap H).get? b = some o := fun e n => hidT_get e n
    have noA : ∀ {b : Addr} {o : Obj} {es : Array DictEntry} {ep : Nat}, s₁.heap.get? b = some o → o.data = .dict es ep → H b = none := fun {b o es ep} e d => by
      cases q : H b with
      | none => rfl
      | some u =>
        have e' : b = a := hA b (by rw [q]; simp)
        subst e'
        rw [ha] at e; cases e
        have d' : Data.seq vs.toArray _ = Data.dict es ep := d
        cases d'
    have nsK : ∀ {b : Addr} {m : Str → Option Value}, s₁.heap.Ns b m → (hidT s₁.heap H).Ns b m := fun {b m} ⟨o, es, ep, e, d, r⟩ => ⟨o, es, ep, base_of e (noA e d), d, r⟩
    have hKb : K.In (hidT s₁.heap H) := fun b o e => base_of (KX b o e) (by
      cases q : H b with
      | none => rfl
      | some u =>
        have e' : b = a := hA b (by rw [q]; simp)
        subst e'
        rw [hK (by rw [q]; simp)] at e; cases e)
    have hM : Mod K mg (hidT s₁.heap H) := ⟨hKb, nsK hns, ⟨mb, nsK hb, hbb⟩, let ⟨mc, h1, h2⟩ := hlim; ⟨mc, nsK h1, h2⟩⟩
    have e0 : Env0 P w K mg (hidT s₁.heap H) callerA [] s₁ H := ⟨rfl, hM, fun b o e => of_hidT e, Nat.le_of_eq (hidT_size _ _), trivial, fun b hb => absurd (show b ∈ ([] : List Addr) from hb) (by simp), hok, .of_eq hg⟩
    refine codeAny_mono ((F _ hKb (nsK hns)).run callerA [] s₁ H ⟨[.ref a], []⟩ [.ref a] [.ref a] _ _ hr e0 (hbind s₁ (.ref a)) (.cons rfl .nil) (hsp H hO hS)) fun r s' h => ?_
    cases r with
    | error e => exact (hCX H e s' h).elim
    | ok fl =>
      cases fl with
      | next => exact False.elim h
      | brk => exact False.elim h
      | cont => exact False.elim h
      | ret u =>
        obtain ⟨v, H', os, bare, un, hok', r', q⟩ := h
        have q' : v = .bl true := q
        subst q'
        obtain rfl : u = Value.bool true := r'
        refine ⟨rfl, OldK.of_keep fun b o e => ?_, os, bare⟩
        cases q : H b with
        | none => exact un.keep b o e q (by intro z; exact absurd (show b ∈ ([] : List Addr) from z) (by simp)) (by simp)
        | some u =>
          rcases hO b with z | ⟨ob, xs, z⟩
          · rw [q] at z; cases z
          · have z2 := un.frzs b ob _ z
            obtain ⟨e1, _⟩ := hok b _ z
            obtain ⟨e2, _⟩ := hok' b _ z2
            rw [e] at e1; cases e1
            exact e2
  cases hk : K.lookup a with
  | some o =>
    -- the script is one of the module's own objects
    have e := KX a o hk
    rw [ha] at e
    cases e
    refine core (fun _ => none) (fun _ => .inl rfl) (.inr ⟨_, vs.toArray, _, hk, rfl, rfl, rfl, by rw [List.size_toArray, lenV]; exact hl, by simpa using rv⟩) (fun b u z => by have z' : (none : Option HO) = some u := z; cases z') (fun b z => absurd rfl z) fun z => absurd rfl z
  | none =>
    refine core (fun b => if b = a then some (.frz { cls := .type "list", data := .seq vs.toArray } (.lst (ns.map V.int))) else none) (fun b => ?_) (.inl (.inr ⟨{ cls := .type "list", data := .seq vs.toArray }, if_pos rfl⟩)) (fun b u z => ?_) (fun b z => ?_) fun _ => hk
    · by_cases hb : b = a
      · exact .inr ⟨_, _, if_pos hb⟩
      · exact .inl (if_neg hb)
    · by_cases hb : b = a
      · have z' := (if_pos hb).symm.trans z
        cases z'
        subst hb
        exact ⟨ha, by rw [List.length_map]; exact hl, vs, _, rv, ha⟩
      · have z' := (if_neg hb).symm.trans z
        cases z'
    · by_cases hb : b = a
      · exact hb
      · exact absurd (if_neg hb) z
end L2

namespace L2
open PySem PySem.Spec PyProof.Rows

abbrev KOf {K : PySem.W.Frag} {h : Heap} (_ : K.In h) : PySem.W.Frag := K

/-- the goal that k_head leaves (case hc), from the law's promise. F gives the function object fd (K's own) once, then the promise over every base -/
theorem walk_of {l : PySem.W.OpenLaw} {n k : Nat} {q : Program} {loose : List Str} {XP : (Str → Option Value) → Heap → Prop} {YP : World → Heap → Prop} {d : DefRec} {K : Params → PySem.W.Frag} {CX : World → CXT} {sp : World → Sp} {x : Str}
    (hn : l.most = some n) (hn2 : n ≤ sizeLine) (hdf : d.params.defaults = []) (hr : Room k callerA)
    (hY : ∀ (w : World) (h : Heap), YP w h → (K w.params).In h)
    (F : ∀ (w : World) (mg : Str → Option Value) (fa : Addr) (h : Heap), (K w.params).In h → h.Ns mainGlobals mg → mg d.name = some (.ref fa) →
      ∃ fd : FuncData, (∀ (s : Shared) (u : Value), BindsTo s fd ⟨[u], []⟩ [(x, u)]) ∧
        ∀ base : Heap, (K w.params).In base → base.Ns mainGlobals mg → FnOk l.prog w (K w.params) mg base (CX w) k fa fd [x] (sp w))
    (hsp : ∀ (w : World) (H : Hp) (a : Addr) (ns : List Int), ns.length ≤ n → Only H → SqL (K w.params) H a (ns.map V.int) → sp w [.ref a] H (fun v _ => v = .bl true) fun _ _ _ => False)
    (hCX : ∀ (w : World) (H : Hp) (s : Shared) (e : Value) (s' : Shared), CX w [] H s (fun _ _ _ => False) e s' → False) :
    PySem.W.WalkO q loose XP YP l.row.toRowW d [] (fun f vs => PySem.call f vs) := by
  refine Att.attach_call hn hdf fun w s₀ s₁ mg mb fa o pm cd doc a vs ns G Y ho hd hcd hmg hobj hints hlen hg => ?_
  have KX := hY w _ Y
  obtain ⟨fd, hb, hF⟩ := F w mg fa _ KX G.T.g hmg
  exact law_call KX G.T.g G.T.b G.T.builtins G.T.nolimit hg hobj hints (Nat.le_trans hlen hn2) hr hF hb (fun H hO hS => hsp w H a ns hlen hO hS) fun H e s' => hCX w H s₁ e s'
end L2



/-! SHORT WORDS over the layer: a def of the text, its body, what a loop and a test want. -/
namespace L2
open PySem PySem.Spec PyProof.Rows

/-! ### the text by places -/
def defArgs (s : Stmt) : Arguments := match s with
  | .FunctionDef _ a _ _ _ _ _ _ _ _ => a
  | _ => { posonlyargs := [], args := [], vararg := none, kwonlyargs := [], kw_defaults := [], kwarg := none, defaults := [] }
def defBody (s : Stmt) : List Stmt := match s with
  | .FunctionDef _ _ b _ _ _ _ _ _ _ => b
  | _ => []
def defScope (s : Stmt) : Scope := match s with
  | .FunctionDef _ _ _ _ _ _ sc _ _ _ => sc
  | _ => { kind := .function, names := [], isGenerator := false, isCoroutine := false }

/-! ### no exception leaves a def -/
abbrev E0 : XK := fun _ _ _ => False
/-! ### a def (or method) of the text as it stands behind the top -/
structure Fun (K : PySem.W.Frag) (x qual : Str) (st : Stmt) (f : Addr) (fd : FuncData) : Prop where
  ex : ∃ (oc : Value) (od : Option Addr) (kV doc pm : Value) (an : Option Addr) (cdv ct : Value) (osl : Array (Option Value)),
    fd = PySem.W.fnOf x qual (defArgs st) (defBody st) (defScope st) .none kV doc pm an cdv ct ∧ K.lookup f = some ⟨oc, od, .func fd, osl⟩ ∧ PySem.W.codeIn K cdv qual = true
  kp : PySem.W.keepIn K (.ref f) = true
section
variable {P : Program} {w : World} {K : PySem.W.Frag} {mg : Str → Option Value} {base : Heap}
/-- how its arguments bind (no defaults): h is «fun _ _ _ _ _ _ us hl => match us, hl with | [_, _], _ => rfl», one _ a parameter -/
theorem Fun.binds {x qual : Str} {st : Stmt} {f : Addr} {fd : FuncData} {ps : List Str} (F : Fun K x qual st f fd)
    (h : ∀ (kV doc pm : Value) (an : Option Addr) (cdv ct : Value) (us : List Value), us.length = ps.length → bindArgs (PySem.W.fnOf x qual (defArgs st) (defBody st) (defScope st) .none kV doc pm an cdv ct) ⟨us, []⟩ = pure (ps.zip us)) : Binds K fd ps [] := by
  obtain ⟨oc, od, kV, doc, pm, an, cdv, ct, osl, rfl, lk, hcd⟩ := F.ex
  exact .all (h kV doc pm an cdv ct)
theorem fun_mk {x qual : Str} {st : Stmt} {f : Addr} {oc : Value} {od an : Option Addr} {osl : Array (Option Value)} {kV doc pm cdv ct : Value} (l : K.lookup f = some ⟨oc, od, .func (PySem.W.fnOf x qual (defArgs st) (defBody st) (defScope st) .none kV doc pm an cdv ct), osl⟩)
    (c : PySem.W.codeIn K cdv qual = true) (k : PySem.W.keepIn K (.ref f) = true) : Fun K x qual st f (PySem.W.fnOf x qual (defArgs st) (defBody st) (defScope st) .none kV doc pm an cdv ct) := ⟨⟨oc, od, kV, doc, pm, an, cdv, ct, osl, rfl, l, c⟩, k⟩
end
/-! ### expressions in short: the name that stands in the i-th slot -/
section
variable {X : Cx}
theorem pv (i : Nat) {x : Str} {pos : Pos} (hN : X.N[i]? = some x := by rfl) (hv : Vis X.env.scope x := by first | exact Or.inl rfl | exact Or.inr (Or.inl rfl) | exact Or.inr (Or.inr rfl)) (hd : (x == ("__debug__" : Str)) = false := by decide)
    (hcd : (x == ("__classdict__" : Str)) = false := by decide) : PE X (.Name x pos) (tVar i) := pe_var hN hv hd hcd
end

/-! ### tests -/
theorem ite2 {c A B : Prop} [Decidable c] (h1 : c → A) (h2 : ¬ c → B) : if c then A else B := by
  by_cases h : c
  · rw [if_pos h]
    exact h1 h
  · rw [if_neg h]
    exact h2 h
/-! ### heaps -/
/-- all that was tracked is as it was -/
def Same (H H' : Hp) : Prop := ∀ b o, H b = some o → H' b = some o
theorem Same.refl (H : Hp) : Same H H := fun _ _ h => h
theorem Same.trans {H H1 H2 : Hp} (a : Same H H1) (b : Same H1 H2) : Same H H2 := fun c o h => b c o (a c o h)
theorem Same.free {H H' : Hp} (e : Same H H') {l : Addr} (h : H' l = Option.none) : H l = Option.none := by
  cases q : H l with
  | none => rfl
  | some o =>
    rw [e l o q] at h
    cases h
theorem Same.seq {K : PySem.W.Frag} {H H' : Hp} {a : Addr} {xs : List V} (e : Same H H') (h : SqL K H a xs) : SqL K H' a xs := by
  rcases h with (h | ⟨o, h⟩) | h
  · exact .inl (.inl (e _ _ h))
  · exact .inl (.inr ⟨o, e _ _ h⟩)
  · exact .inr h

end L2
namespace L2
open PySem PySem.Spec PyProof.Rows
section
variable {X : Cx}
end
/-! ### a dict's pairs: keys that differ -/
section
variable {κ : Type} [DecidableEq κ]
theorem dropK_neg {p : κ × V} {r : List (κ × V)} {k : κ} (e : ¬ p.1 = k) : dropK (p :: r) k = p :: dropK r k := by
  unfold dropK
  rw [List.filter_cons, if_pos (by simp [e])]
theorem dropK_no : ∀ {kvs : List (κ × V)} {k : κ}, ¬ k ∈ kvs.map (·.1) → dropK kvs k = kvs
  | [], _, _ => rfl
  | p :: r, k, h => by
    have h' : ¬ k ∈ r.map (·.1) := fun m => by
      obtain ⟨q, hq, e⟩ := List.mem_map.mp m
      exact h (List.mem_map.mpr ⟨q, List.mem_cons.mpr (Or.inr hq), e⟩)
    rw [dropK_neg fun e => h (List.mem_map.mpr ⟨p, List.mem_cons.mpr (Or.inl rfl), e⟩), dropK_no h']
end
end L2

set_option Elab.async false
set_option linter.all false
set_option maxRecDepth 100000
set_option maxHeartbeats 4000000
namespace L2
open PySem PySem.Spec PyProof.Rows

/-! ### comprehensions -/
/-- the context within a comprehension: its block's names, the walked iterator's records at fp may turn, no exception leaves -/
def Cx.comp (X : Cx) (scope : Scope) (cl : List (Str × Addr)) (C : Addr) (N : List Str) (fp : List Addr) (s : Shared) (H : Hp) : Cx :=
  { X with env := compEnvC scope cl C X.env, N := N, s₀ := s, H₀ := H, outer := X.stack, ex := fp, fn := fun _ => false, pn := [], xe := fun _ _ => False }
/-- how the block's names stand to those around it; ix: the slots of the names that it takes from there -/
structure CompScope (X : Cx) (scope : Scope) (cl : List (Str × Addr)) (ix : List Nat) : Prop where
  clos : closureFor scope X.env = pure cl
  nocell : ∀ y ∈ scope.names, y.2 ≠ .cell
  kind : scope.kind = .function
  names : ∀ y ∈ scope.names, y.2 = .local → scope.names.lookup y.1 = some .local
  sub : ∀ y c, cl.lookup y = some c → X.env.cells.lookup y = some c
  has : ∀ y, ((relabel scope X.env).names.lookup y = some .cell ∨ (relabel scope X.env).names.lookup y = some .free) → ∃ c, cl.lookup y = some c
  cap : ∀ i ∈ ix, ∃ y, X.N[i]? = some y ∧ (X.env.kindOf y = some .cell ∨ X.env.kindOf y = some .free) ∧ ((relabel scope X.env).names.lookup y = some .cell ∨ (relabel scope X.env).names.lookup y = some .free)
/-- the cells that a block takes from around it -/
def closOf (scope : Scope) (env : Env) : List (Str × Addr) := scope.names.foldl (fun cs y => if y.2 == .free then (y.1, (env.cells.lookup y.1).getD 0) :: cs else cs) []
/-- what must be true of the block's names: osc the scope around it, N the names there, ix the slots of those that it takes -/
def compD (osc : Scope) (N : List Str) (sc : Scope) (ix : List Nat) : Bool :=
  sc.kind == .function && sc.names.all (fun y => y.2 != .cell && (y.2 != .local || sc.names.lookup y.1 == some .local) && (y.2 != .free || osc.names.lookup y.1 == some .cell || osc.names.lookup y.1 == some .free)) &&
    ix.all fun i => match N[i]? with
      | some y => sc.names.lookup y == some .free
      | none => false
theorem mem_of_look {l : List (Str × NameKind)} {y : Str} {k : NameKind} (h : l.lookup y = some k) : (y, k) ∈ l := PySem.mem_of_lookup h
theorem relabel_look {env : Env} : ∀ {names : List (Str × NameKind)} {x : Str} {k : NameKind}, (names.map fun (n, k) => if (k == NameKind.free && env.scope.kind == .function && env.kindOf n == some .cell) then (n, NameKind.cell) else (n, k)).lookup x = some k →
    ∃ k', names.lookup x = some k' ∧ (k' = .free ∨ k' = k)
  | [], _, _, h => by simp at h
  | (n, k') :: r, x, k, h => by
    have ih := @relabel_look env r x k
    rw [List.map_cons] at h
    cases hx : x == n with
    | true =>
      by_cases hc : (k' == NameKind.free && env.scope.kind == .function && env.kindOf n == some .cell) = true
      · have e : k' = .free := by
          have := (Bool.and_eq_true _ _ ▸ (Bool.and_eq_true _ _ ▸ hc).1).1
          simpa using this
        exact ⟨k', by simp [List.lookup_cons, hx], .inl e⟩
      · simp only [if_neg hc, List.lookup_cons, hx] at h
        exact ⟨k', by simp [List.lookup_cons, hx], .inr (Option.some.inj h)⟩
    | false =>
      have h' : (r.map fun (n, k) => if (k == NameKind.free && env.scope.kind == .function && env.kindOf n == some .cell) then (n, NameKind.cell) else (n, k)).lookup x = some k := by
        by_cases hc : (k' == NameKind.free && env.scope.kind == .function && env.kindOf n == some .cell) = true
        · simp only [if_pos hc, List.lookup_cons, hx] at h; exact h
        · simp only [if_neg hc, List.lookup_cons, hx] at h; exact h
      obtain ⟨q, e, r'⟩ := ih h'
      exact ⟨q, by simp only [List.lookup_cons, hx]; exact e, r'⟩
theorem relabel_free {env : Env} : ∀ {names : List (Str × NameKind)} {x : Str}, names.lookup x = some .free →
    ((names.map fun (n, k) => if (k == NameKind.free && env.scope.kind == .function && env.kindOf n == some .cell) then (n, NameKind.cell) else (n, k)).lookup x = some .cell ∨
      (names.map fun (n, k) => if (k == NameKind.free && env.scope.kind == .function && env.kindOf n == some .cell) then (n, NameKind.cell) else (n, k)).lookup x = some .free)
  | [], _, h => by simp at h
  | (n, k') :: r, x, h => by
    have ih := @relabel_free env r x
    rw [List.map_cons]
    cases hx : x == n with
    | true =>
      simp only [List.lookup_cons, hx] at h
      cases h
      by_cases hc : (NameKind.free == NameKind.free && env.scope.kind == .function && env.kindOf n == some .cell) = true
      · left; simp only [if_pos hc, List.lookup_cons, hx]
      · right; simp only [if_neg hc, List.lookup_cons, hx]
    | false =>
      simp only [List.lookup_cons, hx] at h
      by_cases hc : (k' == NameKind.free && env.scope.kind == .function && env.kindOf n == some .cell) = true
      · simp only [if_pos hc, List.lookup_cons, hx]; exact ih h
      · simp only [if_neg hc, List.lookup_cons, hx]; exact ih h
theorem clos_fold {env : Env} : ∀ (l : List (Str × NameKind)) (cs : List (Str × Addr)), (∀ y ∈ l, y.2 = .free → ∃ c, env.cells.lookup y.1 = some c) →
    (∀ y c, cs.lookup y = some c → env.cells.lookup y = some c) → ∀ y c, (l.foldl (fun cs y => if y.2 == .free then (y.1, (env.cells.lookup y.1).getD 0) :: cs else cs) cs).lookup y = some c → env.cells.lookup y = some c
  | [], _, _, h, y, c, e => h y c e
  | z :: r, cs, hl, h, y, c, e => by
    rw [List.foldl_cons] at e
    refine clos_fold r _ (fun y hy => hl y (List.mem_cons_of_mem _ hy)) (fun y' c' e' => ?_) y c e
    by_cases hz : z.2 = .free
    · obtain ⟨c0, h0⟩ := hl z List.mem_cons_self hz
      have hb : (z.2 == NameKind.free) = true := by simpa using hz
      rw [if_pos hb, h0, List.lookup_cons] at e'
      cases hq : y' == z.1 with
      | true =>
        rw [hq] at e'
        have e2 : y' = z.1 := by simpa using hq
        cases e'
        rw [e2]; exact h0
      | false => rw [hq] at e'; exact h _ _ e'
    · have hb : (z.2 == NameKind.free) = false := by simpa using hz
      rw [hb] at e'
      exact h _ _ e'
theorem clos_has {env : Env} : ∀ (l : List (Str × NameKind)) (cs : List (Str × Addr)) (y : Str), ((∃ c, cs.lookup y = some c) ∨ (y, NameKind.free) ∈ l) →
    ∃ c, (l.foldl (fun cs y => if y.2 == .free then (y.1, (env.cells.lookup y.1).getD 0) :: cs else cs) cs).lookup y = some c
  | [], _, _, h => h.elim id fun z => nomatch z
  | z :: r, cs, y, h => by
    rw [List.foldl_cons]
    refine clos_has r _ y ?_
    rcases h with ⟨c, h⟩ | h
    · left
      by_cases hz : (z.2 == NameKind.free) = true
      · rw [if_pos hz, List.lookup_cons]
        cases y == z.1 with
        | true => exact ⟨_, rfl⟩
        | false => exact ⟨c, h⟩
      · rw [if_neg hz]; exact ⟨c, h⟩
    · rcases List.mem_cons.mp h with h | h
      · left
        subst h
        rw [if_pos (by rfl), List.lookup_cons]
        simp
      · exact .inr h
theorem clos_eq {env : Env} : ∀ (l : List (Str × NameKind)) (cs : List (Str × Addr)), (∀ y ∈ l, y.2 = .free → ∃ c, env.cells.lookup y.1 = some c) →
    forIn (m := Sem) l cs (fun x r => match x with | (name, kind) => if (kind == NameKind.free) = true then do let c ← cellOf env name; pure (ForInStep.yield ((name, c) :: r)) else pure (ForInStep.yield r)) =
      pure (l.foldl (fun cs y => if y.2 == .free then (y.1, (env.cells.lookup y.1).getD 0) :: cs else cs) cs)
  | [], _, _ => rfl
  | (n, k) :: r, cs, h => by
    rw [List.forIn_cons, List.foldl_cons]
    by_cases hz : (k == NameKind.free) = true
    · obtain ⟨c, hc⟩ := h (n, k) List.mem_cons_self (by simpa using hz)
      have e : cellOf env n = pure c := by unfold cellOf; rw [hc]
      simp only [hz, if_true, e, pure_bind]
      rw [clos_eq r _ fun y hy => h y (List.mem_cons_of_mem _ hy)]
      simp only [hc, Option.getD_some]
    · simp only [hz, if_false, pure_bind]
      exact clos_eq r _ fun y hy => h y (List.mem_cons_of_mem _ hy)
theorem compScope_of {X : Cx} {osc scope : Scope} {N : List Str} {ix : List Nat} (ok : X.Ok) (h : compD osc N scope ix = true) (hs : X.env.scope = osc) (hN : X.N = N) : CompScope X scope (closOf scope X.env) ix := by
  subst hs hN
  unfold compD at h
  rw [Bool.and_eq_true, Bool.and_eq_true, List.all_eq_true, List.all_eq_true] at h
  obtain ⟨⟨h1, h2⟩, h3⟩ := h
  have p : ∀ y ∈ scope.names, y.2 ≠ .cell ∧ (y.2 = .local → scope.names.lookup y.1 = some .local) ∧ (y.2 = .free → X.env.kindOf y.1 = some .cell ∨ X.env.kindOf y.1 = some .free) := fun y hy => by
    have q := h2 y hy
    rw [Bool.and_eq_true, Bool.and_eq_true] at q
    obtain ⟨⟨q1, q2⟩, q3⟩ := q
    refine ⟨by simpa using q1, fun e => ?_, fun e => ?_⟩
    · rw [e] at q2; simpa using q2
    · rw [e] at q3
      have q3' : X.env.scope.names.lookup y.1 = some .cell ∨ X.env.scope.names.lookup y.1 = some .free := by simpa using q3
      exact q3'
  have f : ∀ y ∈ scope.names, y.2 = .free → ∃ c, X.env.cells.lookup y.1 = some c := fun y hy e => ok.has y.1 ((p y hy).2.2 e)
  refine ⟨?_, fun y hy => (p y hy).1, by simpa using h1, fun y hy => (p y hy).2.1, fun y c e => clos_fold scope.names [] f (fun _ _ z => by simp at z) y c e, fun y hy => ?_, fun i hi => ?_⟩
  · have e := clos_eq scope.names [] f
    unfold closureFor closOf
    refine Eq.trans (congrArg (fun m => m >>= fun s => (pure s : Sem (List (Str × Addr)))) e) ?_
    rw [pure_bind]
  · refine clos_has scope.names [] y (.inr ?_)
    rcases hy with hy | hy
    · obtain ⟨k', e, z | z⟩ := relabel_look hy
      · subst z; exact mem_of_look e
      · subst z; exact absurd rfl (p _ (mem_of_look e)).1
    · obtain ⟨k', e, z | z⟩ := relabel_look hy
      · subst z; exact mem_of_look e
      · subst z; exact mem_of_look e
  · have q := h3 i hi
    cases hy : X.N[i]? with
    | none => rw [hy] at q; cases q
    | some y =>
      rw [hy] at q
      have q' : scope.names.lookup y = some .free := by simpa using q
      exact ⟨y, rfl, (p _ (mem_of_look q')).2.2 rfl, relabel_free q'⟩
/-- the values of the slots at ix -/
def capV (ix : List Nat) (σ : St) : St := ix.map fun i => (σ[i]?).getD none
def capN (ix : List Nat) (N : List Str) : List Str := ix.map fun i => (N[i]?).getD ""

section
variable {X : Cx} {pins : List (Addr × Obj)} {σ : St} {H : Hp} {s : Shared} {scope : Scope} {cl : List (Str × Addr)} {ix : List Nat} {fp : List Addr} {C : Addr} {xs : List Str}
theorem Inv.compOk (I : Inv X pins σ H s) (S : CompScope X scope cl ix) (hC : C = s.heap.objs.size) (hf : ∀ b ∈ fp, FpOk X pins H b) (hl : ∀ b ∈ fp, b < s.heap.objs.size) (N' : List Str) :
    (X.comp scope cl C N' fp s H).Ok where
  mod := I.ok.mod
  kind := S.kind
  glob := I.ok.glob
  blt := I.ok.blt
  above := Nat.le_of_eq hC.symm
  inj := fun x y c h1 h2 => I.ok.inj x y c (S.sub x c h1) (S.sub y c h2)
  has := fun x hx => S.has x hx
  cab := fun x c h1 _ => nomatch h1
  hd := I.ok.hd
  frames := I.ok.frames
  stk := .inl rfl
  exf := fun b hb => ⟨fun z => absurd (hl b hb) (by rw [z]; show ¬ C < _; rw [hC]; exact Nat.lt_irrefl _), fun x c h => (hf b hb).2.2.2.2.1 x c (S.sub x c h)⟩
  bs := I.bs
  bsz := Nat.le_trans I.ok.bsz I.sz
  noex := fun b o e hb => by
    rcases (hf b hb).2.2.2.1 with z | z
    · exact I.ok.noex b o e z
    · exact absurd (Nat.lt_of_lt_of_le (Heap.lt_size e) (Nat.le_trans I.ok.bsz z)) (Nat.lt_irrefl _)
  exfs := fun b hb z => by
    rcases List.mem_cons.mp (I.stkSub b z) with e | e
    · exact (hf b hb).2.1 e
    · exact (hf b hb).2.2.1 e
  funs := I.stack
  frf := I.stkFree

theorem Inv.comp {h₁ : Heap} {m₁ : Str → Option Value} {t' : Nat} (I : Inv X pins σ H s) (S : CompScope X scope cl ix) (hC : C = s.heap.objs.size) (hf : ∀ b ∈ fp, FpOk X pins H b) (hl : ∀ b ∈ fp, b < s.heap.objs.size)
    (hn : h₁.Ns C m₁) (hk : ∀ b o, s.heap.get? b = some o → h₁.get? b = some o) :
    Inv (X.comp scope cl C (xs ++ capN ix X.N) fp s H) [] (List.replicate xs.length none ++ capV ix σ) H { s with heap := h₁, toks := t' } where
  ok := I.compOk S hC hf hl _
  os := rfl
  bare := I.bare
  base := Un.kept hk
  loc := by
    refine ⟨m₁, hn, fun i y v e1 e2 e3 => ?_⟩
    by_cases hi : i < xs.length
    · rw [List.getElem?_append_left (by simpa using hi), List.getElem?_replicate, if_pos hi] at e2
      cases e2
    · have e1' : (xs ++ capN ix X.N)[i]? = some y := e1
      rw [List.getElem?_append_right (by omega)] at e1'
      rw [List.getElem?_append_right (by rw [List.length_replicate]; omega), List.length_replicate] at e2
      generalize i - xs.length = j at e1' e2
      unfold capN at e1'
      unfold capV at e2
      rw [List.getElem?_map] at e1' e2
      cases hj : ix[j]? with
      | none => rw [hj] at e1'; cases e1'
      | some k =>
        rw [hj] at e1' e2
        obtain ⟨y', c1, c2, c3⟩ := S.cap k (List.mem_of_getElem? hj)
        have ey : y' = y := by
          have q : (X.N[k]?).getD "" = y := Option.some.inj e1'
          rw [c1] at q
          exact q
        subst ey
        have ev : σ[k]? = some (some v) := by
          have q : (σ[k]?).getD none = some v := Option.some.inj e2
          cases hs : σ[k]? with
          | none => rw [hs] at q; cases q
          | some o => rw [hs] at q; exact congrArg some q
        obtain ⟨m, hm, hv⟩ := I.loc
        obtain ⟨u, r, l⟩ := hv k y' v c1 ev (c2.elim (fun z => .inr (.inl z)) fun z => .inr (.inr z))
        refine ⟨u, r, .inr ⟨c3, ?_⟩⟩
        rcases l with ⟨l1, _⟩ | ⟨_, c, lc, ⟨o, ho, hd⟩⟩
        · rcases c2 with z | z <;> (rw [l1] at z; cases z)
        · obtain ⟨c', hc'⟩ := S.has y' c3
          have e := S.sub _ _ hc'
          rw [lc] at e
          cases e
          exact ⟨c, hc', o, hk _ _ ho, hd⟩
  cell := fun x c e => by
    obtain ⟨v, o, ho, hd⟩ := I.cell x c (S.sub x c e)
    exact ⟨v, o, hk _ _ ho, hd⟩
  free := I.hok.fresh (Nat.le_of_eq hC.symm)
  freeC := fun x c e => I.freeC x c (S.sub x c e)
  pin := fun p hp => absurd (show p ∈ ([] : List (Addr × Obj)) from hp) (by simp)
  hok := I.hok.kept hk
  len := by
    show (List.replicate xs.length none ++ capV ix σ).length = (xs ++ capN ix X.N).length
    rw [List.length_append, List.length_append, List.length_replicate, capV, capN, List.length_map, List.length_map]
/-- behind the block: the block's own dict may have been emptied -/
theorem Inv.uncomp {s' : Shared} {σ' : St} {H' : Hp} {N' : List Str} {h' : Heap} (I : Inv X pins σ H s) (hC : C = s.heap.objs.size) (hf : ∀ b ∈ fp, FpOk X pins H b)
    (J : Inv (X.comp scope cl C N' fp s H) [] σ' H' s') (hb : Heap.SameBut C s'.heap h') : Inv X pins σ H' { s' with heap := h' } := by
  have lt : ∀ b o, s.heap.get? b = some o → b ≠ C := fun b o e => by
    rw [hC]; exact Nat.ne_of_lt (Heap.lt_size e)
  have B : Un (frs X.stack) fp H H' s.heap s'.heap := J.base
  refine I.call' (s' := { s' with heap := h' }) (ch := fp) J.os ?_ ?_ J.bare ?_
  · exact ⟨fun b o e n h1 h2 => (hb.2 b (lt b o e)).trans (B.keep b o e n h1 h2), fun b o e n h1 h2 => by
      obtain ⟨sl, q⟩ := B.slot b o e n h1 h2
      exact ⟨sl, (hb.2 b (lt b o e)).trans q⟩, B.free, fun b o e h1 => by
      obtain ⟨o', q⟩ := B.there b o e h1
      exact ⟨o', (hb.2 b (lt b o e)).trans q⟩, B.tups, B.frzs, B.tbls⟩
  · intro b o e
    refine (J.hok b o e).stay (fun c u hc q => (hb.2 c ?_).trans q) (fun _ q => q) fun _ _ q => q
    have hC0 : H' C = none := J.free
    rintro rfl
    rcases hc with rfl | hc
    · rw [hC0] at e; cases e
    · rw [hC0] at hc; cases hc
  · intro b hb'
    obtain ⟨f0, f1, f2, f3, f4, f5⟩ := hf b hb'
    exact ⟨f3, f1, f4, f5⟩
end

/-- the tests behind a comprehension's for -/
def PTs (X : Cx) (ifs : List Expr) (t : TT) : Prop :=
  ∀ (pins : List (Addr × Obj)) (s : Shared) (σ : St) (H : Hp) (Q : Bool → Hp → Prop), Inv X pins σ H s → t σ H Q →
    wpAny (model X.prog X.w) X.A (forIn ifs true fun c r => if r = true then do let ok ← isTrue c X.env (eval c X.env); pure (ForInStep.yield ok) else pure (ForInStep.yield r)) (TP X pins σ Q) X.xe s
def tYes : TT := fun _ H Q => Q true H
theorem pts_nil {X : Cx} : PTs X [] tYes := fun _ _ _ H _ I h => wpAny_tests_nil ⟨H, I, h⟩
section
variable {prog : Program} {w : World} {A : Around} {R : Result → Shared → Prop} {s : Shared}
theorem compLoop_any {elt target iter : Expr} {ifs : List Expr} {scope : Scope} {pos : Pos} {it acc : Value} {env : Env} (W : Nat → Shared → Prop) {EE : Value → Shared → Prop}
    (hE : ∀ e s', EE e s' → notedBy (model prog w) A env (fun e s' => R (.error e) s') e s')
    (turn : ∀ n s, W n s → wpAny (model prog w) A (pyNext it) (fun r s₁ => match r with
      | none => R (.ok .next) s₁
      | some v => wpAny (model prog w) A (letOwnedTupleGo target it v) (fun _ t₁ => wpAny (model prog w) A (assign target env v) (fun _ s₂ =>
          wpAny (model prog w) A (forIn ifs true fun c r => if r = true then do let ok ← isTrue c env (eval c env); pure (ForInStep.yield ok) else pure (ForInStep.yield r)) (fun ok s₃ =>
            if ok = true then wpAny (model prog w) A (eval elt env) (fun x s₄ => wpAny (model prog w) A (call (.builtin "list.append") [acc, x]) (fun _ s₅ => ∃ m, m < n ∧ W m s₅) EE s₄) EE s₃
            else ∃ m, m < n ∧ W m s₃) EE s₂) EE t₁) EE s₁) EE s)
    (n : Nat) (h : W n s) : codeAny (model prog w) A (.compLoop (.ListComp elt [⟨target, iter, ifs, 0⟩] scope pos) 0 it acc env) R s := by
  refine codeAny_loop rfl W (fun n s hW => ?_) n h
  show wpAny _ A ((compTurn (.ListComp elt [⟨target, iter, ifs, 0⟩] scope pos) 0 it acc env).onRaise (fun x => do noteFrame x env; theTreesLotGoes x)) _ _ s
  refine wpAny_noted (wpAny_mono ?_ (fun _ _ q => q) hE)
  rw [compTurn_list]
  refine wpAny_bind (wpAny_standAt (wpAny_bind (thn (turn n s hW) fun r s₁ h₁ => ?_)))
  cases r with
  | none => exact wpAny_pure h₁
  | some v =>
    refine wpAny_bind (thn h₁ fun _ t₁ k₁ => ?_)
    refine wpAny_bind (thn k₁ fun _ s₂ h₂ => wpAny_bind (thn h₂ fun ok s₃ h₃ => ?_))
    cases ok with
    | false => exact wpAny_pure ⟨rfl, h₃⟩
    | true => exact wpAny_bind (wpAny_bind (thn h₃ fun x s₄ h₄ => wpAny_bind (thn h₄ fun _ s₅ h₅ => wpAny_pure (wpAny_pure ⟨rfl, h₅⟩))))
end

/-- [elt for g in wi if tt]: the list at D grows; W: what holds between the turns, by the turn, a measure, the list -/
def tComp (wi : TI) (g : TG) (tt : TT) (te : TE) (k : Nat) (ix : List Nat) : TE := fun σ H Q => wi σ H fun J H1 => ∀ D, H1 D = none →
  ∃ W : Nat → Nat → List V → St → Hp → Prop, (∃ m, W 0 m [] (List.replicate k none ++ capV ix σ) (upd H1 D (.lst []))) ∧ ∀ i m ys τ H, W i m ys τ H → H D = some (.lst ys) ∧
    ((J.stop i H ∧ Q (.ref D) H) ∨ (J.go i H ∧ ys.length < sizeLine ∧ ∃ N : V → St → Hp → Prop,
      (∀ v τ' H', N v τ' H' → H' D = some (.lst ys) ∧ ∃ m', m' < m ∧ W (i + 1) m' (ys ++ [v]) τ' (upd H' D (.lst (ys ++ [v])))) ∧ ∃ Nf : St → Hp → Prop, (∀ τ' H', Nf τ' H' → ∃ m', m' < m ∧ W (i + 1) m' ys τ' H') ∧
      ∀ x H', J.yld i H x H' → g x τ H' fun τ2 H2 => tt τ2 H2 fun b H3 => if b = true then te τ2 H3 fun v H4 => N v τ2 H4 else Nf τ2 H3))
section
variable {X : Cx} {elt iter tg : Expr} {ifs : List Expr} {scope : Scope} {pos : Pos} {cl : List (Str × Addr)} {ix : List Nat} {xs : List Str} {wi : TI} {g : TG} {tt : TT} {te : TE}
/-- the block, whatever is wanted behind it -/
theorem comp_block (S : CompScope X scope cl ix) (hc : X.calm = true) (hi : PI X tg iter wi)
    (hg : ∀ C fp s H, PG (X.comp scope cl C (xs ++ capN ix X.N) fp s H) tg g) (ht : ∀ C fp s H, PTs (X.comp scope cl C (xs ++ capN ix X.N) fp s H) ifs tt)
    (he : ∀ C fp s H, PE (X.comp scope cl C (xs ++ capN ix X.N) fp s H) elt te)
    {pins : List (Addr × Obj)} {s : Shared} {σ : St} {H : Hp} {Q : VK} (I : Inv X pins σ H s) (h : tComp wi g tt te xs.length ix σ H Q) {RR : Value → Addr → Result → Shared → Prop}
    (hR : ∀ v u s' C, RelV v u → (∃ H', Q v H' ∧ (∃ m, s'.heap.Ns C m) ∧ (∀ h', Heap.SameBut C s'.heap h' → Inv X pins σ H' { s' with heap := h' }) ∧ FpOk X pins H' C) → RR u C (.ok .next) s') :
    wpAny (model X.prog X.w) X.A (eval iter X.env) (fun x s₁ => wpAny (model X.prog X.w) X.A (pyIter x) (fun it s₂ => wpAny (model X.prog X.w) X.A (newList []) (fun acc s₃ =>
      wpAny (model X.prog X.w) X.A (newFunctionEnv scope X.env.globals cl [] X.env.qual none .none (some X.env)) (fun cenv s₄ =>
        codeAny (model X.prog X.w) X.A (.compStart (.ListComp elt [⟨tg, iter, ifs, 0⟩] scope pos) 0 it acc { cenv with scope := relabel scope X.env }) (RR acc cenv.locals) s₄) X.xe s₃) X.xe s₂) X.xe s₁) X.xe s := by
  refine thn (hi pins s σ H _ I h) fun v s1 h1 => thn h1 fun itv s2 h2 => ?_
  obtain ⟨it, fp, tn, J, H2, e, I2, T, st2, f2, hW⟩ := h2
  subst e
  refine wpAny_newObj_type (wpAny_newFunctionEnv S.nocell (fun y hy => nomatch hy) (fun h₁ hns₁ hsb₁ => ?_) S.kind)
  dsimp only at hns₁ hsb₁ ⊢
  obtain ⟨W, ⟨m0, w0⟩, turn⟩ := hW s2.heap.objs.size I2.fresh
  have I3 := I2.lnew (t' := s2.toks) (ys := []) (its := []) .nil (Nat.zero_le _)
  have hl3 : ∀ b ∈ fp, b < s2.heap.objs.size := fun b hb => by
    obtain ⟨o, e, _⟩ := T.obj _ _ st2 b hb
    exact Heap.lt_size e
  generalize hs3 : ({ s2 with heap := s2.heap.push { cls := .type "list", data := .seq ([] : List Value).toArray }, toks := s2.toks } : Shared) = s3 at I3
  have hs3h : s3.heap = s2.heap.push { cls := .type "list", data := .seq ([] : List Value).toArray } := by rw [← hs3]
  have hsz : s3.heap.objs.size = s2.heap.objs.size + 1 := by rw [hs3h, Heap.size_push]
  have f3 : ∀ b ∈ fp, FpOk X pins (upd H2 s2.heap.objs.size (.lst [])) b := fun b hb => by
    obtain ⟨q0, q⟩ := f2 b hb
    exact ⟨by rw [upd_ne (Nat.ne_of_lt (hl3 b hb))]; exact q0, q⟩
  have hl3' : ∀ b ∈ fp, b < s3.heap.objs.size := fun b hb => by rw [hsz]; exact Nat.lt_succ_of_lt (hl3 b hb)
  rw [← hs3h] at hns₁ hsb₁ ⊢
  have hk : ∀ b o, s3.heap.get? b = some o → h₁.get? b = some o := fun b o e => (hsb₁.2 b (Nat.ne_of_lt (Heap.lt_size e))).trans (Heap.get?_push_of_some _ e)
  have hk2 : ∀ b o, s2.heap.get? b = some o → s3.heap.get? b = some o := fun b o e => by rw [hs3h]; exact Heap.get?_push_of_some _ e
  have J0 := I3.comp (xs := xs) (t' := s2.toks) (C := s3.heap.objs.size) S rfl f3 hl3' hns₁ hk
  have st3 : tn 0 h₁ := T.keep _ _ _ st2 fun b _ o e => hk b o (hk2 b o e)
  have loop : ∀ tk, codeAny (model X.prog X.w) X.A (.compLoop (.ListComp elt [⟨tg, iter, ifs, 0⟩] scope pos) 0 (.ref it) (.ref s2.heap.objs.size) (compEnvC scope cl s3.heap.objs.size X.env))
      (RR (.ref s2.heap.objs.size) s3.heap.objs.size) { s3 with heap := h₁, toks := tk } := by
    intro tk
    refine compLoop_any (EE := fun _ _ => False) (fun n s' => ∃ i ys τ H', Inv (X.comp scope cl s3.heap.objs.size (xs ++ capN ix X.N) fp s3 (upd H2 s2.heap.objs.size (.lst []))) [] τ H' s' ∧ tn i s'.heap ∧ (∀ b ∈ fp, H' b = none) ∧ W i n ys τ H')
      (fun _ _ z => z.elim) ?_ m0 ⟨0, [], _, _, J0.tok tk, st3, fun b hb => (f3 b hb).1, w0⟩
    rintro n s' ⟨i, ys, τ, H', I', st', fr', w'⟩
    have stat : ∀ {H' : Hp}, (∀ b ∈ fp, H' b = none) → ∀ b ∈ fp, FpOk (X.comp scope cl s3.heap.objs.size (xs ++ capN ix X.N) fp s3 (upd H2 s2.heap.objs.size (.lst []))) [] H' b := fun hn b hb =>
      ⟨hn b hb, (I'.ok.exf b hb).1, I'.ok.exfs b hb, .inl hb, (I'.ok.exf b hb).2, fun p hp => absurd (show p ∈ ([] : List (Addr × Obj)) from hp) (by simp)⟩
    obtain ⟨hD, ⟨stop, q⟩ | ⟨go, hz, N, hN, Nf, hNf, step⟩⟩ := turn i n ys τ H' w'
    · refine thn (T.done (X.comp scope cl s3.heap.objs.size (xs ++ capN ix X.N) fp s3 (upd H2 s2.heap.objs.size (.lst []))) rfl rfl rfl hc i [] s' τ H' _ I' (stat fr') st' stop) fun r s4 ⟨hr, I4⟩ => ?_
      subst hr
      refine hR (.ref s2.heap.objs.size) _ s4 _ rfl ⟨H', q, ?_, fun h' hb => I3.uncomp rfl f3 I4 hb, I3.fpOk (Nat.le_refl _) I4.free⟩
      obtain ⟨m, hn, _⟩ := I4.loc
      exact ⟨m, hn⟩
    · refine thn (T.item (X.comp scope cl s3.heap.objs.size (xs ++ capN ix X.N) fp s3 (upd H2 s2.heap.objs.size (.lst []))) rfl rfl rfl hc i [] s' τ H' _ I' (stat fr') st' go) fun r s4 ⟨u, hr, h4⟩ => ?_
      subst hr
      refine thn h4 fun _ s5 ⟨x, H5, I5, r5, y5, st5, fr5⟩ => ?_
      have I5' := I5.pinned (stat fr5) (T.obj _ _ st5)
      refine thn (hg _ _ _ _ _ s5 τ H5 x u _ I5' r5 (step x H5 y5)) fun _ s6 ⟨τ6, H6, I6, q6⟩ => ?_
      refine thn (ht _ _ _ _ _ s6 τ6 H6 _ I6 q6) fun ok s7 ⟨H7, I7, q7⟩ => ?_
      have back : ∀ {s8 : Shared} {H8 : Hp} {m : Nat} {zs : List V}, Inv (X.comp scope cl s3.heap.objs.size (xs ++ capN ix X.N) fp s3 (upd H2 s2.heap.objs.size (.lst []))) ([] ++ pinsAt fp s5.heap) τ6 H8 s8 → W (i + 1) m zs τ6 H8 →
          ∃ i ys τ H', Inv (X.comp scope cl s3.heap.objs.size (xs ++ capN ix X.N) fp s3 (upd H2 s2.heap.objs.size (.lst []))) [] τ H' s8 ∧ tn i s8.heap ∧ (∀ b ∈ fp, H' b = none) ∧ W i m ys τ H' := fun {s8 H8 m zs} I8 w8 => by
        refine ⟨i + 1, zs, τ6, H8, I8.unpinned, T.keep _ _ _ st5 fun b hb o e => (I8.pin (b, o) (List.mem_append_right _ (List.mem_append_right _ (mem_pinsAt hb e)))).1, fun b hb => ?_, w8⟩
        obtain ⟨o, e, d⟩ := T.obj _ _ st5 b hb
        exact (I8.pin (b, o) (List.mem_append_right _ (List.mem_append_right _ (mem_pinsAt hb e)))).2.1
      cases ok with
      | false =>
        rw [if_neg Bool.false_ne_true] at q7 ⊢
        obtain ⟨m', hm, w7⟩ := hNf _ _ q7
        exact ⟨m', hm, back I7 w7⟩
      | true =>
        rw [if_pos rfl] at q7 ⊢
        refine thn (he _ _ _ _ _ s7 τ6 H7 _ I7 q7) fun y s8 ⟨v8, H8, I8, r8, n8⟩ => ?_
        obtain ⟨hD8, m', hm, w8⟩ := hN _ _ _ n8
        refine thn (mt_append _ s8 τ6 H8 (.ref s2.heap.objs.size) [v8] (.ref s2.heap.objs.size) [y] (fun _ Hn => ∃ m, m < n ∧ W (i + 1) m (ys ++ [v8]) τ6 Hn) I8 rfl (.cons r8 .nil) ⟨_, ys, v8, rfl, rfl, hD8, hz, m', hm, w8⟩) fun _ s9 ⟨_, H9, I9, _, m9, hm9, w9⟩ => ?_
        exact ⟨m9, hm9, back I9 w9⟩
  have e3 : ∀ tk, ({ s3 with heap := h₁, toks := tk } : Shared) = { s2 with heap := h₁, toks := tk } := fun tk => by rw [← hs3]
  have loop' : ∀ tk, codeAny (model X.prog X.w) X.A (.compLoop (.ListComp elt [⟨tg, iter, ifs, 0⟩] scope pos) 0 (.ref it) (.ref s2.heap.objs.size) (compEnvC scope cl s3.heap.objs.size X.env))
      (RR (.ref s2.heap.objs.size) s3.heap.objs.size) { s2 with heap := h₁, toks := tk } := fun tk => by rw [← e3]; exact loop tk
  exact codeAny_compStart_list (loop' _) (T.self _ 0 _ _ _ st3 (loop' _))
theorem pe_comp {osc : Scope} {N : List Str} (hc : X.calm = true) (hD : compD osc N scope ix = true) (hi : PI X tg iter wi)
    (hg : ∀ C fp s H, PG (X.comp scope (closOf scope X.env) C (xs ++ capN ix X.N) fp s H) tg g) (ht : ∀ C fp s H, PTs (X.comp scope (closOf scope X.env) C (xs ++ capN ix X.N) fp s H) ifs tt)
    (he : ∀ C fp s H, PE (X.comp scope (closOf scope X.env) C (xs ++ capN ix X.N) fp s H) elt te) (hsc : X.env.scope = osc := by rfl) (hN : X.N = N := by rfl) (hs : ∀ x, foldedSetIterable iter X.env x = pure x := by intro _; rfl) :
    PE X (.ListComp elt [⟨tg, iter, ifs, 0⟩] scope pos) (tComp wi g tt te xs.length ix) := by
  intro pins s σ H Q I h
  have S := compScope_of I.ok hD hsc hN
  rw [eval_ListComp]
  refine wpAny_comprehension_free (use := none) rfl hs S.clos S.kind S.names (comp_block S hc hi hg ht he I h (RR := fun acc C => compPost (model X.prog X.w) X.A X.xe none (EP X pins σ Q) acc C) ?_)
  rintro v u s' C r ⟨H', q, ⟨m, hn⟩, hI, _⟩
  exact ⟨m, hn, fun h' hb => ⟨v, H', hI h' hb, r, q⟩⟩
/-- y = [..] -/
theorem ps_setComp {osc : Scope} {N : List Str} {y : Str} {py : Pos} {j : Nat} {spos : Pos} (hNd : X.N.Nodup) (hj : X.N[j]? = some y) (hc : X.calm = true) (hy : Loc X.env.scope y) (hD : compD osc N scope ix = true) (hi : PI X tg iter wi)
    (hg : ∀ C fp s H, PG (X.comp scope (closOf scope X.env) C (xs ++ capN ix X.N) fp s H) tg g) (ht : ∀ C fp s H, PTs (X.comp scope (closOf scope X.env) C (xs ++ capN ix X.N) fp s H) ifs tt)
    (he : ∀ C fp s H, PE (X.comp scope (closOf scope X.env) C (xs ++ capN ix X.N) fp s H) elt te) (hsc : X.env.scope = osc := by rfl) (hN : X.N = N := by rfl)
    (hsw : swapsWith (.ListComp elt [⟨tg, iter, ifs, 0⟩] scope pos) (some (.Name y py)) spos.line X.env = pure true := by rfl)
    (hs : ∀ x, foldedSetIterable iter X.env x = pure x := by intro _; rfl) (hf : X.fn y = true ∨ X.env.scope.names.lookup y = some .local := by first | exact .inl rfl | exact .inr rfl | assumption) :
    PS X (.Assign [.Name y py] (.ListComp elt [⟨tg, iter, ifs, 0⟩] scope pos) spos) (tAsg (tComp wi g tt te xs.length ix) (gName j)) := by
  intro pins s σ H D I h
  have S := compScope_of I.ok hD hsc hN
  rw [exec_Assign_Name_used _ _ _ _ hsw]
  refine wpAny_bind (wpAny_standAt (wpAny_bind ?_))
  show wpAny _ X.A (do let _ ← comprehension (.ListComp elt [⟨tg, iter, ifs, 0⟩] scope pos) scope X.env _ (newList []) false (eval iter X.env) (some (assign (.Name y py) X.env))) _ _ s
  refine wpAny_bind (thn (wpAny_comprehension_free (use := some (assign (.Name y py) X.env)) (Q := fun _ s' => SP X pins D .next s') rfl hs S.clos S.kind S.names
    (comp_block S hc hi hg ht he I h (RR := fun acc C => compPost (model X.prog X.w) X.A X.xe (some (assign (.Name y py) X.env)) (fun _ s' => SP X pins D .next s') acc C) ?_)) fun _ s' hq => wpAny_pure (wpAny_pure hq))
  rintro v u s' C r ⟨H', q, ⟨m, hn⟩, hI, f0, f1, f2, f3, f4, f5⟩
  have I' : Inv X pins σ H' s' := hI s'.heap (.refl ..)
  show wpAny _ X.A (assign (.Name y py) X.env u) _ _ _
  refine wpAny_assign_Name (store_ok2 I' hNd hj hy r (fun s2 I2 hx => ?_) hf)
  obtain ⟨a, hb, ha⟩ := hx
  have hCa : C ≠ a := by
    rcases ha with rfl | ha
    · exact f1
    · exact Ne.symm (f4 _ _ ha)
  refine ⟨m, hn.sameBut hb hCa, fun h' hb' => ⟨_, H', ?_, q⟩⟩
  exact I2.turned (t' := s2.toks) (fun b o hne e => (hb'.2 b hne).trans e) f0 f1 f3 f4 f5
end
end L2

namespace L2
open PySem PySem.Spec PyProof.Rows
/-! ### readings: short names -/
abbrev rAddS : R2 := fun x y H Q => ∃ i j, x = .str i ∧ y = .str j ∧ i.length + j.length ≤ sizeLine ∧ Q (.str (i ++ j)) H
abbrev rInS : R2 := fun x y H Q => ∃ i j, x = .str i ∧ y = .str j ∧ Q (.bl (!(Builtin.Str.occurrences j i 0 j.length 1).isEmpty)) H
abbrev rNotInS : R2 := fun x y H Q => ∃ i j, x = .str i ∧ y = .str j ∧ Q (.bl (!(!(Builtin.Str.occurrences j i 0 j.length 1).isEmpty))) H
abbrev rIsB : R2 := fun x y H Q => ∃ a b, x = .bl a ∧ y = .bl b ∧ Q (.bl (a == b)) H
abbrev rIsNotB : R2 := fun x y H Q => ∃ a b, x = .bl a ∧ y = .bl b ∧ Q (.bl (a != b)) H
abbrev rIsN : R2 := fun x y H Q => y = .non ∧ Q (.bl (decide (x = .non))) H
abbrev rNotN : R2 := fun x y H Q => y = .non ∧ Q (.bl (!decide (x = .non))) H
abbrev RC := List V → Hp → VK → Prop
abbrev cLen (K : PySem.W.Frag) : RC := fun xs H Q => ∃ x n, xs = [x] ∧ LenV K x H n ∧ Q (.int n) H
abbrev cIsi (K : PySem.W.Frag) : RC := fun xs H Q => ∃ x c t b, xs = [x, c] ∧ TyOf K H x t ∧ (∃ T, c = .ty T ∧ PySem.W.kitOne K t (.type T) = some b) ∧ Q (.bl b) H
abbrev cAll (K : PySem.W.Frag) : RC := fun xs H Q => ∃ (a : Addr) (bs : List Bool), xs = [.ref a] ∧ SqL K H a (bs.map V.bl) ∧ Q (.bl (bs.all id)) H
abbrev cAbs : RC := fun xs H Q => ∃ i, xs = [.int i] ∧ Q (.int (if i < 0 then -i else i)) H
abbrev cStr : RC := fun xs H Q => ∃ i, xs = [.int i] ∧ i.natAbs.log2 < 1920 ∧ Q (.str (toString i)) H
abbrev RM := V → List V → Hp → VK → Prop
abbrev r_mt_startswith : RM := fun x xs H Q => ∃ a b, x = .str a ∧ xs = [.str b] ∧ Q (.bl (0 + b.length ≤ a.length && Builtin.Str.subAt a b 0)) H
/-! ### promises -/
/-- what is asked of the arguments and the heap; what is told; all that was tracked stays -/
def spP (pre : List V → Hp → Prop) (post : List V → Hp → V → Hp → Prop) : Sp := fun vs H Q _ => pre vs H ∧ ∀ r H', post vs H r H' → Same H H' → Q r H'
abbrev cInt : RC := fun xs H Q => ∃ (x : Str) (n : Int), xs = [.str x] ∧ PySem.intText? x = some n ∧ x.length ≤ 640 ∧ Q (.int n) H
abbrev r_mt_upper : RM := fun x xs H Q => ∃ a : Str, x = .str a ∧ xs = [] ∧ (∀ c ∈ a.cps.toList, c < 128) ∧ a.length ≤ sizeLine ∧ ∀ y : Str, y.length = a.length → Q (.str y) H
theorem new_obj {H : Hp} {p : Addr} {o : HO} (h : H p = none) : ∃ H', H' = upd H p o ∧ Same H H' ∧ H' p = some o :=
  ⟨_, rfl, fun b u e => by rw [upd_ne (ne_of_none e h)]; exact e, upd_same⟩
theorem isV (p : Addr) {H : Hp} {o : HO} (h : H p = none) : Same H (upd H p o) := fun b u e => by rw [upd_ne (ne_of_none e h)]; exact e
theorem small_size {n : Nat} (h : n ≤ 100000) : n ≤ sizeLine := Nat.le_trans h (by decide)
/-! ### the built-in names -/
theorem bt_len : bootBuiltins "len" = some (.builtin "len") := by decide +kernel
theorem bt_isinstance : bootBuiltins "isinstance" = some (.builtin "isinstance") := by decide +kernel
theorem bt_all : bootBuiltins "all" = some (.builtin "all") := by decide +kernel
theorem bt_min : bootBuiltins "min" = some (.builtin "min") := by decide +kernel
theorem bt_reversed : bootBuiltins "reversed" = some (.type "reversed") := by decide +kernel
theorem bt_str : bootBuiltins "str" = some (.type "str") := by decide +kernel
theorem bt_int : bootBuiltins "int" = some (.type "int") := by decide +kernel
theorem bt_bool : bootBuiltins "bool" = some (.type "bool") := by decide +kernel
theorem bt_list : bootBuiltins "list" = some (.type "list") := by decide +kernel
theorem bt_tuple : bootBuiltins "tuple" = some (.type "tuple") := by decide +kernel
theorem bt_ValueError : bootBuiltins "ValueError" = some (.type "ValueError") := by decide +kernel
section
variable {X : Cx}

/-! ### bigger numbers -/
def big : Int := 10 ^ 200
def CDivB (_ j : Int) : Prop := 0 < j ∧ j < big
def CMulB (i j : Int) : Prop := (-big < i ∧ i < big) ∧ (-big < j ∧ j < big)
theorem log2_big {j : Int} (h : j.natAbs < 10 ^ 200) : j.natAbs.log2 < 700 := by
  by_cases h0 : j.natAbs = 0
  · rw [h0]; decide
  · exact (Nat.log2_lt h0).mpr (Nat.lt_of_lt_of_le h (by decide +kernel))
theorem abs_big {j : Int} (h : -big < j ∧ j < big) : j.natAbs < 10 ^ 200 := by
  have e : big = ((10 ^ 200 : Nat) : Int) := by decide +kernel
  rw [e] at h
  omega
theorem CMulB.ok {i j : Int} (h : CMulB i j) : IntMulOk i j := by
  have b : ∀ k : Int, (-big < k ∧ k < big) → Builtin.Int.intBits k ≤ 2 ^ 20 := fun k hk => by
    have q := log2_big (abs_big hk)
    unfold Builtin.Int.intBits
    split <;> omega
  exact .of_bits (b i h.1) (b j h.2)
theorem op_mulB : OpR X (binaryOp .Mult) (rI CMulB fun i j => .int (i * j)) := opI fun _ _ _ _ _ _ _ hc q => mul_int q hc.ok
theorem op_fdivB : OpR X (binaryOp .FloorDiv) (rI CDivB fun i j => .int (i / j)) := opI fun i j _ _ _ _ _ hc q => by
  have h1 : (0 : Int) < j := hc.1
  refine floordiv_int (by omega) ?_ (.inl (PyProof.noPylong_of_log2 (Nat.lt_trans (log2_big (abs_big ⟨by have := hc.2; omega, hc.2⟩)) (by decide))))
  rw [Int.fdiv_eq_ediv_of_nonneg i (by omega)]
  exact q

/-! ### is, of truths -/
/-! ### isinstance -/
theorem call_isi : CallR X (.builtin "isinstance") (cIsi X.K) := by
  intro pins s σ H xs us Q I r h
  obtain ⟨x, c, t, b, rfl, ty, ⟨T, rfl, e⟩, q⟩ := h
  obtain ⟨u, w', rfl, r1, r2⟩ := vals2 r
  cases r2
  exact isinst_ok I r1 ty e fun tk => ⟨.bl b, H, I.tok tk, rfl, q⟩

/-! ### signs of a text -/
def Its (x : Str) : It := ⟨fun i _ => i < x.cps.size, fun i H v H' => H' = H ∧ ∃ c, x.cps[i]? = some c ∧ v = .str ⟨#[c]⟩, fun i _ => x.cps.size ≤ i⟩
theorem turn_str {P : Program} {w : World} {K : PySem.W.Frag} {tg : Expr} {it : Addr} {x : Str} {t : Tok} {ty : String} (hty : ["enumerate", "zip", "dict_itemiterator", "dict_reverseitemiterator", "odict_iterator", "itertools.zip_longest", "itertools.pairwise"].contains ty = false)
    (W : ∀ A : Around, A.handled = none → Walks P w A it [it] [it] x.cps.size (SignAt x) (fun i h => h.IsStrIter it ty x t i))
    (self : ∀ (A : Around) (i : Nat) (s : Shared) (Q : Value → Shared → Prop) (E : Value → Shared → Prop), s.heap.IsStrIter it ty x t i → Q (.ref it) s → wpAny (model P w) A (pyIter (.ref it)) Q E s) :
    Turn P w K tg (Its x) [it] it (fun i h => i ≤ x.cps.size ∧ h.IsStrIter it ty x t i) where
  mem := by simp
  obj := fun i h st b hb => by
    have e : b = it := by simpa using hb
    subst e
    obtain ⟨_, o, e, c, d⟩ := st
    exact ⟨o, e, fun v z => by rw [d] at z; cases z⟩
  keep := fun i h h' st k => by
    obtain ⟨hi, o, e, r⟩ := st
    exact ⟨hi, o, k it (by simp) o e, r⟩
  item := by
    intro X hP hw hK hc i pins s σ H E I hf st hg
    subst hP hw hK
    obtain ⟨f0, f1, f2, f3, f4, f5⟩ := hf it (by simp)
    refine (W X.A (I.ok.hd hc)).item i s _ _ hg st.2 fun v h' tk hv st' kk => ?_
    obtain ⟨c, u, hc', rfl⟩ := hv
    have I1 : Inv X pins σ H { s with heap := h', toks := tk } := I.turned (fun b o hb e => kk b o (by simpa using hb) e) f0 f1 f3 f4 f5
    obtain ⟨o, e, c1, d1⟩ := id st'
    exact ⟨_, rfl, go_of (s := { s with heap := h', toks := tk }) e c1 d1 hty ⟨.str ⟨#[c]⟩, H, I1, ⟨u, rfl⟩, ⟨rfl, c, hc', rfl⟩, ⟨hg, st'⟩, fun b hb => (hf b hb).1⟩⟩
  done := by
    intro X hP hw hK hc i pins s σ H E I hf st hg
    subst hP hw hK
    obtain ⟨f0, f1, f2, f3, f4, f5⟩ := hf it (by simp)
    have e : i = x.cps.size := Nat.le_antisymm st.1 hg
    subst e
    exact (W X.A (I.ok.hd hc)).done s _ _ st.2 fun h' tk kk => ⟨rfl, I.turned (fun b o hb e => kk b o (by simpa using hb) e) f0 f1 f3 f4 f5⟩
  self := fun A i s Q E st h => self A i s Q E st.2 h
def iStr (tl : TE) : TI := fun σ H R => tl σ H fun x H1 => ∃ z, x = .str z ∧ R (Its z) H1
theorem pi_str {l tg : Expr} {tl : TE} (hl : PE X l tl) : PI X tg l (iStr tl) := by
  intro pins s σ H R I h
  refine thn (hl pins s σ H _ I h) fun v s1 ⟨x, H1, I1, r1, q1⟩ => ?_
  obtain ⟨z, rfl, q⟩ := q1
  obtain ⟨t, rfl⟩ := r1
  have new : ∀ b ∈ [s1.heap.objs.size], FpOk X pins H1 b := fun b hb => by
    have e : b = s1.heap.objs.size := by simpa using hb
    subst e
    exact I1.fpOk (Nat.le_refl _) (I1.hok.fresh (Nat.le_refl _))
  cases ha : z.cps.all (· < 128)
  · refine wpAny_pyIter_wide ha ?_
    exact ⟨s1.heap.objs.size, [s1.heap.objs.size], _, _, H1, rfl, I1.kept (t' := s1.toks) fun b o e => Heap.get?_push_of_some _ e,
      turn_str (t := t) (by decide) (fun A hA => Walks.strWide hA _ z t) fun A i s Q E st h => wpAny_pyIter_striter_wide st h, ⟨Nat.zero_le _, _, Heap.get?_push_size _ rfl, rfl, rfl⟩, new, q⟩
  · refine wpAny_pyIter_ascii ha ?_
    exact ⟨s1.heap.objs.size, [s1.heap.objs.size], _, _, H1, rfl, I1.kept (t' := s1.toks) fun b o e => Heap.get?_push_of_some _ e,
      turn_str (t := t) (by decide) (fun A hA => Walks.strAscii hA _ z t) fun A i s Q E st h => wpAny_pyIter_striter_ascii st h, ⟨Nat.zero_le _, _, Heap.get?_push_size _ rfl, rfl, rfl⟩, new, q⟩

/-! ### all of a list of truths -/
theorem call_allL (hc : X.calm = true) : CallR X (.builtin "all") (cAll X.K) := by
  intro pins s σ H xs us Q I r h
  obtain ⟨a, bs, rfl, hq, q⟩ := h
  obtain ⟨u, rfl, r1⟩ := vals1 r
  cases r1
  obtain ⟨its, rv, p, hz⟩ := I.list hq
  have hl := rv.length
  rw [List.length_map] at hl
  have hne : a ≠ s.heap.objs.size := by
    obtain ⟨o, n, e, _⟩ := p
    exact Nat.ne_of_lt (Heap.lt_size e)
  refine call_all_walk (wpAny_pyIter_list p.isList ?_)
  refine ⟨s.heap.objs.size, _, _, its.toArray.size, fun i v => its.toArray[i]? = some v, _, fun i => bs.getD i false, rfl, Walks.list (A := X.A.in1) (I.ok.hd hc) _ a hne its.toArray, ?_, ?_, fun h' tk k => ?_⟩
  · refine ⟨⟨_, Heap.get?_push_size _ rfl, rfl, rfl⟩, ?_⟩
    exact p.isList.at fun o e => Heap.get?_push_of_some _ e
  · intro i v s' Q' E' hv hQ
    have hv' : its[i]? = some v := by simpa using hv
    have hi : i < bs.length := by
      rw [hl]
      exact (List.getElem?_eq_some_iff.mp hv').1
    obtain ⟨u', hu, ru⟩ := rv.get (i := i) (x := V.bl bs[i]) (by simp [hi])
    rw [hv'] at hu
    cases hu
    cases ru
    have e : bs.getD i false = bs[i] := by simp [hi]
    have hQ' : Q' (bs.getD i false) s' := hQ
    rw [e] at hQ'
    exact wpAny_truthy_bool hQ'
  · have e : (List.range its.toArray.size).all (fun i => bs.getD i false) = bs.all id := by
      rw [List.size_toArray, ← hl]
      have : bs.map id = (List.range bs.length).map fun i => bs.getD i false := by
        apply List.ext_getElem?
        intro i
        by_cases hi : i < bs.length <;> simp [hi]
      have h2 : bs.all id = (bs.map id).all id := by simp
      rw [h2, this, List.all_map]
      rfl
    rw [e]
    refine ⟨.bl (bs.all id), H, ?_, rfl, q⟩
    exact I.kept fun b o e => k b o (by
      have := Nat.ne_of_lt (Heap.lt_size e)
      simpa using this) (Heap.get?_push_of_some _ e)

/-! ### texts -/
theorem mt_startswith : MtR X "str.startswith" r_mt_startswith := by
  intro pins s σ H x xs v us Q I rx rs h
  obtain ⟨a, b, rfl, rfl, q⟩ := h
  obtain ⟨t, rfl⟩ := rx
  obtain ⟨u, rfl, t', rfl⟩ := vals1 rs
  exact call_meets F.slot_str_startswith (typeIs_str s a t) F.entry_str_startswith (F.args_str_startswith_2 _ _) (gives_str_startswith a b t t').meets (show _ from ⟨.bl _, H, I, rfl, q⟩)
def rSlS : V → Option Int → Option Int → Hp → VK → Prop := fun x lo hi H Q => ∃ z, x = .str z ∧ z.length ≤ sizeLine ∧ Q (.str (Txt.slice z lo hi)) H
theorem sl_str : SlR X rSlS := by
  intro pins s σ H x v vl vu lo hi sl Q I rx hs pl pu h
  obtain ⟨z, rfl, hz, q⟩ := h
  obtain ⟨t, rfl⟩ := rx
  obtain ⟨o, ho, hc, hd⟩ := hs
  refine ⟨"str", _, F.slot_str_getitem.lookup, typeIs_str _ _ _, ?_⟩
  obtain ⟨l, e1, e2⟩ : ∃ l : Option (Int × Tok), vl = partValue l ∧ lo = l.map (·.1) := by
    cases pl with
    | none => exact ⟨none, rfl, rfl⟩
    | int i t => exact ⟨some (i, t), rfl, rfl⟩
  obtain ⟨u, e3, e4⟩ : ∃ l : Option (Int × Tok), vu = partValue l ∧ hi = l.map (·.1) := by
    cases pu with
    | none => exact ⟨none, rfl, rfl⟩
    | int i t => exact ⟨some (i, t), rfl, rfl⟩
  subst e1 e2 e3 e4
  exact wpAny_getItem_str_slice (l := l) (u := u) (st := none) ⟨o, ho, hc, hd⟩ rfl
    (post_val_or_str ⟨Nat.le_trans (Txt.slice_le z _ _) hz, fun t' k => ⟨.str (Txt.slice z (l.map (·.1)) (u.map (·.1))), H, I.tok k, ⟨t', rfl⟩, q⟩⟩)
theorem call_int_str : CallR X (.type "int") cInt := by
  intro pins s σ H xs us Q I r h
  obtain ⟨x, n, rfl, hn, hl, q⟩ := h
  obtain ⟨u, rfl, t, rfl⟩ := vals1 r
  exact PySem.W.KIN.call_text hn hl ⟨.int n, H, I.tok _, ⟨_, rfl⟩, q⟩
end
end L2

namespace L2
open PySem PySem.Spec PyProof.Rows

/-! ### exceptions of the text's own classes -/
theorem ObjOk.there {P : Program} {w : World} {H : Hp} {h : Heap} {a : Addr} {o : HO} (x : ObjOk P w H h a o) : ∃ u, h.get? a = some u := by
  cases o with
  | lst xs => obtain ⟨_, _, _, _, e⟩ := x; exact ⟨_, e⟩
  | tup xs => obtain ⟨_, _, _, o, e, _⟩ := x; exact ⟨_, e⟩
  | dK kvs => obtain ⟨_, _, _, _, o, _, _, e, _⟩ := x; exact ⟨_, e⟩
  | dT kvs => obtain ⟨_, _, _, _, o, _, _, e, _⟩ := x; exact ⟨_, e⟩
  | set S n => obtain ⟨o, _, _, _, e, _⟩ := x; exact ⟨_, e⟩
  | ins C dx fs => obtain ⟨_, _, _, e, _⟩ := x; exact ⟨_, e⟩
  | own y => exact x
  | xd fs => obtain ⟨_, ⟨o, _, _, e, _⟩, _⟩ := x; exact ⟨_, e⟩
  | rng lo hi => obtain ⟨_, _, _, e⟩ := x; exact ⟨_, e⟩
  | frz ob u => obtain ⟨e, _⟩ := x; exact ⟨_, e⟩
  | tbl ps => exact ⟨_, (show h.get? a = some _ from x)⟩
  | met f y => exact ⟨_, (show h.get? a = some _ from x)⟩
  | ext φ => obtain ⟨_, e, _⟩ := x; exact e
/-- an exception that flies: its record and its traceback's newest entry, both new since g, not tracked -/
def XF (g h : Heap) (H : Hp) (e : Addr) (cls : Value) : Prop :=
  ∃ oe vs a0 T oT ts, h.get? e = some oe ∧ (oe.cls = cls ∧ vs[0]? = some a0) ∧ oe.data = .fields vs ∧ vs[1]? = some (.ref T) ∧ T ≠ e ∧ h.get? T = some oT ∧ oT.data = .fields ts ∧ ts[3]? = some .none ∧
    g.get? e = none ∧ g.get? T = none ∧ H e = none ∧ H T = none
def CX1 (P : Program) (w : World) : CXT := fun outer H s E ev s' => ∃ e cls H', ev = .ref e ∧ s'.os = s.os ∧ AllBare s'.gens ∧ Un (frs outer) [] H H' s.heap s'.heap ∧ HOk P w H' s'.heap ∧ XF s.heap s'.heap H' e cls ∧ E cls none H'
theorem none_back {g h : Heap} (k : ∀ b o, g.get? b = some o → ∃ o', h.get? b = some o') {b : Addr} (e : h.get? b = none) : g.get? b = none := by
  cases q : g.get? b with
  | none => rfl
  | some o =>
    obtain ⟨o', z⟩ := k b o q
    rw [e] at z; cases z
theorem XF.older {g g' h : Heap} {H : Hp} {e : Addr} {cls : Value} (x : XF g h H e cls) (k : ∀ b o, g'.get? b = some o → ∃ o', g.get? b = some o') : XF g' h H e cls := by
  obtain ⟨oe, vs, a0, T, oT, ts, h1, h2, h3, h4, h5, h6, h7, h8, h9, h10, h11, h12⟩ := x
  exact ⟨oe, vs, a0, T, oT, ts, h1, h2, h3, h4, h5, h6, h7, h8, none_back k h9, none_back k h10, h11, h12⟩

section
variable {X : Cx} {pins : List (Addr × Obj)} {σ : St} {H : Hp} {s : Shared}
theorem Inv.stackFields (J : Inv X pins σ H s) {b : Addr} (hb : b ∈ frs X.stack) : ∃ o, s.heap.get? b = some o ∧ ∀ vs, o.data ≠ .fields vs := (J.stack.mem hb).2
theorem Inv.there0 (hex : X.ex = []) (J : Inv X pins σ H s) : ∀ b o, X.s₀.heap.get? b = some o → ∃ o', s.heap.get? b = some o' := fun b o e => J.base.there b o e (by rw [hex]; simp)
/-- the heap behind an exception's way through this frame: the frames up to their slots, the records at cs apart -/
theorem Inv.behind {h2 : Heap} {cs : List Addr} (hex : X.ex = []) (J : Inv X pins σ H s) (hcs : ∀ b ∈ cs, H b = none ∧ X.s₀.heap.get? b = none)
    (hB : ∀ b o, s.heap.get? b = some o → b ∉ frs X.stack → b ∉ cs → h2.get? b = some o) (hF : ∀ b o, s.heap.get? b = some o → b ∈ frs X.stack → ∃ sl, h2.get? b = some { o with slots := sl }) :
    Un X.fs [] X.H₀ H X.s₀.heap h2 ∧ HOk X.prog X.w H h2 := by
  have B : Un X.fs [] X.H₀ H X.s₀.heap s.heap := by have := J.base; rw [hex] at this; exact this
  have nL : ∀ b o, X.s₀.heap.get? b = some o → b ≠ X.env.locals := fun b o e => Nat.ne_of_lt (Nat.lt_of_lt_of_le (Heap.lt_size e) J.ok.above)
  have nC : ∀ b o, X.s₀.heap.get? b = some o → b ∉ cs := fun b o e z => by rw [(hcs b z).2] at e; cases e
  have any : ∀ b o, s.heap.get? b = some o → b ∉ cs → ∃ sl, h2.get? b = some { o with slots := sl } := fun b o e n => by
    by_cases hb : b ∈ frs X.stack
    · exact hF b o e hb
    · exact ⟨o.slots, hB b o e hb n⟩
  refine ⟨⟨fun b o e n h1 _ => ?_, fun b o e n h1 _ => ?_, B.free, fun b o e h1 => ?_, B.tups, B.frzs, B.tbls⟩, fun b u e => ?_⟩
  · refine hB b o (B.keep b o e n h1 (by simp)) (fun z => ?_) (nC b o e)
    rcases List.mem_cons.mp (J.stkSub b z) with q | q
    · exact nL b o e q
    · exact h1 q
  · obtain ⟨sl, q⟩ := B.slot b o e n h1 (by simp)
    obtain ⟨sl', q'⟩ := any b _ q (nC b o e)
    exact ⟨sl', q'⟩
  · obtain ⟨o', q⟩ := B.there b o e (by simp)
    obtain ⟨sl, q'⟩ := any b o' q (nC b o e)
    exact ⟨_, q'⟩
  · refine (J.hok b u e).stay (fun c v hc q => ?_) (fun _ q => q) fun _ _ q => q
    have hn : H c ≠ none := by
      rcases hc with rfl | hc
      · rw [e]; simp
      · rw [hc]; simp
    exact hB c v q (fun z => hn (J.stkFree c z)) fun z => hn (hcs c z).1
/-- .. and the exception itself, by what the library's stations say of it -/
theorem Inv.flown {B h2 : Heap} {cs : List Addr} {e : Addr} {cls a0 : Value} (hex : X.ex = []) (J : Inv X pins σ H s) (hcs : ∀ b ∈ cs, H b = none ∧ X.s₀.heap.get? b = none)
    (hB : ∀ b o, s.heap.get? b = some o → b ∉ frs X.stack → b ∉ cs → B.get? b = some o) (hF : ∀ b o, s.heap.get? b = some o → b ∈ frs X.stack → ∃ sl, h2.get? b = some { o with slots := sl })
    (he : H e = none) (he0 : X.s₀.heap.get? e = none) (kb : B.StaysIn h2) (tr : h2.TracedW B e cls a0) :
    Un X.fs [] X.H₀ H X.s₀.heap h2 ∧ HOk X.prog X.w H h2 ∧ XF X.s₀.heap h2 H e cls := by
  have hk := J.behind (h2 := h2) hex hcs (fun b o q n1 n2 => kb b o (hB b o q n1 n2)) hF
  refine ⟨hk.1, hk.2, ?_⟩
  obtain ⟨oe, vs, T, oT, ts, h1, h2', h3, h4, h5, h6, h7, h8, h9⟩ := tr
  have noT : ∀ o, s.heap.get? T = some o → T ∈ cs := fun o q => by
    by_cases hb : T ∈ frs X.stack
    · obtain ⟨o', q', nf⟩ := J.stackFields hb
      obtain ⟨sl, z⟩ := hF T o' q' hb
      rw [h7] at z
      have z' : oT = { o' with slots := sl } := Option.some.inj z
      exact absurd (by rw [← h8, z']) (nf ts)
    · by_cases hc : T ∈ cs
      · exact hc
      · rw [hB T o q hb hc] at h5; cases h5
  refine ⟨oe, vs, a0, T, oT, ts, h1, h2', h3, h4, h6, h7, h8, h9, he0, ?_, he, ?_⟩
  · cases q : X.s₀.heap.get? T with
    | none => rfl
    | some o =>
      obtain ⟨o', q'⟩ := J.there0 hex T o q
      rw [(hcs T (noT o' q')).2] at q; cases q
  · cases q : H T with
    | none => rfl
    | some u =>
      obtain ⟨o, z⟩ := (J.hok T u q).there
      rw [(hcs T (noT o z)).1] at q; cases q

/-- an exception just made leaves the frame -/
theorem leave_new {h' : Heap} {e : Addr} {cls : Value} {vs : List Value} {E : XK} {EE : Value → Shared → Prop} (hst : X.stack = X.env :: X.outer ∧ X.env.frame = some X.env.locals) (hex : X.ex = []) (J : Inv X pins σ H s) (hx : Heap.MadeExcOf s.heap h' e cls vs) (hE : E cls none H) :
    wpAny (model X.prog X.w) X.A (leaving X.env (.ref e)) (fun _ s2 => CX1 X.prog X.w X.outer X.H₀ X.s₀ E (.ref e) s2) EE { s with heap := h' } := by
  have fr : s.heap.FunFrames (PySem.W.hideAll s.heap (frs X.stack)) (X.env :: X.outer) := by
    have q := PySem.W.funFrames_hide (as := frs X.stack) J.stack fun env he a ha => List.mem_filterMap.mpr ⟨env, he, ha⟩
    rw [hst.1] at q ⊢
    exact q
  refine wpAny_leaves_madeW (s := { s with heap := h' }) (base := PySem.W.hideAll s.heap (frs X.stack)) (h := s.heap) (by rw [J.ok.frames, hst.1]) hst.2 (fun b o q => PySem.W.of_hideAll _ q) fr hx fun h2 t hfl _ _ hup => ?_
  obtain ⟨f1, f2, f3, f4⟩ := hfl
  have hF : ∀ b o, s.heap.get? b = some o → b ∈ frs X.stack → ∃ sl, h2.get? b = some { o with slots := sl } := fun b o q hb => by
    obtain ⟨o', q', nf⟩ := J.stackFields hb
    rw [q] at q'; cases q'
    exact hup b o (hx.keeps b o q) nf
  obtain ⟨r1, r2, r3⟩ := J.flown (cs := []) hex (fun b z => nomatch z) (fun b o q n _ => PySem.W.hideAll_get _ q n) hF
    (by
      cases q : H e with
      | none => rfl
      | some u =>
        obtain ⟨o, z⟩ := (J.hok e u q).there
        rw [hx.new] at z; cases z)
    (none_back (J.there0 hex) hx.new) f1 f4
  exact ⟨e, cls, H, rfl, J.os, J.bare, r1, r2, r3, hE⟩
/-- one that came from a callee leaves this frame too -/
theorem leave_on {e : Addr} {cls : Value} {E : XK} {EE : Value → Shared → Prop} (hst : X.stack = X.env :: X.outer ∧ X.env.frame = some X.env.locals) (hex : X.ex = []) (J : Inv X pins σ H s) (xf : XF X.s₀.heap s.heap H e cls) (hE : E cls none H) :
    wpAny (model X.prog X.w) X.A (leaving X.env (.ref e)) (fun _ s2 => CX1 X.prog X.w X.outer X.H₀ X.s₀ E (.ref e) s2) EE s := by
  obtain ⟨oe, vs, a0, T, oT, ts, h1, h2, h3, h4, h5, h6, h7, h8, h9, h10, h11, h12⟩ := id xf
  have fr : s.heap.FunFrames (PySem.W.hideAll s.heap (frs X.stack ++ [e, T])) (X.env :: X.outer) := by
    have q := PySem.W.funFrames_hide (as := frs X.stack ++ [e, T]) J.stack fun env he a ha => List.mem_append_left _ (List.mem_filterMap.mpr ⟨env, he, ha⟩)
    rw [hst.1] at q ⊢
    exact q
  refine wpAny_leaves_onW (base := PySem.W.hideAll s.heap (frs X.stack ++ [e, T])) (a0 := a0) (by rw [J.ok.frames, hst.1]) hst.2
    ⟨fun b o q => PySem.W.of_hideAll _ q, PySem.W.hideAll_none _ (List.mem_append_right _ (by simp)), fr, oe, vs, T, oT, ts, h1, h2, h3, h4, PySem.W.hideAll_none _ (List.mem_append_right _ (by simp)), h5, h6, h7, h8⟩ fun h2' hfl hup => ?_
  obtain ⟨f1, f2, f3, f4⟩ := hfl
  have hF : ∀ b o, s.heap.get? b = some o → b ∈ frs X.stack → ∃ sl, h2'.get? b = some { o with slots := sl } := fun b o q hb => by
    obtain ⟨o', q', nf⟩ := J.stackFields hb
    rw [q] at q'; cases q'
    exact hup b o q nf
  obtain ⟨r1, r2, r3⟩ := J.flown (cs := [e, T]) hex (fun b z => by
      have z' : b = e ∨ b = T := by simpa using z
      rcases z' with rfl | rfl
      · exact ⟨h11, h9⟩
      · exact ⟨h12, h10⟩) (fun b o q n n2 => PySem.W.hideAll_get _ q fun z => (List.mem_append.mp z).elim n n2) hF h11 h9 f1 f4
  exact ⟨e, cls, H, rfl, J.os, J.bare, r1, r2, r3, hE⟩
end

/-- an exception that a raise makes reaches what this body wants of exceptions -/
def Raises (X : Cx) (E : XK) : Prop := ∀ (pins : List (Addr × Obj)) (σ : St) (H : Hp) (s : Shared) (h' : Heap) (e : Addr) (cls : Value) (vs : List Value), Inv X pins σ H s → Heap.MadeExcOf s.heap h' e cls vs → E cls none H → X.xe (.ref e) { s with heap := h' }
section
variable {P : Program} {w : World} {K : PySem.W.Frag} {mg : Str → Option Value} {base : Heap} {N : List Str} {qual : Str} {scope : Scope} {f : Addr} {cd : Value} {A : Around} {outer : List Env} {s₀ : Shared} {H₀ : Hp} {E : XK}
theorem pass1 : Passes (CX1 P w) (cxOf (CX1 P w) P w K mg base N qual scope f cd A outer s₀ H₀ E) E := by
  intro pins σ H s ev s' I hcx
  obtain ⟨e, cls, H', rfl, os, bare, un, hok, xf, hE⟩ := hcx
  have J := I.call' (ch := []) os un hok bare (fun b z => nomatch z)
  exact leave_on (X := cxOf (CX1 P w) P w K mg base N qual scope f cd A outer s₀ H₀ E) ⟨rfl, rfl⟩ rfl J (xf.older (I.there0 rfl)) hE
theorem raises1 : Raises (cxOf (CX1 P w) P w K mg base N qual scope f cd A outer s₀ H₀ E) E := by
  intro pins σ H s h' e cls vs I hx hE
  exact leave_new (X := cxOf (CX1 P w) P w K mg base N qual scope f cd A outer s₀ H₀ E) ⟨rfl, rfl⟩ rfl I hx hE
theorem own1 : PassesOwn (model P w) (cxOf (CX1 P w) P w K mg base N qual scope f cd A outer s₀ H₀ E).A (cxOf (CX1 P w) P w K mg base N qual scope f cd A outer s₀ H₀ E).env (cxOf (CX1 P w) P w K mg base N qual scope f cd A outer s₀ H₀ E).xe := PassesOwn.leaving
end

/-! ### raise -/
abbrev bmVal : List Value := [.type "ValueError", .type "Exception", .type "BaseException", .type "object"]
abbrev newVal : String := "ValueError.__new__"
def tRaise (C : Addr) (ta : TA) (E : XK) : TS := fun _ σ H => ta σ H fun vs H1 => vs.length ≤ sizeLine ∧ E (.ref C) none H1
theorem own_cls {K : PySem.W.Frag} {h : Heap} {C : Addr} {bmB : List Value} {newId : String} (X : K.In h) (q : PySem.W.excIn K C bmB newId = true) :
    ∃ bm N nm qn bs hdct sn sub ab col dd k0 k1 k2 k3 k5 mN, h.get? C = some (excClassObj nm qn C N bs bm hdct sn sub ab col dd k0 k1 k2 k3 k5 newId) ∧ h.Ns N mN ∧ mN "__init__" = none ∧ OwnTail h bmB bm := by
  unfold PySem.W.excIn at q
  split at q
  case h_2 => cases q
  rename_i dd cd sl ho
  split at q
  case h_2 => cases q
  rename_i C' bm k0 k1 k2 k3 n k5 hm hs
  rw [Bool.and_eq_true, Bool.and_eq_true, Bool.and_eq_true, Bool.and_eq_true, Bool.and_eq_true] at q
  obtain ⟨⟨⟨⟨⟨q1, q2⟩, q3⟩, q4⟩, q5⟩, q6⟩ := q
  obtain rfl : C' = C := by simpa using q1
  obtain rfl : n = newId := by simpa using q2
  obtain ⟨nm, bs, mro, ns, qn, hd, sn, sub, ab, col, del⟩ := cd
  have hdel : del = false := by simpa using q3
  have hm' : mro = .ref C' :: bm := hm
  subst hdel hm'
  have hsl : sl = #[k0, k1, k2, k3, some (.builtin n), k5] := by
    apply Array.ext'
    exact hs
  subst hsl
  exact ⟨bm, ns, nm, qn, bs, hd, sn, sub, ab, col, dd, k0, k1, k2, k3, k5, _, X _ _ ho, .of_isNs (PySem.W.isNs_of_in X q5), PySem.W.nsMap_none_of_in X q5 (by simpa using q6), PySem.W.tail_of_in X q4⟩
section
variable {X : Cx} {x : Str} {C : Addr} {np cpos pos : Pos} {e₀ : Expr} {rest : List Expr} {ta : TA} {E : XK}
theorem ps_raise (hc : X.calm = true) (q : PySem.W.excIn X.K C bmVal newVal = true) (hr : Raises X E) (hg : Gl X x) (hm : X.mg x = some (.ref C)) (ha : PA X (e₀ :: rest) ta)
    (he : starEach (e₀ :: rest) X.env = (false, eval e₀ X.env) :: starEach rest X.env := by rfl) (hp : (backTo cpos (starEach rest X.env)).any (·.1) = false := by rfl) (hd : (x == ("__debug__" : Str)) = false := by decide) :
    PS X (.Raise (some (.Call (.Name x np) (e₀ :: rest) [] cpos)) none pos) (tRaise C ta E) := by
  intro pins s σ H D I h
  obtain ⟨tl, N, nm, qn, bs, hdct, sn, sub, ab, col, dd, k0, k1, k2, k3, k5, mN, hC, hN, hni, T⟩ := own_cls I.ok.mod.kin q
  refine wpAny_Raise_call_subT (C := C) (nm := nm) (q := qn) (N := N) (bs := bs) (bm := tl) (hdct := hdct) (sn := sn) (sub := sub) (ab := ab) (col := col) (dd := dd) (k0 := k0) (k1 := k1) (k2 := k2) (k3 := k3) (k5 := k5) (newId := newVal)
    PySem.F.excBase_ValueError (mN := mN) (T.hasType PySem.F.excBase_ValueError.hasBase) (I.ok.hd hc) (by rw [he]; exact hp) hni (ld_glob I hg hm ⟨rfl, ?_⟩ hd)
  have hA := ha cpos pins s σ H _ I h
  rw [he] at hA ⊢
  refine Calls.evalArgs_plain (thn hA fun us s2 ⟨vs, H2, I2, r2, z2, q2⟩ => ?_)
  exact ⟨rfl, by rw [← r2.length]; exact z2, I2.bk _ _ hC, hN.keeps I2.bk, T.keeps I2.bk, fun h' e hm => hr pins σ H2 s2 h' e _ _ I2 hm q2⟩
end

/-! ### texts of messages -/
/-- signs that a text may have -/
def Asc (x : Str) : Prop := ∀ c ∈ x.cps.toList, c < 128
section
variable {X : Cx} {e : Expr} {te : TE} {a : Str} {j : Nat} {p1 p2 p3 : Pos}
/-- f'.. {e!r}' -/
def tMsgR (te : TE) : TE := fun σ H Q => te σ H fun v H1 => ∃ x : Str, v = .str x ∧ x.length ≤ 100000 ∧ Asc x ∧ ∀ y : Str, Q (.str y) H1
theorem pe_msgR (he : PE X e te) (hl : a.length ≤ 1000 := by decide +kernel) : PE X (.JoinedStr [.Constant (.str a) j p1, .FormattedValue e 114 none p2] p3) (tMsgR te) := by
  intro pins s σ H Q I h
  refine wpAny_JoinedStr ?_
  show wpAny _ _ (eval (.Constant (.str a) j p1) X.env) _ _ s
  have e0 : (Str.empty ++ a).length = a.length := by rw [Str.length_append]; simp [Str.empty, Str.length]
  refine Calls.Constant_str ⟨a, _, rfl, by rw [e0]; exact small_size (by omega), ?_⟩
  show wpAny _ _ (eval (.FormattedValue e 114 none p2) X.env) _ _ _
  refine wpAny_FormattedValue_repr (thn (he pins _ σ H _ (I.tok _) h) fun v s1 ⟨x, H1, I1, r1, z, ex, hz, hA, q⟩ => ?_)
  subst ex
  obtain ⟨t, rfl⟩ := r1
  have hr : (reprText z).length ≤ 10 * z.length + 2 := StrLaws.reprText_len z fun c hc => Nat.lt_trans (hA c hc) (by decide)
  have hs : sizeLine = 16777216 := sizeLine_eq
  refine wpAny_pyReprObj_gives (typeIs_str _ z t) PySem.F.slot_str_repr PySem.F.entry_str_repr (PySem.F.args_str_repr_1 _) (gives_str_repr z t) ?_ rfl (by omega)
  have fin : ∀ (t' : Tok) (tk : Nat), ∃ y u, Value.str (reprText z) t' = Value.str y u ∧ (Str.empty ++ a ++ y).length ≤ sizeLine ∧ Joins (model X.prog X.w) X.A X.xe (evalEach [] X.env) (Str.empty ++ a ++ y) (fun out s₁ => out.length ≤ sizeLine ∧ EP X pins σ Q (.str out s₁.toks) { s₁ with toks := s₁.toks + 1 }) { s1 with toks := tk } := fun t' tk => by
    have hz2 : (Str.empty ++ a ++ reprText z).length ≤ sizeLine := by rw [Str.length_append, e0]; omega
    exact ⟨_, _, rfl, hz2, hz2, .str _, H1, I1.tok _, ⟨_, rfl⟩, q _⟩
  exact wpAny_formatField_str (fin _ _) (fin _ _) (by omega)
/-- f'{e} ..' -/
def tMsgS (te : TE) : TE := fun σ H Q => te σ H fun v H1 => ∃ x : Str, v = .str x ∧ x.length ≤ 100000 ∧ ∀ y : Str, Q (.str y) H1
end
end L2

namespace L2
open PySem PySem.Spec PyProof.Rows
structure ExC (K : PySem.W.Frag) (C : Addr) : Prop where
  ga : PySem.W.findIn K (.ref C) "__getattribute__" = some (some (.builtin "BaseException.__getattribute__"))
  gx : PySem.W.findIn K (.ref C) "__getattr__" = some none
  cl : PySem.W.findIn K (.ref C) "__class__" = some (some (.builtin "object.__class__"))
  ob : PySem.W.mroIn K C (.type "object") = some true
  be : PySem.W.mroIn K C (.type "BaseException") = some true
  ge : PySem.W.specialIn K (.builtin "object.__class__") "__get__" = some (some (.builtin "getset_descriptor.__get__"))
  tk : PySem.W.takesIn K (.builtin "object.__class__") = some true
section
variable {prog : Program} {w : World} {A : Around} {E : Value → Shared → Prop} {K : PySem.W.Frag} {e C : Addr} {s : Shared}
theorem exc_find {M : Model} {h : Heap} (X : K.In h) (c : ExC K C) : PySem.W.Looks M h (PySem.Builtin.ObjectAttr.find (.ref e) (.ref C) "__class__") (.bind (.builtin "getset_descriptor.__get__") (.builtin "object.__class__")) := by
  have l1 := PySem.W.looks_findIn (M := M) X c.cl
  have l2 : PySem.W.Looks M h (PySem.Builtin.ObjectAttr.getOf (some (.builtin "object.__class__"))) (some (.builtin "getset_descriptor.__get__")) := PySem.W.looks_specialIn X c.ge
  have l3 := PySem.W.looks_takesIn (M := M) X c.tk
  refine l1.andThen (l2.andThen ?_)
  exact (show PySem.W.Looks M h (PySem.Builtin.ObjectAttr.dataDescriptor? (some (.builtin "object.__class__")) (some (.builtin "getset_descriptor.__get__"))) (some ((.builtin "getset_descriptor.__get__"), (.builtin "object.__class__"))) from l3.andThen .now).andThen (PySem.W.Looks.tag .now)
open PySem.Builtin PySem.Builtin.Getset_descriptor in
theorem exc_get {R : Result → Shared → Prop} {tp : Value} (X : K.In s.heap) (c : ExC K C) (t0 : PySem.W.Looks (model prog w) s.heap (typeOf (.ref e)) (.ref C)) (hr : R (.ok (.ret (.ref C))) s) :
    codeAny (model prog w) A (.call (.builtin "getset_descriptor.__get__") ⟨[.builtin "object.__class__", .ref e, tp], []⟩) R s := by
  obtain ⟨hh, gs, dr, tt, os⟩ := s
  have t5 := PySem.W.looks_mroIn (M := model prog w) X c.ob
  refine codeAny_call_builtin PySem.W.KF.slot_gs.plain PySem.W.KF.entry_gs (PySem.W.KF.slot_gs.check _ _ _ _ _ _ _ _ PySem.W.KF.type_class (PySem.W.KF.args_gs _ _ _) ?_)
  unfold Builtin.«getset_descriptor.__get__» descrGet
  rw [PySem.W.dga_obj]
  refine wpAny_bind (wpAny_pure ?_)
  unfold descrGetter descrCheckInstance descrNameAndClass isInstance
  simp only [PySem.W.KF.owner_class]
  repeat lk
  refine ⟨Code.quiet_builtin _ (by decide +kernel), codeAny_builtin PySem.W.KF.entry_class ?_⟩
  unfold Builtin.«object.__class__» shownTypeOf
  repeat lk
  exact hr
theorem exc_class {Q : Option Value → Shared → Prop} (X : K.In s.heap) (c : ExC K C) (LT : ∀ M : Model, PySem.W.Looks M s.heap (typeOf (.ref e)) (.ref C)) (hq : Q (some (.ref C)) { s with toks := s.toks + 1 }) :
    wpAny (model prog w) A (getAttr? (.ref e) "__class__") Q E s := by
  obtain ⟨hh, gs, dr, tt, os⟩ := s
  have t0 := LT (model prog w)
  have t1 := PySem.W.looks_findIn (M := model prog w) X c.ga
  have t2 := PySem.W.looks_findIn (M := model prog w) X c.gx
  have t3 := PySem.W.looks_mroIn (M := model prog w) X c.be
  have t4 := exc_find (M := model prog w) (e := e) X c
  have t5 := PySem.W.looks_mroIn (M := model prog w) X c.ob
  have t6 : bindSpecial (.builtin "BaseException.__getattribute__") (.ref e) = pure (.builtin "BaseException.__getattribute__", [.ref e]) := F.excAttr_ValueError.ga.bind (.ref e)
  have b2 : (Value.builtin "BaseException.__getattribute__" == Value.builtin "object.__getattribute__") = false := by decide +kernel
  unfold getAttr? getAttrBy? getAttrBy
  refine wpAny_bind (wpAny_mkText (wpAny_bind (wpAny_attempt (wpAny_holding (wpAny_bind (t0.at (wpAny_bind (t1.at ?_))))))))
  simp only [b2, Bool.and_false, Bool.false_eq_true, if_false]
  unfold getAttrByItsOwn hookBefore
  refine wpAny_bind (t2.at ?_)
  unfold callGetattribute boundAndCalled
  simp only [Bool.false_and, Bool.false_eq_true, if_false, Option.toList, t6]
  refine wpAny_bind (wpAny_attempt (wpAny_holding (wpAny_bind (wpAny_pure (wpAny_call ?_)))))
  refine codeAny_call_builtin F.excAttr_ValueError.ga.plain F.entry_bexc_ga ?_
  have k1 : builtinKind "BaseException.__getattribute__" = some .slot := by decide +kernel
  have k2 : splitId "BaseException.__getattribute__" = some ("BaseException", "__getattribute__") := by decide +kernel
  have k3 := F.args_bexc_ga (.ref e) (.str "__class__" tt)
  simp only [checkBuiltinCall, k1, k2]
  refine wpAny_bind (?_ : wpAny _ _ (isInstance (.ref e) (.type "BaseException")) _ _ _)
  have k4 : PySem.W.Looks (model prog w) hh (isInstance (.ref e) (.type "BaseException")) true := t0.andThen t3
  refine k4.at ?_
  simp only [Bool.not_true, Bool.false_eq_true, if_false, List.cons_append, List.nil_append]
  refine wpAny_of_eq (show _ = pure () from k3) ?_
  refine wpAny_bind (wpAny_pure (wpAny_bind (wpAny_pure (wpAny_bind (t0.at (wpAny_bind (t4.at ?_)))))))
  show wpAny _ _ (holding [.builtin "object.__class__"] (call (.builtin "getset_descriptor.__get__") [.builtin "object.__class__", .ref e, .ref C]) >>= ret) _ _ _
  refine wpAny_bind (wpAny_holding (wpAny_call (exc_get X c t0 (wpAny_pure ?_))))
  exact PySem.W.handed_on rfl (wpAny_pure hq)
theorem kitx_exc {a : Addr} (c : ExC K C) (hc : (PySem.W.clsIn K C).isSome = true) : PySem.W.KitX K (.ref a) (.ref C) (fun h => ∃ o, h.get? a = some o ∧ o.cls = .ref C) where
  ty := fun M h _ p => by
    obtain ⟨o, p1, p2⟩ := p
    exact p2 ▸ (PySem.W.Looks.ld p1).andThen .now
  it := fun _ _ X _ => by
    obtain ⟨cd, z⟩ := Option.isSome_iff_exists.mp hc
    unfold PySem.W.clsIn at z
    split at z
    · rename_i y
      intro A' Q' E' s' k q
      unfold isType loadHead
      exact wpAny_bind (wpAny_loadPart (k _ _ (X _ _ y)) (wpAny_pure q))
    · cases z
  ne := fun h tp dd its n sl X p => by
    obtain ⟨cd, z⟩ := Option.isSome_iff_exists.mp hc
    refine Bool.eq_false_iff.mpr fun q => ?_
    obtain rfl : C = tp := Value.ref.inj (beq_iff_eq.mp q)
    unfold PySem.W.clsIn at z
    split at z
    · rename_i y
      cases (X _ _ y).symm.trans p
    · cases z
  ca := fun X p k => by
    obtain ⟨o, p1, p2⟩ := p
    exact exc_class X c (fun M => p2 ▸ (PySem.W.Looks.ld p1).andThen .now) k
end
end L2

namespace L2
open PySem PySem.Spec PyProof.Rows
/-! ### try, except C as n -/
section
variable {X : Cx} {pins : List (Addr × Obj)} {σ : St} {H : Hp} {s : Shared}
/-- the records at cs (an exception's) have changed, frames' slots too -/
theorem Inv.land {h2 : Heap} {cs : List Addr} (hex : X.ex = []) (I : Inv X pins σ H s) (hcs : ∀ b ∈ cs, H b = none ∧ X.s₀.heap.get? b = none) (hcp : ∀ b ∈ cs, ∀ p ∈ X.pn ++ pins, p.1 ≠ b)
    (hB : ∀ b o, s.heap.get? b = some o → b ∉ frs X.stack → b ∉ cs → h2.get? b = some o) (sm : s.heap.UpToSlots h2) : Inv X pins σ H { s with heap := h2 } := by
  have hF : ∀ b o, s.heap.get? b = some o → b ∈ frs X.stack → ∃ sl, h2.get? b = some { o with slots := sl } := fun b o q hb => by
    obtain ⟨o', q', nf⟩ := I.stackFields hb
    rw [q] at q'; cases q'
    exact sm b o q nf
  obtain ⟨r1, r2⟩ := I.behind hex hcs hB hF
  have ce : ∀ c v, s.heap.IsCell c v → h2.IsCell c v := fun c v ⟨o, ho, hd⟩ => by
    obtain ⟨sl, q⟩ := sm c o ho fun vs z => by rw [hd] at z; cases z
    exact ⟨_, q, hd⟩
  refine ⟨I.ok, I.os, I.bare, by rw [hex]; exact r1, ?_, fun x c e => ?_, I.free, I.freeC, fun p hp => ?_, r2, I.len⟩
  · obtain ⟨m, hn, hl⟩ := I.loc
    refine ⟨m, sm.ns hn, fun i x v e1 e2 e3 => ?_⟩
    obtain ⟨u, r, l⟩ := hl i x v e1 e2 e3
    refine ⟨u, r, ?_⟩
    rcases l with l | ⟨k, c, e, z⟩
    · exact .inl l
    · exact .inr ⟨k, c, e, ce c _ z⟩
  · obtain ⟨v, z⟩ := I.cell x c e
    exact ⟨v, ce c v z⟩
  · obtain ⟨e, n, ne, nf, d⟩ := I.pin p hp
    exact ⟨hB _ _ e (fun z => (List.mem_cons.mp (I.stkSub _ z)).elim ne nf) fun z => hcp _ z p hp rfl, n, ne, nf, d⟩
/-- an object that is there is tracked from here on -/
theorem Inv.track {e : Addr} {φ : Heap → Prop} (I : Inv X pins σ H s) (hn : H e = none) (h0 : X.s₀.heap.get? e = none) (hex : X.ex = []) (hL : e ≠ X.env.locals) (hc : ∀ x c, X.env.cells.lookup x = some c → c ≠ e) (hp : ∀ p ∈ X.pn ++ pins, p.1 ≠ e)
    (ok : φ s.heap ∧ (∃ o, s.heap.get? e = some o) ∧ ∀ h1 h2 : Heap, φ h1 → (∀ o, h1.get? e = some o → h2.get? e = some o) → φ h2) : Inv X pins σ (upd H e (.ext φ)) s := by
  have ne : ∀ b u, H b = some u → b ≠ e := fun b u q z => by rw [z, hn] at q; cases q
  have B := I.base
  refine ⟨I.ok, I.os, I.bare, ⟨B.keep, B.slot, fun b o q n x => ?_, B.there, fun b xs q => ?_, fun b o u q => ?_, fun b ps q => ?_⟩, I.loc, I.cell, ?_, fun x c q => ?_, fun p q => ?_, fun b u q => ?_, I.len⟩
  · rw [upd_ne fun z => by rw [z, h0] at q; cases q]; exact B.free b o q n x
  · have z := B.tups b xs q
    rw [upd_ne (ne _ _ z)]; exact z
  · have z := B.frzs b o u q
    rw [upd_ne (ne _ _ z)]; exact z
  · obtain ⟨m, z⟩ := B.tbls b ps q
    exact ⟨m, by rw [upd_ne (ne _ _ z)]; exact z⟩
  · rw [upd_ne (Ne.symm hL)]; exact I.free
  · rw [upd_ne (hc x c q)]; exact I.freeC x c q
  · obtain ⟨z1, z2, z3, z4, z5⟩ := I.pin p q
    exact ⟨z1, by rw [upd_ne (hp p q)]; exact z2, z3, z4, z5⟩
  · by_cases hb : b = e
    · subst hb
      rw [upd_same] at q; cases q
      exact ok
    · rw [upd_ne hb] at q
      exact (I.hok b u q).stay (fun c v _ z => z) (fun c z => by rw [upd_ne (ne _ _ z)]; exact z) fun c xs z => by rw [upd_ne (ne _ _ z)]; exact z
/-- a name goes -/
theorem Inv.forget {h' : Heap} {t' : Nat} {i : Nat} {n : Str} {m : Str → Option Value} {v : Option Value} (I : Inv X pins σ H s) (hN : X.N.Nodup) (hi : X.N[i]? = some n)
    (hm : s.heap.Ns X.env.locals m) (hl : ∀ (i : Nat) (x : Str) (v : V), X.N[i]? = some x → σ[i]? = some (some v) → Vis X.env.scope x → ∃ u, RelV v u ∧ Look X.env s.heap m x u)
    (hn : h'.Ns X.env.locals (fun x => if x = n then v else m x)) (hs : Heap.SameBut X.env.locals s.heap h') : Inv X pins (σ.set i none) H { s with heap := h', toks := t' } := by
  have nL : ∀ b o, X.s₀.heap.get? b = some o → b ≠ X.env.locals := fun b o e => Nat.ne_of_lt (Nat.lt_of_lt_of_le (Heap.lt_size e) I.ok.above)
  have hiσ : i < σ.length := by rw [I.len]; exact (List.getElem?_eq_some_iff.mp hi).1
  refine ⟨I.ok, I.os, I.bare, ⟨fun b o e n hb hx => (hs.2 b (nL b o e)).trans (I.base.keep b o e n hb hx), fun b o e n hb hx => ?_, I.base.free, fun b o e hx => ?_, I.base.tups, I.base.frzs, I.base.tbls⟩, ⟨_, hn, fun j y w e1 e2 e3 => ?_⟩, fun y c e => ?_, I.free, I.freeC, fun p hp => ?_, fun b u e => ?_, by simpa using I.len⟩
  · obtain ⟨sl, e1⟩ := I.base.slot b o e n hb hx
    exact ⟨sl, (hs.2 b (nL b o e)).trans e1⟩
  · obtain ⟨o', e1⟩ := I.base.there b o e hx
    exact ⟨o', (hs.2 b (nL b o e)).trans e1⟩
  · by_cases hj : j = i
    · subst hj
      rw [List.getElem?_set_self hiσ] at e2
      cases e2
    · rw [List.getElem?_set_ne (Ne.symm hj)] at e2
      obtain ⟨u, r, q⟩ := hl j y w e1 e2 e3
      refine ⟨u, r, ?_⟩
      rcases q with ⟨k, e⟩ | ⟨k, c, e, z⟩
      · have : y ≠ n := fun e => hj (nodup_ix hN e1 (e ▸ hi))
        exact .inl ⟨k, by simp [this, e]⟩
      · exact .inr ⟨k, c, e, z.sameBut hs (I.cne y c e)⟩
  · obtain ⟨w', z⟩ := I.cell y c e
    exact ⟨w', z.sameBut hs (I.cne y c e)⟩
  · obtain ⟨e, n, ne, nf, d⟩ := I.pin p hp
    exact ⟨(hs.2 p.1 ne).trans e, n, ne, nf, d⟩
  · refine (I.hok b u e).stay (fun c w' hc q => (hs.2 c ?_).trans q) (fun _ q => q) fun _ _ q => q
    rintro rfl
    rcases hc with rfl | hc
    · rw [I.free] at e; cases e
    · rw [I.free] at hc; cases hc
end
/-- what stands where an exception lies that is held by a name -/
def exO (e C : Addr) : HO := .ext fun h => ∃ o, h.get? e = some o ∧ o.cls = .ref C
/-- the context of an except suite -/
abbrev Cx.sub (X : Cx) (e : Addr) : Cx := { X with A := X.A.mark (some (.ref e)), calm := false, xe := fun _ _ => False }
section
variable {X : Cx} {pins : List (Addr × Obj)} {σ : St} {H : Hp} {s : Shared} {e : Addr}
theorem Inv.toSub (I : Inv X pins σ H s) : Inv (X.sub e) pins σ H s :=
  ⟨⟨I.ok.mod, I.ok.kind, I.ok.glob, I.ok.blt, I.ok.above, I.ok.inj, I.ok.has, I.ok.cab, (fun z => nomatch z), I.ok.frames, I.ok.stk, I.ok.exf, I.ok.bs, I.ok.bsz, I.ok.noex, I.ok.exfs, I.ok.funs, I.ok.frf⟩, I.os, I.bare, I.base, I.loc, I.cell, I.free, I.freeC, I.pin, I.hok, I.len⟩
theorem Inv.ofSub {J : Inv X pins σ H s} {σ' : St} {H' : Hp} {s' : Shared} (I : Inv (X.sub e) pins σ' H' s') : Inv X pins σ' H' s' :=
  ⟨J.ok, I.os, I.bare, I.base, I.loc, I.cell, I.free, I.freeC, I.pin, I.hok, I.len⟩
end
abbrev EXK := Value → St → Hp → Prop
/-- an exception that came from a call -/
def PX (X : Cx) (pins : List (Addr × Obj)) (EX : EXK) : Value → Shared → Prop := fun ev s' => ∃ e cls σ s1 H1 H', ev = .ref e ∧ Inv X pins σ H1 s1 ∧ Inv X pins σ H' s' ∧ XF s1.heap s'.heap H' e cls ∧ EX cls σ H'
def PEX (X : Cx) (ex : Expr) (t : EXK → TE) : Prop :=
  ∀ (pins : List (Addr × Obj)) (s : Shared) (σ : St) (H : Hp) (Q : VK) (EX : EXK), Inv X pins σ H s → t EX σ H Q → wpAny (model X.prog X.w) X.A (eval ex X.env) (EP X pins σ Q) (PX X pins EX) s
def PSX (X : Cx) (st : Stmt) (t : EXK → TS) : Prop :=
  ∀ (pins : List (Addr × Obj)) (s : Shared) (σ : St) (H : Hp) (D : Ends) (EX : EXK), Inv X pins σ H s → t EX D σ H → wpAny (model X.prog X.w) X.A (exec st X.env) (SP X pins D) (PX X pins EX) s
section
variable {X : Cx} {k : Nat} {f : Addr} {fd : FuncData} {ps : List Str} {sp : Sp} {x : Str} {p pos : Pos} {e : Expr} {es : List Expr} {t : TA}
def tCallX (sp : Sp) (ta : TA) (EX : EXK) : TE := fun σ H Q => ta σ H fun vs H1 => sp (vs ++ []) H1 Q fun cls _ H2 => EX cls σ H2
theorem pex_call (F : FnOk X.prog X.w X.K X.mg X.base (CX1 X.prog X.w) k f fd ps sp) (hr : Room k X.A) (hg : Gl X x) (hm : X.mg x = some (.ref f)) (hk : PySem.W.keepIn X.K (.ref f) = true) (hb : Binds X.K fd ps []) 
    (ha : PA X.nox (e :: es) t) (hdb : (x == ("__debug__" : Str)) = false := by decide) (he : starEach (e :: es) X.env = (false, eval e X.env) :: starEach es X.env := by rfl) (hpl : (backTo pos (starEach es X.env)).any (·.1) = false := by rfl) :
    PEX X (.Call (.Name x p) (e :: es) [] pos) (tCallX sp t) := by
  intro pins s σ H Q EX I h
  refine wpAny_Call_Name_kw (ld_glob I hg hm ?_ hdb)
  refine PySem.W.callWith_K (h₀ := X.base) I.ok.mod.kin hk (wpAny_mono (ha pos pins s σ H _ (I.wish _) h) (fun us s1 ⟨vs, H1, I1', r, q⟩ => ⟨I1'.kIn, ?_⟩) fun _ _ z => False.elim z) he hpl
  have I1 := I1'.unwish
  have r2 : Vals (vs ++ []) (us ++ []) := r.append .nil
  have hl : (us ++ []).length = ps.length := by rw [← r2.length]; exact F.len _ _ _ _ q
  refine wpAny_call (codeAny_mono (F.run X.A X.stack s1 H1 ⟨us, []⟩ (us ++ []) (vs ++ []) _ _ hr I1.env0 (hb s1 us I1.kIn hl) r2 q) fun r s' hq => ?_)
  cases r with
  | error ev =>
    obtain ⟨e, cls, H', rfl, os, bare, un, hok, xf, hE⟩ := hq
    exact ⟨e, cls, σ, s1, H1, H', rfl, I1, I1.call' (ch := []) os un hok bare (fun b z => nomatch z), xf, hE⟩
  | ok fl =>
    cases fl with
    | ret u => exact I1.after hq
    | next => exact False.elim hq
    | brk => exact False.elim hq
    | cont => exact False.elim hq
end
section
variable {X : Cx} {ex : Expr} {tx : EXK → TE} {pos p1 : Pos} {i : Nat} {y : Str}
def tDropX (tx : EXK → TE) (EX : EXK) : TS := fun D σ H => tx EX σ H fun _ H1 => D.nx σ H1
theorem psx_expr (he : PEX X ex tx) (hs : swapsWith ex none pos.line X.env = pure false := by rfl) : PSX X (.Expr ex pos) (tDropX tx) := by
  intro pins s σ H D EX I h
  exact wpAny_Expr_any (thn (he pins s σ H _ EX I h) fun v s1 ⟨x, H1, I1, r1, q1⟩ => ⟨σ, H1, I1, q1⟩) I.quiet hs
def tRetX (tx : EXK → TE) (EX : EXK) : TS := fun D σ H => tx EX σ H D.rt
def tAsgX (tx : EXK → TE) (i : Nat) (EX : EXK) : TS := fun D σ H => tx EX σ H fun v H1 => D.nx (σ.set i (some v)) H1
end
/-- all that a class must have so that its exceptions are looked at -/
structure ExK (K : PySem.W.Frag) (C : Addr) : Prop extends ExC K C where
  has : (PySem.W.clsIn K C).isSome = true
/-- the ends of an except suite: the name goes -/
def endT (i : Nat) (D : Ends) : Ends := { nx := fun σ H => D.nx (σ.set i none) H, rt := D.rt, bk := fun σ H => D.bk (σ.set i none) H, ct := fun σ H => D.ct (σ.set i none) H }
def tTry (K : PySem.W.Frag) (tb : EXK → TS) (C0 : Addr) (i : Nat) (th : TS) : TS := fun D σ H => tb (fun cls σ1 H1 => ∃ C, cls = .ref C ∧ ExK K C ∧ PySem.W.exmOne K (.ref C) (.ref C0) = some true ∧
  ∀ e, H1 e = none → th (endT i D) (σ1.set i (some (.ref e))) (upd H1 e (exO e C))) D σ H
section
variable {X : Cx} {st b₀ : Stmt} {suite : List Stmt} {tb : EXK → TS} {th : TS} {c n : Str} {C0 : Addr} {i : Nat} {np hpos pos : Pos}
theorem ps_try (hst : X.stack = X.env :: X.outer ∧ X.env.frame = some X.env.locals) (hex : X.ex = []) (hN : X.N.Nodup) (hb : PSX X st tb) (hg : Gl X c) (hm : X.mg c = some (.ref C0)) (hi : X.N[i]? = some n) (hl : X.env.scope.names.lookup n = some .local)
    (hs : ∀ e, PSs (X.sub e) (b₀ :: suite) th) (hdb : (c == ("__debug__" : Str)) = false := by decide) :
    PS X (.Try [st] [.ExceptHandler (some (.Name c np)) (some n) (b₀ :: suite) hpos] [] [] pos) (tTry X.K tb C0 i th) := by
  intro pins s σ H D I h
  refine wpAny_Try_except (wpAny_execs_cons (wpAny_mono (hb pins s σ H D _ I h) (fun f s1 q => ?_) fun ev s1 q => ?_))
  · cases f with
    | next => exact wpAny_execs_nil (wpAny_execs_nil q)
    | ret v => exact q
    | brk => exact q
    | cont => exact q
  obtain ⟨e, cls, σ1, s0, H0, H1, rfl, I0, I1, xf, C, rfl, ek, hx, hth⟩ := q
  obtain ⟨oe, vs, a0, T, oT, ts, h1, h2, h3, h4, h5, h6, h7, h8, h9, h10, h11, h12⟩ := xf
  have fr : s1.heap.FunFrames (PySem.W.hideAll s1.heap (frs X.stack ++ [e, T])) (X.env :: X.outer) := by
    have q := PySem.W.funFrames_hide (as := frs X.stack ++ [e, T]) I1.stack fun env he a ha => List.mem_append_left _ (List.mem_filterMap.mpr ⟨env, he, ha⟩)
    rw [hst.1] at q ⊢
    exact q
  have two : ∀ b ∈ [e, T], s0.heap.get? b = none ∧ H1 b = none := fun b z => by
    have z' : b = e ∨ b = T := by simpa using z
    rcases z' with rfl | rfl
    · exact ⟨h9, h11⟩
    · exact ⟨h10, h12⟩
  have hcs : ∀ b ∈ [e, T], H1 b = none ∧ X.s₀.heap.get? b = none := fun b z => ⟨(two b z).2, none_back (I0.there0 hex) (two b z).1⟩
  have hcp : ∀ b ∈ [e, T], ∀ p ∈ X.pn ++ pins, p.1 ≠ b := fun b z p hp q => by
    have := (I0.pin p hp).1
    rw [q, (two b z).1] at this; cases this
  refine wpAny_looks_onW (base := PySem.W.hideAll s1.heap (frs X.stack ++ [e, T])) (a0 := a0) (cls := .ref C) (by rw [I1.ok.frames, hst.1]) hst.2
    ⟨fun b o q => PySem.W.of_hideAll _ q, PySem.W.hideAll_none _ (List.mem_append_right _ (by simp)), fr, oe, vs, T, oT, ts, h1, h2, h3, h4, PySem.W.hideAll_none _ (List.mem_append_right _ (by simp)), h5, h6, h7, h8⟩ fun g4 held4 sm4 => ?_
  refine wpAny_landsW held4 fun g5 fly5 sm5 => ?_
  have hB : ∀ {g : Heap}, (PySem.W.hideAll s1.heap (frs X.stack ++ [e, T])).StaysIn g → ∀ b o, s1.heap.get? b = some o → b ∉ frs X.stack → b ∉ [e, T] → g.get? b = some o :=
    fun {g} k b o q n1 n2 => k b o (PySem.W.hideAll_get _ q fun z => (List.mem_append.mp z).elim n1 n2)
  have I5 : Inv X pins σ1 H1 { s1 with heap := g5 } := I1.land hex hcs hcp (hB fly5.1) (sm4.trans sm5)
  have K5 := I5.kIn
  refine wpAny_handleBy_cons (codeAny_handlers_test ?_) (by intro q; cases q)
  refine ld_glob (X := X.sub e) (I5.toSub (e := e)) hg hm ?_ hdb
  have ty5 : PySem.W.Looks (model X.prog X.w) g5 (typeOf (.ref e)) (.ref C) := by
    obtain ⟨o, p1, p2⟩ := fly5.there
    exact p2 ▸ (PySem.W.Looks.ld p1).andThen .now
  refine (PySem.W.exm_one K5 ty5 hx).here ?_
  refine codeAny_handlers_suite_as ?_
  refine lands_againW fly5 fun g6 fly6 sm6 => ?_
  have I6 : Inv X pins σ1 H1 { s1 with heap := g6 } := I1.land hex hcs hcp (hB fly6.1) ((sm4.trans sm5).trans sm6)
  have neL : e ≠ X.env.locals := fun z => by
    obtain ⟨m, ⟨o, _, _, ho, _⟩, _⟩ := I0.loc
    rw [← z, h9] at ho; cases ho
  have neC : ∀ x c, X.env.cells.lookup x = some c → c ≠ e := fun x c q z => by
    obtain ⟨v, o, ho, _⟩ := I0.cell x c q
    rw [z, h9] at ho; cases ho
  obtain ⟨o6, p6, q6⟩ := fly6.there
  have I7 : Inv X pins σ1 (upd H1 e (exO e C)) { s1 with heap := g6 } := I6.track h11 (hcs e (by simp)).2 hex neL neC (hcp e (by simp))
    ⟨⟨o6, p6, q6⟩, ⟨o6, p6⟩, fun a b ⟨o, z1, z2⟩ k => ⟨o, k o z1, z2⟩⟩
  refine store_ok (X := X) (v := .ref e) I7 hN hi (.inl hl) rfl (fun s8 I8 => ?_) (.inr hl)
  refine wpAny_mono (hs e pins s8 _ _ _ I8.toSub (hth e h11)) (fun f s9 q => ?_) fun _ _ z => False.elim z
  have hcls : (X.env.scope.kind == .class || (X.env.scope.kind == .module && X.env.locals != X.env.globals)) = false := by rw [I.ok.kind]; rfl
  have go : ∀ {σ9 : St} {H9 : Hp} {R : Shared → Prop}, Inv (X.sub e) pins σ9 H9 s9 → (∀ s', Inv X pins (σ9.set i none) H9 s' → R s') →
      wpAny (model X.prog X.w) X.A (do bindName X.env n .none; unbindBehindTheSuite X.env n hpos) (fun _ s3 => R s3) X.xe s9 := fun {σ9 H9 R} J k => by
    have J' : Inv X pins σ9 H9 s9 := Inv.ofSub (J := I) J
    obtain ⟨m, hm9, hl9⟩ := J'.loc
    exact wpAny_nameGoes_keeps (Q := fun _ s3 => R s3) hl hm9 hcls fun h' v a b => k _ (J'.forget hN hi hm9 hl9 a b)
  cases f with
  | next =>
    obtain ⟨σ9, H9, J, z⟩ := q
    exact go (R := fun s3 => SP X pins D .next s3) J fun s' J' => ⟨_, _, J', z⟩
  | brk =>
    obtain ⟨σ9, H9, J, z⟩ := q
    exact go (R := fun s3 => SP X pins D .brk s3) J fun s' J' => ⟨_, _, J', z⟩
  | cont =>
    obtain ⟨σ9, H9, J, z⟩ := q
    exact go (R := fun s3 => SP X pins D .cont s3) J fun s' J' => ⟨_, _, J', z⟩
  | ret u =>
    obtain ⟨v, σ9, H9, J, r, z⟩ := q
    exact go (R := fun s3 => SP X pins D (.ret u) s3) J fun s' J' => ⟨v, _, _, J', r, z⟩
end
end L2

namespace L2
open PySem PySem.Spec PyProof.Rows
/-! ### isinstance of an exception -/
def clsV : V → Option Value
  | .ty T => some (.type T)
  | .ref D => some (.ref D)
  | _ => none
abbrev cIsx (K : PySem.W.Frag) : RC := fun xs H Q => ∃ a C c cv b, xs = [.ref a, c] ∧ H a = some (exO a C) ∧ ExK K C ∧ clsV c = some cv ∧ PySem.W.kitOne K (.ref C) cv = some b ∧ Q (.bl b) H
abbrev cIsxT (K : PySem.W.Frag) : RC := fun xs H Q => ∃ a C p, ∃ cs : List Addr, ∃ b, xs = [.ref a, .ref p] ∧ H a = some (exO a C) ∧ ExK K C ∧ H p = some (.tup (cs.map V.ref)) ∧ PySem.W.kitAny K (.ref C) (cs.map Value.ref) = some b ∧ Q (.bl b) H
theorem vals_refs : ∀ {cs : List Addr} {us : List Value}, Vals (cs.map V.ref) us → us = cs.map Value.ref
  | [], _, .nil => rfl
  | c :: r, _, .cons h t => by rw [vals_refs t]; cases h; rfl
section
variable {X : Cx}
theorem exO_at {P : Program} {w : World} {H : Hp} {h : Heap} {a C : Addr} (k : HOk P w H h) (e : H a = some (exO a C)) : ∃ o, h.get? a = some o ∧ o.cls = .ref C := (k a _ e).1
theorem call_isx : CallR X (.builtin "isinstance") (cIsx X.K) := by
  intro pins s σ H xs us Q I r h
  obtain ⟨a, C, c, cv, b, rfl, ha, ek, hc, hk, q⟩ := h
  obtain ⟨u, w', rfl, r1, r2⟩ := vals2 r
  cases r1
  have e2 : w' = cv := by
    cases c <;> simp only [clsV, Option.some.injEq, reduceCtorEq] at hc
    · subst hc; exact r2
    · subst hc; exact r2
  subst e2
  exact PySem.W.kia_one (kitx_exc ek.toExC ek.has) I.kIn (exO_at I.hok ha) hk (fun z => nomatch z) fun tk => ⟨.bl b, H, I.tok _, rfl, q⟩
theorem call_isxT : CallR X (.builtin "isinstance") (cIsxT X.K) := by
  intro pins s σ H xs us Q I r h
  obtain ⟨a, C, p, cs, b, rfl, ha, ek, hp, hk, q⟩ := h
  obtain ⟨u, w', rfl, r1, r2⟩ := vals2 r
  cases r1
  cases r2
  obtain ⟨_, its, rv, o, o1, o2, n, o3⟩ := (show ObjOk X.prog X.w H s.heap p (.tup (cs.map V.ref)) from I.hok p _ hp)
  obtain rfl := vals_refs rv
  obtain ⟨oc, od, oda, osl⟩ := o
  obtain rfl : oc = .type "tuple" := o2
  obtain rfl : oda = .seq (cs.map Value.ref).toArray n := o3
  exact PySem.W.kia_tup (kitx_exc ek.toExC ek.has) I.kIn (exO_at I.hok ha) o1 hk (fun z => nomatch z) fun tk => ⟨.bl b, H, I.tok _, rfl, q⟩
end
/-! ### defs over CX1 -/
theorem pass10 {P : Program} {w : World} {X : Cx} : Passes (CX1 P w) X E0 := fun _ _ _ _ _ _ _ h => by
  obtain ⟨_, _, _, _, _, _, _, _, _, z⟩ := h
  exact z.elim
section
variable {P : Program} {w : World} {K : PySem.W.Frag} {mg : Str → Option Value} {base : Heap}
/-- a def that lets exceptions out -/
theorem Fun.ok1 {x qual : Str} {st : Stmt} {f : Addr} {fd : FuncData} {N ps : List Str} {k : Nat} {sp : Sp} (F : Fun K x qual st f fd) (S : FnScope N ps (defScope st)) (len : ∀ vs H Q E, sp vs H Q E → vs.length = ps.length)
    (hbody : ∀ (cdv : Value) (A : Around) (outer : List Env) (s : Shared) (H : Hp) (vs : List V) (Q : VK) (E : XK), Room k (A.deeper (envOfC qual (defScope st) s.heap.objs.size f cdv)) → sp vs H Q E →
      ∃ t, PSs (cxOf (CX1 P w) P w K mg base N qual (defScope st) f cdv A outer s H E) (defBody st) t ∧ t { nx := fun _ H' => Q .non H', rt := Q } (start N vs) H) : FnOk P w K mg base (CX1 P w) (k + 1) f fd ps sp := by
  obtain ⟨oc, od, kV, doc, pm, an, cdv, ct, osl, rfl, lk, hcd⟩ := F.ex
  exact fn_of lk hcd S len fun A outer s H vs Q E hr hsp => hbody cdv A outer s H vs Q E hr hsp
/-- a def out of which none comes -/
theorem Fun.ok0 {x qual : Str} {st : Stmt} {f : Addr} {fd : FuncData} {N ps : List Str} {k : Nat} {sp : Sp} (F : Fun K x qual st f fd) (S : FnScope N ps (defScope st)) (len : ∀ vs H Q E, sp vs H Q E → vs.length = ps.length)
    (hbody : ∀ (cdv : Value) (A : Around) (outer : List Env) (s : Shared) (H : Hp) (vs : List V) (Q : VK) (E : XK), Room k (A.deeper (envOfC qual (defScope st) s.heap.objs.size f cdv)) → sp vs H Q E →
      ∃ t, PSs (cxOf (CX1 P w) P w K mg base N qual (defScope st) f cdv A outer s H E).nox (defBody st) t ∧ t { nx := fun _ H' => Q .non H', rt := Q } (start N vs) H) : FnOk P w K mg base (CX1 P w) (k + 1) f fd ps sp :=
  F.ok1 S len fun cdv A outer s H vs Q E hr h => let ⟨t, a, b⟩ := hbody cdv A outer s H vs Q E hr h; ⟨t, a.nox, b⟩
end
theorem walk_ofX {l : PySem.W.OpenLaw} {n k : Nat} {q : Program} {loose : List Str} {XP : (Str → Option Value) → Heap → Prop} {YP : World → Heap → Prop} {d : DefRec} {K : Params → PySem.W.Frag} {sp : PySem.W.Frag → Sp} {x : Str}
    (hn : l.most = some n) (hn2 : n ≤ sizeLine) (hdf : d.params.defaults = []) (hr : Room k callerA)
    (hY : ∀ (w : World) (h : Heap), YP w h → (K w.params).In h)
    (F : ∀ (w : World) (mg : Str → Option Value) (fa : Addr) (h : Heap), (K w.params).In h → h.Ns mainGlobals mg → mg d.name = some (.ref fa) →
      ∃ fd : FuncData, (∀ (s : Shared) (u : Value), BindsTo s fd ⟨[u], []⟩ [(x, u)]) ∧
        ∀ base : Heap, (K w.params).In base → base.Ns mainGlobals mg → FnOk l.prog w (K w.params) mg base (CX1 l.prog w) k fa fd [x] (sp (K w.params)))
    (hsp : ∀ (K : PySem.W.Frag) (H : Hp) (a : Addr) (ns : List Int), ns.length ≤ n → Only H → SqL K H a (ns.map V.int) → sp K [.ref a] H (fun v _ => v = .bl true) fun _ _ _ => False) :
    PySem.W.WalkO q loose XP YP l.row.toRowW d [] (fun f vs => PySem.call f vs) :=
  walk_of (K := K) (CX := fun w => CX1 l.prog w) (sp := fun w => sp (K w.params)) hn hn2 hdf hr hY F (fun w H a ns h1 h2 h3 => hsp (K w.params) H a ns h1 h2 h3) fun _ _ _ _ _ z => by
    obtain ⟨_, _, _, _, _, _, _, _, _, y⟩ := z
    exact y
end L2

namespace L2
open PySem
/-! ### loops, as they stand behind the unfolding of their readings -/
section
variable {σ : St} {H : Hp} {nx : St → Hp → Prop} {B : V → St → Hp → (St → Hp → Prop) → Prop}
theorem loop_range {lo : Int} {n : Nat} (Pv : Nat → St → Hp → Prop) (h0 : Pv 0 σ H) (hs : ∀ i σ H, i < n → Pv i σ H → B (.int (lo + i)) σ H (Pv (i + 1))) (hd : ∀ σ H, Pv n σ H → nx σ H) :
    ∃ W : Nat → Nat → St → Hp → Prop, (∃ m, W 0 m σ H) ∧ ∀ i m σ H, W i m σ H → ((Itr lo n).stop i H ∧ nx σ H) ∨ ((Itr lo n).go i H ∧ ∃ N : St → Hp → Prop, (∀ σ' H', N σ' H' → ∃ m', m' < m ∧ W (i + 1) m' σ' H') ∧ ∀ x H', (Itr lo n).yld i H x H' → B x σ H' N) := by
  refine ⟨fun i m σ H => m = n - i ∧ i ≤ n ∧ Pv i σ H, ⟨n, by simp, Nat.zero_le _, h0⟩, ?_⟩
  rintro i m σ H ⟨rfl, hi, p⟩
  by_cases hlt : i < n
  · refine .inr ⟨hlt, Pv (i + 1), fun σ' H' p' => ⟨n - (i + 1), by omega, rfl, hlt, p'⟩, ?_⟩
    rintro x H' ⟨rfl, rfl⟩
    exact hs i σ _ hlt p
  · obtain rfl : i = n := by omega
    exact .inl ⟨Nat.le_refl _, hd σ H p⟩
theorem loop_list {K : PySem.W.Frag} {a : Addr} (xs : List V) (Pv : Nat → St → Hp → Prop) (h0 : Pv 0 σ H) (hl : ∀ i σ H, Pv i σ H → SqL K H a xs) (hs : ∀ i x σ H, xs[i]? = some x → Pv i σ H → B x σ H (Pv (i + 1))) (hd : ∀ σ H, Pv xs.length σ H → nx σ H) :
    ∃ W : Nat → Nat → St → Hp → Prop, (∃ m, W 0 m σ H) ∧ ∀ i m σ H, W i m σ H → ((Itl K a).stop i H ∧ nx σ H) ∨ ((Itl K a).go i H ∧ ∃ N : St → Hp → Prop, (∀ σ' H', N σ' H' → ∃ m', m' < m ∧ W (i + 1) m' σ' H') ∧ ∀ x H', (Itl K a).yld i H x H' → B x σ H' N) := by
  refine ⟨fun i m σ H => m = xs.length - i ∧ i ≤ xs.length ∧ Pv i σ H, ⟨xs.length, by simp, Nat.zero_le _, h0⟩, ?_⟩
  rintro i m σ H ⟨rfl, hi, p⟩
  have q := hl i σ H p
  by_cases hlt : i < xs.length
  · refine .inr ⟨⟨xs, xs[i], q, by simp [hlt]⟩, Pv (i + 1), fun σ' H' p' => ⟨xs.length - (i + 1), by omega, rfl, hlt, p'⟩, ?_⟩
    rintro x H' ⟨rfl, y⟩
    exact hs i x σ _ (y xs q) p
  · obtain rfl : i = xs.length := by omega
    exact .inl ⟨⟨xs, q, Nat.le_refl _⟩, hd σ H p⟩
theorem loop_tup {K : PySem.W.Frag} {a : Addr} (xs : List V) (Pv : Nat → St → Hp → Prop) (h0 : Pv 0 σ H) (hl : ∀ i σ H, Pv i σ H → SqT K H a xs) (hs : ∀ i x σ H, xs[i]? = some x → Pv i σ H → B x σ H (Pv (i + 1))) (hd : ∀ σ H, Pv xs.length σ H → nx σ H) :
    ∃ W : Nat → Nat → St → Hp → Prop, (∃ m, W 0 m σ H) ∧ ∀ i m σ H, W i m σ H → ((Itt K a).stop i H ∧ nx σ H) ∨ ((Itt K a).go i H ∧ ∃ N : St → Hp → Prop, (∀ σ' H', N σ' H' → ∃ m', m' < m ∧ W (i + 1) m' σ' H') ∧ ∀ x H', (Itt K a).yld i H x H' → B x σ H' N) := by
  refine ⟨fun i m σ H => m = xs.length - i ∧ i ≤ xs.length ∧ Pv i σ H, ⟨xs.length, by simp, Nat.zero_le _, h0⟩, ?_⟩
  rintro i m σ H ⟨rfl, hi, p⟩
  have q := hl i σ H p
  by_cases hlt : i < xs.length
  · refine .inr ⟨⟨xs, xs[i], q, by simp [hlt]⟩, Pv (i + 1), fun σ' H' p' => ⟨xs.length - (i + 1), by omega, rfl, hlt, p'⟩, ?_⟩
    rintro x H' ⟨rfl, y⟩
    exact hs i x σ _ (y xs q) p
  · obtain rfl : i = xs.length := by omega
    exact .inl ⟨⟨xs, q, Nat.le_refl _⟩, hd σ H p⟩
theorem loop_str {z : Str} (Pv : Nat → St → Hp → Prop) (h0 : Pv 0 σ H) (hs : ∀ i c σ H, z.cps[i]? = some c → Pv i σ H → B (.str ⟨#[c]⟩) σ H (Pv (i + 1))) (hd : ∀ σ H, Pv z.cps.size σ H → nx σ H) :
    ∃ W : Nat → Nat → St → Hp → Prop, (∃ m, W 0 m σ H) ∧ ∀ i m σ H, W i m σ H → ((Its z).stop i H ∧ nx σ H) ∨ ((Its z).go i H ∧ ∃ N : St → Hp → Prop, (∀ σ' H', N σ' H' → ∃ m', m' < m ∧ W (i + 1) m' σ' H') ∧ ∀ x H', (Its z).yld i H x H' → B x σ H' N) := by
  refine ⟨fun i m σ H => m = z.cps.size - i ∧ i ≤ z.cps.size ∧ Pv i σ H, ⟨z.cps.size, by simp, Nat.zero_le _, h0⟩, ?_⟩
  rintro i m σ H ⟨rfl, hi, p⟩
  by_cases hlt : i < z.cps.size
  · refine .inr ⟨hlt, Pv (i + 1), fun σ' H' p' => ⟨z.cps.size - (i + 1), by omega, rfl, hlt, p'⟩, ?_⟩
    rintro x H' ⟨rfl, c, hc, rfl⟩
    exact hs i c σ _ hc p
  · obtain rfl : i = z.cps.size := by omega
    exact .inl ⟨Nat.le_refl _, hd σ H p⟩
end
/-- a comprehension over anything that yields n items, the i-th with G i; each turn tells a value with R i, and leaves what is tracked; no test -/
theorem comp_gen {J : It} {D : Addr} {τ₀ : St} {H1 : Hp} {Q : Hp → Prop} {B : V → St → Hp → (V → St → Hp → Prop) → (St → Hp → Prop) → Prop} (n : Nat) (hn : n ≤ 1000000) (C : St → Prop) (R : Nat → V → Prop) (hC : C τ₀)
    (go : ∀ i H, Same H1 H → i < n → J.go i H) (stop : ∀ H, Same H1 H → J.stop n H) (hD : H1 D = none)
    (hs : ∀ i x τ H H', C τ → Same H1 H → i < n → J.yld i H x H' → B x τ H' (fun v τ' H4 => C τ' ∧ R i v ∧ Same H H4) (fun _ _ => False))
    (hd : ∀ ys H, ys.length = n → (∀ i v, ys[i]? = some v → R i v) → Same H1 H → H D = some (.lst ys) → Q H) :
    ∃ W : Nat → Nat → List V → St → Hp → Prop, (∃ m, W 0 m [] τ₀ (upd H1 D (.lst []))) ∧ ∀ i m ys τ H, W i m ys τ H → H D = some (.lst ys) ∧
    ((J.stop i H ∧ Q H) ∨ (J.go i H ∧ ys.length < sizeLine ∧ ∃ N : V → St → Hp → Prop,
      (∀ v τ' H', N v τ' H' → H' D = some (.lst ys) ∧ ∃ m', m' < m ∧ W (i + 1) m' (ys ++ [v]) τ' (upd H' D (.lst (ys ++ [v])))) ∧ ∃ Nf : St → Hp → Prop, (∀ τ' H', Nf τ' H' → ∃ m', m' < m ∧ W (i + 1) m' ys τ' H') ∧
      ∀ x H', J.yld i H x H' → B x τ H' N Nf)) := by
  have ext : ∀ {H : Hp} {o : HO}, Same H1 H → Same H1 (upd H D o) := fun {H o} h b u e => by
    rw [upd_ne (ne_of_none e hD)]; exact h b u e
  refine ⟨fun i m ys τ H => m = n - i ∧ i ≤ n ∧ ys.length = i ∧ (∀ j v, ys[j]? = some v → R j v) ∧ Same H1 H ∧ H D = some (.lst ys) ∧ C τ, ⟨n, by simp, Nat.zero_le _, rfl, by simp, ext (Same.refl _), upd_same, hC⟩, ?_⟩
  rintro i m ys τ H ⟨rfl, hi, hl, hR, hS, hy, hc⟩
  refine ⟨hy, ?_⟩
  by_cases hlt : i < n
  · refine .inr ⟨go i H hS hlt, Nat.lt_of_le_of_lt (by omega : ys.length ≤ 1000000) (by decide), (fun v τ' H4 => C τ' ∧ R i v ∧ Same H H4), ?_, (fun _ _ => False), fun _ _ z => z.elim, fun x H' y => hs i x τ H H' hc hS hlt y⟩
    rintro v τ' H4 ⟨c4, r4, s4⟩
    refine ⟨s4 _ _ hy, n - (i + 1), by omega, rfl, hlt, by simp [hl], fun j u hj => ?_, ext (hS.trans s4), upd_same, c4⟩
    rcases Nat.lt_trichotomy j ys.length with h | h | h
    · exact hR j u (by rwa [List.getElem?_append_left h] at hj)
    · subst h
      simp at hj
      subst hj
      rw [hl]; exact r4
    · rw [List.getElem?_eq_none (by simp; omega)] at hj; cases hj
  · obtain rfl : i = n := by omega
    exact .inl ⟨stop H hS, hd ys H hl hR hS hy⟩
/-! ### texts as lists of codes -/
theorem sIx_eq (n d : Nat) (v : Int) : max (0 : Int) (min (if v < 0 then v + n else v) n) = ((HT.sIx n d (some v) : Nat) : Int) := by
  show _ = (((if v < 0 then (v + (n : Int)).toNat else min v.toNat n) : Nat) : Int)
  by_cases hv : v < 0
  · simp only [if_pos hv]; omega
  · simp only [if_neg hv]; omega
theorem rng_one (a b : Nat) : sliceRange (a : Int) (b : Int) 1 = (List.range (b - a)).map fun k => a + k := by
  simp only [sliceRange, show ((1 : Int) > 0) = True from by simp, if_true]
  by_cases hlt : (a : Int) < b
  · have e3 : (((b : Int) - a + 1 - 1) / 1).toNat = b - a := by rw [Int.ediv_one]; omega
    simp only [hlt, if_true, e3]
    refine List.map_congr_left fun k _ => ?_
    omega
  · have : b - a = 0 := by omega
    simp [hlt, this]
theorem slice_ix (lo hi : Option Int) (n : Nat) : Builtin.Str.strSliceIndices lo hi 1 n = (List.range (HT.sIx n n hi - HT.sIx n 0 lo)).map fun k => HT.sIx n 0 lo + k := by
  rw [← rng_one]
  unfold Builtin.Str.strSliceIndices
  simp only [show ((1 : Int) > 0) = True from by simp, if_true]
  cases lo with
  | none =>
    cases hi with
    | none => rfl
    | some v => simp only [sIx_eq n n v]; rfl
  | some u =>
    cases hi with
    | none => simp only [sIx_eq n 0 u]; rfl
    | some v => simp only [sIx_eq n n v, sIx_eq n 0 u]
theorem slice_cps (x : Str) (lo hi : Option Int) : (Txt.slice x lo hi).cps.toList = (x.cps.toList.drop (HT.sIx x.length 0 lo)).take (HT.sIx x.length x.length hi - HT.sIx x.length 0 lo) := by
  have hb := HT.sIx_le x.length x.length (Nat.le_refl _) hi
  have hn : x.cps.toList.length = x.length := by simp [Str.length]
  unfold Txt.slice
  rw [slice_ix]
  split
  · rename_i h
    have h' : HT.sIx x.length x.length hi - HT.sIx x.length 0 lo = x.length := by simpa using h
    have e0 : HT.sIx x.length 0 lo = 0 ∨ x.length = 0 := by omega
    rcases e0 with e0 | e0
    · rw [e0, List.drop_zero, List.take_of_length_le]
      omega
    · rw [List.eq_nil_of_length_eq_zero (by omega : x.cps.toList.length = 0)]; simp
  · by_cases hab : HT.sIx x.length 0 lo ≤ HT.sIx x.length x.length hi
    · have h := StrLaws.picks x.cps.toList (HT.sIx x.length x.length hi - HT.sIx x.length 0 lo) (HT.sIx x.length 0 lo) (by omega)
      simpa using h
    · have : HT.sIx x.length x.length hi - HT.sIx x.length 0 lo = 0 := by omega
      rw [this]; simp
theorem slice_from (x : Str) (k : Nat) : (Txt.slice x (some (k : Int)) none).cps.toList = x.cps.toList.drop k := by
  rw [slice_cps, HT.sIx_none, HT.sIx_nat]
  have hn : x.cps.toList.length = x.length := by simp [Str.length]
  by_cases h : k ≤ x.length
  · rw [Nat.min_eq_left h, List.take_of_length_le (by rw [List.length_drop]; omega)]
  · rw [List.drop_eq_nil_of_le (by omega : x.cps.toList.length ≤ k), Nat.min_eq_right (by omega), List.drop_eq_nil_of_le (by omega)]; simp
theorem slice_to (x : Str) (k : Nat) : (Txt.slice x none (some (k : Int))).cps.toList = x.cps.toList.take k := by
  rw [slice_cps, HT.sIx_none, HT.sIx_nat, List.drop_zero, Nat.sub_zero]
  have hn : x.cps.toList.length = x.length := by simp [Str.length]
  by_cases h : k ≤ x.length
  · rw [Nat.min_eq_left h]
  · rw [Nat.min_eq_right (by omega), List.take_of_length_le (by omega), List.take_of_length_le (by omega)]
theorem str_ext {x y : Str} (h : x.cps.toList = y.cps.toList) : x = y := by
  obtain ⟨a⟩ := x
  obtain ⟨b⟩ := y
  have : a = b := Array.toList_inj.mp h
  rw [this]
theorem cps_app (x y : Str) : (x ++ y).cps.toList = x.cps.toList ++ y.cps.toList := by
  show (x.cps ++ y.cps).toList = _
  simp
theorem starts_eq (x y : Str) : (0 + y.length ≤ x.length && Builtin.Str.subAt x y 0) = (x.cps.toList.take y.length == y.cps.toList) := by
  rw [StrLaws.subAt_eq, List.drop_zero]
  have hn : x.cps.toList.length = x.length := by simp [Str.length]
  have hm : y.cps.toList.length = y.length := by simp [Str.length]
  by_cases h : y.length ≤ x.length
  · simp [h]
  · have e : (x.cps.toList.take y.length == y.cps.toList) = false := by
      rw [beq_eq_false_iff_ne]
      intro e
      have := congrArg List.length e
      rw [List.length_take] at this
      omega
    rw [e]; simp
/-! ### numerals -/
open PySem.NumText in
section
def numS (w : Int) : Str := Str.ofString (toString w)
def dg (m : Nat) : List Nat := (Nat.toDigits 10 m).map Char.toNat
theorem dg_small {m : Nat} (h : m < 10) : dg m = [48 + m] := by
  unfold dg
  rw [Nat.toDigits_of_lt_base h]
  have : ∀ d : Nat, d < 10 → (Nat.digitChar d).toNat = 48 + d := by decide
  simp [this m h]
theorem dg_step {m : Nat} (h : 10 ≤ m) : dg m = dg (m / 10) ++ [48 + m % 10] := by
  have hm : m % 10 < 10 := Nat.mod_lt m (by decide)
  have t : Nat.toDigits 10 (m / 10) ++ Nat.toDigits 10 (m % 10) = Nat.toDigits 10 (10 * (m / 10) + m % 10) := Nat.toDigits_append_toDigits (by decide) (by omega) hm
  rw [Nat.div_add_mod] at t
  rw [← dg_small hm]
  unfold dg
  rw [← t, List.map_append]
theorem dg_all (m : Nat) : AllDigits (dg m) := by
  induction m using Nat.strongRecOn with
  | _ m ih =>
    by_cases h : m < 10
    · rw [dg_small h]
      intro c hc
      have e : c = 48 + m := by simpa using hc
      omega
    · rw [dg_step (by omega)]
      intro c hc
      rcases List.mem_append.mp hc with hc | hc
      · exact ih (m / 10) (by omega) c hc
      · have e : c = 48 + m % 10 := by simpa using hc
        omega
theorem dg_ne (m : Nat) : dg m ≠ [] := by
  by_cases h : m < 10
  · rw [dg_small h]; simp
  · rw [dg_step (by omega)]; simp
theorem dg_val (m : Nat) : digitsVal (dg m) = m := by
  induction m using Nat.strongRecOn with
  | _ m ih =>
    by_cases h : m < 10
    · rw [dg_small h]
      show 0 * 10 + (48 + m - 48) = m
      omega
    · rw [dg_step (by omega), digitsVal_snoc, ih (m / 10) (by omega)]
      omega
theorem dg_len : ∀ (k m : Nat), m < 10 ^ (k + 1) → (dg m).length ≤ k + 1
  | 0, m, h => by rw [dg_small (by simpa using h)]; simp
  | k + 1, m, h => by
    by_cases hm : m < 10
    · rw [dg_small hm]; simp
    · rw [dg_step (by omega), List.length_append]
      have := dg_len k (m / 10) (by rw [Nat.pow_succ] at h; omega)
      simp only [List.length_cons, List.length_nil]
      omega
theorem numS_nat (m : Nat) : (numS (m : Int)).cps.toList = dg m := by
  unfold numS
  rw [Str.ofString_eq_toList]
  show (Nat.repr m).toList.map Char.toNat = _
  rw [Nat.toList_repr]
  rfl
theorem numS_neg {m : Nat} (h : 0 < m) : (numS (-(m : Int))).cps.toList = 45 :: dg m := by
  obtain ⟨k, rfl⟩ : ∃ k, m = k + 1 := ⟨m - 1, by omega⟩
  have e : (-((k + 1 : Nat) : Int)) = Int.negSucc k := by omega
  rw [e]
  unfold numS
  rw [Str.ofString_eq_toList]
  show (("-" ++ Nat.repr (k + 1)) : String).toList.map Char.toNat = _
  rw [String.toList_append, List.map_append, Nat.toList_repr]
  rfl
theorem len_cps (x : Str) : x.length = x.cps.toList.length := by simp [Str.length]
theorem numS_len {w : Int} {k : Nat} (h : w.natAbs < 10 ^ (k + 1)) : (numS w).length ≤ k + 2 := by
  rw [len_cps]
  rcases Int.lt_or_le w 0 with h0 | h0
  · obtain ⟨m, rfl, hm⟩ : ∃ m : Nat, w = -(m : Int) ∧ 0 < m := ⟨w.natAbs, by omega, by omega⟩
    rw [numS_neg hm, List.length_cons]
    have := dg_len k m (by omega)
    omega
  · obtain ⟨m, rfl⟩ : ∃ m : Nat, w = (m : Int) := ⟨w.natAbs, by omega⟩
    rw [numS_nat]
    have := dg_len k m (by omega)
    omega
theorem numS_reads {w : Int} (h : w.natAbs < 10 ^ 100) : intText? (numS w) = some w := by
  have hl : (numS w).length ≤ 4300 := Nat.le_trans (numS_len (k := 99) h) (by decide)
  rcases Int.lt_or_le w 0 with h0 | h0
  · obtain ⟨m, rfl, hm⟩ : ∃ m : Nat, w = -(m : Int) ∧ 0 < m := ⟨w.natAbs, by omega, by omega⟩
    rw [intText_neg (numS_neg hm) (dg_all m) (dg_ne m) hl, dg_val]
  · obtain ⟨m, rfl⟩ : ∃ m : Nat, w = (m : Int) := ⟨w.natAbs, by omega⟩
    rw [intText_digits (by rw [numS_nat]; exact dg_all m) (by rw [numS_nat]; exact dg_ne m) hl, numS_nat, dg_val]
/-- the signs 0 to 9 -/
def inF (c : Nat) : Bool := !(Builtin.Str.occurrences "0123456789" ⟨#[c]⟩ 0 (Str.length "0123456789") 1).isEmpty
theorem inF_iff (c : Nat) : inF c = true ↔ 48 ≤ c ∧ c ≤ 57 := by
  unfold inF
  rw [StrLaws.found_one]
  have e : (Str.ofString "0123456789").cps.toList = [48, 49, 50, 51, 52, 53, 54, 55, 56, 57] := by decide +kernel
  rw [e]
  simp only [decide_eq_true_eq, List.mem_cons, List.not_mem_nil, or_false]
  omega
theorem inF_def (c : Nat) : (!(Builtin.Str.occurrences (Str.ofString "0123456789") ⟨#[c]⟩ 0 (Str.ofString "0123456789").length 1).isEmpty) = inF c := rfl
def isFig (x : Str) : Bool := !decide (x = "") && x.cps.toList.all inF
theorem isFig_iff (x : Str) : isFig x = true ↔ x.cps.toList ≠ [] ∧ AllDigits x.cps.toList := by
  unfold isFig
  rw [Bool.and_eq_true, Bool.not_eq_true', decide_eq_false_iff_not, List.all_eq_true]
  refine and_congr ⟨fun h e => h (str_ext (by rw [e]; decide +kernel)), fun h e => h (by rw [e]; decide +kernel)⟩ ?_
  exact forall_congr' fun c => forall_congr' fun _ => inF_iff c
def inW (i : Int) : Bool := decide (-1000000000000000000000000000000 ≤ i ∧ i ≤ 1000000000000000000000000000000)
/-- the text without its minus -/
def fpart (x : Str) : Str := if (x.cps.toList.take 1 == [45]) = true then Txt.slice x (some 1) none else x
theorem fpart_cps (x : Str) : (∃ cs, x.cps.toList = 45 :: cs ∧ (fpart x).cps.toList = cs) ∨ ((∀ cs, x.cps.toList ≠ 45 :: cs) ∧ fpart x = x) := by
  unfold fpart
  cases h : x.cps.toList with
  | nil => exact .inr ⟨(fun cs e => nomatch e), if_neg (by simp)⟩
  | cons c cs =>
    by_cases hc : c = 45
    · subst hc
      refine .inl ⟨cs, rfl, ?_⟩
      rw [if_pos (by simp)]
      have := slice_from x 1
      rw [h] at this
      exact this
    · refine .inr ⟨fun ds e => hc (List.cons.inj e).1, ?_⟩
      rw [if_neg (by simp [hc])]
def valOf (x : Str) : Int := (intText? x).getD 0
theorem int_of_fig {x : Str} (h : isFig (fpart x) = true) (hl : x.length ≤ 4300) : intText? x = some (valOf x) := by
  obtain ⟨h1, h2⟩ := (isFig_iff _).mp h
  unfold valOf
  rcases fpart_cps x with ⟨cs, e, ef⟩ | ⟨_, ef⟩
  · rw [ef] at h1 h2
    rw [intText_neg e h2 h1 hl]; rfl
  · rw [ef] at h1 h2
    rw [intText_digits h2 h1 hl]; rfl
def isNum (x : Str) : Bool := !(decide (31 < (fpart x).length) || !isFig (fpart x)) && (inW (valOf x) && decide (numS (valOf x) = x))
theorem fpart_len (x : Str) : x.length ≤ (fpart x).length + 1 := by
  rw [len_cps, len_cps]
  rcases fpart_cps x with ⟨cs, e, ef⟩ | ⟨_, ef⟩
  · rw [e, ef]; simp
  · rw [ef]; omega
theorem fpart_le (x : Str) : (fpart x).length ≤ x.length := by
  unfold fpart
  split
  · exact Txt.slice_le x _ _
  · exact Nat.le_refl _
theorem isNum_numS {w : Int} (h : inW w = true) : isNum (numS w) = true ∧ valOf (numS w) = w ∧ (numS w).length ≤ 40 := by
  have hw : -1000000000000000000000000000000 ≤ w ∧ w ≤ 1000000000000000000000000000000 := of_decide_eq_true h
  have hr := numS_reads (w := w) (Nat.lt_of_le_of_lt (by omega : w.natAbs ≤ 1000000000000000000000000000000) (by decide +kernel))
  have hv : valOf (numS w) = w := by unfold valOf; rw [hr]; rfl
  have hf : (fpart (numS w)).length ≤ 31 ∧ isFig (fpart (numS w)) = true := by
    rw [isFig_iff, len_cps]
    rcases Int.lt_or_le w 0 with h0 | h0
    · obtain ⟨m, rfl, hm⟩ : ∃ m : Nat, w = -(m : Int) ∧ 0 < m := ⟨w.natAbs, by omega, by omega⟩
      rcases fpart_cps (numS (-(m : Int))) with ⟨cs, e, ef⟩ | ⟨e, _⟩
      · rw [numS_neg hm] at e
        rw [ef, ← (List.cons.inj e).2]
        exact ⟨dg_len 30 m (by omega), dg_ne m, dg_all m⟩
      · exact absurd (numS_neg hm) (e _)
    · obtain ⟨m, rfl⟩ : ∃ m : Nat, w = (m : Int) := ⟨w.natAbs, by omega⟩
      rcases fpart_cps (numS (m : Int)) with ⟨cs, e, ef⟩ | ⟨_, ef⟩
      · have := dg_all m 45 (by rw [← numS_nat, e]; simp)
        omega
      · rw [ef, numS_nat]
        exact ⟨dg_len 30 m (by omega), dg_ne m, dg_all m⟩
  refine ⟨?_, hv, Nat.le_trans (fpart_len _) (by omega)⟩
  unfold isNum
  rw [hv, hf.2, h, decide_eq_false (by omega : ¬ 31 < (fpart (numS w)).length), decide_eq_true rfl]
  rfl
end
end L2

namespace L2
open PySem PySem.Spec PyProof.Rows
/-! ### more of texts -/
/-- where y lies in x -/
def findS (x y : Str) : Int := match Builtin.Str.occurrences x y 0 x.length 1 with | i :: _ => (i : Int) | [] => -1
abbrev r_mt_find : RM := fun x xs H Q => ∃ a b, x = .str a ∧ xs = [.str b] ∧ Q (.int (findS a b)) H
def joinS (sep : Str) : List Str → Str
  | [p] => p
  | l => Builtin.Str.glued sep l
def sumL (sep : Str) (ls : List Str) : Nat := ls.foldl (fun n p => n + p.length + sep.length) 0
abbrev r_mt_join (K : PySem.W.Frag) : RM := fun x xs H Q => ∃ sep a ls, x = .str sep ∧ xs = [.ref a] ∧ SqL K H a (ls.map V.str) ∧ sumL sep ls ≤ sizeLine ∧ Q (.str (joinS sep ls)) H
/-- x * n -/
def repS (x : Str) (n : Int) : Str := if n < 1 then Str.empty else if (n == 1 || x.length == 0) = true then x else ⟨(List.replicate n.toNat x.cps).foldl (· ++ ·) #[]⟩
abbrev rMulS : R2 := fun x y H Q => ∃ a n, x = .str a ∧ y = .int n ∧ (n < 1000000 ∧ -1000000 < n ∧ a.length * n.toNat ≤ 1000000) ∧ Q (.str (repS a n)) H
theorem rep_cps (a : Array Nat) : ∀ (k : Nat) (b : Array Nat), ((List.replicate k a).foldl (· ++ ·) b).toList = b.toList ++ (List.replicate k a.toList).flatten
  | 0, b => by simp
  | k + 1, b => by
    rw [List.replicate_succ, List.foldl_cons, rep_cps a k, List.replicate_succ]
    simp
theorem repS_cps (x : Str) (n : Int) : (repS x n).cps.toList = (List.replicate n.toNat x.cps.toList).flatten := by
  unfold repS
  split
  · have : n.toNat = 0 := by omega
    rw [this]; rfl
  · split
    · rename_i h1 h2
      rw [Bool.or_eq_true, beq_iff_eq, beq_iff_eq] at h2
      rcases h2 with rfl | h2
      · simp
      · have e : x.cps.toList = [] := List.eq_nil_of_length_eq_zero (by rw [← h2]; simp [Str.length])
        rw [e]
        simp
    · rw [rep_cps]; simp
theorem flat_len {α : Type} (a : List α) : ∀ k : Nat, (List.replicate k a).flatten.length = a.length * k
  | 0 => by simp
  | k + 1 => by rw [List.replicate_succ, List.flatten_cons, List.length_append, flat_len a k, Nat.mul_succ]; omega
theorem repS_len (x : Str) (n : Int) : (repS x n).length = x.length * n.toNat := by
  have e : ∀ y : Str, y.length = y.cps.toList.length := fun y => by simp [Str.length]
  rw [e, repS_cps, flat_len, ← e]
section
variable {X : Cx}
theorem op_mul_str : OpR X (binaryOp .Mult) rMulS := by
  intro pins s σ H x y v u Q I rx ry h
  obtain ⟨a, n, rfl, rfl, ⟨h1, h2, h3⟩, q⟩ := h
  obtain ⟨t, rfl⟩ := rx
  obtain ⟨t', rfl⟩ := ry
  have hs : sizeLine = 16777216 := sizeLine_eq
  have ln := repS_len a n
  refine P.mul_str (by rw [decide_eq_false (by omega), decide_eq_false (by omega)]; rfl) (fun c1 c2 => ?_) (fun c1 c2 => ?_) ?_
  · have m : (a.length : Int) * n ≤ 1000000 := by
      have : ((a.length * n.toNat : Nat) : Int) ≤ 1000000 := by omega
      rw [Int.natCast_mul, Int.toNat_of_nonneg (by omega)] at this
      exact this
    intro c
    have c' : (2 ^ 63 - 1) / n < (a.length : Int) := c
    have := (Int.ediv_lt_iff_lt_mul (by omega)).mp c'
    omega
  · unfold Builtin.Str.tooLong
    exact decide_eq_false (by omega)
  · unfold repS at ln q
    split
    · rename_i c
      rw [if_pos c] at q
      exact ⟨by decide, .str _, H, I.tok _, ⟨_, rfl⟩, q⟩
    · rename_i c
      rw [if_neg c] at q ln
      split
      · rename_i c2
        rw [if_pos c2] at q
        exact ⟨.str a, H, I, ⟨_, rfl⟩, q⟩
      · rename_i c2
        rw [if_neg c2] at q ln
        exact ⟨by rw [ln]; omega, .str _, H, I.tok _, ⟨_, rfl⟩, q⟩
end
/-! ### signs that stay among the first 128 -/
theorem Asc.app {x y : Str} (h : Asc x) (h' : Asc y) : Asc (x ++ y) := fun c hc => by
  rw [cps_app] at hc
  exact (List.mem_append.mp hc).elim (h c) (h' c)
theorem Asc.rep {x : Str} (h : Asc x) (n : Int) : Asc (repS x n) := fun c hc => by
  rw [repS_cps] at hc
  obtain ⟨l, hl, hc⟩ := List.mem_flatten.mp hc
  rw [(List.mem_replicate.mp hl).2] at hc
  exact h c hc
theorem Asc.num (w : Int) : Asc (numS w) := fun c hc => by
  have d : ∀ (m c : Nat), c ∈ dg m → c < 128 := fun m c h => by have := dg_all m c h; omega
  rcases Int.lt_or_le w 0 with h0 | h0
  · obtain ⟨m, rfl, hm⟩ : ∃ m : Nat, w = -(m : Int) ∧ 0 < m := ⟨w.natAbs, by omega, by omega⟩
    rw [numS_neg hm] at hc
    rcases List.mem_cons.mp hc with rfl | hc
    · decide
    · exact d m c hc
  · obtain ⟨m, rfl⟩ : ∃ m : Nat, w = (m : Int) := ⟨w.natAbs, by omega⟩
    rw [numS_nat] at hc
    exact d m c hc
theorem Asc.one {c : Nat} (h : c < 128) : Asc ⟨#[c]⟩ := fun d hd => by
  have e : d = c := by simpa using hd
  omega
theorem len_app (x y : Str) : (x ++ y).length = x.length + y.length := Str.length_append x y
end L2
namespace L2
open PySem PySem.Spec PyProof.Rows
/-! ### numerals, read sign by sign -/
section
open PySem.NumText
theorem dg_head : ∀ {v : Nat} {r : List Nat}, dg v = 48 :: r → v = 0 := by
  intro v
  induction v using Nat.strongRecOn with
  | _ v ih =>
    intro r h
    by_cases hv : v < 10
    · rw [dg_small hv] at h
      have := (List.cons.inj h).1
      omega
    · rw [dg_step (by omega)] at h
      cases e : dg (v / 10) with
      | nil => exact absurd e (dg_ne _)
      | cons a l =>
        rw [e] at h
        have ha : a = 48 := (List.cons.inj h).1
        subst ha
        have := ih (v / 10) (by omega) e
        omega
theorem dg_of : ∀ (n : Nat) {d : List Nat}, d.length = n → AllDigits d → d ≠ [] → d.head? ≠ some 48 → dg (digitsVal d) = d
  | 0, d, hn, _, h2, _ => absurd (List.eq_nil_of_length_eq_zero hn) h2
  | n + 1, d, hn, h1, h2, h3 => by
    obtain ⟨e, c, rfl⟩ : ∃ e c, d = e ++ [c] := ⟨d.dropLast, d.getLast h2, (List.dropLast_concat_getLast h2).symm⟩
    have hc := h1 c (by simp)
    rw [digitsVal_snoc]
    by_cases he : e = []
    · subst he
      show dg (0 * 10 + (c - 48)) = [c]
      rw [dg_small (by omega)]
      congr 1
      omega
    · have hh : e.head? ≠ some 48 := fun z => h3 (by rw [List.head?_append, z]; rfl)
      have ih := dg_of n (d := e) (by simpa using hn) (fun x hx => h1 x (List.mem_append_left _ hx)) he hh
      have h0 : digitsVal e ≠ 0 := fun z => by
        rw [z, dg_small (by decide)] at ih
        exact hh (by rw [← ih]; rfl)
      rw [dg_step (by omega)]
      have e1 : (digitsVal e * 10 + (c - 48)) / 10 = digitsVal e := by omega
      have e2 : 48 + (digitsVal e * 10 + (c - 48)) % 10 = c := by omega
      rw [e1, e2, ih]
def fig (x : Str) : List Nat := (fpart x).cps.toList
theorem zero_cps : (Str.ofString "0").cps.toList = [48] := by decide +kernel
theorem val_fig {x : Str} (hl : x.length ≤ 1000) (h1 : AllDigits (fig x)) (h2 : fig x ≠ []) : valOf x = if x = fpart x then (digitsVal (fig x) : Int) else -(digitsVal (fig x) : Int) := by
  unfold fig at *
  unfold valOf
  rcases fpart_cps x with ⟨cs, e, ef⟩ | ⟨_, ef⟩
  · rw [ef] at h1 h2
    rw [ef, intText_neg e h1 h2 (by omega), if_neg]
    · rfl
    · intro z
      have := congrArg (fun y : Str => y.cps.toList.length) z
      simp only [ef] at this
      rw [e, List.length_cons] at this
      omega
  · rw [ef] at h1 h2
    rw [ef, if_pos rfl, intText_digits h1 h2 (by omega)]
    rfl
theorem num_iff {x : Str} (hl : x.length ≤ 1000) : isNum x = true ↔ (fig x ≠ [] ∧ (fig x).length ≤ 31 ∧ AllDigits (fig x) ∧ ¬ ((fig x).head? = some 48 ∧ x ≠ "0") ∧ digitsVal (fig x) ≤ 1000000000000000000000000000000) := by
  have A : isNum x = true ↔ ((fig x).length ≤ 31 ∧ (fig x ≠ [] ∧ AllDigits (fig x)) ∧ inW (valOf x) = true ∧ numS (valOf x) = x) := by
    unfold isNum fig
    rw [Bool.and_eq_true, Bool.and_eq_true, Bool.not_eq_true', Bool.or_eq_false_iff, decide_eq_false_iff_not, decide_eq_true_eq, Bool.not_eq_false', isFig_iff, len_cps, Nat.not_lt, and_assoc]
  rw [A]
  have key : fig x ≠ [] → AllDigits (fig x) → ((inW (valOf x) = true ∧ numS (valOf x) = x) ↔ (¬ ((fig x).head? = some 48 ∧ x ≠ "0") ∧ digitsVal (fig x) ≤ 1000000000000000000000000000000)) := fun h2 h1 => by
    have hv := val_fig hl h1 h2
    have dgo : (fig x).head? ≠ some 48 → dg (digitsVal (fig x)) = fig x := dg_of _ rfl h1 h2
    have dgb : dg (digitsVal (fig x)) = fig x → (fig x).head? = some 48 → fig x = [48] := fun e z => by
      cases hd : fig x with
      | nil => exact absurd hd h2
      | cons a r =>
        rw [hd] at z
        have : a = 48 := by simpa using z
        subst this
        have v0 := dg_head (e.trans hd)
        rw [v0, dg_small (by decide)] at e
        rw [← hd, ← e]
    have inw : inW (valOf x) = true ↔ digitsVal (fig x) ≤ 1000000000000000000000000000000 := by
      unfold inW
      rw [decide_eq_true_eq, hv]
      split <;> omega
    rw [inw, and_comm]
    refine and_congr_left fun _ => ?_
    unfold fig at *
    rcases fpart_cps x with ⟨cs, e, ef⟩ | ⟨_, ef⟩
    · have hne : ¬ x = fpart x := fun z => by
        have := congrArg (fun y : Str => y.cps.toList.length) z
        simp only [ef] at this
        rw [e, List.length_cons] at this
        omega
      rw [hv, if_neg hne]
      rw [ef] at dgo dgb ⊢
      have x0 : x ≠ "0" := fun z => by
        have := e.symm.trans ((congrArg (fun y : Str => y.cps.toList) z).trans zero_cps)
        cases this
      constructor
      · intro h z
        by_cases v0 : digitsVal cs = 0
        · rw [v0] at h
          have := (numS_nat 0).symm.trans (congrArg (fun y : Str => y.cps.toList) h)
          rw [e, dg_small (by decide)] at this
          cases this
        · have := (numS_neg (m := digitsVal cs) (by omega)).symm.trans (congrArg (fun y : Str => y.cps.toList) h)
          rw [e] at this
          have q := (List.cons.inj this).2
          have q2 := dgb q z.1
          rw [q2] at v0
          exact v0 rfl
      · intro h
        have hh : cs.head? ≠ some 48 := fun z => h ⟨z, x0⟩
        have q := dgo hh
        have v0 : digitsVal cs ≠ 0 := fun z => by
          rw [z, dg_small (by decide)] at q
          exact hh (by rw [← q]; rfl)
        exact str_ext (by rw [numS_neg (by omega), e, q])
    · rw [hv, if_pos ef.symm]
      rw [ef] at dgo dgb ⊢
      constructor
      · intro h z
        have := (numS_nat _).symm.trans (congrArg (fun y : Str => y.cps.toList) h)
        have q := dgb this z.1
        exact z.2 (str_ext (q.trans zero_cps.symm))
      · intro h
        refine str_ext ?_
        rw [numS_nat]
        by_cases z : x.cps.toList.head? = some 48
        · have : x = "0" := Classical.not_not.mp fun w => h ⟨z, w⟩
          rw [this, zero_cps]
          decide +kernel
        · exact dgo z
  constructor
  · rintro ⟨a, ⟨b, c⟩, d⟩
    have := (key b c).mp d
    exact ⟨b, a, c, this.1, this.2⟩
  · rintro ⟨b, a, c, d, e⟩
    exact ⟨a, ⟨b, c⟩, (key b c).mpr ⟨d, e⟩⟩
end
end L2

namespace L2
open PySem PySem.Spec PyProof.Rows
/-! ### floor division by any number but 0 -/
section
variable {X : Cx}
abbrev cIntB : RC := fun xs H Q => ∃ b : Bool, xs = [.bl b] ∧ Q (.int (if b then 1 else 0)) H
end
/-! ### == of lists and tuples of flat values -/
theorem hu64 {k : Nat} {A : Around} (r : Room k A) : A.units + 64 < cLine := by have := r.un; omega
def datV : V → PyData
  | .non => .none
  | .bl b => .bool b
  | .int i => .int i
  | .str x => .str x
  | _ => .none
def isFlat : V → Bool
  | .non => true
  | .bl _ => true
  | .int _ => true
  | .str x => PyData.strOk x
  | _ => false
theorem Asc.flat {x : Str} (h : Asc x) : isFlat (.str x) = true := by
  unfold isFlat PyData.strOk
  rw [Array.all_eq_true]
  intro i hi
  have := h x.cps[i] (by simp)
  exact decide_eq_true (by omega)
/-- no truth beside a whole number -/
def mixV : V → V → Bool
  | .bl _, .int _ => false
  | .int _, .bl _ => false
  | _, _ => true
def mixAll : List V → List V → Bool
  | x :: xs, y :: ys => mixV x y && mixAll xs ys
  | _, _ => true
theorem carried_of : ∀ {xs : List V} {us : List Value}, xs.all isFlat = true → Vals xs us → CarriedAll us (xs.map datV)
  | [], _, _, .nil => .nil
  | x :: r, _, h, .cons rx t => by
    rw [List.all_cons, Bool.and_eq_true] at h
    refine .cons ?_ (carried_of h.2 t)
    cases x with
    | non => cases rx; exact .none
    | bl b => cases rx; exact .bool b
    | int i => obtain ⟨t, rfl⟩ := rx; exact .int i t
    | str x => obtain ⟨t, rfl⟩ := rx; exact .str x t
    | byt b => exact absurd h.1 (by simp [isFlat])
    | flt b => exact absurd h.1 (by simp [isFlat])
    | ref a => exact absurd h.1 (by simp [isFlat])
    | ty n => exact absurd h.1 (by simp [isFlat])
theorem same_dat {x y : V} (hx : isFlat x = true) (hy : isFlat y = true) : PySem.Spec.same (datV x) (datV y) = decide (x = y) := by
  cases x <;> cases y <;> simp_all [isFlat, datV, PySem.Spec.same] <;> (rename_i a b; by_cases e : a = b <;> simp [e])
theorem sameAll_dat : ∀ {xs ys : List V}, xs.all isFlat = true → ys.all isFlat = true → PySem.Spec.sameAll (xs.map datV) (ys.map datV) = decide (xs = ys)
  | [], [], _, _ => by simp [PySem.Spec.sameAll]
  | [], _ :: _, _, _ => by simp [PySem.Spec.sameAll]
  | _ :: _, [], _, _ => by simp [PySem.Spec.sameAll]
  | x :: r, y :: t, hx, hy => by
    rw [List.all_cons, Bool.and_eq_true] at hx hy
    rw [List.map_cons, List.map_cons, PySem.Spec.sameAll, same_dat hx.1 hy.1, sameAll_dat hx.2 hy.2]
    by_cases a : x = y <;> by_cases b : r = t <;> simp [a, b]
theorem noMix_dat {x y : V} (hx : isFlat x = true) (hy : isFlat y = true) (h : mixV x y = true) : SeqAt.noMix (datV x) (datV y) = true := by
  cases x <;> cases y <;> simp_all [isFlat, datV, SeqAt.noMix, mixV]
theorem noMixAll_dat : ∀ {xs ys : List V}, xs.all isFlat = true → ys.all isFlat = true → mixAll xs ys = true → SeqAt.noMixAll (xs.map datV) (ys.map datV) = true
  | [], [], _, _, _ => by simp [SeqAt.noMixAll]
  | [], _ :: _, _, _, _ => by simp [SeqAt.noMixAll]
  | _ :: _, [], _, _, _ => by simp [SeqAt.noMixAll]
  | x :: r, y :: t, hx, hy, h => by
    rw [List.all_cons, Bool.and_eq_true] at hx hy
    rw [mixAll, Bool.and_eq_true] at h
    rw [List.map_cons, List.map_cons, SeqAt.noMixAll, noMix_dat hx.1 hy.1 h.1, noMixAll_dat hx.2 hy.2 h.2]
    rfl
theorem shaped_dat {xs : List V} (h : xs.all isFlat = true) : SeqAt.shaped (.list (xs.map datV)) = true ∧ SeqAt.shaped (.tuple (xs.map datV)) = true := by
  have a : ∀ x, isFlat x = true → (datV x).canLay0 = true ∧ (datV x).depth = 0 := fun x => by cases x <;> simp [datV, PyData.canLay0, PyData.depth, isFlat]
  have l : ∀ ys : List V, ys.all isFlat = true → PyData.canLayAll0 (ys.map datV) = true ∧ PyData.depthAll (ys.map datV) = 0 := by
    intro ys
    induction ys with
    | nil => exact fun _ => ⟨rfl, rfl⟩
    | cons y r ih =>
      intro h
      rw [List.all_cons, Bool.and_eq_true] at h
      exact ⟨by rw [List.map_cons, PyData.canLayAll0, (a y h.1).1, (ih h.2).1]; rfl, by rw [List.map_cons, PyData.depthAll, (a y h.1).2, (ih h.2).2]; rfl⟩
  exact ⟨by simp [SeqAt.shaped, PyData.canLay0, PyData.depth, (l xs h).1, (l xs h).2], by simp [SeqAt.shaped, PyData.canLay0, PyData.depth, (l xs h).1, (l xs h).2]⟩
abbrev rEqL (K : PySem.W.Frag) (neg : Bool) : R2 := fun x y H Q => ∃ a b xs ys, x = .ref a ∧ y = .ref b ∧ SqL K H a xs ∧ SqL K H b ys ∧ (xs.all isFlat = true ∧ ys.all isFlat = true ∧ mixAll xs ys = true) ∧ Q (.bl (if neg then !decide (xs = ys) else decide (xs = ys))) H
section
variable {X : Cx}
theorem op_eqL (hu : X.A.units + 64 < cLine) : OpR X (compareOp .Eq) (rEqL X.K false) := by
  intro pins s σ H x y v u Q I rx ry h
  obtain ⟨a, b, xs, ys, rfl, rfl, ha, hb, ⟨f1, f2, f3⟩, q⟩ := h
  cases rx
  cases ry
  obtain ⟨us, r1, p1, _⟩ := I.list ha
  obtain ⟨ws, r2, p2, _⟩ := I.list hb
  refine eq_dataH_same (reads_newData p1.isList (carried_of f1 r1)) (reads_newData p2.isList (carried_of f2 r2)) (shaped_dat f1).1 (shaped_dat f2).1 hu (by rw [SeqAt.noMix]; exact noMixAll_dat f1 f2 f3) ?_
  rw [PySem.Spec.same, sameAll_dat f1 f2]
  exact ⟨.bl _, H, I, rfl, q⟩
abbrev rEqNil (K : PySem.W.Frag) : R2 := fun x y H Q => ∃ a b xs, x = .ref a ∧ y = .ref b ∧ SqL K H a xs ∧ SqL K H b [] ∧ Q (.bl (decide (xs = []))) H
end
end L2

namespace L2
open PySem PySem.Spec PyProof.Rows
abbrev r_mt_append : RM := rAppend
abbrev r_mt_pop : RM := rPop
/-! ### terms, told with their parts ahead of their word -/
def jw : List V := [.str "plus", .str "minus", .str "times", .str "over", .str "rest", .str "under", .str "same"]
def isJ (v : V) : Bool := inV v jw
inductive Er where
  | nought | great | stuck
  deriving DecidableEq
def comeV (w : Str) (a b : Int) : Int :=
  if w = "plus" then a + b else if w = "minus" then a - b else if w = "times" then a * b else if w = "under" then (if a < b then 1 else 0) else if w = "same" then (if a = b then 1 else 0) else if w = "over" then a.fdiv b else a.fmod b
def isDiv (w : Str) : Prop := ¬ w = "plus" ∧ ¬ w = "minus" ∧ ¬ w = "times" ∧ ¬ w = "under" ∧ ¬ w = "same"
instance (w : Str) : Decidable (isDiv w) := by unfold isDiv; infer_instance
def joinE (w : Str) (a b : Int) : Except Er Int := if isDiv w ∧ b = 0 then .error .nought else if inW (comeV w a b) = true then .ok (comeV w a b) else .error .great
def wrth (kvs : List (Key × V)) : V → Int
  | .int i => i
  | .str x => (match valV kvs (.inr x) with | some (.int i) => i | _ => 0)
  | _ => 0
def stepE (kvs : List (Key × V)) (st : List Int) (v : V) : Except Er (List Int) :=
  if isJ v = true then (match v, st.reverse with | .str w, b :: a :: r => (match joinE w a b with | .ok c => .ok (r.reverse ++ [c]) | .error e => .error e) | _, _ => .error .stuck) else .ok (st ++ [wrth kvs v])
def runE (kvs : List (Key × V)) : List V → List Int → Except Er (List Int)
  | [], st => .ok st
  | v :: r, st => match stepE kvs st v with | .ok st' => runE kvs r st' | .error e => .error e
section
variable {kvs : List (Key × V)}
end
theorem isJ_str (w : Str) : isJ (.str w) = true ↔ (w = "plus" ∨ w = "minus" ∨ w = "times" ∨ w = "over" ∨ w = "rest" ∨ w = "under" ∨ w = "same") := by
  unfold isJ inV jw
  simp only [List.any_cons, List.any_nil, eqV, Bool.or_false, Bool.or_eq_true, beq_iff_eq]
  constructor
  · rintro (h | h | h | h | h | h | h) <;> simp [← h]
  · rintro (h | h | h | h | h | h | h) <;> simp [h]
end L2

namespace L2
open PySem PySem.Spec PyProof.Rows
/-! ### for x in reversed(list) -/
def Itv (K : PySem.W.Frag) (a : Addr) (xs : List V) : It := ⟨fun i H => i < xs.length ∧ SqL K H a xs, fun i H x H' => H' = H ∧ xs[xs.length - 1 - i]? = some x, fun i _ => xs.length ≤ i⟩
theorem turn_rev {P : Program} {w : World} {K : PySem.W.Frag} {tg : Expr} (a it : Addr) (xs : List V) : Turn P w K tg (Itv K a xs) [it] it (fun i h => i ≤ xs.length ∧ h.IsRevIter it a ((xs.length : Int) - 1 - (i : Int))) where
  mem := by simp
  obj := fun i h st b hb => by
    have e : b = it := by simpa using hb
    subst e
    obtain ⟨_, o, e, c, d⟩ := st
    exact ⟨o, e, fun v z => by rw [d] at z; cases z⟩
  keep := fun i h h' st k => ⟨st.1, st.2.at fun o e => k it (by simp) o e⟩
  item := by
    intro X hP hw hK hc i pins s σ H E I hf st hg
    subst hP hw hK
    obtain ⟨hi, hq⟩ := hg
    obtain ⟨its, rv, p, hz⟩ := I.list hq
    have hl := rv.length
    obtain ⟨u, hu, ru⟩ := rv.get (i := xs.length - 1 - i) (x := xs[xs.length - 1 - i]'(by omega)) (List.getElem?_eq_getElem (by omega))
    obtain ⟨f0, f1, f2, f3, f4, f5⟩ := hf it (by simp)
    have st2 := st.2
    have e1 : (xs.length : Int) - 1 - (i : Int) = ((xs.length - 1 - i : Nat) : Int) := by omega
    rw [e1] at st2
    refine wpAny_pyNext_rev_item st2 p.isList (x := u) (by simpa using hu) fun h' st' sb => ?_
    have I1 : Inv X pins σ H { s with heap := h' } := I.turned (t' := s.toks) (fun b o hb e => (sb.2 b hb).trans e) f0 f1 f3 f4 f5
    have e2 : ((xs.length - 1 - i : Nat) : Int) - 1 = (xs.length : Int) - 1 - ((i + 1 : Nat) : Int) := by omega
    rw [e2] at st'
    obtain ⟨o, e, c, d⟩ := id st'
    exact ⟨u, rfl, go_of (s := { s with heap := h' }) e c d (by decide) ⟨_, H, I1, ru, ⟨rfl, List.getElem?_eq_getElem (by omega)⟩, ⟨hi, st'⟩, fun b hb => (hf b hb).1⟩⟩
  done := by
    intro X hP hw hK hc i pins s σ H E I hf st hg
    subst hP hw hK
    obtain ⟨f0, f1, f2, f3, f4, f5⟩ := hf it (by simp)
    have hi : i = xs.length := Nat.le_antisymm st.1 hg
    have st2 := st.2
    rw [hi, show (xs.length : Int) - 1 - (xs.length : Int) = -1 by omega] at st2
    exact wpAny_pyNext_rev_end (I.ok.hd hc) st2 fun h' eb => ⟨rfl, I.turned (t' := s.toks) (fun b o hb e => eb b o hb e) f0 f1 f3 f4 f5⟩
  self := fun _ _ _ _ _ st h => wpAny_pyIter_revIter st.2 h
def iRev (K : PySem.W.Frag) (ta : TA) : TI := fun σ H R => ta σ H fun vs H1 => ∃ a xs, vs = [.ref a] ∧ SqL K H1 a xs ∧ R (Itv K a xs) H1
section
variable {X : Cx} {tg : Expr}
theorem pi_rev {a : Expr} {ta : TA} {p pos : Pos} (hg : Gl X "reversed") (hm : X.mg "reversed" = none) (ha : PA X [a] ta) (hs : starEach [a] X.env = [(false, eval a X.env)] := by rfl) : PI X tg (.Call (.Name "reversed" p) [a] [] pos) (iRev X.K ta) := by
  intro pins s σ H R I h
  refine Call_ (ld_blt I hg hm bt_reversed (PyProof.Rows.callWith_type1 (thn (ha pos pins s σ H _ I h) fun us s1 ⟨vs, H1, I1, r1, q1⟩ => ?_) hs rfl))
  obtain ⟨b, xs, e, hq, q⟩ := q1
  subst e
  cases r1 with
  | cons r rr =>
    cases rr
    cases r
    obtain ⟨its, rv, pl, hz⟩ := I1.list hq
    have hl := rv.length
    refine call_reversed_list pl.isList ?_
    have st : (s1.heap.push (revObj b ((its.toArray.size : Int) - 1))).IsRevIter s1.heap.objs.size b ((xs.length : Int) - 1 - ((0 : Nat) : Int)) := ⟨_, Heap.get?_push_size _ rfl, rfl, by
      show Data.fields _ = _
      rw [show ((its.toArray.size : Nat) : Int) - 1 = (xs.length : Int) - 1 - ((0 : Nat) : Int) by simp; omega]⟩
    refine wpAny_pyIter_revIter (s := { s1 with heap := _ }) st ?_
    refine ⟨s1.heap.objs.size, [s1.heap.objs.size], _, _, H1, rfl, I1.kept (t' := s1.toks) fun b o e => Heap.get?_push_of_some _ e, turn_rev b _ xs, ⟨Nat.zero_le _, st⟩, fun c hc => ?_, q⟩
    have e : c = s1.heap.objs.size := by simpa using hc
    subst e
    exact I1.fpOk (Nat.le_refl _) (I1.hok.fresh (Nat.le_refl _))
end
section
variable {σ : St} {H : Hp} {nx : St → Hp → Prop} {B : V → St → Hp → (St → Hp → Prop) → Prop}
theorem loop_rev {K : PySem.W.Frag} {a : Addr} (xs : List V) (Pv : Nat → St → Hp → Prop) (h0 : Pv 0 σ H) (hl : ∀ i σ H, Pv i σ H → SqL K H a xs) (hs : ∀ i x σ H, i < xs.length → xs[xs.length - 1 - i]? = some x → Pv i σ H → B x σ H (Pv (i + 1))) (hd : ∀ σ H, Pv xs.length σ H → nx σ H) :
    ∃ W : Nat → Nat → St → Hp → Prop, (∃ m, W 0 m σ H) ∧ ∀ i m σ H, W i m σ H → ((Itv K a xs).stop i H ∧ nx σ H) ∨ ((Itv K a xs).go i H ∧ ∃ N : St → Hp → Prop, (∀ σ' H', N σ' H' → ∃ m', m' < m ∧ W (i + 1) m' σ' H') ∧ ∀ x H', (Itv K a xs).yld i H x H' → B x σ H' N) := by
  refine ⟨fun i m σ H => m = xs.length - i ∧ i ≤ xs.length ∧ Pv i σ H, ⟨xs.length, by simp, Nat.zero_le _, h0⟩, ?_⟩
  rintro i m σ H ⟨rfl, hi, p⟩
  by_cases hlt : i < xs.length
  · refine .inr ⟨⟨hlt, hl i σ H p⟩, Pv (i + 1), fun σ' H' p' => ⟨xs.length - (i + 1), by omega, rfl, hlt, p'⟩, ?_⟩
    rintro x H' ⟨rfl, y⟩
    exact hs i x σ _ hlt y p
  · obtain rfl : i = xs.length := by omega
    exact .inl ⟨Nat.le_refl _, hd σ H p⟩
end
end L2

namespace L2
open PySem PySem.Spec PyProof.Rows
abbrev cLst (K : PySem.W.Frag) : RC := fun xs H Q => ∃ p ys, xs = [.ref p] ∧ (SqL K H p ys ∨ SqT K H p ys) ∧ ∀ l, H l = none → Q (.ref l) (upd H l (.lst ys))
abbrev cMin : RC := fun xs H Q => ∃ i j, xs = [.int i, .int j] ∧ Q (.int (if j < i then j else i)) H
/-! ### names -/
def inL (c : Nat) : Bool := !(Builtin.Str.occurrences "abcdefghijklmnopqrstuvwxyz" ⟨#[c]⟩ 0 (Str.length "abcdefghijklmnopqrstuvwxyz") 1).isEmpty
theorem inL_def (c : Nat) : (!(Builtin.Str.occurrences (Str.ofString "abcdefghijklmnopqrstuvwxyz") ⟨#[c]⟩ 0 (Str.ofString "abcdefghijklmnopqrstuvwxyz").length 1).isEmpty) = inL c := rfl
def wl : List V := [.str "take", .str "give", .str "let", .str "say", .str "off", .str "if", .str "else", .str "end", .str "as"]
def isName (x : Str) : Bool := !(decide (x = "") || decide (6 < x.length)) && !(inV (.str x) jw || inV (.str x) wl) && x.cps.toList.all inL
theorem inL_iff (c : Nat) : inL c = true → 97 ≤ c ∧ c ≤ 122 := by
  unfold inL
  rw [StrLaws.found_one]
  have e : (Str.ofString "abcdefghijklmnopqrstuvwxyz").cps.toList = [97, 98, 99, 100, 101, 102, 103, 104, 105, 106, 107, 108, 109, 110, 111, 112, 113, 114, 115, 116, 117, 118, 119, 120, 121, 122] := by decide +kernel
  rw [e]
  simp only [decide_eq_true_eq, List.mem_cons, List.not_mem_nil, or_false]
  omega
/-- what has a letter is no numeral -/
theorem notNum_letter {x : Str} {c : Nat} (hx : x.length ≤ 1000) (hc : c ∈ x.cps.toList) (h : 97 ≤ c) : isNum x = false := by
  refine Bool.eq_false_iff.mpr fun z => ?_
  have d := ((num_iff hx).mp z).2.2.1
  unfold fig at d
  rcases fpart_cps x with ⟨cs, e, ef⟩ | ⟨_, ef⟩
  · rw [e] at hc
    rw [ef] at d
    rcases List.mem_cons.mp hc with rfl | hc
    · omega
    · have := d c hc; omega
  · rw [ef] at d
    have := d c hc; omega
theorem isName_parts {x : Str} (h : isName x = true) : x.cps.toList ≠ [] ∧ x.length ≤ 6 ∧ isJ (.str x) = false ∧ x.cps.toList.all inL = true := by
  unfold isName at h
  rw [Bool.and_eq_true, Bool.and_eq_true, Bool.not_eq_true', Bool.not_eq_true', Bool.or_eq_false_iff, Bool.or_eq_false_iff, decide_eq_false_iff_not, decide_eq_false_iff_not] at h
  refine ⟨fun z => h.1.1.1 (str_ext (by rw [z]; decide +kernel)), by omega, h.1.2.1, h.2⟩
theorem isName_notNum {x : Str} (h : isName x = true) : isNum x = false := by
  obtain ⟨h1, h2, _, h3⟩ := isName_parts h
  obtain ⟨c, r, e⟩ := List.exists_cons_of_ne_nil h1
  exact notNum_letter (c := c) (by omega) (by rw [e]; simp) (inL_iff c (List.all_eq_true.mp h3 c (by rw [e]; simp))).1
theorem join_no {x : Str} (h : isJ (.str x) = true) : isName x = false ∧ isNum x = false := by
  refine ⟨Bool.eq_false_iff.mpr fun z => ?_, ?_⟩
  · rw [(isName_parts z).2.2.1] at h; cases h
  · rcases (isJ_str x).mp h with rfl | rfl | rfl | rfl | rfl | rfl | rfl <;> decide +kernel
/-! ### terms read: words as trees -/
def partW (w : Str) : Option V := if isName w = true then some (.str w) else if isNum w = true then some (.int (valOf w)) else none
theorem partW_j {w : Str} (h : isJ (.str w) = true) : partW w = none := by
  unfold partW
  rw [(join_no h).1, (join_no h).2]; rfl
theorem partW_flat {w : Str} {v : V} (h : partW w = some v) : isJ v = false ∧ ((∃ i, v = .int i) ∨ v = .str w) := by
  unfold partW at h
  split at h
  · rename_i z
    cases h
    exact ⟨(isName_parts z).2.2.1, .inr rfl⟩
  · split at h
    · cases h
      exact ⟨rfl, .inl ⟨_, rfl⟩⟩
    · cases h
inductive Tw where
  | leaf (w : Str) | node (w : Str) (a b : Tw)
def pre : Tw → List Str
  | .leaf w => [w]
  | .node w a b => w :: (pre a ++ pre b)
def wfT : Tw → Prop
  | .leaf w => isJ (.str w) = false
  | .node w a b => isJ (.str w) = true ∧ wfT a ∧ wfT b
def okT : Tw → Bool
  | .leaf w => (partW w).isSome
  | .node _ a b => okT a && okT b
def pvw (w : Str) : V := (partW w).getD (.str w)
def pst : Tw → List V
  | .leaf w => [pvw w]
  | .node w a b => pst a ++ pst b ++ [.str w]
def scanE : List Str → Nat → Option Nat
  | _, 0 => some 0
  | [], _ + 1 => none
  | w :: r, d + 1 => (scanE r (if isJ (.str w) = true then d + 2 else d)).map (· + 1)
theorem scan_tree : ∀ (l : List Str) (d n : Nat), scanE l d = some n → ∃ Ts : List Tw, Ts.length = d ∧ (∀ T ∈ Ts, wfT T) ∧ l.take n = (Ts.map pre).flatten ∧ n ≤ l.length
  | l, 0, n, h => by
    have : n = 0 := by cases l <;> (unfold scanE at h; cases h; rfl)
    subst this
    exact ⟨[], rfl, (fun _ z => nomatch z), by simp, Nat.zero_le _⟩
  | [], d + 1, n, h => by unfold scanE at h; cases h
  | w :: r, d + 1, n, h => by
    unfold scanE at h
    obtain ⟨m, hm, rfl⟩ := Option.map_eq_some_iff.mp h
    by_cases hj : isJ (.str w) = true
    · rw [if_pos hj] at hm
      obtain ⟨Ts, h1, h2, h3, h4⟩ := scan_tree r (d + 2) m hm
      match Ts, h1, h2, h3 with
      | a :: b :: Ts', h1, h2, h3 =>
        refine ⟨.node w a b :: Ts', by simpa using h1, fun T hT => ?_, ?_, by rw [List.length_cons]; omega⟩
        · rcases List.mem_cons.mp hT with rfl | hT
          · exact ⟨hj, h2 a (by simp), h2 b (by simp)⟩
          · exact h2 T (List.mem_cons_of_mem _ (List.mem_cons_of_mem _ hT))
        · rw [List.take_succ_cons, h3]
          simp [pre]
    · rw [if_neg hj] at hm
      obtain ⟨Ts, h1, h2, h3, h4⟩ := scan_tree r d m hm
      refine ⟨.leaf w :: Ts, by simpa using h1, fun T hT => ?_, ?_, by rw [List.length_cons]; omega⟩
      · rcases List.mem_cons.mp hT with rfl | hT
        · exact Bool.eq_false_iff.mpr hj
        · exact h2 T hT
      · rw [List.take_succ_cons, h3]
        simp [pre]
/-- walked from the end; error true: a word that is no part -/
def stepR (st : List (List V)) (w : Str) : Except Bool (List (List V)) :=
  if isJ (.str w) = true then (match st.reverse with | a :: b :: r => .ok (r.reverse ++ [a ++ b ++ [.str w]]) | _ => .error false) else (match partW w with | some v => .ok (st ++ [[v]]) | none => .error true)
def runR : List Str → List (List V) → Except Bool (List (List V))
  | [], st => .ok st
  | w :: r, st => match stepR st w with | .ok st' => runR r st' | .error e => .error e
theorem runR_app : ∀ (p q : List Str) (st : List (List V)), runR (p ++ q) st = match runR p st with | .ok st' => runR q st' | .error e => .error e
  | [], q, st => rfl
  | v :: r, q, st => by
    show (match stepR st v with | .ok st' => runR (r ++ q) st' | .error e => .error e) = match (match stepR st v with | .ok st' => runR r st' | .error e => .error e) with | .ok st' => runR q st' | .error e => .error e
    cases stepR st v with
    | error e => rfl
    | ok st' => exact runR_app r q st'
theorem runR_tree : ∀ {T : Tw}, wfT T → ∀ st, runR (pre T).reverse st = if okT T = true then .ok (st ++ [pst T]) else .error true
  | .leaf w, h, st => by
    show (match stepR st w with | .ok st' => runR [] st' | .error e => .error e) = _
    unfold stepR okT pst pvw
    rw [if_neg (by rw [show isJ (.str w) = false from h]; decide)]
    cases partW w with
    | none => rfl
    | some v => rfl
  | .node w a b, h, st => by
    have e : (pre (.node w a b)).reverse = (pre b).reverse ++ ((pre a).reverse ++ [w]) := by simp [pre]
    rw [e, runR_app, runR_tree h.2.2, show okT (.node w a b) = (okT a && okT b) from rfl]
    cases hb : okT b with
    | false => rw [Bool.and_false]; rfl
    | true =>
      rw [if_pos rfl]
      show runR ((pre a).reverse ++ [w]) (st ++ [pst b]) = _
      rw [runR_app, runR_tree h.2.1]
      cases ha : okT a with
      | false => rfl
      | true =>
        rw [if_pos rfl]
        show (match stepR (st ++ [pst b] ++ [pst a]) w with | .ok st' => runR [] st' | .error e => .error e) = .ok (st ++ [pst (.node w a b)])
        unfold stepR
        rw [if_pos h.1]
        simp [runR, pst]
theorem runR_err {ps : List Str} {i : Nat} {st : List (List V)} {e : Bool} (h : runR (ps.take i) st = .error e) : runR ps st = .error e := by
  have := runR_app (ps.take i) (ps.drop i) st
  rw [List.take_append_drop, h] at this
  exact this
theorem runR_one {ps : List Str} {i : Nat} {st st0 : List (List V)} {v : Str} (h : runR (ps.take i) st0 = .ok st) (hv : ps[i]? = some v) : runR (ps.take (i + 1)) st0 = stepR st v := by
  rw [List.take_add_one, hv]
  show runR (ps.take i ++ [v]) st0 = _
  rw [runR_app, h]
  show (match stepR st v with | .ok st' => runR [] st' | .error e => .error e) = _
  cases stepR st v <;> rfl
/-- a term's parts and the place behind it, where it is one -/
def parse (ws : List Str) (at_ : Nat) : Option (List V × Nat) := match scanE (ws.drop at_) 1 with
  | some n => if n ≤ 60 then (match runR ((ws.drop at_).take n).reverse [] with | .ok [ps] => some (ps, at_ + n) | _ => none) else none
  | none => none
theorem parse_tree {ws : List Str} {k n : Nat} (h : scanE (ws.drop k) 1 = some n) : ∃ T, wfT T ∧ (ws.drop k).take n = pre T ∧ k + n ≤ ws.length ∧ (pre T).length = n := by
  obtain ⟨Ts, h1, h2, h3, h4⟩ := scan_tree _ _ _ h
  obtain ⟨T, rfl⟩ := List.length_eq_one_iff.mp h1
  have h3' : (ws.drop k).take n = pre T := by rw [h3]; simp
  have hn : (pre T).length = n := by rw [← h3', List.length_take]; omega
  have hp : 1 ≤ (pre T).length := by cases T <;> simp [pre]
  rw [List.length_drop] at h4
  exact ⟨T, h2 T (by simp), h3', by omega, hn⟩
theorem parse_some {ws : List Str} {k n : Nat} {T : Tw} (h : scanE (ws.drop k) 1 = some n) (hn : n ≤ 60) (hw : wfT T) (ht : (ws.drop k).take n = pre T) : parse ws k = if okT T = true then some (pst T, k + n) else none := by
  unfold parse
  rw [h]
  show (if n ≤ 60 then (match runR ((ws.drop k).take n).reverse [] with | .ok [ps] => some (ps, k + n) | _ => none) else none) = _
  rw [if_pos hn, ht, runR_tree hw]
  cases okT T <;> rfl
theorem okT_iff : ∀ {T : Tw}, wfT T → (okT T = true ↔ ∀ w ∈ pre T, isJ (.str w) = true ∨ (partW w).isSome = true)
  | .leaf w, h => by
    have hj : isJ (.str w) = false := h
    unfold okT pre
    simp [hj]
  | .node w a b, h => by
    unfold okT pre
    rw [Bool.and_eq_true, okT_iff h.2.1, okT_iff h.2.2]
    constructor
    · rintro ⟨h1, h2⟩ x hx
      rcases List.mem_cons.mp hx with rfl | hx
      · exact .inl h.1
      · rcases List.mem_append.mp hx with hx | hx
        · exact h1 x hx
        · exact h2 x hx
    · intro hh
      exact ⟨fun x hx => hh x (by simp [hx]), fun x hx => hh x (by simp [hx])⟩
theorem pst_len : ∀ T : Tw, (pst T).length = (pre T).length
  | .leaf w => rfl
  | .node w a b => by simp [pst, pre, pst_len a, pst_len b]; omega
/-! ### a text among the items -/
theorem star_const {c : Const} {j : Nat} {p : Pos} {es : List Expr} {env : Env} : starEach (.Constant c j p :: es) env = (false, eval (.Constant c j p) env) :: starEach es env := by
  first | rfl | simp only [starEach]
theorem pa_str {X : Cx} {es : List Expr} {t : TA} {x : Str} {j : Nat} {p : Pos} (hr : PA X es t) : PA X (.Constant (.str x) j p :: es) (tCons (tC (.str x)) t) := pa_cons pe_str hr star_const
end L2

namespace K09
open PySem L2
def top (i : Nat) : Stmt := PySem.Challenge.pw_forerun_k09_no_term.main.body.getD i (.Pass ⟨0, 0, 0, 0⟩)
abbrev s__law_cell_at : Stmt := top 31
abbrev s__law_mixed : Stmt := top 32
abbrev s__law_free : Stmt := top 34
abbrev s__law_letters : Stmt := top 33
abbrev s__law_leaf_word : Stmt := top 36
abbrev s__law_odd : Stmt := top 35
abbrev s__law_word_by : Stmt := top 37
abbrev s__law_words : Stmt := top 38
abbrev s__law_number_of : Stmt := top 39
abbrev s__law_part_of : Stmt := top 40
abbrev s__law_end : Stmt := top 41
abbrev s_behind_term : Stmt := top 28
abbrev s_is_name : Stmt := top 26
abbrev s_is_worth : Stmt := top 15
abbrev s_is_figures : Stmt := top 17
abbrev s_numeral : Stmt := top 16
abbrev s_is_numeral : Stmt := top 18
abbrev s_worth_in : Stmt := top 19
abbrev s_part_in : Stmt := top 27
abbrev s_term_from : Stmt := top 29
abbrev s__law_ahead : Stmt := top 42
abbrev s__law_read : Stmt := top 44
abbrev s__law_refused : Stmt := top 43
abbrev s_law : Stmt := top 45
theorem sc__law_cell_at : FnScope ["script", "k"] ["script", "k"] (defScope s__law_cell_at) := ⟨rfl, rfl, rfl, by decide +kernel, rfl, by decide +kernel, by decide +kernel⟩
theorem sc__law_mixed : FnScope ["cell", "k", "number"] ["cell", "k"] (defScope s__law_mixed) := ⟨rfl, rfl, rfl, by decide +kernel, rfl, by decide +kernel, by decide +kernel⟩
theorem sc__law_free : FnScope ["name"] ["name"] (defScope s__law_free) := ⟨rfl, rfl, rfl, by decide +kernel, rfl, by decide +kernel, by decide +kernel⟩
theorem sc__law_letters : FnScope ["number", "many", "letters", "found", "k"] ["number", "many"] (defScope s__law_letters) := ⟨rfl, rfl, rfl, by decide +kernel, rfl, by decide +kernel, by decide +kernel⟩
theorem sc__law_leaf_word : FnScope ["number"] ["number"] (defScope s__law_leaf_word) := ⟨rfl, rfl, rfl, by decide +kernel, rfl, by decide +kernel, by decide +kernel⟩
theorem sc__law_odd : FnScope ["number", "some"] ["number"] (defScope s__law_odd) := ⟨rfl, rfl, rfl, by decide +kernel, rfl, by decide +kernel, by decide +kernel⟩
theorem sc__law_word_by : FnScope ["cell", "number"] ["cell"] (defScope s__law_word_by) := ⟨rfl, rfl, rfl, by decide +kernel, rfl, by decide +kernel, by decide +kernel⟩
theorem sc__law_words : FnScope ["script", "ahead", "cell", "run", "words", "most", "tail"] ["script", "ahead"] (defScope s__law_words) := ⟨rfl, rfl, rfl, by decide +kernel, rfl, by decide +kernel, by decide +kernel⟩
theorem sc__law_number_of : FnScope ["word", "figures", "sign"] ["word"] (defScope s__law_number_of) := ⟨rfl, rfl, rfl, by decide +kernel, rfl, by decide +kernel, by decide +kernel⟩
theorem sc__law_part_of : FnScope ["word", "sign"] ["word"] (defScope s__law_part_of) := ⟨rfl, rfl, rfl, by decide +kernel, rfl, by decide +kernel, by decide +kernel⟩
theorem sc__law_end : FnScope ["words", "at", "lacking", "k"] ["words", "at"] (defScope s__law_end) := ⟨rfl, rfl, rfl, by decide +kernel, rfl, by decide +kernel, by decide +kernel⟩
theorem sc_behind_term : FnScope ["words", "at", "due", "place"] ["words", "at"] (defScope s_behind_term) := ⟨rfl, rfl, rfl, by decide +kernel, rfl, by decide +kernel, by decide +kernel⟩
theorem sc_is_name : FnScope ["text"] ["text"] (defScope s_is_name) := ⟨rfl, rfl, rfl, by decide +kernel, rfl, by decide +kernel, by decide +kernel⟩
theorem sc_is_worth : FnScope ["thing"] ["thing"] (defScope s_is_worth) := ⟨rfl, rfl, rfl, by decide +kernel, rfl, by decide +kernel, by decide +kernel⟩
theorem sc_is_figures : FnScope ["text"] ["text"] (defScope s_is_figures) := ⟨rfl, rfl, rfl, by decide +kernel, rfl, by decide +kernel, by decide +kernel⟩
theorem sc_numeral : FnScope ["worth"] ["worth"] (defScope s_numeral) := ⟨rfl, rfl, rfl, by decide +kernel, rfl, by decide +kernel, by decide +kernel⟩
theorem sc_is_numeral : FnScope ["text", "figures", "worth"] ["text"] (defScope s_is_numeral) := ⟨rfl, rfl, rfl, by decide +kernel, rfl, by decide +kernel, by decide +kernel⟩
theorem sc_worth_in : FnScope ["text"] ["text"] (defScope s_worth_in) := ⟨rfl, rfl, rfl, by decide +kernel, rfl, by decide +kernel, by decide +kernel⟩
theorem sc_part_in : FnScope ["word"] ["word"] (defScope s_part_in) := ⟨rfl, rfl, rfl, by decide +kernel, rfl, by decide +kernel, by decide +kernel⟩
theorem sc_term_from : FnScope ["words", "at", "behind", "parts", "word", "first", "second"] ["words", "at"] (defScope s_term_from) := ⟨rfl, rfl, rfl, by decide +kernel, rfl, by decide +kernel, by decide +kernel⟩
theorem sc__law_ahead : FnScope ["term", "some", "part"] ["term"] (defScope s__law_ahead) := ⟨rfl, rfl, rfl, by decide +kernel, rfl, by decide +kernel, by decide +kernel⟩
theorem sc__law_read : FnScope ["words", "at", "end", "found", "due", "word", "part"] ["words", "at", "end"] (defScope s__law_read) := ⟨rfl, rfl, rfl, by decide +kernel, rfl, by decide +kernel, by decide +kernel⟩
theorem sc__law_refused : FnScope ["words", "at", "right", "other", "e"] ["words", "at"] (defScope s__law_refused) := ⟨rfl, rfl, rfl, by decide +kernel, rfl, by decide +kernel, by decide +kernel⟩
theorem sc_law : FnScope ["script", "cell", "ahead", "words", "at", "handed", "end"] ["script"] (defScope s_law) := ⟨rfl, rfl, rfl, by decide +kernel, rfl, by decide +kernel, by decide +kernel⟩
set_option genSizeOf false in
set_option genInjectivity false in
structure Adr where
  a__law_cell_at : Addr
  d__law_cell_at : FuncData
  a__law_mixed : Addr
  d__law_mixed : FuncData
  a__law_free : Addr
  d__law_free : FuncData
  a__law_letters : Addr
  d__law_letters : FuncData
  a__law_leaf_word : Addr
  d__law_leaf_word : FuncData
  a__law_odd : Addr
  d__law_odd : FuncData
  a__law_word_by : Addr
  d__law_word_by : FuncData
  a__law_words : Addr
  d__law_words : FuncData
  a__law_number_of : Addr
  d__law_number_of : FuncData
  a__law_part_of : Addr
  d__law_part_of : FuncData
  a__law_end : Addr
  d__law_end : FuncData
  a_behind_term : Addr
  d_behind_term : FuncData
  a_is_name : Addr
  d_is_name : FuncData
  a_is_worth : Addr
  d_is_worth : FuncData
  a_is_figures : Addr
  d_is_figures : FuncData
  a_numeral : Addr
  d_numeral : FuncData
  a_is_numeral : Addr
  d_is_numeral : FuncData
  a_worth_in : Addr
  d_worth_in : FuncData
  a_part_in : Addr
  d_part_in : FuncData
  a_term_from : Addr
  d_term_from : FuncData
  a__law_ahead : Addr
  d__law_ahead : FuncData
  a__law_read : Addr
  d__law_read : FuncData
  a__law_refused : Addr
  d__law_refused : FuncData
  a_law : Addr
  d_law : FuncData
  k_FIGURES : Tok
  c_JOINING : Addr
  k_LETTERS : Tok
  k_MOST_FIGURES : Tok
  k_MOST_LETTERS : Tok
  k_MOST_WORDS : Tok
  c_ROW_WORDS : Addr
  c_Folded : Addr
  c_ForerunError : Addr
  c_Great : Addr
  c_NoDealing : Addr
  c_NoHand : Addr
  c_NoLine : Addr
  c_NoLog : Addr
  c_NoNumber : Addr
  c_NoOrder : Addr
  c_NoTerm : Addr
  c_Nought : Addr
structure Txt (K : PySem.W.Frag) (mg : Str → Option Value) (t : Adr) : Prop where
  f__law_cell_at : Fun K "_law_cell_at" "_law_cell_at" s__law_cell_at t.a__law_cell_at t.d__law_cell_at
  b__law_cell_at : Binds K t.d__law_cell_at ["script", "k"] []
  m__law_cell_at : mg "_law_cell_at" = some (.ref t.a__law_cell_at)
  f__law_mixed : Fun K "_law_mixed" "_law_mixed" s__law_mixed t.a__law_mixed t.d__law_mixed
  b__law_mixed : Binds K t.d__law_mixed ["cell", "k"] []
  m__law_mixed : mg "_law_mixed" = some (.ref t.a__law_mixed)
  f__law_free : Fun K "_law_free" "_law_free" s__law_free t.a__law_free t.d__law_free
  b__law_free : Binds K t.d__law_free ["name"] []
  m__law_free : mg "_law_free" = some (.ref t.a__law_free)
  f__law_letters : Fun K "_law_letters" "_law_letters" s__law_letters t.a__law_letters t.d__law_letters
  b__law_letters : Binds K t.d__law_letters ["number", "many"] []
  m__law_letters : mg "_law_letters" = some (.ref t.a__law_letters)
  f__law_leaf_word : Fun K "_law_leaf_word" "_law_leaf_word" s__law_leaf_word t.a__law_leaf_word t.d__law_leaf_word
  b__law_leaf_word : Binds K t.d__law_leaf_word ["number"] []
  m__law_leaf_word : mg "_law_leaf_word" = some (.ref t.a__law_leaf_word)
  f__law_odd : Fun K "_law_odd" "_law_odd" s__law_odd t.a__law_odd t.d__law_odd
  b__law_odd : Binds K t.d__law_odd ["number"] []
  m__law_odd : mg "_law_odd" = some (.ref t.a__law_odd)
  f__law_word_by : Fun K "_law_word_by" "_law_word_by" s__law_word_by t.a__law_word_by t.d__law_word_by
  b__law_word_by : Binds K t.d__law_word_by ["cell"] []
  m__law_word_by : mg "_law_word_by" = some (.ref t.a__law_word_by)
  f__law_words : Fun K "_law_words" "_law_words" s__law_words t.a__law_words t.d__law_words
  b__law_words : Binds K t.d__law_words ["script", "ahead"] []
  m__law_words : mg "_law_words" = some (.ref t.a__law_words)
  f__law_number_of : Fun K "_law_number_of" "_law_number_of" s__law_number_of t.a__law_number_of t.d__law_number_of
  b__law_number_of : Binds K t.d__law_number_of ["word"] []
  m__law_number_of : mg "_law_number_of" = some (.ref t.a__law_number_of)
  f__law_part_of : Fun K "_law_part_of" "_law_part_of" s__law_part_of t.a__law_part_of t.d__law_part_of
  b__law_part_of : Binds K t.d__law_part_of ["word"] []
  m__law_part_of : mg "_law_part_of" = some (.ref t.a__law_part_of)
  f__law_end : Fun K "_law_end" "_law_end" s__law_end t.a__law_end t.d__law_end
  b__law_end : Binds K t.d__law_end ["words", "at"] []
  m__law_end : mg "_law_end" = some (.ref t.a__law_end)
  f_behind_term : Fun K "behind_term" "behind_term" s_behind_term t.a_behind_term t.d_behind_term
  b_behind_term : Binds K t.d_behind_term ["words", "at"] []
  m_behind_term : mg "behind_term" = some (.ref t.a_behind_term)
  f_is_name : Fun K "is_name" "is_name" s_is_name t.a_is_name t.d_is_name
  b_is_name : Binds K t.d_is_name ["text"] []
  m_is_name : mg "is_name" = some (.ref t.a_is_name)
  f_is_worth : Fun K "is_worth" "is_worth" s_is_worth t.a_is_worth t.d_is_worth
  b_is_worth : Binds K t.d_is_worth ["thing"] []
  m_is_worth : mg "is_worth" = some (.ref t.a_is_worth)
  f_is_figures : Fun K "is_figures" "is_figures" s_is_figures t.a_is_figures t.d_is_figures
  b_is_figures : Binds K t.d_is_figures ["text"] []
  m_is_figures : mg "is_figures" = some (.ref t.a_is_figures)
  f_numeral : Fun K "numeral" "numeral" s_numeral t.a_numeral t.d_numeral
  b_numeral : Binds K t.d_numeral ["worth"] []
  m_numeral : mg "numeral" = some (.ref t.a_numeral)
  f_is_numeral : Fun K "is_numeral" "is_numeral" s_is_numeral t.a_is_numeral t.d_is_numeral
  b_is_numeral : Binds K t.d_is_numeral ["text"] []
  m_is_numeral : mg "is_numeral" = some (.ref t.a_is_numeral)
  f_worth_in : Fun K "worth_in" "worth_in" s_worth_in t.a_worth_in t.d_worth_in
  b_worth_in : Binds K t.d_worth_in ["text"] []
  m_worth_in : mg "worth_in" = some (.ref t.a_worth_in)
  f_part_in : Fun K "part_in" "part_in" s_part_in t.a_part_in t.d_part_in
  b_part_in : Binds K t.d_part_in ["word"] []
  m_part_in : mg "part_in" = some (.ref t.a_part_in)
  f_term_from : Fun K "term_from" "term_from" s_term_from t.a_term_from t.d_term_from
  b_term_from : Binds K t.d_term_from ["words", "at"] []
  m_term_from : mg "term_from" = some (.ref t.a_term_from)
  f__law_ahead : Fun K "_law_ahead" "_law_ahead" s__law_ahead t.a__law_ahead t.d__law_ahead
  b__law_ahead : Binds K t.d__law_ahead ["term"] []
  m__law_ahead : mg "_law_ahead" = some (.ref t.a__law_ahead)
  f__law_read : Fun K "_law_read" "_law_read" s__law_read t.a__law_read t.d__law_read
  b__law_read : Binds K t.d__law_read ["words", "at", "end"] []
  m__law_read : mg "_law_read" = some (.ref t.a__law_read)
  f__law_refused : Fun K "_law_refused" "_law_refused" s__law_refused t.a__law_refused t.d__law_refused
  b__law_refused : Binds K t.d__law_refused ["words", "at"] []
  m__law_refused : mg "_law_refused" = some (.ref t.a__law_refused)
  f_law : Fun K "law" "law" s_law t.a_law t.d_law
  b_law : Binds K t.d_law ["script"] []
  m_law : mg "law" = some (.ref t.a_law)
  w_law : ∀ (s : Shared) (v : Value), BindsTo s t.d_law ⟨[v], []⟩ [("script", v)]
  b_ValueError : mg "ValueError" = none
  b_all : mg "all" = none
  b_bool : mg "bool" = none
  b_int : mg "int" = none
  b_isinstance : mg "isinstance" = none
  b_len : mg "len" = none
  b_list : mg "list" = none
  b_min : mg "min" = none
  b_range : mg "range" = none
  b_reversed : mg "reversed" = none
  b_str : mg "str" = none
  b_tuple : mg "tuple" = none
  g_FIGURES : mg "FIGURES" = some (.str "0123456789" t.k_FIGURES)
  g_JOINING : mg "JOINING" = some (.ref t.c_JOINING)
  v_JOINING : ∀ H : Hp, SqT K H t.c_JOINING [.str "plus", .str "minus", .str "times", .str "over", .str "rest", .str "under", .str "same"]
  g_LETTERS : mg "LETTERS" = some (.str "abcdefghijklmnopqrstuvwxyz" t.k_LETTERS)
  g_MOST_FIGURES : mg "MOST_FIGURES" = some (.int 31 t.k_MOST_FIGURES)
  g_MOST_LETTERS : mg "MOST_LETTERS" = some (.int 6 t.k_MOST_LETTERS)
  g_MOST_WORDS : mg "MOST_WORDS" = some (.int 60 t.k_MOST_WORDS)
  g_ROW_WORDS : mg "ROW_WORDS" = some (.ref t.c_ROW_WORDS)
  v_ROW_WORDS : ∀ H : Hp, SqT K H t.c_ROW_WORDS [.str "take", .str "give", .str "let", .str "say", .str "off", .str "if", .str "else", .str "end", .str "as"]
  g_Folded : mg "Folded" = some (.ref t.c_Folded)
  g_ForerunError : mg "ForerunError" = some (.ref t.c_ForerunError)
  g_Great : mg "Great" = some (.ref t.c_Great)
  g_NoDealing : mg "NoDealing" = some (.ref t.c_NoDealing)
  g_NoHand : mg "NoHand" = some (.ref t.c_NoHand)
  g_NoLine : mg "NoLine" = some (.ref t.c_NoLine)
  g_NoLog : mg "NoLog" = some (.ref t.c_NoLog)
  g_NoNumber : mg "NoNumber" = some (.ref t.c_NoNumber)
  g_NoOrder : mg "NoOrder" = some (.ref t.c_NoOrder)
  g_NoTerm : mg "NoTerm" = some (.ref t.c_NoTerm)
  g_Nought : mg "Nought" = some (.ref t.c_Nought)
  x_NoTerm : PySem.W.excIn K t.c_NoTerm bmVal newVal = true
  y_NoTerm : ExK K t.c_NoTerm
  e_NoTerm_ForerunError : PySem.W.exmOne K (.ref t.c_NoTerm) (.ref t.c_ForerunError) = some true
  i_NoTerm_ValueError : PySem.W.kitOne K (.ref t.c_NoTerm) (.type "ValueError") = some true
  i_NoTerm_NoTerm : PySem.W.kitOne K (.ref t.c_NoTerm) (.ref t.c_NoTerm) = some true
  j_NoTerm_0 : PySem.W.kitAny K (.ref t.c_NoTerm) [.ref t.c_NoNumber, .ref t.c_NoDealing, .ref t.c_Nought, .ref t.c_Great, .ref t.c_Folded, .ref t.c_NoHand, .ref t.c_NoOrder, .ref t.c_NoLine, .ref t.c_NoLog] = some false
  x_NoNumber : PySem.W.excIn K t.c_NoNumber bmVal newVal = true
  y_NoNumber : ExK K t.c_NoNumber
  e_NoNumber_ForerunError : PySem.W.exmOne K (.ref t.c_NoNumber) (.ref t.c_ForerunError) = some true
  i_NoNumber_ValueError : PySem.W.kitOne K (.ref t.c_NoNumber) (.type "ValueError") = some true
  i_NoNumber_NoTerm : PySem.W.kitOne K (.ref t.c_NoNumber) (.ref t.c_NoTerm) = some false
  j_NoNumber_0 : PySem.W.kitAny K (.ref t.c_NoNumber) [.ref t.c_NoNumber, .ref t.c_NoDealing, .ref t.c_Nought, .ref t.c_Great, .ref t.c_Folded, .ref t.c_NoHand, .ref t.c_NoOrder, .ref t.c_NoLine, .ref t.c_NoLog] = some true
theorem txt_mk {K : PySem.W.Frag} {h : Heap} {mg : Str → Option Value} (X : K.In h) (G : h.Ns mainGlobals mg)
    {f0 : Addr} {od0 an0 : Option Addr} {sl0 : Array (Option Value)} {oc0 kV0 dc0 pm0 cd0 ct0 : Value}
    {f1 : Addr} {od1 an1 : Option Addr} {sl1 : Array (Option Value)} {oc1 kV1 dc1 pm1 cd1 ct1 : Value}
    {f2 : Addr} {od2 an2 : Option Addr} {sl2 : Array (Option Value)} {oc2 kV2 dc2 pm2 cd2 ct2 : Value}
    {f3 : Addr} {od3 an3 : Option Addr} {sl3 : Array (Option Value)} {oc3 kV3 dc3 pm3 cd3 ct3 : Value}
    {f4 : Addr} {od4 an4 : Option Addr} {sl4 : Array (Option Value)} {oc4 kV4 dc4 pm4 cd4 ct4 : Value}
    {f5 : Addr} {od5 an5 : Option Addr} {sl5 : Array (Option Value)} {oc5 kV5 dc5 pm5 cd5 ct5 : Value}
    {f6 : Addr} {od6 an6 : Option Addr} {sl6 : Array (Option Value)} {oc6 kV6 dc6 pm6 cd6 ct6 : Value}
    {f7 : Addr} {od7 an7 : Option Addr} {sl7 : Array (Option Value)} {oc7 kV7 dc7 pm7 cd7 ct7 : Value}
    {f8 : Addr} {od8 an8 : Option Addr} {sl8 : Array (Option Value)} {oc8 kV8 dc8 pm8 cd8 ct8 : Value}
    {f9 : Addr} {od9 an9 : Option Addr} {sl9 : Array (Option Value)} {oc9 kV9 dc9 pm9 cd9 ct9 : Value}
    {f10 : Addr} {od10 an10 : Option Addr} {sl10 : Array (Option Value)} {oc10 kV10 dc10 pm10 cd10 ct10 : Value}
    {f11 : Addr} {od11 an11 : Option Addr} {sl11 : Array (Option Value)} {oc11 kV11 dc11 pm11 cd11 ct11 : Value}
    {f12 : Addr} {od12 an12 : Option Addr} {sl12 : Array (Option Value)} {oc12 kV12 dc12 pm12 cd12 ct12 : Value}
    {f13 : Addr} {od13 an13 : Option Addr} {sl13 : Array (Option Value)} {oc13 kV13 dc13 pm13 cd13 ct13 : Value}
    {f14 : Addr} {od14 an14 : Option Addr} {sl14 : Array (Option Value)} {oc14 kV14 dc14 pm14 cd14 ct14 : Value}
    {f15 : Addr} {od15 an15 : Option Addr} {sl15 : Array (Option Value)} {oc15 kV15 dc15 pm15 cd15 ct15 : Value}
    {f16 : Addr} {od16 an16 : Option Addr} {sl16 : Array (Option Value)} {oc16 kV16 dc16 pm16 cd16 ct16 : Value}
    {f17 : Addr} {od17 an17 : Option Addr} {sl17 : Array (Option Value)} {oc17 kV17 dc17 pm17 cd17 ct17 : Value}
    {f18 : Addr} {od18 an18 : Option Addr} {sl18 : Array (Option Value)} {oc18 kV18 dc18 pm18 cd18 ct18 : Value}
    {f19 : Addr} {od19 an19 : Option Addr} {sl19 : Array (Option Value)} {oc19 kV19 dc19 pm19 cd19 ct19 : Value}
    {f20 : Addr} {od20 an20 : Option Addr} {sl20 : Array (Option Value)} {oc20 kV20 dc20 pm20 cd20 ct20 : Value}
    {f21 : Addr} {od21 an21 : Option Addr} {sl21 : Array (Option Value)} {oc21 kV21 dc21 pm21 cd21 ct21 : Value}
    {f22 : Addr} {od22 an22 : Option Addr} {sl22 : Array (Option Value)} {oc22 kV22 dc22 pm22 cd22 ct22 : Value}
    {f23 : Addr} {od23 an23 : Option Addr} {sl23 : Array (Option Value)} {oc23 kV23 dc23 pm23 cd23 ct23 : Value}
    {gt0 : Tok}
    {ga1 : Addr} {gn1 : Nat} {gt1_0 : Tok} {gt1_1 : Tok} {gt1_2 : Tok} {gt1_3 : Tok} {gt1_4 : Tok} {gt1_5 : Tok} {gt1_6 : Tok}
    {gt2 : Tok}
    {gt3 : Tok}
    {gt4 : Tok}
    {gt5 : Tok}
    {ga6 : Addr} {gn6 : Nat} {gt6_0 : Tok} {gt6_1 : Tok} {gt6_2 : Tok} {gt6_3 : Tok} {gt6_4 : Tok} {gt6_5 : Tok} {gt6_6 : Tok} {gt6_7 : Tok} {gt6_8 : Tok}
    {ca0 : Addr}
    {ca1 : Addr}
    {ca2 : Addr}
    {ca3 : Addr}
    {ca4 : Addr}
    {ca5 : Addr}
    {ca6 : Addr}
    {ca7 : Addr}
    {ca8 : Addr}
    {ca9 : Addr}
    {ca10 : Addr}
    {cl0 : ClassData}
    {cl1 : ClassData}
    (qa0 : PySem.W.nsIn K mainGlobals "_law_cell_at" = some (some (.ref f0))) (ql0 : K.lookup f0 = some ⟨oc0, od0, .func (PySem.W.fnOf "_law_cell_at" "_law_cell_at" (defArgs s__law_cell_at) (defBody s__law_cell_at) (defScope s__law_cell_at) .none kV0 dc0 pm0 an0 cd0 ct0), sl0⟩) (qc0 : PySem.W.codeIn K cd0 "_law_cell_at" = true) (qk0 : PySem.W.keepIn K (.ref f0) = true)
    (qa1 : PySem.W.nsIn K mainGlobals "_law_mixed" = some (some (.ref f1))) (ql1 : K.lookup f1 = some ⟨oc1, od1, .func (PySem.W.fnOf "_law_mixed" "_law_mixed" (defArgs s__law_mixed) (defBody s__law_mixed) (defScope s__law_mixed) .none kV1 dc1 pm1 an1 cd1 ct1), sl1⟩) (qc1 : PySem.W.codeIn K cd1 "_law_mixed" = true) (qk1 : PySem.W.keepIn K (.ref f1) = true)
    (qa2 : PySem.W.nsIn K mainGlobals "_law_free" = some (some (.ref f2))) (ql2 : K.lookup f2 = some ⟨oc2, od2, .func (PySem.W.fnOf "_law_free" "_law_free" (defArgs s__law_free) (defBody s__law_free) (defScope s__law_free) .none kV2 dc2 pm2 an2 cd2 ct2), sl2⟩) (qc2 : PySem.W.codeIn K cd2 "_law_free" = true) (qk2 : PySem.W.keepIn K (.ref f2) = true)
    (qa3 : PySem.W.nsIn K mainGlobals "_law_letters" = some (some (.ref f3))) (ql3 : K.lookup f3 = some ⟨oc3, od3, .func (PySem.W.fnOf "_law_letters" "_law_letters" (defArgs s__law_letters) (defBody s__law_letters) (defScope s__law_letters) .none kV3 dc3 pm3 an3 cd3 ct3), sl3⟩) (qc3 : PySem.W.codeIn K cd3 "_law_letters" = true) (qk3 : PySem.W.keepIn K (.ref f3) = true)
    (qa4 : PySem.W.nsIn K mainGlobals "_law_leaf_word" = some (some (.ref f4))) (ql4 : K.lookup f4 = some ⟨oc4, od4, .func (PySem.W.fnOf "_law_leaf_word" "_law_leaf_word" (defArgs s__law_leaf_word) (defBody s__law_leaf_word) (defScope s__law_leaf_word) .none kV4 dc4 pm4 an4 cd4 ct4), sl4⟩) (qc4 : PySem.W.codeIn K cd4 "_law_leaf_word" = true) (qk4 : PySem.W.keepIn K (.ref f4) = true)
    (qa5 : PySem.W.nsIn K mainGlobals "_law_odd" = some (some (.ref f5))) (ql5 : K.lookup f5 = some ⟨oc5, od5, .func (PySem.W.fnOf "_law_odd" "_law_odd" (defArgs s__law_odd) (defBody s__law_odd) (defScope s__law_odd) .none kV5 dc5 pm5 an5 cd5 ct5), sl5⟩) (qc5 : PySem.W.codeIn K cd5 "_law_odd" = true) (qk5 : PySem.W.keepIn K (.ref f5) = true)
    (qa6 : PySem.W.nsIn K mainGlobals "_law_word_by" = some (some (.ref f6))) (ql6 : K.lookup f6 = some ⟨oc6, od6, .func (PySem.W.fnOf "_law_word_by" "_law_word_by" (defArgs s__law_word_by) (defBody s__law_word_by) (defScope s__law_word_by) .none kV6 dc6 pm6 an6 cd6 ct6), sl6⟩) (qc6 : PySem.W.codeIn K cd6 "_law_word_by" = true) (qk6 : PySem.W.keepIn K (.ref f6) = true)
    (qa7 : PySem.W.nsIn K mainGlobals "_law_words" = some (some (.ref f7))) (ql7 : K.lookup f7 = some ⟨oc7, od7, .func (PySem.W.fnOf "_law_words" "_law_words" (defArgs s__law_words) (defBody s__law_words) (defScope s__law_words) .none kV7 dc7 pm7 an7 cd7 ct7), sl7⟩) (qc7 : PySem.W.codeIn K cd7 "_law_words" = true) (qk7 : PySem.W.keepIn K (.ref f7) = true)
    (qa8 : PySem.W.nsIn K mainGlobals "_law_number_of" = some (some (.ref f8))) (ql8 : K.lookup f8 = some ⟨oc8, od8, .func (PySem.W.fnOf "_law_number_of" "_law_number_of" (defArgs s__law_number_of) (defBody s__law_number_of) (defScope s__law_number_of) .none kV8 dc8 pm8 an8 cd8 ct8), sl8⟩) (qc8 : PySem.W.codeIn K cd8 "_law_number_of" = true) (qk8 : PySem.W.keepIn K (.ref f8) = true)
    (qa9 : PySem.W.nsIn K mainGlobals "_law_part_of" = some (some (.ref f9))) (ql9 : K.lookup f9 = some ⟨oc9, od9, .func (PySem.W.fnOf "_law_part_of" "_law_part_of" (defArgs s__law_part_of) (defBody s__law_part_of) (defScope s__law_part_of) .none kV9 dc9 pm9 an9 cd9 ct9), sl9⟩) (qc9 : PySem.W.codeIn K cd9 "_law_part_of" = true) (qk9 : PySem.W.keepIn K (.ref f9) = true)
    (qa10 : PySem.W.nsIn K mainGlobals "_law_end" = some (some (.ref f10))) (ql10 : K.lookup f10 = some ⟨oc10, od10, .func (PySem.W.fnOf "_law_end" "_law_end" (defArgs s__law_end) (defBody s__law_end) (defScope s__law_end) .none kV10 dc10 pm10 an10 cd10 ct10), sl10⟩) (qc10 : PySem.W.codeIn K cd10 "_law_end" = true) (qk10 : PySem.W.keepIn K (.ref f10) = true)
    (qa11 : PySem.W.nsIn K mainGlobals "behind_term" = some (some (.ref f11))) (ql11 : K.lookup f11 = some ⟨oc11, od11, .func (PySem.W.fnOf "behind_term" "behind_term" (defArgs s_behind_term) (defBody s_behind_term) (defScope s_behind_term) .none kV11 dc11 pm11 an11 cd11 ct11), sl11⟩) (qc11 : PySem.W.codeIn K cd11 "behind_term" = true) (qk11 : PySem.W.keepIn K (.ref f11) = true)
    (qa12 : PySem.W.nsIn K mainGlobals "is_name" = some (some (.ref f12))) (ql12 : K.lookup f12 = some ⟨oc12, od12, .func (PySem.W.fnOf "is_name" "is_name" (defArgs s_is_name) (defBody s_is_name) (defScope s_is_name) .none kV12 dc12 pm12 an12 cd12 ct12), sl12⟩) (qc12 : PySem.W.codeIn K cd12 "is_name" = true) (qk12 : PySem.W.keepIn K (.ref f12) = true)
    (qa13 : PySem.W.nsIn K mainGlobals "is_worth" = some (some (.ref f13))) (ql13 : K.lookup f13 = some ⟨oc13, od13, .func (PySem.W.fnOf "is_worth" "is_worth" (defArgs s_is_worth) (defBody s_is_worth) (defScope s_is_worth) .none kV13 dc13 pm13 an13 cd13 ct13), sl13⟩) (qc13 : PySem.W.codeIn K cd13 "is_worth" = true) (qk13 : PySem.W.keepIn K (.ref f13) = true)
    (qa14 : PySem.W.nsIn K mainGlobals "is_figures" = some (some (.ref f14))) (ql14 : K.lookup f14 = some ⟨oc14, od14, .func (PySem.W.fnOf "is_figures" "is_figures" (defArgs s_is_figures) (defBody s_is_figures) (defScope s_is_figures) .none kV14 dc14 pm14 an14 cd14 ct14), sl14⟩) (qc14 : PySem.W.codeIn K cd14 "is_figures" = true) (qk14 : PySem.W.keepIn K (.ref f14) = true)
    (qa15 : PySem.W.nsIn K mainGlobals "numeral" = some (some (.ref f15))) (ql15 : K.lookup f15 = some ⟨oc15, od15, .func (PySem.W.fnOf "numeral" "numeral" (defArgs s_numeral) (defBody s_numeral) (defScope s_numeral) .none kV15 dc15 pm15 an15 cd15 ct15), sl15⟩) (qc15 : PySem.W.codeIn K cd15 "numeral" = true) (qk15 : PySem.W.keepIn K (.ref f15) = true)
    (qa16 : PySem.W.nsIn K mainGlobals "is_numeral" = some (some (.ref f16))) (ql16 : K.lookup f16 = some ⟨oc16, od16, .func (PySem.W.fnOf "is_numeral" "is_numeral" (defArgs s_is_numeral) (defBody s_is_numeral) (defScope s_is_numeral) .none kV16 dc16 pm16 an16 cd16 ct16), sl16⟩) (qc16 : PySem.W.codeIn K cd16 "is_numeral" = true) (qk16 : PySem.W.keepIn K (.ref f16) = true)
    (qa17 : PySem.W.nsIn K mainGlobals "worth_in" = some (some (.ref f17))) (ql17 : K.lookup f17 = some ⟨oc17, od17, .func (PySem.W.fnOf "worth_in" "worth_in" (defArgs s_worth_in) (defBody s_worth_in) (defScope s_worth_in) .none kV17 dc17 pm17 an17 cd17 ct17), sl17⟩) (qc17 : PySem.W.codeIn K cd17 "worth_in" = true) (qk17 : PySem.W.keepIn K (.ref f17) = true)
    (qa18 : PySem.W.nsIn K mainGlobals "part_in" = some (some (.ref f18))) (ql18 : K.lookup f18 = some ⟨oc18, od18, .func (PySem.W.fnOf "part_in" "part_in" (defArgs s_part_in) (defBody s_part_in) (defScope s_part_in) .none kV18 dc18 pm18 an18 cd18 ct18), sl18⟩) (qc18 : PySem.W.codeIn K cd18 "part_in" = true) (qk18 : PySem.W.keepIn K (.ref f18) = true)
    (qa19 : PySem.W.nsIn K mainGlobals "term_from" = some (some (.ref f19))) (ql19 : K.lookup f19 = some ⟨oc19, od19, .func (PySem.W.fnOf "term_from" "term_from" (defArgs s_term_from) (defBody s_term_from) (defScope s_term_from) .none kV19 dc19 pm19 an19 cd19 ct19), sl19⟩) (qc19 : PySem.W.codeIn K cd19 "term_from" = true) (qk19 : PySem.W.keepIn K (.ref f19) = true)
    (qa20 : PySem.W.nsIn K mainGlobals "_law_ahead" = some (some (.ref f20))) (ql20 : K.lookup f20 = some ⟨oc20, od20, .func (PySem.W.fnOf "_law_ahead" "_law_ahead" (defArgs s__law_ahead) (defBody s__law_ahead) (defScope s__law_ahead) .none kV20 dc20 pm20 an20 cd20 ct20), sl20⟩) (qc20 : PySem.W.codeIn K cd20 "_law_ahead" = true) (qk20 : PySem.W.keepIn K (.ref f20) = true)
    (qa21 : PySem.W.nsIn K mainGlobals "_law_read" = some (some (.ref f21))) (ql21 : K.lookup f21 = some ⟨oc21, od21, .func (PySem.W.fnOf "_law_read" "_law_read" (defArgs s__law_read) (defBody s__law_read) (defScope s__law_read) .none kV21 dc21 pm21 an21 cd21 ct21), sl21⟩) (qc21 : PySem.W.codeIn K cd21 "_law_read" = true) (qk21 : PySem.W.keepIn K (.ref f21) = true)
    (qa22 : PySem.W.nsIn K mainGlobals "_law_refused" = some (some (.ref f22))) (ql22 : K.lookup f22 = some ⟨oc22, od22, .func (PySem.W.fnOf "_law_refused" "_law_refused" (defArgs s__law_refused) (defBody s__law_refused) (defScope s__law_refused) .none kV22 dc22 pm22 an22 cd22 ct22), sl22⟩) (qc22 : PySem.W.codeIn K cd22 "_law_refused" = true) (qk22 : PySem.W.keepIn K (.ref f22) = true)
    (qa23 : PySem.W.nsIn K mainGlobals "law" = some (some (.ref f23))) (ql23 : K.lookup f23 = some ⟨oc23, od23, .func (PySem.W.fnOf "law" "law" (defArgs s_law) (defBody s_law) (defScope s_law) .none kV23 dc23 pm23 an23 cd23 ct23), sl23⟩) (qc23 : PySem.W.codeIn K cd23 "law" = true) (qk23 : PySem.W.keepIn K (.ref f23) = true)
    (qz0 : PySem.W.nsIn K mainGlobals "ValueError" = some none)
    (qz1 : PySem.W.nsIn K mainGlobals "all" = some none)
    (qz2 : PySem.W.nsIn K mainGlobals "bool" = some none)
    (qz3 : PySem.W.nsIn K mainGlobals "int" = some none)
    (qz4 : PySem.W.nsIn K mainGlobals "isinstance" = some none)
    (qz5 : PySem.W.nsIn K mainGlobals "len" = some none)
    (qz6 : PySem.W.nsIn K mainGlobals "list" = some none)
    (qz7 : PySem.W.nsIn K mainGlobals "min" = some none)
    (qz8 : PySem.W.nsIn K mainGlobals "range" = some none)
    (qz9 : PySem.W.nsIn K mainGlobals "reversed" = some none)
    (qz10 : PySem.W.nsIn K mainGlobals "str" = some none)
    (qz11 : PySem.W.nsIn K mainGlobals "tuple" = some none)
    (qg0 : PySem.W.nsIn K mainGlobals "FIGURES" = some (some (.str "0123456789" gt0)))
    (qg1 : PySem.W.nsIn K mainGlobals "JOINING" = some (some (.ref ga1))) (qh1 : K.lookup ga1 = some ⟨.type "tuple", none, .seq #[.str "plus" gt1_0, .str "minus" gt1_1, .str "times" gt1_2, .str "over" gt1_3, .str "rest" gt1_4, .str "under" gt1_5, .str "same" gt1_6] gn1, #[]⟩)
    (qg2 : PySem.W.nsIn K mainGlobals "LETTERS" = some (some (.str "abcdefghijklmnopqrstuvwxyz" gt2)))
    (qg3 : PySem.W.nsIn K mainGlobals "MOST_FIGURES" = some (some (.int 31 gt3)))
    (qg4 : PySem.W.nsIn K mainGlobals "MOST_LETTERS" = some (some (.int 6 gt4)))
    (qg5 : PySem.W.nsIn K mainGlobals "MOST_WORDS" = some (some (.int 60 gt5)))
    (qg6 : PySem.W.nsIn K mainGlobals "ROW_WORDS" = some (some (.ref ga6))) (qh6 : K.lookup ga6 = some ⟨.type "tuple", none, .seq #[.str "take" gt6_0, .str "give" gt6_1, .str "let" gt6_2, .str "say" gt6_3, .str "off" gt6_4, .str "if" gt6_5, .str "else" gt6_6, .str "end" gt6_7, .str "as" gt6_8] gn6, #[]⟩)
    (qv0 : PySem.W.nsIn K mainGlobals "Folded" = some (some (.ref ca0)))
    (qv1 : PySem.W.nsIn K mainGlobals "ForerunError" = some (some (.ref ca1)))
    (qv2 : PySem.W.nsIn K mainGlobals "Great" = some (some (.ref ca2)))
    (qv3 : PySem.W.nsIn K mainGlobals "NoDealing" = some (some (.ref ca3)))
    (qv4 : PySem.W.nsIn K mainGlobals "NoHand" = some (some (.ref ca4)))
    (qv5 : PySem.W.nsIn K mainGlobals "NoLine" = some (some (.ref ca5)))
    (qv6 : PySem.W.nsIn K mainGlobals "NoLog" = some (some (.ref ca6)))
    (qv7 : PySem.W.nsIn K mainGlobals "NoNumber" = some (some (.ref ca7)))
    (qv8 : PySem.W.nsIn K mainGlobals "NoOrder" = some (some (.ref ca8)))
    (qv9 : PySem.W.nsIn K mainGlobals "NoTerm" = some (some (.ref ca9)))
    (qv10 : PySem.W.nsIn K mainGlobals "Nought" = some (some (.ref ca10)))
    (rx0 : PySem.W.excIn K ca9 bmVal newVal = true)
    (ry0_0 : PySem.W.findIn K (.ref ca9) "__getattribute__" = some (some (.builtin "BaseException.__getattribute__")))
    (ry0_1 : PySem.W.findIn K (.ref ca9) "__getattr__" = some none)
    (ry0_2 : PySem.W.findIn K (.ref ca9) "__class__" = some (some (.builtin "object.__class__")))
    (ry0_3 : PySem.W.mroIn K ca9 (.type "object") = some true)
    (ry0_4 : PySem.W.mroIn K ca9 (.type "BaseException") = some true)
    (ry0_5 : PySem.W.specialIn K (.builtin "object.__class__") "__get__" = some (some (.builtin "getset_descriptor.__get__")))
    (ry0_6 : PySem.W.takesIn K (.builtin "object.__class__") = some true)
    (ry0_7 : PySem.W.clsIn K ca9 = some cl0)
    (re0_0 : PySem.W.exmOne K (.ref ca9) (.ref ca1) = some true)
    (ri0_0 : PySem.W.kitOne K (.ref ca9) (.type "ValueError") = some true)
    (ri0_1 : PySem.W.kitOne K (.ref ca9) (.ref ca9) = some true)
    (rj0_0 : PySem.W.kitAny K (.ref ca9) [(.ref ca7), (.ref ca3), (.ref ca10), (.ref ca2), (.ref ca0), (.ref ca4), (.ref ca8), (.ref ca5), (.ref ca6)] = some false)
    (rx1 : PySem.W.excIn K ca7 bmVal newVal = true)
    (ry1_0 : PySem.W.findIn K (.ref ca7) "__getattribute__" = some (some (.builtin "BaseException.__getattribute__")))
    (ry1_1 : PySem.W.findIn K (.ref ca7) "__getattr__" = some none)
    (ry1_2 : PySem.W.findIn K (.ref ca7) "__class__" = some (some (.builtin "object.__class__")))
    (ry1_3 : PySem.W.mroIn K ca7 (.type "object") = some true)
    (ry1_4 : PySem.W.mroIn K ca7 (.type "BaseException") = some true)
    (ry1_5 : PySem.W.specialIn K (.builtin "object.__class__") "__get__" = some (some (.builtin "getset_descriptor.__get__")))
    (ry1_6 : PySem.W.takesIn K (.builtin "object.__class__") = some true)
    (ry1_7 : PySem.W.clsIn K ca7 = some cl1)
    (re1_0 : PySem.W.exmOne K (.ref ca7) (.ref ca1) = some true)
    (ri1_0 : PySem.W.kitOne K (.ref ca7) (.type "ValueError") = some true)
    (ri1_1 : PySem.W.kitOne K (.ref ca7) (.ref ca9) = some false)
    (rj1_0 : PySem.W.kitAny K (.ref ca7) [(.ref ca7), (.ref ca3), (.ref ca10), (.ref ca2), (.ref ca0), (.ref ca4), (.ref ca8), (.ref ca5), (.ref ca6)] = some true) : ∃ t, Txt K mg t := by
  have F0 := fun_mk (st := s__law_cell_at) ql0 qc0 qk0
  have F1 := fun_mk (st := s__law_mixed) ql1 qc1 qk1
  have F2 := fun_mk (st := s__law_free) ql2 qc2 qk2
  have F3 := fun_mk (st := s__law_letters) ql3 qc3 qk3
  have F4 := fun_mk (st := s__law_leaf_word) ql4 qc4 qk4
  have F5 := fun_mk (st := s__law_odd) ql5 qc5 qk5
  have F6 := fun_mk (st := s__law_word_by) ql6 qc6 qk6
  have F7 := fun_mk (st := s__law_words) ql7 qc7 qk7
  have F8 := fun_mk (st := s__law_number_of) ql8 qc8 qk8
  have F9 := fun_mk (st := s__law_part_of) ql9 qc9 qk9
  have F10 := fun_mk (st := s__law_end) ql10 qc10 qk10
  have F11 := fun_mk (st := s_behind_term) ql11 qc11 qk11
  have F12 := fun_mk (st := s_is_name) ql12 qc12 qk12
  have F13 := fun_mk (st := s_is_worth) ql13 qc13 qk13
  have F14 := fun_mk (st := s_is_figures) ql14 qc14 qk14
  have F15 := fun_mk (st := s_numeral) ql15 qc15 qk15
  have F16 := fun_mk (st := s_is_numeral) ql16 qc16 qk16
  have F17 := fun_mk (st := s_worth_in) ql17 qc17 qk17
  have F18 := fun_mk (st := s_part_in) ql18 qc18 qk18
  have F19 := fun_mk (st := s_term_from) ql19 qc19 qk19
  have F20 := fun_mk (st := s__law_ahead) ql20 qc20 qk20
  have F21 := fun_mk (st := s__law_read) ql21 qc21 qk21
  have F22 := fun_mk (st := s__law_refused) ql22 qc22 qk22
  have F23 := fun_mk (st := s_law) ql23 qc23 qk23
  exact ⟨⟨f0, _, f1, _, f2, _, f3, _, f4, _, f5, _, f6, _, f7, _, f8, _, f9, _, f10, _, f11, _, f12, _, f13, _, f14, _, f15, _, f16, _, f17, _, f18, _, f19, _, f20, _, f21, _, f22, _, f23, _, gt0, ga1, gt2, gt3, gt4, gt5, ga6, ca0, ca1, ca2, ca3, ca4, ca5, ca6, ca7, ca8, ca9, ca10⟩, ⟨F0, F0.binds (ps := ["script", "k"]) (fun _ _ _ _ _ _ us hl => match us, hl with | [_, _], _ => rfl), PySem.W.mg_of X G qa0,
    F1, F1.binds (ps := ["cell", "k"]) (fun _ _ _ _ _ _ us hl => match us, hl with | [_, _], _ => rfl), PySem.W.mg_of X G qa1,
    F2, F2.binds (ps := ["name"]) (fun _ _ _ _ _ _ us hl => match us, hl with | [_], _ => rfl), PySem.W.mg_of X G qa2,
    F3, F3.binds (ps := ["number", "many"]) (fun _ _ _ _ _ _ us hl => match us, hl with | [_, _], _ => rfl), PySem.W.mg_of X G qa3,
    F4, F4.binds (ps := ["number"]) (fun _ _ _ _ _ _ us hl => match us, hl with | [_], _ => rfl), PySem.W.mg_of X G qa4,
    F5, F5.binds (ps := ["number"]) (fun _ _ _ _ _ _ us hl => match us, hl with | [_], _ => rfl), PySem.W.mg_of X G qa5,
    F6, F6.binds (ps := ["cell"]) (fun _ _ _ _ _ _ us hl => match us, hl with | [_], _ => rfl), PySem.W.mg_of X G qa6,
    F7, F7.binds (ps := ["script", "ahead"]) (fun _ _ _ _ _ _ us hl => match us, hl with | [_, _], _ => rfl), PySem.W.mg_of X G qa7,
    F8, F8.binds (ps := ["word"]) (fun _ _ _ _ _ _ us hl => match us, hl with | [_], _ => rfl), PySem.W.mg_of X G qa8,
    F9, F9.binds (ps := ["word"]) (fun _ _ _ _ _ _ us hl => match us, hl with | [_], _ => rfl), PySem.W.mg_of X G qa9,
    F10, F10.binds (ps := ["words", "at"]) (fun _ _ _ _ _ _ us hl => match us, hl with | [_, _], _ => rfl), PySem.W.mg_of X G qa10,
    F11, F11.binds (ps := ["words", "at"]) (fun _ _ _ _ _ _ us hl => match us, hl with | [_, _], _ => rfl), PySem.W.mg_of X G qa11,
    F12, F12.binds (ps := ["text"]) (fun _ _ _ _ _ _ us hl => match us, hl with | [_], _ => rfl), PySem.W.mg_of X G qa12,
    F13, F13.binds (ps := ["thing"]) (fun _ _ _ _ _ _ us hl => match us, hl with | [_], _ => rfl), PySem.W.mg_of X G qa13,
    F14, F14.binds (ps := ["text"]) (fun _ _ _ _ _ _ us hl => match us, hl with | [_], _ => rfl), PySem.W.mg_of X G qa14,
    F15, F15.binds (ps := ["worth"]) (fun _ _ _ _ _ _ us hl => match us, hl with | [_], _ => rfl), PySem.W.mg_of X G qa15,
    F16, F16.binds (ps := ["text"]) (fun _ _ _ _ _ _ us hl => match us, hl with | [_], _ => rfl), PySem.W.mg_of X G qa16,
    F17, F17.binds (ps := ["text"]) (fun _ _ _ _ _ _ us hl => match us, hl with | [_], _ => rfl), PySem.W.mg_of X G qa17,
    F18, F18.binds (ps := ["word"]) (fun _ _ _ _ _ _ us hl => match us, hl with | [_], _ => rfl), PySem.W.mg_of X G qa18,
    F19, F19.binds (ps := ["words", "at"]) (fun _ _ _ _ _ _ us hl => match us, hl with | [_, _], _ => rfl), PySem.W.mg_of X G qa19,
    F20, F20.binds (ps := ["term"]) (fun _ _ _ _ _ _ us hl => match us, hl with | [_], _ => rfl), PySem.W.mg_of X G qa20,
    F21, F21.binds (ps := ["words", "at", "end"]) (fun _ _ _ _ _ _ us hl => match us, hl with | [_, _, _], _ => rfl), PySem.W.mg_of X G qa21,
    F22, F22.binds (ps := ["words", "at"]) (fun _ _ _ _ _ _ us hl => match us, hl with | [_, _], _ => rfl), PySem.W.mg_of X G qa22,
    F23, F23.binds (ps := ["script"]) (fun _ _ _ _ _ _ us hl => match us, hl with | [_], _ => rfl), PySem.W.mg_of X G qa23,
    fun s v => .of_eq rfl,
    PySem.W.mg_none_of X G qz0,
    PySem.W.mg_none_of X G qz1,
    PySem.W.mg_none_of X G qz2,
    PySem.W.mg_none_of X G qz3,
    PySem.W.mg_none_of X G qz4,
    PySem.W.mg_none_of X G qz5,
    PySem.W.mg_none_of X G qz6,
    PySem.W.mg_none_of X G qz7,
    PySem.W.mg_none_of X G qz8,
    PySem.W.mg_none_of X G qz9,
    PySem.W.mg_none_of X G qz10,
    PySem.W.mg_none_of X G qz11,
    PySem.W.mg_of X G qg0,
    PySem.W.mg_of X G qg1, fun _ => .inr ⟨_, _, _, qh1, rfl, rfl, (by show 7 ≤ sizeLine; decide), (.cons ⟨_, rfl⟩ (.cons ⟨_, rfl⟩ (.cons ⟨_, rfl⟩ (.cons ⟨_, rfl⟩ (.cons ⟨_, rfl⟩ (.cons ⟨_, rfl⟩ (.cons ⟨_, rfl⟩ .nil)))))))⟩,
    PySem.W.mg_of X G qg2,
    PySem.W.mg_of X G qg3,
    PySem.W.mg_of X G qg4,
    PySem.W.mg_of X G qg5,
    PySem.W.mg_of X G qg6, fun _ => .inr ⟨_, _, _, qh6, rfl, rfl, (by show 9 ≤ sizeLine; decide), (.cons ⟨_, rfl⟩ (.cons ⟨_, rfl⟩ (.cons ⟨_, rfl⟩ (.cons ⟨_, rfl⟩ (.cons ⟨_, rfl⟩ (.cons ⟨_, rfl⟩ (.cons ⟨_, rfl⟩ (.cons ⟨_, rfl⟩ (.cons ⟨_, rfl⟩ .nil)))))))))⟩,
    PySem.W.mg_of X G qv0,
    PySem.W.mg_of X G qv1,
    PySem.W.mg_of X G qv2,
    PySem.W.mg_of X G qv3,
    PySem.W.mg_of X G qv4,
    PySem.W.mg_of X G qv5,
    PySem.W.mg_of X G qv6,
    PySem.W.mg_of X G qv7,
    PySem.W.mg_of X G qv8,
    PySem.W.mg_of X G qv9,
    PySem.W.mg_of X G qv10,
    rx0,
    ⟨⟨ry0_0, ry0_1, ry0_2, ry0_3, ry0_4, ry0_5, ry0_6⟩, by rw [ry0_7]; rfl⟩,
    re0_0,
    ri0_0,
    ri0_1,
    rj0_0,
    rx1,
    ⟨⟨ry1_0, ry1_1, ry1_2, ry1_3, ry1_4, ry1_5, ry1_6⟩, by rw [ry1_7]; rfl⟩,
    re1_0,
    ri1_0,
    ri1_1,
    rj1_0⟩⟩
def IntFact (K : PySem.W.Frag) : Prop := PySem.W.kitOne K (.type "int") (.type "bool") = some false
def NoInt (K : PySem.W.Frag) (H : Hp) (x : V) : Prop := ∃ T b, TyOf K H x (.type T) ∧ PySem.W.kitOne K (.type T) (.type "int") = some b ∧ (b = true → PySem.W.kitOne K (.type T) (.type "bool") = some true)
structure KF (K : PySem.W.Frag) : Prop where
  i_b : PySem.W.kitOne K (.type "int") (.type "bool") = some false
  s_b : PySem.W.kitOne K (.type "str") (.type "bool") = some false
  s_i : PySem.W.kitOne K (.type "str") (.type "int") = some false
def okWs (ws : List Str) : Prop := ∀ w ∈ ws, w.length ≤ 100 ∧ Asc w
def behR (C : Addr) (o : Option Nat) (k : Nat) (Q : VK) (E : XK) (H : Hp) : Prop := match o with
  | some n => if n ≤ 60 then Q (.int ((k + n : Nat) : Int)) H else E (.ref C) none H
  | none => E (.ref C) none H
def sp_is_worth (K : PySem.W.Frag) : Sp := fun vs H Q _ => ∃ x, vs = [x] ∧ ((∃ i, x = .int i ∧ ∀ H', Same H H' → Q (.bl (inW i)) H') ∨ (NoInt K H x ∧ ∀ H', Same H H' → Q (.bl false) H'))
def sp_numeral : Sp := fun vs H Q _ => ∃ w, vs = [.int w] ∧ inW w = true ∧ ∀ H', Same H H' → Q (.str (numS w)) H'
def sp_is_figures : Sp := fun vs H Q _ => ∃ x : Str, vs = [.str x] ∧ x.length ≤ 1000 ∧ ∀ H', Same H H' → Q (.bl (isFig x)) H'
def sp_is_numeral : Sp := fun vs H Q _ => ∃ x : Str, vs = [.str x] ∧ x.length ≤ 1000 ∧ ∀ H', Same H H' → Q (.bl (isNum x)) H'
def sp_worth_in (t : Adr) : Sp := fun vs H Q E => ∃ x : Str, vs = [.str x] ∧ x.length ≤ 1000 ∧ Asc x ∧ ∀ H', Same H H' → if isNum x = true then Q (.int (valOf x)) H' else E (.ref t.c_NoNumber) none H'
def sp_is_name : Sp := fun vs H Q _ => ∃ x : Str, vs = [.str x] ∧ x.length ≤ 1000 ∧ ∀ H', Same H H' → Q (.bl (isName x)) H'
def sp_part_in (t : Adr) : Sp := fun vs H Q E => ∃ x : Str, vs = [.str x] ∧ x.length ≤ 1000 ∧ Asc x ∧ ∀ H', Same H H' → (match partW x with | some v => Q v H' | none => E (.ref t.c_NoTerm) none H')
def sp_behind_term (t : Adr) : Sp := fun vs H Q E => ∃ (a : Addr) (ws : List Str) (k : Nat), vs = [.ref a, .int k] ∧ H a = some (.lst (ws.map V.str)) ∧ ws.length ≤ 1000 ∧ ∀ H', Same H H' → behR t.c_NoTerm (scanE (ws.drop k) 1) k Q E H'
def sp_term_from (t : Adr) : Sp := fun vs H Q E => ∃ (a : Addr) (ws : List Str) (k : Nat), vs = [.ref a, .int k] ∧ H a = some (.lst (ws.map V.str)) ∧ ws.length ≤ 1000 ∧ okWs ws ∧
  ((∃ ps e, parse ws k = some (ps, e) ∧ ∀ H' p r, Same H H' → H' p = some (.tup [.ref r, .int (e : Nat)]) → H' r = some (.tup ps) → Q (.ref p) H') ∨ (parse ws k = none ∧ ∀ H', Same H H' → E (.ref t.c_NoTerm) none H'))
def sp__law_cell_at (K : PySem.W.Frag) : Sp := fun vs H Q _ => ∃ (a : Addr) (ns : List Int) (k : Nat), vs = [.ref a, .int k] ∧ SqL K H a (ns.map V.int) ∧ ns.length ≤ 63 ∧ ∀ c H', Same H H' → Q (.int c) H'
def sp__law_mixed : Sp := fun vs H Q _ => ∃ c k, vs = [.int c, .int k] ∧ 0 ≤ k ∧ k ≤ 100 ∧ ∀ r H', 0 ≤ r → r < 2147483648 → Same H H' → Q (.int r) H'
def sp__law_letters : Sp := fun vs H Q _ => ∃ n m, vs = [.int n, .int m] ∧ 0 ≤ m ∧ m ≤ 6 ∧ ∀ (x : Str) H', x.length ≤ 6 → Asc x → Same H H' → Q (.str x) H'
def freeW (x : Str) : Str := if inV (.str x) wl = true then x ++ "q" else if inV (.str x) jw = true then x ++ "q" else x
def sp__law_free : Sp := fun vs H Q _ => ∃ x : Str, vs = [.str x] ∧ x.length ≤ 1000 ∧ ∀ H', Same H H' → Q (.str (freeW x)) H'
def anyW (H : Hp) (Q : VK) : Prop := ∀ (x : Str) H', x.length ≤ 100 → Asc x → Same H H' → Q (.str x) H'
def sp__law_odd : Sp := fun vs H Q _ => ∃ n, vs = [.int n] ∧ anyW H Q
def sp__law_leaf_word : Sp := fun vs H Q _ => ∃ n, vs = [.int n] ∧ 0 ≤ n ∧ n < 2147483648 ∧ anyW H Q
def sp__law_word_by : Sp := fun vs H Q _ => ∃ n, vs = [.int n] ∧ anyW H Q
def sp__law_words (K : PySem.W.Frag) : Sp := fun vs H Q _ => ∃ (a : Addr) (ns : List Int) (k : Nat), vs = [.ref a, .int k] ∧ SqL K H a (ns.map V.int) ∧ ns.length ≤ 63 ∧ k ≤ 4 ∧ ∀ p ws H', Same H H' → H' p = some (.lst (ws.map V.str)) → ws.length ≤ 500 → okWs ws → Q (.ref p) H'
def sp__law_number_of : Sp := fun vs H Q _ => ∃ x : Str, vs = [.str x] ∧ x.length ≤ 1000 ∧ ∀ H', Same H H' → if isNum x = true then Q (.int (valOf x)) H' else Q .non H'
def sp__law_part_of : Sp := fun vs H Q _ => ∃ x : Str, vs = [.str x] ∧ x.length ≤ 1000 ∧ ∀ H', Same H H' → Q ((partW x).getD .non) H'
def endV : Option (List V × Nat) → V
  | some (_, e) => .int (e : Nat)
  | none => .non
def sp__law_end : Sp := fun vs H Q _ => ∃ (a : Addr) (ws : List Str) (k : Nat), vs = [.ref a, .int k] ∧ H a = some (.lst (ws.map V.str)) ∧ ws.length ≤ 1000 ∧ k ≤ 1000 ∧ okWs ws ∧ ∀ H', Same H H' → Q (endV (parse ws k)) H'
def sp__law_ahead : Sp := fun vs H Q _ => ∃ tm T, vs = [.ref tm] ∧ H tm = some (.tup (pst T)) ∧ wfT T ∧ okT T = true ∧ (pre T).length ≤ 100 ∧ ∀ p H', Same H H' → H' p = some (.lst ((pre T).map pvw)) → Q (.ref p) H'
def sp__law_read : Sp := fun vs H Q _ => ∃ (a : Addr) (ws : List Str) (k e : Nat) (ps : List V), vs = [.ref a, .int k, .int e] ∧ H a = some (.lst (ws.map V.str)) ∧ ws.length ≤ 1000 ∧ okWs ws ∧ parse ws k = some (ps, e) ∧ ∀ H', Same H H' → Q (.bl true) H'
def sp__law_refused : Sp := fun vs H Q _ => ∃ (a : Addr) (ws : List Str) (k : Nat), vs = [.ref a, .int k] ∧ H a = some (.lst (ws.map V.str)) ∧ ws.length ≤ 1000 ∧ okWs ws ∧ parse ws k = none ∧ ∀ H', Same H H' → Q (.bl true) H'
def sp_law (K : PySem.W.Frag) : Sp := fun vs H Q _ => ∃ (a : Addr) (ns : List Int), vs = [.ref a] ∧ SqL K H a (ns.map V.int) ∧ ns.length ≤ 63 ∧ ∀ H', Q (.bl true) H'

def rd__law_cell_at (K : PySem.W.Frag) (t : Adr) : TS := (tSeq (tIfS (tTest (tOp (rI0 fun i j => .bl (decide (i < j))) (tVar 1) (tCB (cLen K) (tCons (tVar 0) tNil))))
      (tRet (tOp (rIxL K) (tVar 0) (tVar 1)))
      tNext)
    (tRet (tC (.int 0))))
def rd__law_mixed (K : PySem.W.Frag) (t : Adr) : TS := (tSeq (tAsg (tOp (rI0 fun i j => .int (i + j)) (tOp (rI0 fun i j => .int (i + j)) (tOp (rI (fun _ j => 0 < j) fun i j => .int (i % j)) (tVar 0) (tC (.int 2147483647))) (tOp (rI CMulB fun i j => .int (i * j)) (tC (.int 11)) (tVar 1))) (tC (.int 7))) (gName 2))
    (tRet (tOp (rI CDivB fun i j => .int (i / j)) (tOp (rI (fun _ j => 0 < j) fun i j => .int (i % j)) (tOp (rI CMulB fun i j => .int (i * j)) (tVar 2) (tOp (rI0 fun i j => .int (i + j)) (tOp (rI0 fun i j => .int (i + j)) (tVar 2) (tC (.int 48271))) (tVar 1))) (tC (.int 2147483647))) (tC (.int 5)))))
def rd__law_free (K : PySem.W.Frag) (t : Adr) : TS := (tSeq (tIfS (tTest (tOp (rIn K false) (tVar 0) (tTup (tCons (tC (.str "take")) (tCons (tC (.str "give")) (tCons (tC (.str "let")) (tCons (tC (.str "say")) (tCons (tC (.str "off")) (tCons (tC (.str "if")) (tCons (tC (.str "else")) (tCons (tC (.str "end")) (tCons (tC (.str "as")) tNil))))))))))))
      (tRet (tOp rAddS (tVar 0) (tC (.str "q"))))
      tNext)
    (tSeq (tIfS (tTest (tOp (rIn K false) (tVar 0) (tTup (tCons (tC (.str "plus")) (tCons (tC (.str "minus")) (tCons (tC (.str "times")) (tCons (tC (.str "over")) (tCons (tC (.str "rest")) (tCons (tC (.str "under")) (tCons (tC (.str "same")) tNil))))))))))
      (tRet (tOp rAddS (tVar 0) (tC (.str "q"))))
      tNext)
    (tRet (tVar 0))))
def rd__law_letters (K : PySem.W.Frag) (t : Adr) : TS := (tSeq (tAsg (tC (.str "abcdefghijklmnopqrstuvwxyz")) (gName 2))
    (tSeq (tAsg (tC (.str "")) (gName 3))
    (tSeq (tFor (iRng1 (tCons (tVar 1) tNil)) (gName 4)
      (tSeq (tAsg (tOp rAddS (tVar 3) (tOp rIxS (tVar 2) (tOp (rI (fun _ j => 0 < j) fun i j => .int (i % j)) (tVar 0) (tC (.int 26))))) (gName 3))
    (tAsg (tOp (rI0 fun i j => .int (i + j)) (tOp (rI CDivB fun i j => .int (i / j)) (tVar 0) (tC (.int 26))) (tOp (rI CMulB fun i j => .int (i * j)) (tOp (rI CMulB fun i j => .int (i * j)) (tC (.int 991)) (tVar 4)) (tVar 4))) (gName 0))))
    (tRet (tVar 3)))))
def rd__law_leaf_word (K : PySem.W.Frag) (t : Adr) : TS := (tSeq (tIfS (tTest (tOp rEq (tOp (rI (fun _ j => 0 < j) fun i j => .int (i % j)) (tVar 0) (tC (.int 2))) (tC (.int 0))))
      (tRet (tCall sp__law_free [] E0 (tCons (tCall sp__law_letters [] E0 (tCons (tOp (rI CDivB fun i j => .int (i / j)) (tVar 0) (tC (.int 12))) (tCons (tOp (rI0 fun i j => .int (i + j)) (tC (.int 1)) (tOp (rI (fun _ j => 0 < j) fun i j => .int (i % j)) (tOp (rI CDivB fun i j => .int (i / j)) (tVar 0) (tC (.int 2))) (tC (.int 6)))) tNil))) tNil)))
      tNext)
    (tSeq (tIfS (tTest (tOp rEq (tOp (rI (fun _ j => 0 < j) fun i j => .int (i % j)) (tVar 0) (tC (.int 4))) (tC (.int 1))))
      (tRet (tCB cStr (tCons (tOp (rI0 fun i j => .int (i - j)) (tOp (rI (fun _ j => 0 < j) fun i j => .int (i % j)) (tOp (rI CDivB fun i j => .int (i / j)) (tVar 0) (tC (.int 4))) (tC (.int 30))) (tC (.int 9))) tNil)))
      tNext)
    (tRet (tCB cStr (tCons (tOp (rI0 fun i j => .int (i - j)) (tOp (rI (fun _ j => 0 < j) fun i j => .int (i % j)) (tOp (rI0 fun i j => .int (i + j)) (tOp (rI CPow fun i j => .int (i ^ j.toNat)) (tVar 0) (tC (.int 4))) (tOp (rI CPow fun i j => .int (i ^ j.toNat)) (tC (.int 10)) (tC (.int 30)))) (tOp (rI0 fun i j => .int (i + j)) (tOp (rI CMulB fun i j => .int (i * j)) (tC (.int 2)) (tOp (rI CPow fun i j => .int (i ^ j.toNat)) (tC (.int 10)) (tC (.int 30)))) (tC (.int 1)))) (tOp (rI CPow fun i j => .int (i ^ j.toNat)) (tC (.int 10)) (tC (.int 30)))) tNil)))))
def rd__law_odd (K : PySem.W.Frag) (t : Adr) : TS := (tSeq (tAsg (tLst (tCons (tC (.str "take")) (tCons (tC (.str "give")) (tCons (tC (.str "let")) (tCons (tC (.str "say")) (tCons (tC (.str "off")) (tCons (tC (.str "if")) (tCons (tC (.str "else")) (tCons (tC (.str "end")) (tCons (tC (.str "as")) (tCons (tC (.str "Plus")) (tCons (tC (.str "x1")) (tCons (tC (.str "letters")) (tCons (tC (.str "")) (tCons (tC (.str "007")) tNil))))))))))))))) (gName 1))
    (tSeq (tAsg (tOp rCat (tVar 1) (tLst (tCons (tC (.str "-0")) (tCons (tC (.str "+1")) (tCons (tC (.str "1_0")) (tCons (tC (.str " 1")) (tCons (tC (.str "-")) (tCons (tC (.str "a b")) (tCons (tOp rAddS (tC (.str "1")) (tOp rMulS (tC (.str "0")) (tC (.int 31)))) (tCons (tOp rAddS (tOp rAddS (tC (.str "-1")) (tOp rMulS (tC (.str "0")) (tC (.int 29)))) (tC (.str "1"))) tNil)))))))))) (gName 1))
    (tRet (tOp (rIxL K) (tVar 1) (tOp (rI (fun _ j => 0 < j) fun i j => .int (i % j)) (tVar 0) (tC (.int 22)))))))
def rd__law_word_by (K : PySem.W.Frag) (t : Adr) : TS := (tSeq (tAsg (tCall sp__law_mixed [] E0 (tCons (tVar 0) (tCons (tC (.int 1)) tNil))) (gName 1))
    (tSeq (tIfS (tTest (tOp rEq (tOp (rI (fun _ j => 0 < j) fun i j => .int (i % j)) (tVar 0) (tC (.int 16))) (tC (.int 9))))
      (tRet (tCall sp__law_odd [] E0 (tCons (tVar 1) tNil)))
      tNext)
    (tSeq (tIfS (tTest (tOp (rI0 fun i j => .bl (decide (i < j))) (tOp (rI (fun _ j => 0 < j) fun i j => .int (i % j)) (tVar 0) (tC (.int 5))) (tC (.int 2))))
      (tRet (tOp (rIxL K) (tLst (tCons (tC (.str "plus")) (tCons (tC (.str "minus")) (tCons (tC (.str "times")) (tCons (tC (.str "over")) (tCons (tC (.str "rest")) (tCons (tC (.str "under")) (tCons (tC (.str "same")) tNil)))))))) (tOp (rI (fun _ j => 0 < j) fun i j => .int (i % j)) (tVar 1) (tC (.int 7)))))
      tNext)
    (tRet (tCall sp__law_leaf_word [] E0 (tCons (tCall sp__law_mixed [] E0 (tCons (tVar 0) (tCons (tC (.int 2)) tNil))) tNil))))))
def rd__law_words_10 (K : PySem.W.Frag) (t : Adr) : TS := (tRet (tOp rCat (tVar 4) (tComp (iRng1 (tCons (tVar 6) tNil)) (gName 0) tYes (tCall sp__law_leaf_word [] E0 (tCons (tCall sp__law_mixed [] E0 (tCons (tCall (sp__law_cell_at K) [] E0 (tCons (tVar 1) (tCons (tC (.int 2)) tNil))) (tCons (tVar 0) tNil))) tNil)) 1 [0])))
def rd__law_words_8 (K : PySem.W.Frag) (t : Adr) : TS := (tSeq (tAsg (tOp (rI (fun _ j => 0 < j) fun i j => .int (i % j)) (tCall (sp__law_cell_at K) [] E0 (tCons (tVar 0) (tCons (tC (.int 2)) tNil))) (tC (.int 71))) (gName 6))
    (tSeq (tIfS (tTest (tOp rEq (tOp (rI (fun _ j => 0 < j) fun i j => .int (i % j)) (tOp (rI CDivB fun i j => .int (i / j)) (tCall (sp__law_cell_at K) [] E0 (tCons (tVar 0) (tCons (tC (.int 2)) tNil))) (tC (.int 71))) (tC (.int 2))) (tC (.int 1))))
      (tAsg (tOp (rI0 fun i j => .int (i + j)) (tVar 3) (tOp (rI (fun _ j => 0 < j) fun i j => .int (i % j)) (tOp (rI CDivB fun i j => .int (i / j)) (tCall (sp__law_cell_at K) [] E0 (tCons (tVar 0) (tCons (tC (.int 2)) tNil))) (tC (.int 142))) (tC (.int 3)))) (gName 6))
      tNext)
    (rd__law_words_10 K t)))
def rd__law_words_7 (K : PySem.W.Frag) (t : Adr) : TS := (tSeq (tAsg (tOp rCat (tSl (rSlL K) (tVar 4) tNoPart (tPart (tOp (rI0 fun i j => .int (i + j)) (tVar 1) (tVar 3)))) (tComp (iList K (tSl (rSlL K) (tVar 0) (tPart (tC (.int 3))) (tPart (tOp (rI0 fun i j => .int (i + j)) (tC (.int 3)) (tVar 5))))) (gName 0) tYes (tCall sp__law_word_by [] E0 (tCons (tVar 0) tNil)) 1 [])) (gName 4))
    (rd__law_words_8 K t))
def rd__law_words_5 (K : PySem.W.Frag) (t : Adr) : TS := (tSeq (tAsg (tC (.int 80)) (gName 5))
    (tSeq (tIfS (tTest (tOp rEq (tOp (rI (fun _ j => 0 < j) fun i j => .int (i % j)) (tOp (rI CDivB fun i j => .int (i / j)) (tVar 2) (tC (.int 34))) (tC (.int 3))) (tC (.int 1))))
      (tAsg (tC (.int 0)) (gName 5))
      tNext)
    (rd__law_words_7 K t)))
def rd__law_words_3 (K : PySem.W.Frag) (t : Adr) : TS := (tSeq (tAsg (tComp (iRng1 (tCons (tVar 1) tNil)) (gName 0) tYes (tCall sp__law_word_by [] E0 (tCons (tOp (rI0 fun i j => .int (i + j)) (tOp (rI CDivB fun i j => .int (i / j)) (tVar 1) (tC (.int 34))) (tOp (rI CMulB fun i j => .int (i * j)) (tOp (rI CMulB fun i j => .int (i * j)) (tC (.int 3)) (tVar 0)) (tVar 0))) tNil)) 1 [2]) (gName 4))
    (tSeq (tAsg (tOp rCat (tVar 4) (tOp rRep (tLst (tCons (tC (.str "plus")) (tCons (tC (.str "under")) (tCons (tC (.str "times")) (tCons (tC (.str "same")) (tCons (tC (.str "minus")) (tCons (tC (.str "over")) (tCons (tC (.str "rest")) tNil)))))))) (tC (.int 5)))) (gName 4))
    (rd__law_words_5 K t)))
def rd__law_words (K : PySem.W.Frag) (t : Adr) : TS := (tSeq (tAsg (tCall (sp__law_cell_at K) [] E0 (tCons (tVar 0) (tCons (tC (.int 1)) tNil))) (gName 2))
    (tSeq (tAsg (tOp (rI (fun _ j => 0 < j) fun i j => .int (i % j)) (tVar 2) (tC (.int 34))) (gName 3))
    (tSeq (tIfS (tTest (tOp rEq (tOp (rI (fun _ j => 0 < j) fun i j => .int (i % j)) (tOp (rI CDivB fun i j => .int (i / j)) (tVar 2) (tC (.int 34))) (tC (.int 3))) (tC (.int 1))))
      (tAsg (tOp (rI0 fun i j => .int (i + j)) (tC (.int 27)) (tOp (rI (fun _ j => 0 < j) fun i j => .int (i % j)) (tVar 2) (tC (.int 7)))) (gName 3))
      tNext)
    (rd__law_words_3 K t))))
def rd__law_number_of_3 (K : PySem.W.Frag) (t : Adr) : TS := (tSeq (tFor (iStr (tVar 1)) (gName 2)
      (tIfS (tTest (tOp rNotInS (tVar 2) (tC (.str "0123456789"))))
      (tRet (tC .non))
      tNext))
    (tSeq (tIfS (tAnd (tTest (tOp rEq (tCB (cLen K) (tCons (tVar 1) tNil)) (tC (.int 31)))) (tTest (tOp rNe (tVar 1) (tOp rAddS (tC (.str "1")) (tOp rMulS (tC (.str "0")) (tC (.int 30)))))))
      (tRet (tC .non))
      tNext)
    (tRet (tCB cInt (tCons (tVar 0) tNil)))))
def rd__law_number_of_2 (K : PySem.W.Frag) (t : Adr) : TS := (tSeq (tIfS (tOr (tTest (tOp rEq (tVar 1) (tC (.str "")))) (tOr (tTest (tOp (rI0 fun i j => .bl (decide (j < i))) (tCB (cLen K) (tCons (tVar 1) tNil)) (tC (.int 31)))) (tAnd (tTest (tOp rEq (tOp rIxS (tVar 1) (tC (.int 0))) (tC (.str "0")))) (tTest (tOp rNe (tVar 0) (tC (.str "0")))))))
      (tRet (tC .non))
      tNext)
    (rd__law_number_of_3 K t))
def rd__law_number_of (K : PySem.W.Frag) (t : Adr) : TS := (tSeq (tAsg (tVar 0) (gName 1))
    (tSeq (tIfS (tTest (tOp rEq (tSl rSlS (tVar 0) tNoPart (tPart (tC (.int 1)))) (tC (.str "-"))))
      (tAsg (tSl rSlS (tVar 0) (tPart (tC (.int 1))) tNoPart) (gName 1))
      tNext)
    (rd__law_number_of_2 K t)))
def rd__law_part_of_1 (K : PySem.W.Frag) (t : Adr) : TS := (tSeq (tIfS (tAnd (tTest (tChain (rI0 fun i j => .bl (decide (i ≤ j))) (rI0 fun i j => .bl (decide (i ≤ j))) (tC (.int 1)) (tCB (cLen K) (tCons (tVar 0) tNil)) (tC (.int 6)))) (tTest (tOp rEq (tCall sp__law_free [] E0 (tCons (tVar 0) tNil)) (tVar 0))))
      (tSeq (tFor (iStr (tVar 0)) (gName 1)
      (tIfS (tTest (tOp rNotInS (tVar 1) (tC (.str "abcdefghijklmnopqrstuvwxyz"))))
      (tRet (tC .non))
      tNext))
    (tRet (tVar 0)))
      tNext)
    (tRet (tC .non)))
def rd__law_part_of (K : PySem.W.Frag) (t : Adr) : TS := (tSeq (tIfS (tTest (tOp rNotN (tCall sp__law_number_of [] E0 (tCons (tVar 0) tNil)) (tC .non)))
      (tRet (tCall sp__law_number_of [] E0 (tCons (tVar 0) tNil)))
      tNext)
    (rd__law_part_of_1 K t))
def rd__law_end (K : PySem.W.Frag) (t : Adr) : TS := (tSeq (tAsg (tC (.int 1)) (gName 2))
    (tSeq (tFor (iRng2 (tCons (tVar 1) (tCons (tCB cMin (tCons (tCB (cLen K) (tCons (tVar 0) tNil)) (tCons (tOp (rI0 fun i j => .int (i + j)) (tVar 1) (tC (.int 60))) tNil))) tNil))) (gName 3)
      (tSeq (tIfS (tTest (tOp (rIn K false) (tOp (rIxL K) (tVar 0) (tVar 3)) (tTup (tCons (tC (.str "plus")) (tCons (tC (.str "minus")) (tCons (tC (.str "times")) (tCons (tC (.str "over")) (tCons (tC (.str "rest")) (tCons (tC (.str "under")) (tCons (tC (.str "same")) tNil))))))))))
      (tAug 2 (tC (.int 1)) (ipI fun i j => i + j))
      (tIfS (tTest (tOp rIsN (tCall sp__law_part_of [] E0 (tCons (tOp (rIxL K) (tVar 0) (tVar 3)) tNil)) (tC .non)))
      (tRet (tC .non))
      (tAug 2 (tC (.int 1)) (ipI fun i j => i - j))))
    (tIfS (tTest (tOp rEq (tVar 2) (tC (.int 0))))
      (tRet (tOp (rI0 fun i j => .int (i + j)) (tVar 3) (tC (.int 1))))
      tNext)))
    (tRet (tC .non))))
def rd_behind_term (K : PySem.W.Frag) (t : Adr) (E : XK) : TS := (tSeq (tAsg (tC (.int 1)) (gName 2))
    (tSeq (tAsg (tVar 1) (gName 3))
    (tSeq (tWhile (tTest (tOp (rI0 fun i j => .bl (decide (j < i))) (tVar 2) (tC (.int 0)))) (tSeq (tIfS (tTest (tOp (rI0 fun i j => .bl (decide (j ≤ i))) (tVar 3) (tCB (cLen K) (tCons (tVar 0) tNil))))
      (tRaise t.c_NoTerm (tCons (tC (.str "the words end ahead of the term's end")) tNil) E)
      tNext)
    (tSeq (tIfS (tTest (tOp rEq (tOp (rI0 fun i j => .int (i - j)) (tVar 3) (tVar 1)) (tC (.int 60))))
      (tRaise t.c_NoTerm (tCons (tC (.str "a term of more than sixty words")) tNil) E)
      tNext)
    (tSeq (tAsg (tIf (tTest (tOp (rIn K false) (tOp (rIxL K) (tVar 0) (tVar 3)) (tC (.ref t.c_JOINING)))) (tOp (rI0 fun i j => .int (i + j)) (tVar 2) (tC (.int 1))) (tOp (rI0 fun i j => .int (i - j)) (tVar 2) (tC (.int 1)))) (gName 2))
    (tAug 3 (tC (.int 1)) (ipI fun i j => i + j))))))
    (tRet (tVar 3)))))
def rd_is_name (K : PySem.W.Frag) (t : Adr) : TS := (tSeq (tIfS (tOr (tTest (tOp rEq (tVar 0) (tC (.str "")))) (tTest (tOp (rI0 fun i j => .bl (decide (j < i))) (tCB (cLen K) (tCons (tVar 0) tNil)) (tC (.int 6)))))
      (tRet (tC (.bl false)))
      tNext)
    (tSeq (tIfS (tOr (tTest (tOp (rIn K false) (tVar 0) (tC (.ref t.c_JOINING)))) (tTest (tOp (rIn K false) (tVar 0) (tC (.ref t.c_ROW_WORDS)))))
      (tRet (tC (.bl false)))
      tNext)
    (tRet (tCB (cAll K) (tCons (tComp (iStr (tVar 0)) (gName 0) tYes (tOp rInS (tVar 0) (tC (.str "abcdefghijklmnopqrstuvwxyz"))) 1 []) tNil)))))
def rd_is_worth (K : PySem.W.Frag) (t : Adr) : TS := (tSeq (tIfS (tOr (tNot (tB (tCB (cIsi K) (tCons (tVar 0) (tCons (tC (.ty "int")) tNil))))) (tB (tCB (cIsi K) (tCons (tVar 0) (tCons (tC (.ty "bool")) tNil)))))
      (tRet (tC (.bl false)))
      tNext)
    (tRet (tChain (rI0 fun i j => .bl (decide (i ≤ j))) (rI0 fun i j => .bl (decide (i ≤ j))) (tUn (rU fun i => .int (-i)) (tOp (rI CPow fun i j => .int (i ^ j.toNat)) (tC (.int 10)) (tC (.int 30)))) (tVar 0) (tOp (rI CPow fun i j => .int (i ^ j.toNat)) (tC (.int 10)) (tC (.int 30))))))
def rd_is_figures (K : PySem.W.Frag) (t : Adr) : TS := (tRet (tAndV (tOp rNe (tVar 0) (tC (.str ""))) (tCB (cAll K) (tCons (tComp (iStr (tVar 0)) (gName 0) tYes (tOp rInS (tVar 0) (tC (.str "0123456789"))) 1 []) tNil))))
def rd_numeral (K : PySem.W.Frag) (t : Adr) : TS := (tRet (tCB cStr (tCons (tVar 0) tNil)))
def rd_is_numeral (K : PySem.W.Frag) (t : Adr) : TS := (tSeq (tAsg (tIf (tB (tBM K "str" r_mt_startswith (tVar 0) (tCons (tC (.str "-")) tNil))) (tSl rSlS (tVar 0) (tPart (tC (.int 1))) tNoPart) (tVar 0)) (gName 1))
    (tSeq (tIfS (tOr (tTest (tOp (rI0 fun i j => .bl (decide (j < i))) (tCB (cLen K) (tCons (tVar 1) tNil)) (tC (.int 31)))) (tNot (tB (tCall sp_is_figures [] E0 (tCons (tVar 1) tNil)))))
      (tRet (tC (.bl false)))
      tNext)
    (tSeq (tAsg (tCB cInt (tCons (tVar 0) tNil)) (gName 2))
    (tRet (tAndV (tCall (sp_is_worth K) [] E0 (tCons (tVar 2) tNil)) (tOp rEq (tCall sp_numeral [] E0 (tCons (tVar 2) tNil)) (tVar 0)))))))
def rd_worth_in (K : PySem.W.Frag) (t : Adr) (E : XK) : TS := (tSeq (tIfS (tNot (tB (tCall sp_is_numeral [] E (tCons (tVar 0) tNil))))
      (tRaise t.c_NoNumber (tCons (tMsgR (tVar 0)) tNil) E)
      tNext)
    (tRet (tCB cInt (tCons (tVar 0) tNil))))
def rd_part_in (K : PySem.W.Frag) (t : Adr) (E : XK) : TS := (tSeq (tIfS (tB (tCall sp_is_name [] E (tCons (tVar 0) tNil)))
      (tRet (tVar 0))
      tNext)
    (tSeq (tIfS (tB (tCall sp_is_numeral [] E (tCons (tVar 0) tNil)))
      (tRet (tCall (sp_worth_in t) [] E (tCons (tVar 0) tNil)))
      tNext)
    (tRaise t.c_NoTerm (tCons (tMsgR (tVar 0)) tNil) E)))
def rd_term_from (K : PySem.W.Frag) (t : Adr) (E : XK) : TS := (tSeq (tAsg (tCall (sp_behind_term t) [] E (tCons (tVar 0) (tCons (tVar 1) tNil))) (gName 2))
    (tSeq (tAsg (tLst tNil) (gName 3))
    (tSeq (tFor (iRev K (tCons (tSl (rSlL K) (tVar 0) (tPart (tVar 1)) (tPart (tVar 2))) tNil)) (gName 4)
      (tIfS (tTest (tOp (rIn K false) (tVar 4) (tC (.ref t.c_JOINING))))
      (tSeq (tAsg (tBM0 K "list" r_mt_pop (tVar 3)) (gName 5))
    (tSeq (tAsg (tBM0 K "list" r_mt_pop (tVar 3)) (gName 6))
    (tDrop (tBM K "list" r_mt_append (tVar 3) (tCons (tOp (rCatT K) (tOp (rCatT K) (tVar 5) (tVar 6)) (tTup (tCons (tVar 4) tNil))) tNil)))))
      (tDrop (tBM K "list" r_mt_append (tVar 3) (tCons (tTup (tCons (tCall (sp_part_in t) [] E (tCons (tVar 4) tNil)) tNil)) tNil)))))
    (tRet (tTup (tCons (tBM0 K "list" r_mt_pop (tVar 3)) (tCons (tVar 2) tNil)))))))
def rd__law_ahead_2 (K : PySem.W.Frag) (t : Adr) : TS := (tSeq (tIfS (tTest (tOp rNe (tCB (cLen K) (tCons (tVar 1) tNil)) (tC (.int 1))))
      (tRet (tC .non))
      tNext)
    (tRet (tOp (rIxL K) (tVar 1) (tC (.int 0)))))
def rd__law_ahead (K : PySem.W.Frag) (t : Adr) : TS := (tSeq (tAsg (tLst tNil) (gName 1))
    (tSeq (tFor (iTup K (tVar 0)) (gName 2)
      (tSeq (tIfS (tOr (tB (tCB (cIsi K) (tCons (tVar 2) (tCons (tC (.ty "bool")) tNil)))) (tAnd (tNot (tB (tCB (cIsi K) (tCons (tVar 2) (tCons (tC (.ty "int")) tNil))))) (tNot (tB (tCB (cIsi K) (tCons (tVar 2) (tCons (tC (.ty "str")) tNil)))))))
      (tRet (tC .non))
      tNext)
    (tIfS (tTest (tOp (rIn K false) (tVar 2) (tTup (tCons (tC (.str "plus")) (tCons (tC (.str "minus")) (tCons (tC (.str "times")) (tCons (tC (.str "over")) (tCons (tC (.str "rest")) (tCons (tC (.str "under")) (tCons (tC (.str "same")) tNil))))))))))
      (tSeq (tIfS (tTest (tOp (rI0 fun i j => .bl (decide (i < j))) (tCB (cLen K) (tCons (tVar 1) tNil)) (tC (.int 2))))
      (tRet (tC .non))
      tNext)
    (tAsg (tOp rCat (tSl (rSlL K) (tVar 1) tNoPart (tPart (tUn (rU fun i => .int (-i)) (tC (.int 2))))) (tLst (tCons (tOp rCat (tOp rCat (tLst (tCons (tVar 2) tNil)) (tOp (rIxL K) (tVar 1) (tUn (rU fun i => .int (-i)) (tC (.int 2))))) (tOp (rIxL K) (tVar 1) (tUn (rU fun i => .int (-i)) (tC (.int 1))))) tNil))) (gName 1)))
      (tDrop (tBM K "list" r_mt_append (tVar 1) (tCons (tLst (tCons (tVar 2) tNil)) tNil))))))
    (rd__law_ahead_2 K t)))
def rd__law_read_3 (K : PySem.W.Frag) (t : Adr) : TS := (tSeq (tAsg (tLst tNil) (gName 4))
    (tSeq (tFor (iList K (tSl (rSlL K) (tVar 0) (tPart (tVar 1)) (tPart (tVar 2)))) (gName 5)
      (tSeq (tAsg (tCall sp__law_part_of [] E0 (tCons (tVar 5) tNil)) (gName 6))
    (tDrop (tBM K "list" r_mt_append (tVar 4) (tCons (tIf (tTest (tOp rIsN (tVar 6) (tC .non))) (tVar 5) (tVar 6)) tNil)))))
    (tRet (tOp (rEqL K false) (tCall sp__law_ahead [] E0 (tCons (tOp (rIxT K) (tVar 3) (tC (.int 0))) tNil)) (tVar 4)))))
def rd__law_read_2 (K : PySem.W.Frag) (t : Adr) : TS := (tSeq (tIfS (tOr (tNot (tB (tCB (cIsi K) (tCons (tOp (rIxT K) (tVar 3) (tC (.int 1))) (tCons (tC (.ty "int")) tNil))))) (tOr (tB (tCB (cIsi K) (tCons (tOp (rIxT K) (tVar 3) (tC (.int 1))) (tCons (tC (.ty "bool")) tNil)))) (tTest (tOp rNe (tOp (rIxT K) (tVar 3) (tC (.int 1))) (tVar 2)))))
      (tRet (tC (.bl false)))
      tNext)
    (rd__law_read_3 K t))
def rd__law_read (K : PySem.W.Frag) (t : Adr) : TS := (tSeq (tAsg (tCall (sp_term_from t) [] E0 (tCons (tVar 0) (tCons (tVar 1) tNil))) (gName 3))
    (tSeq (tIfS (tOr (tNot (tB (tCB (cIsi K) (tCons (tVar 3) (tCons (tC (.ty "tuple")) tNil))))) (tOr (tTest (tOp rNe (tCB (cLen K) (tCons (tVar 3) tNil)) (tC (.int 2)))) (tNot (tB (tCB (cIsi K) (tCons (tOp (rIxT K) (tVar 3) (tC (.int 0))) (tCons (tC (.ty "tuple")) tNil)))))))
      (tRet (tC (.bl false)))
      tNext)
    (rd__law_read_2 K t)))
def rd__law_refused (K : PySem.W.Frag) (t : Adr) : TS := (tSeq (tAsg (tC (.bl false)) (gName 2))
    (tSeq (tAsg (tC (.bl true)) (gName 3))
    (tSeq (tTry K (tDropX (tCallX (sp_term_from t) (tCons (tVar 0) (tCons (tVar 1) tNil)))) t.c_ForerunError 4 (tSeq (tAsg (tAndV (tCB (cIsx K) (tCons (tVar 4) (tCons (tC (.ref t.c_NoTerm)) tNil))) (tCB (cIsx K) (tCons (tVar 4) (tCons (tC (.ty "ValueError")) tNil)))) (gName 2))
    (tAsg (tCB (cIsxT K) (tCons (tVar 4) (tCons (tTup (tCons (tC (.ref t.c_NoNumber)) (tCons (tC (.ref t.c_NoDealing)) (tCons (tC (.ref t.c_Nought)) (tCons (tC (.ref t.c_Great)) (tCons (tC (.ref t.c_Folded)) (tCons (tC (.ref t.c_NoHand)) (tCons (tC (.ref t.c_NoOrder)) (tCons (tC (.ref t.c_NoLine)) (tCons (tC (.ref t.c_NoLog)) tNil)))))))))) tNil))) (gName 3))))
    (tRet (tAndV (tVar 2) (tNotV (tVar 3)))))))
def rd_law_5 (K : PySem.W.Frag) (t : Adr) : TS := (tSeq (tAsg (tCB (cLst K) (tCons (tVar 3) tNil)) (gName 5))
    (tSeq (tAsg (tCall sp__law_end [] E0 (tCons (tVar 3) (tCons (tVar 4) tNil))) (gName 6))
    (tSeq (tIfS (tTest (tOp rIsN (tVar 6) (tC .non)))
      (tRet (tAndV (tCall sp__law_refused [] E0 (tCons (tVar 5) (tCons (tVar 4) tNil))) (tOp (rEqL K false) (tVar 5) (tVar 3))))
      tNext)
    (tRet (tAndV (tCall sp__law_read [] E0 (tCons (tVar 5) (tCons (tVar 4) (tCons (tVar 6) tNil)))) (tOp (rEqL K false) (tVar 5) (tVar 3)))))))
def rd_law (K : PySem.W.Frag) (t : Adr) : TS := (tSeq (tAsg (tCall (sp__law_cell_at K) [] E0 (tCons (tVar 0) (tCons (tC (.int 0)) tNil))) (gName 1))
    (tSeq (tAsg (tOp (rI (fun _ j => 0 < j) fun i j => .int (i % j)) (tVar 1) (tC (.int 5))) (gName 2))
    (tSeq (tAsg (tCall (sp__law_words K) [] E0 (tCons (tVar 0) (tCons (tVar 2) tNil))) (gName 3))
    (tSeq (tAsg (tVar 2) (gName 4))
    (tSeq (tIfS (tTest (tOp rEq (tOp (rI (fun _ j => 0 < j) fun i j => .int (i % j)) (tOp (rI CDivB fun i j => .int (i / j)) (tVar 1) (tC (.int 5))) (tC (.int 3))) (tC (.int 1))))
      (tAsg (tOp (rI (fun _ j => 0 < j) fun i j => .int (i % j)) (tOp (rI CDivB fun i j => .int (i / j)) (tVar 1) (tC (.int 15))) (tOp (rI0 fun i j => .int (i + j)) (tCB (cLen K) (tCons (tVar 3) tNil)) (tC (.int 1)))) (gName 4))
      tNext)
    (rd_law_5 K t))))))
section
variable {K : PySem.W.Frag} {t : Adr} {H : Hp} {Q : VK}
theorem pow10 {j : Int} (h0 : 0 ≤ j) (h1 : j ≤ 100) : CPow 10 j := ⟨h0, by omega, by decide⟩
theorem small_size {n : Nat} (h : n ≤ 100000) : n ≤ sizeLine := Nat.le_trans h (by decide)
theorem kit_same (T : String) : PySem.W.kitOne K (.type T) (.type T) = some true := by
  unfold PySem.W.kitOne
  rw [if_pos (by simp)]
theorem kf (K : PySem.W.Frag) : KF K := ⟨by with_unfolding_all rfl, by with_unfolding_all rfl, by with_unfolding_all rfl⟩
theorem rdp_is_worth {x : V} (hK : IntFact K) (h : (∃ i, x = .int i ∧ ∀ H', Same H H' → Q (.bl (inW i)) H') ∨ (NoInt K H x ∧ ∀ H', Same H H' → Q (.bl false) H')) :
    rd_is_worth K t { nx := fun _ H' => Q .non H', rt := Q } (L2.start ["thing"] [x]) H := by
  simp only [rd_is_worth, L2.start, iRev, cLst, cMin, rRep, rEqL, rEqNil, cIntB, tDGet2, tDisp, tPairs, r_mt_append, r_mt_pop, rAppend, rPop, rIxT, rCatT, tTry, endT, tDropX, tRetX, tAsgX, tCallX, tRaise, tMsgR, tMsgS, cIsx, cIsxT, clsV, rMulS, r_mt_find, r_mt_join, tSeq, tAsg, gName, gTup, gCons, gNil, tRet, tRetN, tDrop, tNext, tNever, tOp, tUn, tVar, tC, tLst, tTup, tCons, tNil, tFor, tIfS, tAnd, tOr, tNot, tTest, tB, tAndV, tOrV, tNotV, tIf, tCB, tBM, tBM0, tyV, tSl, tPart, tNoPart, tAug, ipI, tChain, tCall, spP, tComp, tYes, capV, LenV, iRng1, iRng2, iStr, tDNewK, iList, iTup, rCat, rIxL, rIxT, rIxS, rEq, rNe, rI, rI0, rU, rIn, rSlS, rSlL, rAddS, rInS, rNotInS, rIsB, rIsNotB, rIsN, rNotN, cLen, cIsi, cAll, cAbs, cStr, cInt, r_mt_startswith, r_mt_upper, scal, List.map, List.replicate, List.length, List.append, List.cons_append, List.nil_append, List.append_nil, List.getElem?_cons_zero, List.getElem?_cons_succ, Option.some.injEq, exists_eq_left', exists_eq_left, V.int.injEq, V.ref.injEq, V.str.injEq, V.bl.injEq, V.ty.injEq, List.cons.injEq, and_true, true_and, and_assoc, exists_and_left, List.set_cons_zero, List.set_cons_succ, Nat.reduceSub, Nat.reduceAdd, decide_eq_true_eq, Bool.not_eq_true', decide_eq_false_iff_not, Int.reduceToNat, Int.reducePow, Int.reduceNeg, Int.reduceMul, Int.reduceAdd, if_true, ite_true, Bool.false_eq_true, ite_false, if_false]
  rcases h with ⟨i, rfl, q⟩ | ⟨⟨T, b, ty, k1, k2⟩, q⟩
  · have q := q H (Same.refl H)
    refine ⟨_, .int i, true, kit_same _, ?_⟩
    rw [if_neg (by decide)]
    refine ⟨_, .int i, false, hK, ?_⟩
    rw [if_neg (by decide)]
    refine ⟨pow10 (by decide) (by decide), _, rfl, ite2 (fun c => ⟨pow10 (by decide) (by decide), _, rfl, ?_⟩) fun c => ?_⟩
    · have e : inW i = decide (i ≤ 1000000000000000000000000000000) := by
        unfold inW
        by_cases h : i ≤ 1000000000000000000000000000000
        · rw [decide_eq_true h, decide_eq_true ⟨c, h⟩]
        · rw [decide_eq_false h, decide_eq_false fun z => h z.2]
      rw [e] at q
      exact q
    · have e : inW i = false := decide_eq_false fun z => c z.1
      rw [e] at q
      exact q
  · have q := q H (Same.refl H)
    refine ⟨_, ty, b, k1, ite2 (fun _ => q) fun c => ⟨_, ty, true, k2 (by simpa using c), ?_⟩⟩
    rw [if_pos rfl]
    exact q
theorem log_inW {w : Int} (hw : inW w = true) : w.natAbs.log2 < 1920 := by
  have hw' : -1000000000000000000000000000000 ≤ w ∧ w ≤ 1000000000000000000000000000000 := of_decide_eq_true hw
  by_cases h0 : w.natAbs = 0
  · rw [h0]; decide
  · exact Nat.lt_of_lt_of_le ((Nat.log2_lt h0 (k := 100)).mpr (Nat.lt_of_le_of_lt (by omega : w.natAbs ≤ 1000000000000000000000000000000) (by decide +kernel))) (by decide)
theorem rdp_numeral {w : Int} (hw : inW w = true) (q : ∀ H', Same H H' → Q (.str (numS w)) H') :
    rd_numeral K t { nx := fun _ H' => Q .non H', rt := Q } (L2.start ["worth"] [.int w]) H := by
  simp only [rd_numeral, L2.start, iRev, cLst, cMin, rRep, rEqL, rEqNil, cIntB, tDGet2, tDisp, tPairs, r_mt_append, r_mt_pop, rAppend, rPop, rIxT, rCatT, tTry, endT, tDropX, tRetX, tAsgX, tCallX, tRaise, tMsgR, tMsgS, cIsx, cIsxT, clsV, rMulS, r_mt_find, r_mt_join, tSeq, tAsg, gName, gTup, gCons, gNil, tRet, tRetN, tDrop, tNext, tNever, tOp, tUn, tVar, tC, tLst, tTup, tCons, tNil, tFor, tIfS, tAnd, tOr, tNot, tTest, tB, tAndV, tOrV, tNotV, tIf, tCB, tBM, tBM0, tyV, tSl, tPart, tNoPart, tAug, ipI, tChain, tCall, spP, tComp, tYes, capV, LenV, iRng1, iRng2, iStr, tDNewK, iList, iTup, rCat, rIxL, rIxT, rIxS, rEq, rNe, rI, rI0, rU, rIn, rSlS, rSlL, rAddS, rInS, rNotInS, rIsB, rIsNotB, rIsN, rNotN, cLen, cIsi, cAll, cAbs, cStr, cInt, r_mt_startswith, r_mt_upper, scal, List.map, List.replicate, List.length, List.append, List.cons_append, List.nil_append, List.append_nil, List.getElem?_cons_zero, List.getElem?_cons_succ, Option.some.injEq, exists_eq_left', exists_eq_left, V.int.injEq, V.ref.injEq, V.str.injEq, V.bl.injEq, V.ty.injEq, List.cons.injEq, and_true, true_and, and_assoc, exists_and_left, List.set_cons_zero, List.set_cons_succ, Nat.reduceSub, Nat.reduceAdd, decide_eq_true_eq, Bool.not_eq_true', decide_eq_false_iff_not, Int.reduceToNat, Int.reducePow, Int.reduceNeg, Int.reduceMul, Int.reduceAdd, if_true, ite_true, Bool.false_eq_true, ite_false, if_false]
  exact ⟨log_inW hw, q _ (Same.refl H)⟩
theorem bl_list {x : Str} {f : Nat → Bool} {ys : List V} (hl : ys.length = x.cps.size) (hv : ∀ (i : Nat) (v : V), ys[i]? = some v → ∃ c, x.cps[i]? = some c ∧ v = .bl (f c)) : ys = (x.cps.toList.map f).map V.bl := by
  apply List.ext_getElem?
  intro i
  by_cases hi : i < ys.length
  · obtain ⟨c, hc, e⟩ := hv i ys[i] (List.getElem?_eq_getElem hi)
    rw [List.getElem?_eq_getElem hi, e, List.getElem?_map, List.getElem?_map]
    have hc' : x.cps.toList[i]? = some c := by simpa using hc
    rw [hc']; rfl
  · rw [List.getElem?_eq_none (by omega), List.getElem?_eq_none]
    rw [List.length_map, List.length_map]
    have : x.cps.toList.length = x.cps.size := by simp
    omega
theorem rdp_is_figures {x : Str} (hx : x.length ≤ 1000) (q : ∀ H', Same H H' → Q (.bl (isFig x)) H') :
    rd_is_figures K t { nx := fun _ H' => Q .non H', rt := Q } (L2.start ["text"] [.str x]) H := by
  simp only [rd_is_figures, L2.start, iRev, cLst, cMin, rRep, rEqL, rEqNil, cIntB, tDGet2, tDisp, tPairs, r_mt_append, r_mt_pop, rAppend, rPop, rIxT, rCatT, tTry, endT, tDropX, tRetX, tAsgX, tCallX, tRaise, tMsgR, tMsgS, cIsx, cIsxT, clsV, rMulS, r_mt_find, r_mt_join, tSeq, tAsg, gName, gTup, gCons, gNil, tRet, tRetN, tDrop, tNext, tNever, tOp, tUn, tVar, tC, tLst, tTup, tCons, tNil, tFor, tIfS, tAnd, tOr, tNot, tTest, tB, tAndV, tOrV, tNotV, tIf, tCB, tBM, tBM0, tyV, tSl, tPart, tNoPart, tAug, ipI, tChain, tCall, spP, tComp, tYes, capV, LenV, iRng1, iRng2, iStr, tDNewK, iList, iTup, rCat, rIxL, rIxT, rIxS, rEq, rNe, rI, rI0, rU, rIn, rSlS, rSlL, rAddS, rInS, rNotInS, rIsB, rIsNotB, rIsN, rNotN, cLen, cIsi, cAll, cAbs, cStr, cInt, r_mt_startswith, r_mt_upper, scal, List.map, List.replicate, List.length, List.append, List.cons_append, List.nil_append, List.append_nil, List.getElem?_cons_zero, List.getElem?_cons_succ, Option.some.injEq, exists_eq_left', exists_eq_left, V.int.injEq, V.ref.injEq, V.str.injEq, V.bl.injEq, V.ty.injEq, List.cons.injEq, and_true, true_and, and_assoc, exists_and_left, List.set_cons_zero, List.set_cons_succ, Nat.reduceSub, Nat.reduceAdd, decide_eq_true_eq, Bool.not_eq_true', decide_eq_false_iff_not, Int.reduceToNat, Int.reducePow, Int.reduceNeg, Int.reduceMul, Int.reduceAdd, if_true, ite_true, Bool.false_eq_true, ite_false, if_false]
  refine ite2 (fun c D hD => ?_) fun c => ?_
  · refine comp_gen (J := Its x) x.cps.size (by show x.length ≤ _; omega) (fun τ => ∃ o, τ = [o]) (fun i v => ∃ c, x.cps[i]? = some c ∧ v = .bl (inF c)) ⟨_, rfl⟩ (fun i H _ h => h) (fun H _ => Nat.le_refl _) hD ?_ ?_
    · rintro i v τ H2 H' ⟨o, rfl⟩ hS hi ⟨rfl, c, hc, rfl⟩
      exact ⟨_, rfl, _, rfl, ⟨_, rfl⟩, ⟨c, hc, rfl⟩, Same.refl _⟩
    · intro ys H' hl hv hS hq
      refine ⟨x.cps.toList.map inF, SqL.of (by rw [← bl_list hl hv]; exact hq), ?_⟩
      have e : isFig x = (x.cps.toList.map inF).all id := by
        unfold isFig
        rw [decide_eq_false c, List.all_map]; rfl
      rw [← e]
      exact q _ hS
  · have e : isFig x = false := by
      unfold isFig
      rw [decide_eq_true (Classical.not_not.mp c)]; rfl
    rw [e] at q
    exact q _ (Same.refl H)
/-- behind the parting of the sign -/
theorem num_rest {x : Str} (hx : x.length ≤ 1000) (q : ∀ H', Same H H' → Q (.bl (isNum x)) H') : (fpart x).length ≤ sizeLine ∧ if 31 < ((fpart x).length : Int) then Q (V.bl false) H else
      (fpart x).length ≤ 1000 ∧ ∀ H', Same H H' → if isFig (fpart x) = false then Q (V.bl false) H' else
        ∃ n, intText? x = some n ∧ x.length ≤ 640 ∧ ((∀ H2, Same H' H2 → if inW n = true then inW n = true ∧ ∀ H3, Same H2 H3 → Q (V.bl (decide (numS n = x))) H3 else Q (V.bl false) H2) ∨
          NoInt K H' (V.int n) ∧ ∀ H2, Same H' H2 → Q (V.bl false) H2) := by
  have h1 := fpart_le x
  have h2 := fpart_len x
  refine ⟨small_size (by omega), ite2 (fun c => ?_) fun c => ⟨by omega, fun H' s => ite2 (fun f => ?_) fun f => ?_⟩⟩
  · have e : isNum x = false := by unfold isNum; rw [decide_eq_true (by omega : 31 < (fpart x).length)]; rfl
    rw [e] at q; exact q _ (Same.refl H)
  · have e : isNum x = false := by unfold isNum; rw [f]; simp
    rw [e] at q; exact q _ s
  · have f' : isFig (fpart x) = true := by simpa using f
    have en : isNum x = (inW (valOf x) && decide (numS (valOf x) = x)) := by
      unfold isNum
      rw [f', decide_eq_false (by omega : ¬ 31 < (fpart x).length)]; rfl
    refine ⟨_, int_of_fig f' (by omega), by omega, .inl fun H2 s2 => ite2 (fun w => ⟨w, fun H3 s3 => ?_⟩) fun w => ?_⟩
    · rw [w, Bool.true_and] at en
      rw [en] at q
      exact q _ (s.trans (s2.trans s3))
    · rw [Bool.eq_false_iff.mpr w, Bool.false_and] at en
      rw [en] at q
      exact q _ (s.trans s2)
theorem rdp_is_numeral {x : Str} (hx : x.length ≤ 1000) (q : ∀ H', Same H H' → Q (.bl (isNum x)) H') :
    rd_is_numeral K t { nx := fun _ H' => Q .non H', rt := Q } (L2.start ["text", "figures", "worth"] [.str x]) H := by
  simp only [rd_is_numeral, sp_is_figures, sp_is_worth, sp_numeral, L2.start, iRev, cLst, cMin, rRep, rEqL, rEqNil, cIntB, tDGet2, tDisp, tPairs, r_mt_append, r_mt_pop, rAppend, rPop, rIxT, rCatT, tTry, endT, tDropX, tRetX, tAsgX, tCallX, tRaise, tMsgR, tMsgS, cIsx, cIsxT, clsV, rMulS, r_mt_find, r_mt_join, tSeq, tAsg, gName, gTup, gCons, gNil, tRet, tRetN, tDrop, tNext, tNever, tOp, tUn, tVar, tC, tLst, tTup, tCons, tNil, tFor, tIfS, tAnd, tOr, tNot, tTest, tB, tAndV, tOrV, tNotV, tIf, tCB, tBM, tBM0, tyV, tSl, tPart, tNoPart, tAug, ipI, tChain, tCall, spP, tComp, tYes, capV, LenV, iRng1, iRng2, iStr, tDNewK, iList, iTup, rCat, rIxL, rIxT, rIxS, rEq, rNe, rI, rI0, rU, rIn, rSlS, rSlL, rAddS, rInS, rNotInS, rIsB, rIsNotB, rIsN, rNotN, cLen, cIsi, cAll, cAbs, cStr, cInt, r_mt_startswith, r_mt_upper, scal, List.map, List.replicate, List.length, List.append, List.cons_append, List.nil_append, List.append_nil, List.getElem?_cons_zero, List.getElem?_cons_succ, Option.some.injEq, exists_eq_left', exists_eq_left, V.int.injEq, V.ref.injEq, V.str.injEq, V.bl.injEq, V.ty.injEq, List.cons.injEq, and_true, true_and, and_assoc, exists_and_left, List.set_cons_zero, List.set_cons_succ, Nat.reduceSub, Nat.reduceAdd, decide_eq_true_eq, Bool.not_eq_true', decide_eq_false_iff_not, Int.reduceToNat, Int.reducePow, Int.reduceNeg, Int.reduceMul, Int.reduceAdd, if_true, ite_true, Bool.false_eq_true, ite_false, if_false]
  have r := num_rest (K := K) hx q
  unfold fpart at r
  rw [starts_eq]
  have e1 : (Str.ofString "-").cps.toList = [45] := by decide +kernel
  have e2 : (Str.ofString "-").length = 1 := by decide +kernel
  rw [e1, e2]
  by_cases c : (x.cps.toList.take 1 == [45]) = true
  · simp only [if_pos c] at r ⊢
    exact ⟨small_size (by omega), r⟩
  · simp only [if_neg c] at r ⊢
    exact r
theorem rdp_worth_in {x : Str} {E : XK} (hx : x.length ≤ 1000) (ha : Asc x) (q : ∀ H', Same H H' → if isNum x = true then Q (.int (valOf x)) H' else E (.ref t.c_NoNumber) none H') :
    rd_worth_in K t E { nx := fun _ H' => Q .non H', rt := Q } (L2.start ["text"] [.str x]) H := by
  simp only [rd_worth_in, sp_is_numeral, L2.start, iRev, cLst, cMin, rRep, rEqL, rEqNil, cIntB, tDGet2, tDisp, tPairs, r_mt_append, r_mt_pop, rAppend, rPop, rIxT, rCatT, tTry, endT, tDropX, tRetX, tAsgX, tCallX, tRaise, tMsgR, tMsgS, cIsx, cIsxT, clsV, rMulS, r_mt_find, r_mt_join, tSeq, tAsg, gName, gTup, gCons, gNil, tRet, tRetN, tDrop, tNext, tNever, tOp, tUn, tVar, tC, tLst, tTup, tCons, tNil, tFor, tIfS, tAnd, tOr, tNot, tTest, tB, tAndV, tOrV, tNotV, tIf, tCB, tBM, tBM0, tyV, tSl, tPart, tNoPart, tAug, ipI, tChain, tCall, spP, tComp, tYes, capV, LenV, iRng1, iRng2, iStr, tDNewK, iList, iTup, rCat, rIxL, rIxT, rIxS, rEq, rNe, rI, rI0, rU, rIn, rSlS, rSlL, rAddS, rInS, rNotInS, rIsB, rIsNotB, rIsN, rNotN, cLen, cIsi, cAll, cAbs, cStr, cInt, r_mt_startswith, r_mt_upper, scal, List.map, List.replicate, List.length, List.append, List.cons_append, List.nil_append, List.append_nil, List.getElem?_cons_zero, List.getElem?_cons_succ, Option.some.injEq, exists_eq_left', exists_eq_left, V.int.injEq, V.ref.injEq, V.str.injEq, V.bl.injEq, V.ty.injEq, List.cons.injEq, and_true, true_and, and_assoc, exists_and_left, List.set_cons_zero, List.set_cons_succ, Nat.reduceSub, Nat.reduceAdd, decide_eq_true_eq, Bool.not_eq_true', decide_eq_false_iff_not, Int.reduceToNat, Int.reducePow, Int.reduceNeg, Int.reduceMul, Int.reduceAdd, if_true, ite_true, Bool.false_eq_true, ite_false, if_false]
  refine ⟨hx, fun H' s => ?_⟩
  have q := q H' s
  by_cases hn : isNum x = true
  · rw [if_neg (by rw [hn]; decide)]
    rw [if_pos hn] at q
    unfold isNum at hn
    rw [Bool.and_eq_true, Bool.not_eq_true', Bool.or_eq_false_iff, decide_eq_false_iff_not] at hn
    have h2 := fpart_len x
    have hf : isFig (fpart x) = true := by simpa using hn.1.2
    exact ⟨_, int_of_fig hf (by omega), by omega, q⟩
  · rw [if_neg hn] at q
    rw [if_pos (by simpa using hn)]
    exact ⟨by omega, ha, fun y => ⟨by decide, q⟩⟩
theorem dB {i j : Int} (h0 : 0 < j := by decide) (h1 : j < 10000000000000000000000000000000000000000000000 := by decide) : CDivB i j := by
  have hb : (10000000000000000000000000000000000000000000000 : Int) < big := by decide +kernel
  exact ⟨h0, by omega⟩
theorem at_lt {α : Type} {xs : List α} {i : Int} (h0 : 0 ≤ i) (h1 : i < xs.length) : ∃ x, atI xs i = some x ∧ x ∈ xs := by
  obtain ⟨n, rfl⟩ : ∃ n : Nat, i = (n : Int) := ⟨i.toNat, by omega⟩
  have hn : n < xs.length := by omega
  refine ⟨xs[n], ?_, List.getElem_mem hn⟩
  unfold atI ixN
  rw [if_pos h0, if_pos h1]
  simp [hn]
theorem at_mod {α : Type} {xs : List α} (e : Int) (n : Nat) (hl : xs.length = n) (hn : 0 < (n : Int)) : ∃ x, atI xs (e % n) = some x ∧ x ∈ xs :=
  at_lt (Int.emod_nonneg _ (by omega)) (by rw [hl]; exact Int.emod_lt_of_pos _ hn)
theorem strs_of {P : Str → Prop} : ∀ {ys : List V}, (∀ v ∈ ys, ∃ x, v = .str x ∧ P x) → ∃ ls : List Str, ys = ls.map V.str ∧ ∀ x ∈ ls, P x
  | [], _ => ⟨[], rfl, fun _ z => nomatch z⟩
  | v :: r, h => by
    obtain ⟨ls, e, hp⟩ := strs_of (ys := r) fun u hu => h u (List.mem_cons_of_mem _ hu)
    obtain ⟨x, rfl, px⟩ := h v List.mem_cons_self
    refine ⟨x :: ls, by rw [e]; rfl, fun y hy => ?_⟩
    rcases List.mem_cons.mp hy with rfl | hy
    · exact px
    · exact hp y hy
theorem isName_long {x : Str} (h : 6 < x.length) : isName x = false := by
  unfold isName
  rw [decide_eq_true h]
  simp
theorem rdp_is_name {x : Str} (hx : x.length ≤ 1000) (hJ : ∀ H, SqT K H t.c_JOINING jw) (hR : ∀ H, SqT K H t.c_ROW_WORDS wl) (q : ∀ H', Same H H' → Q (.bl (isName x)) H') :
    rd_is_name K t { nx := fun _ H' => Q .non H', rt := Q } (L2.start ["text"] [.str x]) H := by
  simp only [rd_is_name, L2.start, iRev, cLst, cMin, rRep, rEqL, rEqNil, cIntB, tDGet2, tDisp, tPairs, r_mt_append, r_mt_pop, rAppend, rPop, rIxT, rCatT, tTry, endT, tDropX, tRetX, tAsgX, tCallX, tRaise, tMsgR, tMsgS, cIsx, cIsxT, clsV, rMulS, r_mt_find, r_mt_join, tSeq, tAsg, gName, gTup, gCons, gNil, tRet, tRetN, tDrop, tNext, tNever, tOp, tUn, tVar, tC, tLst, tTup, tCons, tNil, tFor, tIfS, tAnd, tOr, tNot, tTest, tB, tAndV, tOrV, tNotV, tIf, tCB, tBM, tBM0, tyV, tSl, tPart, tNoPart, tAug, ipI, tChain, tCall, spP, tComp, tYes, capV, LenV, iRng1, iRng2, iStr, tDNewK, iList, iTup, rCat, rIxL, rIxT, rIxS, rEq, rNe, rI, rI0, rU, rIn, rSlS, rSlL, rAddS, rInS, rNotInS, rIsB, rIsNotB, rIsN, rNotN, cLen, cIsi, cAll, cAbs, cStr, cInt, r_mt_startswith, r_mt_upper, scal, List.map, List.replicate, List.length, List.append, List.cons_append, List.nil_append, List.append_nil, List.getElem?_cons_zero, List.getElem?_cons_succ, Option.some.injEq, exists_eq_left', exists_eq_left, V.int.injEq, V.ref.injEq, V.str.injEq, V.bl.injEq, V.ty.injEq, List.cons.injEq, and_true, true_and, and_assoc, exists_and_left, List.set_cons_zero, List.set_cons_succ, Nat.reduceSub, Nat.reduceAdd, decide_eq_true_eq, Bool.not_eq_true', decide_eq_false_iff_not, Int.reduceToNat, Int.reducePow, Int.reduceNeg, Int.reduceMul, Int.reduceAdd, if_true, ite_true, Bool.false_eq_true, ite_false, if_false]
  refine ite2 (fun e => ?_) fun e0 => ⟨small_size (by omega), ite2 (fun e => ?_) fun e6 => ⟨_, .inr (hJ H), rfl, rfl, ite2 (fun e => ?_) fun eJ => ⟨_, .inr (hR H), rfl, rfl, ite2 (fun e => ?_) fun eR D hD => ?_⟩⟩⟩
  · rw [show isName x = false by rw [e]; decide +kernel] at q
    exact q _ (Same.refl H)
  · rw [isName_long (by omega)] at q
    exact q _ (Same.refl H)
  · rw [show isName x = false by unfold isName; rw [e]; simp] at q
    exact q _ (Same.refl H)
  · rw [show isName x = false by unfold isName; rw [e]; simp] at q
    exact q _ (Same.refl H)
  have en : isName x = x.cps.toList.all inL := by
    unfold isName
    rw [decide_eq_false e0, decide_eq_false (by omega : ¬ 6 < x.length), Bool.eq_false_iff.mpr eJ, Bool.eq_false_iff.mpr eR]
    simp
  refine comp_gen (J := Its x) x.cps.size (by show x.length ≤ _; omega) (fun τ => ∃ o, τ = [o]) (fun i v => ∃ c, x.cps[i]? = some c ∧ v = .bl (inL c)) ⟨_, rfl⟩ (fun i H _ h => h) (fun H _ => Nat.le_refl _) hD ?_ ?_
  · rintro i v τ H2 H' ⟨o, rfl⟩ hS hi ⟨rfl, c, hc, rfl⟩
    exact ⟨_, rfl, _, rfl, ⟨_, rfl⟩, ⟨c, hc, rfl⟩, Same.refl _⟩
  · intro ys H' hl hv hS hq
    have ey : ys = (x.cps.toList.map inL).map V.bl := by
      apply List.ext_getElem?
      intro i
      by_cases hi : i < ys.length
      · obtain ⟨c, hc, e⟩ := hv i ys[i] (List.getElem?_eq_getElem hi)
        rw [List.getElem?_eq_getElem hi, e, List.getElem?_map, List.getElem?_map]
        have hc' : x.cps.toList[i]? = some c := by simpa using hc
        rw [hc']; rfl
      · rw [List.getElem?_eq_none (by omega), List.getElem?_eq_none]
        rw [List.length_map, List.length_map]
        have : x.cps.toList.length = x.cps.size := by simp
        omega
    refine ⟨x.cps.toList.map inL, SqL.of (by rw [← ey]; exact hq), ?_⟩
    rw [List.all_map, show (id ∘ inL) = inL from rfl, ← en]
    exact q _ hS
theorem rdp__law_cell_at {a : Addr} {ns : List Int} {k : Nat} (hS : SqL K H a (ns.map V.int)) (hl : ns.length ≤ 63) (q : ∀ c H', Same H H' → Q (.int c) H') :
    rd__law_cell_at K t { nx := fun _ H' => Q .non H', rt := Q } (L2.start ["script", "k"] [.ref a, .int k]) H := by
  simp only [rd__law_cell_at, L2.start, iRev, cLst, cMin, rRep, rEqL, rEqNil, cIntB, tDGet2, tDisp, tPairs, r_mt_append, r_mt_pop, rAppend, rPop, rIxT, rCatT, tTry, endT, tDropX, tRetX, tAsgX, tCallX, tRaise, tMsgR, tMsgS, cIsx, cIsxT, clsV, rMulS, r_mt_find, r_mt_join, tSeq, tAsg, gName, gTup, gCons, gNil, tRet, tRetN, tDrop, tNext, tNever, tOp, tUn, tVar, tC, tLst, tTup, tCons, tNil, tFor, tIfS, tAnd, tOr, tNot, tTest, tB, tAndV, tOrV, tNotV, tIf, tCB, tBM, tBM0, tyV, tSl, tPart, tNoPart, tAug, ipI, tChain, tCall, spP, tComp, tYes, capV, LenV, iRng1, iRng2, iStr, tDNewK, iList, iTup, rCat, rIxL, rIxT, rIxS, rEq, rNe, rI, rI0, rU, rIn, rSlS, rSlL, rAddS, rInS, rNotInS, rIsB, rIsNotB, rIsN, rNotN, cLen, cIsi, cAll, cAbs, cStr, cInt, r_mt_startswith, r_mt_upper, scal, List.map, List.replicate, List.length, List.append, List.cons_append, List.nil_append, List.append_nil, List.getElem?_cons_zero, List.getElem?_cons_succ, Option.some.injEq, exists_eq_left', exists_eq_left, V.int.injEq, V.ref.injEq, V.str.injEq, V.bl.injEq, V.ty.injEq, List.cons.injEq, and_true, true_and, and_assoc, exists_and_left, List.set_cons_zero, List.set_cons_succ, Nat.reduceSub, Nat.reduceAdd, decide_eq_true_eq, Bool.not_eq_true', decide_eq_false_iff_not, Int.reduceToNat, Int.reducePow, Int.reduceNeg, Int.reduceMul, Int.reduceAdd, if_true, ite_true, Bool.false_eq_true, ite_false, if_false]
  refine ⟨_, .inl ⟨_, hS, rfl⟩, ite2 (fun c => ?_) fun _ => q _ _ (Same.refl H)⟩
  obtain ⟨v, hv, hm⟩ := at_lt (xs := ns.map V.int) (i := (k : Int)) (by omega) c
  obtain ⟨i, _, rfl⟩ := List.mem_map.mp hm
  exact ⟨_, hS, _, hv, q _ _ (Same.refl H)⟩
theorem abc_len : (Str.ofString "abcdefghijklmnopqrstuvwxyz").cps.toList.length = 26 := by decide +kernel
theorem one_len (c : Nat) : ({ cps := #[c] } : Str).length = 1 := rfl
theorem last_get {xs : List V} {y : V} : (xs ++ [y])[(xs ++ [y]).length - 1]? = some y := by simp
theorem drop_last {xs : List V} {y : V} : (xs ++ [y]).dropLast = xs := by simp
theorem same_upd {H H' : Hp} {w : Addr} {o : HO} (s : Same H H') (hw : H w = none) : Same H (upd H' w o) := fun b u e => by rw [upd_ne (ne_of_none e hw)]; exact s b u e
theorem at_m2 {xs : List V} {a b : V} : atI (xs ++ [a, b]) (-2) = some a := by
  unfold atI ixN
  rw [if_neg (by decide), if_pos (by simp; omega)]
  have : (-2 + ((xs ++ [a, b]).length : Int)).toNat = xs.length := by simp; omega
  rw [this]
  simp
theorem at_m1 {xs : List V} {a b : V} : atI (xs ++ [a, b]) (-1) = some b := by
  unfold atI ixN
  rw [if_neg (by decide), if_pos (by simp; omega)]
  have : (-1 + ((xs ++ [a, b]).length : Int)).toNat = xs.length + 1 := by simp; omega
  rw [this]
  simp
theorem cut_m2 {xs : List V} {a b : V} : cutV (xs ++ [a, b]) none (some (-2)) = xs := by
  unfold cutV
  have e : HT.sIx (xs ++ [a, b]).length (xs ++ [a, b]).length (some (-2)) = xs.length := by
    show (if (-2 : Int) < 0 then (-2 + ((xs ++ [a, b]).length : Int)).toNat else min (-2 : Int).toNat (xs ++ [a, b]).length) = xs.length
    rw [if_pos (by decide)]
    simp
    omega
  rw [e, show HT.sIx (xs ++ [a, b]).length 0 none = 0 from rfl, List.drop_zero, Nat.sub_zero]
  simp
theorem two_last {α : Type} {l : List α} (h : 1 < l.length) : ∃ r a b, l = r ++ [a, b] := by
  have h0 : l ≠ [] := fun z => by rw [z] at h; simp at h
  have e := List.dropLast_concat_getLast h0
  have h1 : l.dropLast ≠ [] := fun z => by rw [z] at e; rw [← e] at h; simp at h
  have e1 := List.dropLast_concat_getLast h1
  have e2 : l.dropLast ++ [l.getLast h0] = (l.dropLast.dropLast ++ [l.dropLast.getLast h1]) ++ [l.getLast h0] := by rw [e1]
  exact ⟨l.dropLast.dropLast, l.dropLast.getLast h1, l.getLast h0, e.symm.trans (e2.trans (by simp))⟩
theorem rdp_part_in {x : Str} {E : XK} (hx : x.length ≤ 1000) (ha : Asc x) (q : ∀ H', Same H H' → (match partW x with | some v => Q v H' | none => E (.ref t.c_NoTerm) none H')) :
    rd_part_in K t E { nx := fun _ H' => Q .non H', rt := Q } (L2.start ["word"] [.str x]) H := by
  simp only [rd_part_in, sp_is_name, sp_is_numeral, sp_worth_in, L2.start, iRev, cLst, cMin, rRep, rEqL, rEqNil, cIntB, tDGet2, tDisp, tPairs, r_mt_append, r_mt_pop, rAppend, rPop, rIxT, rCatT, tTry, endT, tDropX, tRetX, tAsgX, tCallX, tRaise, tMsgR, tMsgS, cIsx, cIsxT, clsV, rMulS, r_mt_find, r_mt_join, tSeq, tAsg, gName, gTup, gCons, gNil, tRet, tRetN, tDrop, tNext, tNever, tOp, tUn, tVar, tC, tLst, tTup, tCons, tNil, tFor, tIfS, tAnd, tOr, tNot, tTest, tB, tAndV, tOrV, tNotV, tIf, tCB, tBM, tBM0, tyV, tSl, tPart, tNoPart, tAug, ipI, tChain, tCall, spP, tComp, tYes, capV, LenV, iRng1, iRng2, iStr, tDNewK, iList, iTup, rCat, rIxL, rIxT, rIxS, rEq, rNe, rI, rI0, rU, rIn, rSlS, rSlL, rAddS, rInS, rNotInS, rIsB, rIsNotB, rIsN, rNotN, cLen, cIsi, cAll, cAbs, cStr, cInt, r_mt_startswith, r_mt_upper, scal, List.map, List.replicate, List.length, List.append, List.cons_append, List.nil_append, List.append_nil, List.getElem?_cons_zero, List.getElem?_cons_succ, Option.some.injEq, exists_eq_left', exists_eq_left, V.int.injEq, V.ref.injEq, V.str.injEq, V.bl.injEq, V.ty.injEq, List.cons.injEq, and_true, true_and, and_assoc, exists_and_left, List.set_cons_zero, List.set_cons_succ, Nat.reduceSub, Nat.reduceAdd, decide_eq_true_eq, Bool.not_eq_true', decide_eq_false_iff_not, Int.reduceToNat, Int.reducePow, Int.reduceNeg, Int.reduceMul, Int.reduceAdd, if_true, ite_true, Bool.false_eq_true, ite_false, if_false]
  unfold partW at q
  refine ⟨hx, fun H1 s1 => ite2 (fun c => ?_) fun c => ⟨hx, fun H2 s2 => ite2 (fun d => ⟨hx, ha, fun H3 s3 => ?_⟩) fun d => ⟨by omega, ha, fun y => ⟨by decide, ?_⟩⟩⟩⟩
  · have q := q H1 s1
    rw [if_pos c] at q
    exact q
  · have q := q H3 (s1.trans (s2.trans s3))
    rw [if_neg c, if_pos d] at q
    rw [if_pos d]
    exact q
  · have q := q H2 (s1.trans s2)
    rw [if_neg c, if_neg d] at q
    exact q
theorem at_nat {xs : List V} {n : Nat} {v : V} (h : xs[n]? = some v) : atI xs (n : Int) = some v := atI_nat h
theorem scan_zero (l : List Str) : scanE l 0 = some 0 := by cases l <;> (unfold scanE; rfl)
theorem scan_pos {l : List Str} {d n : Nat} (h : scanE l (d + 1) = some n) : 1 ≤ n := by
  cases l with
  | nil => unfold scanE at h; cases h
  | cons w r =>
    unfold scanE at h
    obtain ⟨m, _, rfl⟩ := Option.map_eq_some_iff.mp h
    show 1 ≤ m + 1
    omega
theorem scan_step {ws : List Str} {k i d : Nat} {w : Str} {R : Option Nat} (h : R = (scanE (ws.drop (k + i)) (d + 1)).map (· + i)) (hw : ws[k + i]? = some w) : R = (scanE (ws.drop (k + (i + 1))) (if isJ (.str w) = true then d + 2 else d)).map (· + (i + 1)) := by
  have hi := (List.getElem?_eq_some_iff.mp hw).1
  have hv := (List.getElem?_eq_some_iff.mp hw).2
  rw [h, List.drop_eq_getElem_cons hi, hv]
  show ((scanE (ws.drop (k + i + 1)) (if isJ (.str w) = true then d + 2 else d)).map (· + 1)).map (· + i) = _
  rw [Option.map_map]
  exact congrArg (fun f => Option.map f (scanE (ws.drop (k + (i + 1))) (if isJ (.str w) = true then d + 2 else d))) (funext fun n => by show n + 1 + i = n + (i + 1); omega)
def bhI (a : Addr) (ws : List Str) (k : Nat) (H : Hp) (m : Nat) (σ : St) (H' : Hp) : Prop := ∃ i d : Nat, σ = [some (.ref a), some (.int (k : Int)), some (.int (d : Int)), some (.int ((k + i : Nat) : Int))] ∧ i + m = 61 ∧ i ≤ 60 ∧ scanE (ws.drop k) 1 = (scanE (ws.drop (k + i)) d).map (· + i) ∧ H' = H
theorem rdp_behind_term {E : XK} {a : Addr} {ws : List Str} {k : Nat} (hJ : ∀ H : Hp, SqT K H t.c_JOINING jw) (h1 : H a = some (.lst (ws.map V.str))) (h2 : ws.length ≤ 1000) (q : ∀ H', Same H H' → behR t.c_NoTerm (scanE (ws.drop k) 1) k Q E H') :
    rd_behind_term K t E { nx := fun _ H' => Q .non H', rt := Q } (L2.start ["words", "at", "due", "place"] [.ref a, .int k]) H := by
  simp only [rd_behind_term, tWhile, L2.start, iRev, cLst, cMin, rRep, rEqL, rEqNil, cIntB, tDGet2, tDisp, tPairs, r_mt_append, r_mt_pop, rAppend, rPop, rIxT, rCatT, tTry, endT, tDropX, tRetX, tAsgX, tCallX, tRaise, tMsgR, tMsgS, cIsx, cIsxT, clsV, rMulS, r_mt_find, r_mt_join, tSeq, tAsg, gName, gTup, gCons, gNil, tRet, tRetN, tDrop, tNext, tNever, tOp, tUn, tVar, tC, tLst, tTup, tCons, tNil, tFor, tIfS, tAnd, tOr, tNot, tTest, tB, tAndV, tOrV, tNotV, tIf, tCB, tBM, tBM0, tyV, tSl, tPart, tNoPart, tAug, ipI, tChain, tCall, spP, tComp, tYes, capV, LenV, iRng1, iRng2, iStr, tDNewK, iList, iTup, rCat, rIxL, rIxT, rIxS, rEq, rNe, rI, rI0, rU, rIn, rSlS, rSlL, rAddS, rInS, rNotInS, rIsB, rIsNotB, rIsN, rNotN, cLen, cIsi, cAll, cAbs, cStr, cInt, r_mt_startswith, r_mt_upper, scal, List.map, List.replicate, List.length, List.append, List.cons_append, List.nil_append, List.append_nil, List.getElem?_cons_zero, List.getElem?_cons_succ, Option.some.injEq, exists_eq_left', exists_eq_left, V.int.injEq, V.ref.injEq, V.str.injEq, V.bl.injEq, V.ty.injEq, List.cons.injEq, and_true, true_and, and_assoc, exists_and_left, List.set_cons_zero, List.set_cons_succ, Nat.reduceSub, Nat.reduceAdd, decide_eq_true_eq, Bool.not_eq_true', decide_eq_false_iff_not, Int.reduceToNat, Int.reducePow, Int.reduceNeg, Int.reduceMul, Int.reduceAdd, if_true, ite_true, Bool.false_eq_true, ite_false, if_false]
  have q := q H (Same.refl H)
  refine ⟨bhI a ws k H, ⟨61, 0, 1, rfl, rfl, by omega, by simp, rfl⟩, ?_⟩
  rintro m σ H1 ⟨i, d, rfl, hm, hi, hsc, rfl⟩
  simp only [L2.start, iRev, cLst, cMin, rRep, rEqL, rEqNil, cIntB, tDGet2, tDisp, tPairs, r_mt_append, r_mt_pop, rAppend, rPop, rIxT, rCatT, tTry, endT, tDropX, tRetX, tAsgX, tCallX, tRaise, tMsgR, tMsgS, cIsx, cIsxT, clsV, rMulS, r_mt_find, r_mt_join, tSeq, tAsg, gName, gTup, gCons, gNil, tRet, tRetN, tDrop, tNext, tNever, tOp, tUn, tVar, tC, tLst, tTup, tCons, tNil, tFor, tIfS, tAnd, tOr, tNot, tTest, tB, tAndV, tOrV, tNotV, tIf, tCB, tBM, tBM0, tyV, tSl, tPart, tNoPart, tAug, ipI, tChain, tCall, spP, tComp, tYes, capV, LenV, iRng1, iRng2, iStr, tDNewK, iList, iTup, rCat, rIxL, rIxT, rIxS, rEq, rNe, rI, rI0, rU, rIn, rSlS, rSlL, rAddS, rInS, rNotInS, rIsB, rIsNotB, rIsN, rNotN, cLen, cIsi, cAll, cAbs, cStr, cInt, r_mt_startswith, r_mt_upper, scal, List.map, List.replicate, List.length, List.append, List.cons_append, List.nil_append, List.append_nil, List.getElem?_cons_zero, List.getElem?_cons_succ, Option.some.injEq, exists_eq_left', exists_eq_left, V.int.injEq, V.ref.injEq, V.str.injEq, V.bl.injEq, V.ty.injEq, List.cons.injEq, and_true, true_and, and_assoc, exists_and_left, List.set_cons_zero, List.set_cons_succ, Nat.reduceSub, Nat.reduceAdd, decide_eq_true_eq, Bool.not_eq_true', decide_eq_false_iff_not, Int.reduceToNat, Int.reducePow, Int.reduceNeg, Int.reduceMul, Int.reduceAdd, if_true, ite_true, Bool.false_eq_true, ite_false, if_false]
  refine ite2 (fun c => ?_) fun c => ?_
  · obtain ⟨d, rfl⟩ : ∃ d0, d = d0 + 1 := ⟨d - 1, by omega⟩
    refine ⟨bhI a ws k _ (m - 1), fun σ' H' z => ⟨m - 1, by omega, z⟩, ws.length, .inl ⟨_, SqL.of h1, by rw [List.length_map]⟩, ite2 (fun e => ⟨by decide, ?_⟩) fun e => ite2 (fun e2 => ⟨by decide, ?_⟩) fun e2 => ?_⟩
    · have e0 : ws.drop (k + i) = [] := List.drop_eq_nil_of_le (by omega)
      rw [e0] at hsc
      have hsc : scanE (ws.drop k) 1 = none := hsc
      rw [hsc] at q
      exact q
    · cases hs : scanE (ws.drop (k + i)) (d + 1) with
      | none =>
        rw [hs] at hsc
        rw [hsc] at q
        exact q
      | some n =>
        have := scan_pos hs
        rw [hs] at hsc
        rw [hsc] at q
        change (if n + i ≤ 60 then _ else _) at q
        rw [if_neg (by omega)] at q
        exact q
    · have hlt : k + i < ws.length := by omega
      obtain ⟨w, hw⟩ : ∃ w, ws[k + i]? = some w := ⟨_, List.getElem?_eq_getElem hlt⟩
      have hwV : (ws.map V.str)[k + i]? = some (V.str w) := by rw [List.getElem?_map, hw]; rfl
      have st := scan_step hsc hw
      refine ⟨_, SqL.of h1, _, at_nat hwV, _, .inr (hJ _), rfl, rfl, ite2 (fun j => ?_) fun j => ?_⟩
      · rw [if_pos (show isJ (.str w) = true from j)] at st
        refine ⟨i + 1, d + 2, ?_, by omega, by omega, st, rfl⟩
        rw [show (((d + 1 : Nat) : Int) + 1) = ((d + 2 : Nat) : Int) by omega, show (((k + i : Nat) : Int) + 1) = ((k + (i + 1) : Nat) : Int) by omega]
      · rw [if_neg (show ¬ isJ (.str w) = true from j)] at st
        refine ⟨i + 1, d, ?_, by omega, by omega, st, rfl⟩
        rw [show (((d + 1 : Nat) : Int) - 1) = ((d : Nat) : Int) by omega, show (((k + i : Nat) : Int) + 1) = ((k + (i + 1) : Nat) : Int) by omega]
  · obtain rfl : d = 0 := by omega
    rw [scan_zero] at hsc
    rw [hsc] at q
    change (if 0 + i ≤ 60 then Q (.int ((k + (0 + i) : Nat) : Int)) _ else _) at q
    rw [if_pos (by omega), Nat.zero_add] at q
    exact q
theorem cut_mid {xs : List V} {k n : Nat} (h : k + n ≤ xs.length) : cutV xs (some (k : Int)) (some ((k + n : Nat) : Int)) = (xs.drop k).take n := by
  unfold cutV
  have e1 : HT.sIx xs.length 0 (some (k : Int)) = k := by
    show (if (k : Int) < 0 then ((k : Int) + (xs.length : Int)).toNat else min (k : Int).toNat xs.length) = k
    rw [if_neg (by omega), Int.toNat_natCast]
    omega
  have e2 : HT.sIx xs.length xs.length (some ((k + n : Nat) : Int)) = k + n := by
    show (if ((k + n : Nat) : Int) < 0 then (((k + n : Nat) : Int) + (xs.length : Int)).toNat else min ((k + n : Nat) : Int).toNat xs.length) = k + n
    rw [if_neg (by omega), Int.toNat_natCast]
    omega
  rw [e1, e2, Nat.add_sub_cancel_left]
theorem stepR_two {l : List (List V)} {a b : List V} {w : Str} (hw : isJ (.str w) = true) : stepR (l ++ [b, a]) w = .ok (l ++ [a ++ b ++ [.str w]]) := by
  unfold stepR
  rw [if_pos hw]
  simp
theorem stepR_few {st : List (List V)} {w : Str} (hw : isJ (.str w) = true) (h : st.length ≤ 1) : stepR st w = .error false := by
  unfold stepR
  rw [if_pos hw]
  match st, h with
  | [], _ => rfl
  | [a], _ => rfl
  | a :: b :: r, h => exact absurd h (by rw [List.length_cons, List.length_cons]; omega)
def lensP (L : List (Addr × List V)) : Nat := (L.map fun n => n.2.length).sum
theorem lensP_app (a b : List (Addr × List V)) : lensP (a ++ b) = lensP a + lensP b := by unfold lensP; rw [List.map_append, List.sum_append]
theorem tup_ne {H : Hp} {x w : Addr} {l m : List V} (h : H x = some (.tup l)) (hw : H w = some (.lst m)) : x ≠ w := fun z => by
  rw [z, hw] at h; cases h
def tfI (a w p : Addr) (seg : List Str) (k e : Nat) (H : Hp) (i : Nat) (σ : St) (H' : Hp) : Prop := ∃ L : List (Addr × List V), (∃ o4 o5 o6, σ = [some (.ref a), some (.int (k : Int)), some (.int (e : Int)), some (.ref w), o4, o5, o6]) ∧ runR (seg.reverse.take i) [] = .ok (L.map Prod.snd) ∧ lensP L ≤ i ∧ L.length ≤ i ∧ (∀ n ∈ L, n.2 ≠ [] ∧ H' n.1 = some (.tup n.2)) ∧ H' w = some (.lst (L.map fun n => V.ref n.1)) ∧ H' p = some (.lst (seg.map V.str)) ∧ Same H H'
theorem parse_eq {ws : List Str} {k n : Nat} (h : scanE (ws.drop k) 1 = some n) (hn : n ≤ 60) : parse ws k = match runR ((ws.drop k).take n).reverse [] with | .ok [ps] => some (ps, k + n) | _ => none := by
  unfold parse
  rw [h]
  exact if_pos hn
theorem rdp_term_from {E : XK} {a : Addr} {ws : List Str} {k : Nat} (hJ : ∀ H : Hp, SqT K H t.c_JOINING jw) (h1 : H a = some (.lst (ws.map V.str))) (h2 : ws.length ≤ 1000) (h3 : okWs ws)
    (q : (∃ ps e, parse ws k = some (ps, e) ∧ ∀ H' p r, Same H H' → H' p = some (.tup [.ref r, .int (e : Nat)]) → H' r = some (.tup ps) → Q (.ref p) H') ∨ (parse ws k = none ∧ ∀ H', Same H H' → E (.ref t.c_NoTerm) none H')) :
    rd_term_from K t E { nx := fun _ H' => Q .non H', rt := Q } (L2.start ["words", "at", "behind", "parts", "word", "first", "second"] [.ref a, .int k]) H := by
  simp only [rd_term_from, sp_behind_term, sp_part_in, L2.start, iRev, cLst, cMin, rRep, rEqL, rEqNil, cIntB, tDGet2, tDisp, tPairs, r_mt_append, r_mt_pop, rAppend, rPop, rIxT, rCatT, tTry, endT, tDropX, tRetX, tAsgX, tCallX, tRaise, tMsgR, tMsgS, cIsx, cIsxT, clsV, rMulS, r_mt_find, r_mt_join, tSeq, tAsg, gName, gTup, gCons, gNil, tRet, tRetN, tDrop, tNext, tNever, tOp, tUn, tVar, tC, tLst, tTup, tCons, tNil, tFor, tIfS, tAnd, tOr, tNot, tTest, tB, tAndV, tOrV, tNotV, tIf, tCB, tBM, tBM0, tyV, tSl, tPart, tNoPart, tAug, ipI, tChain, tCall, spP, tComp, tYes, capV, LenV, iRng1, iRng2, iStr, tDNewK, iList, iTup, rCat, rIxL, rIxT, rIxS, rEq, rNe, rI, rI0, rU, rIn, rSlS, rSlL, rAddS, rInS, rNotInS, rIsB, rIsNotB, rIsN, rNotN, cLen, cIsi, cAll, cAbs, cStr, cInt, r_mt_startswith, r_mt_upper, scal, List.map, List.replicate, List.length, List.append, List.cons_append, List.nil_append, List.append_nil, List.getElem?_cons_zero, List.getElem?_cons_succ, Option.some.injEq, exists_eq_left', exists_eq_left, V.int.injEq, V.ref.injEq, V.str.injEq, V.bl.injEq, V.ty.injEq, List.cons.injEq, and_true, true_and, and_assoc, exists_and_left, List.set_cons_zero, List.set_cons_succ, Nat.reduceSub, Nat.reduceAdd, decide_eq_true_eq, Bool.not_eq_true', decide_eq_false_iff_not, Int.reduceToNat, Int.reducePow, Int.reduceNeg, Int.reduceMul, Int.reduceAdd, if_true, ite_true, Bool.false_eq_true, ite_false, if_false]
  have no : ∀ {H'}, parse ws k = none → Same H H' → E (.ref t.c_NoTerm) none H' := fun {H'} hp s => by
    rcases q with ⟨ps, e, hp2, _⟩ | ⟨_, q⟩
    · rw [hp] at hp2; cases hp2
    · exact q _ s
  refine ⟨ws, k, rfl, h1, h2, fun H1 s1 => ?_⟩
  cases hs : scanE (ws.drop k) 1 with
  | none => exact no (by unfold parse; rw [hs]) s1
  | some n =>
    show (if n ≤ 60 then _ else E (.ref t.c_NoTerm) none H1)
    refine ite2 (fun hn => ?_) fun hn => no (by unfold parse; rw [hs]; exact if_neg hn) s1
    obtain ⟨T, hT, hpre, hkn, hlen⟩ := parse_tree hs
    have hpe := parse_eq hs hn
    have hps := parse_some hs hn hT hpre
    have hrun := runR_tree hT []
    rw [← hpre] at hrun
    have hseg : ∀ x ∈ (ws.drop k).take n, x.length ≤ 100 ∧ Asc x := fun x hx => h3 x (List.mem_of_mem_drop (List.mem_of_mem_take hx))
    have hsl : ((ws.drop k).take n).length = n := by rw [hpre, hlen]
    have hcut : cutV (ws.map V.str) (some (k : Int)) (some ((k + n : Nat) : Int)) = ((ws.drop k).take n).map V.str := by
      rw [cut_mid (by rw [List.length_map]; exact hkn), List.map_take, List.map_drop]
    generalize (ws.drop k).take n = seg at *
    have err : ∀ {e : Bool} {H'}, runR seg.reverse [] = .error e → Same H H' → E (.ref t.c_NoTerm) none H' := fun {e H'} z s => no (by rw [hpe, z]) s
    have nstuck : runR seg.reverse [] ≠ .error false := fun z => by
      rw [hrun] at z
      split at z <;> cases z
    simp only [L2.start, iRev, cLst, cMin, rRep, rEqL, rEqNil, cIntB, tDGet2, tDisp, tPairs, r_mt_append, r_mt_pop, rAppend, rPop, rIxT, rCatT, tTry, endT, tDropX, tRetX, tAsgX, tCallX, tRaise, tMsgR, tMsgS, cIsx, cIsxT, clsV, rMulS, r_mt_find, r_mt_join, tSeq, tAsg, gName, gTup, gCons, gNil, tRet, tRetN, tDrop, tNext, tNever, tOp, tUn, tVar, tC, tLst, tTup, tCons, tNil, tFor, tIfS, tAnd, tOr, tNot, tTest, tB, tAndV, tOrV, tNotV, tIf, tCB, tBM, tBM0, tyV, tSl, tPart, tNoPart, tAug, ipI, tChain, tCall, spP, tComp, tYes, capV, LenV, iRng1, iRng2, iStr, tDNewK, iList, iTup, rCat, rIxL, rIxT, rIxS, rEq, rNe, rI, rI0, rU, rIn, rSlS, rSlL, rAddS, rInS, rNotInS, rIsB, rIsNotB, rIsN, rNotN, cLen, cIsi, cAll, cAbs, cStr, cInt, r_mt_startswith, r_mt_upper, scal, List.map, List.replicate, List.length, List.append, List.cons_append, List.nil_append, List.append_nil, List.getElem?_cons_zero, List.getElem?_cons_succ, Option.some.injEq, exists_eq_left', exists_eq_left, V.int.injEq, V.ref.injEq, V.str.injEq, V.bl.injEq, V.ty.injEq, List.cons.injEq, and_true, true_and, and_assoc, exists_and_left, List.set_cons_zero, List.set_cons_succ, Nat.reduceSub, Nat.reduceAdd, decide_eq_true_eq, Bool.not_eq_true', decide_eq_false_iff_not, Int.reduceToNat, Int.reducePow, Int.reduceNeg, Int.reduceMul, Int.reduceAdd, if_true, ite_true, Bool.false_eq_true, ite_false, if_false]
    refine ⟨by decide, fun w hw => ⟨_, SqL.of (isV w hw _ _ (s1 _ _ h1)), fun p hp => ?_⟩⟩
    rw [hcut]
    have hw0 : H w = none := s1.free hw
    have hpw : w ≠ p := ne_of_none upd_same hp
    refine ⟨_, SqL.of upd_same, loop_rev (seg.map V.str) (tfI a w p seg k (k + n) H) ⟨[], ⟨_, _, _, rfl⟩, by simp [runR], Nat.le_refl _, Nat.le_refl _, (fun n z => nomatch z), by rw [upd_ne hpw]; exact upd_same, upd_same, s1.trans ((isV w hw).trans (isV p hp))⟩ (fun i σ H' ⟨_, _, _, _, _, _, _, z, _⟩ => SqL.of z) ?_ ?_⟩
    · rintro i v σ H' hi hv ⟨L, ⟨o4, o5, o6, rfl⟩, hr, hle, hL, hN, hst, hpp, hS⟩
      rw [List.length_map] at hi hv
      rw [List.getElem?_map] at hv
      obtain ⟨x, hx, rfl⟩ := Option.map_eq_some_iff.mp hv
      have hx' : seg.reverse[i]? = some x := by rw [List.getElem?_reverse hi]; exact hx
      have one := runR_one hr hx'
      have okx := hseg x (List.mem_of_getElem? hx)
      simp only [L2.start, iRev, cLst, cMin, rRep, rEqL, rEqNil, cIntB, tDGet2, tDisp, tPairs, r_mt_append, r_mt_pop, rAppend, rPop, rIxT, rCatT, tTry, endT, tDropX, tRetX, tAsgX, tCallX, tRaise, tMsgR, tMsgS, cIsx, cIsxT, clsV, rMulS, r_mt_find, r_mt_join, tSeq, tAsg, gName, gTup, gCons, gNil, tRet, tRetN, tDrop, tNext, tNever, tOp, tUn, tVar, tC, tLst, tTup, tCons, tNil, tFor, tIfS, tAnd, tOr, tNot, tTest, tB, tAndV, tOrV, tNotV, tIf, tCB, tBM, tBM0, tyV, tSl, tPart, tNoPart, tAug, ipI, tChain, tCall, spP, tComp, tYes, capV, LenV, iRng1, iRng2, iStr, tDNewK, iList, iTup, rCat, rIxL, rIxT, rIxS, rEq, rNe, rI, rI0, rU, rIn, rSlS, rSlL, rAddS, rInS, rNotInS, rIsB, rIsNotB, rIsN, rNotN, cLen, cIsi, cAll, cAbs, cStr, cInt, r_mt_startswith, r_mt_upper, scal, List.map, List.replicate, List.length, List.append, List.cons_append, List.nil_append, List.append_nil, List.getElem?_cons_zero, List.getElem?_cons_succ, Option.some.injEq, exists_eq_left', exists_eq_left, V.int.injEq, V.ref.injEq, V.str.injEq, V.bl.injEq, V.ty.injEq, List.cons.injEq, and_true, true_and, and_assoc, exists_and_left, List.set_cons_zero, List.set_cons_succ, Nat.reduceSub, Nat.reduceAdd, decide_eq_true_eq, Bool.not_eq_true', decide_eq_false_iff_not, Int.reduceToNat, Int.reducePow, Int.reduceNeg, Int.reduceMul, Int.reduceAdd, if_true, ite_true, Bool.false_eq_true, ite_false, if_false]
      refine ⟨jw, .inr (hJ _), rfl, rfl, ite2 (fun c => ?_) fun c => ?_⟩
      · have hj : isJ (.str x) = true := c
        rcases Nat.lt_or_ge 1 L.length with h2l | h2l
        · obtain ⟨L0, nb, na, rfl⟩ := two_last h2l
          have e1 : (L0 ++ [nb, na]).map (fun n => V.ref n.1) = (L0.map (fun n => V.ref n.1) ++ [.ref nb.1]) ++ [.ref na.1] := by simp
          have e2 : (L0 ++ [nb, na]).map Prod.snd = L0.map Prod.snd ++ [nb.2, na.2] := by simp
          have nA := hN na (by simp)
          have nB := hN nb (by simp)
          have aw := tup_ne nA.2 hst
          have bw := tup_ne nB.2 hst
          rw [e2] at one
          have one := one.trans (stepR_two hj)
          rw [e1] at hst
          have l3 : L0.length + 2 = (L0 ++ [nb, na]).length := by simp
          have lp : lensP (L0 ++ [nb, na]) = lensP L0 + (nb.2.length + na.2.length) := by rw [lensP_app]; simp [lensP]
          refine ⟨.inl ⟨_, SqL.of hst⟩, _, hst, _, last_get, .inl ⟨_, SqL.of upd_same⟩, _, by rw [drop_last]; exact upd_same, _, last_get, .inl ⟨_, SqL.of upd_same⟩, ?_⟩
          rw [drop_last, drop_last]
          obtain ⟨H2, eH, g1, g2⟩ : ∃ H2, H2 = upd (upd H' w (.lst (L0.map (fun n => V.ref n.1) ++ [.ref nb.1]))) w (.lst (L0.map (fun n => V.ref n.1))) ∧ H2 w = some (.lst (L0.map (fun n => V.ref n.1))) ∧ ∀ b, b ≠ w → H2 b = H' b := ⟨_, rfl, upd_same, fun b hb => by rw [upd_ne hb, upd_ne hb]⟩
          have S2 : Same H H2 := by rw [eH]; exact same_upd (same_upd hS hw0) hw0
          rw [← eH]
          clear eH
          refine ⟨na.1, rfl, nb.1, rfl, _, SqT.of ((g2 _ aw).trans nA.2), _, SqT.of ((g2 _ bw).trans nB.2), nA.1, small_size (by omega), fun z => absurd z nB.1, fun _ p1 hp1 => ⟨by decide, ?_⟩⟩
          obtain ⟨H3, eH, s3, q3⟩ := new_obj (o := HO.tup (na.2 ++ nb.2)) hp1
          rw [← eH]
          clear eH
          intro p2 hp2
          obtain ⟨H4, eH, s4, q4⟩ := new_obj (o := HO.tup [V.str x]) hp2
          rw [← eH]
          clear eH
          refine ⟨_, SqT.of (s4 _ _ q3), _, SqT.of q4, (fun z => nA.1 (List.append_eq_nil_iff.mp z).1), small_size (by rw [List.length_append]; show _ + 1 ≤ _; omega), fun z => (by cases z), fun _ p3 hp3 => ?_⟩
          obtain ⟨H5, eH, s5, q5⟩ := new_obj (o := HO.tup (na.2 ++ nb.2 ++ [V.str x])) hp3
          rw [← eH]
          clear eH
          have S25 := s3.trans (s4.trans s5)
          have pw : p3 ≠ w := tup_ne q5 (S25 _ _ g1)
          refine ⟨_, S25 _ _ g1, ?_, L0 ++ [(p3, na.2 ++ nb.2 ++ [V.str x])], ⟨_, _, _, rfl⟩, by rw [one]; simp, ?_, by simp; omega, fun m hm => ?_, by rw [upd_same]; simp, ?_, same_upd (S2.trans S25) hw0⟩
          · rw [List.length_map]
            exact Nat.lt_of_le_of_lt (by omega : L0.length ≤ 1000) (by decide)
          · rw [lensP_app]
            have : lensP [(p3, na.2 ++ nb.2 ++ [V.str x])] = na.2.length + nb.2.length + 1 := by simp [lensP]; omega
            omega
          · rcases List.mem_append.mp hm with h | h
            · have hm' := hN m (List.mem_append_left _ h)
              have mw := tup_ne hm'.2 hst
              exact ⟨hm'.1, by rw [upd_ne mw]; exact S25 _ _ ((g2 _ mw).trans hm'.2)⟩
            · have : m = (p3, na.2 ++ nb.2 ++ [V.str x]) := by simpa using h
              rw [this]
              exact ⟨by simp, by rw [upd_ne pw]; exact q5⟩
          · rw [upd_ne hpw.symm]
            exact S25 _ _ ((g2 _ hpw.symm).trans hpp)
        · exact absurd (runR_err (one.trans (stepR_few hj (by rw [List.length_map]; exact h2l)))) nstuck
      · have hj : ¬ isJ (.str x) = true := c
        refine ⟨.inl ⟨_, SqL.of hst⟩, by omega, okx.2, fun H2 s2 => ?_⟩
        cases hp : partW x with
        | none =>
          have se : stepR (L.map Prod.snd) x = .error true := by
            unfold stepR
            rw [if_neg hj, hp]
          exact err (runR_err (one.trans se)) (hS.trans s2)
        | some v =>
          have se : stepR (L.map Prod.snd) x = .ok (L.map Prod.snd ++ [[v]]) := by
            unfold stepR
            rw [if_neg hj, hp]
          have one := one.trans se
          refine ⟨by decide, fun p1 hp1 => ?_⟩
          obtain ⟨H3, eH, s3, q3⟩ := new_obj (o := HO.tup [v]) hp1
          rw [← eH]
          clear eH
          have S23 := s2.trans s3
          have pw : p1 ≠ w := tup_ne q3 (S23 _ _ hst)
          refine ⟨_, S23 _ _ hst, ?_, L ++ [(p1, [v])], ⟨_, _, _, rfl⟩, by rw [one]; simp, ?_, by simp; omega, fun m hm => ?_, by rw [upd_same]; simp, ?_, same_upd (hS.trans S23) hw0⟩
          · rw [List.length_map]
            exact Nat.lt_of_le_of_lt (by omega : L.length ≤ 1000) (by decide)
          · rw [lensP_app]
            have : lensP [(p1, [v])] = 1 := by simp [lensP]
            omega
          · rcases List.mem_append.mp hm with h | h
            · have hm' := hN m h
              have mw := tup_ne hm'.2 hst
              exact ⟨hm'.1, by rw [upd_ne mw]; exact S23 _ _ hm'.2⟩
            · have : m = (p1, [v]) := by simpa using h
              rw [this]
              exact ⟨by simp, by rw [upd_ne pw]; exact q3⟩
          · rw [upd_ne hpw.symm]
            exact S23 _ _ hpp
    · rintro σ H' ⟨L, ⟨o4, o5, o6, rfl⟩, hr, hle, hL, hN, hst, hpp, hS⟩
      rw [List.take_of_length_le (by simp)] at hr
      simp only [L2.start, iRev, cLst, cMin, rRep, rEqL, rEqNil, cIntB, tDGet2, tDisp, tPairs, r_mt_append, r_mt_pop, rAppend, rPop, rIxT, rCatT, tTry, endT, tDropX, tRetX, tAsgX, tCallX, tRaise, tMsgR, tMsgS, cIsx, cIsxT, clsV, rMulS, r_mt_find, r_mt_join, tSeq, tAsg, gName, gTup, gCons, gNil, tRet, tRetN, tDrop, tNext, tNever, tOp, tUn, tVar, tC, tLst, tTup, tCons, tNil, tFor, tIfS, tAnd, tOr, tNot, tTest, tB, tAndV, tOrV, tNotV, tIf, tCB, tBM, tBM0, tyV, tSl, tPart, tNoPart, tAug, ipI, tChain, tCall, spP, tComp, tYes, capV, LenV, iRng1, iRng2, iStr, tDNewK, iList, iTup, rCat, rIxL, rIxT, rIxS, rEq, rNe, rI, rI0, rU, rIn, rSlS, rSlL, rAddS, rInS, rNotInS, rIsB, rIsNotB, rIsN, rNotN, cLen, cIsi, cAll, cAbs, cStr, cInt, r_mt_startswith, r_mt_upper, scal, List.map, List.replicate, List.length, List.append, List.cons_append, List.nil_append, List.append_nil, List.getElem?_cons_zero, List.getElem?_cons_succ, Option.some.injEq, exists_eq_left', exists_eq_left, V.int.injEq, V.ref.injEq, V.str.injEq, V.bl.injEq, V.ty.injEq, List.cons.injEq, and_true, true_and, and_assoc, exists_and_left, List.set_cons_zero, List.set_cons_succ, Nat.reduceSub, Nat.reduceAdd, decide_eq_true_eq, Bool.not_eq_true', decide_eq_false_iff_not, Int.reduceToNat, Int.reducePow, Int.reduceNeg, Int.reduceMul, Int.reduceAdd, if_true, ite_true, Bool.false_eq_true, ite_false, if_false]
      rw [hrun] at hr
      by_cases hok : okT T = true
      · rw [if_pos hok] at hr hps
        have e : L.map Prod.snd = [pst T] := by injection hr with hr; exact hr.symm
        obtain ⟨n1, rfl⟩ : ∃ n1, L = [n1] := List.length_eq_one_iff.mp (by have := congrArg List.length e; simpa using this)
        have e1 : n1.2 = pst T := by simpa using e
        have nA := hN n1 (by simp)
        have nw := tup_ne nA.2 hst
        rcases q with ⟨ps, e, hp2, q⟩ | ⟨hp2, _⟩
        · rw [hps] at hp2
          cases hp2
          refine ⟨.inl ⟨_, SqL.of hst⟩, _, hst, _, rfl, by decide, fun p1 hp1 => ?_⟩
          have S2 : Same H (upd H' w (.lst [])) := same_upd hS hw0
          refine q _ p1 n1.1 (S2.trans (isV p1 hp1)) upd_same (isV p1 hp1 _ _ ?_)
          rw [upd_ne nw, nA.2, e1]
        · rw [hps] at hp2; cases hp2
      · rw [if_neg hok] at hr; cases hr
theorem rdp__law_mixed {c k : Int} (hk : 0 ≤ k) (hk2 : k ≤ 100) (q : ∀ r H', 0 ≤ r → r < 2147483648 → Same H H' → Q (.int r) H') :
    rd__law_mixed K t { nx := fun _ H' => Q .non H', rt := Q } (L2.start ["cell", "k", "number"] [.int c, .int k]) H := by
  simp only [rd__law_mixed, L2.start, iRev, cLst, cMin, rRep, rEqL, rEqNil, cIntB, tDGet2, tDisp, tPairs, r_mt_append, r_mt_pop, rAppend, rPop, rIxT, rCatT, tTry, endT, tDropX, tRetX, tAsgX, tCallX, tRaise, tMsgR, tMsgS, cIsx, cIsxT, clsV, rMulS, r_mt_find, r_mt_join, tSeq, tAsg, gName, gTup, gCons, gNil, tRet, tRetN, tDrop, tNext, tNever, tOp, tUn, tVar, tC, tLst, tTup, tCons, tNil, tFor, tIfS, tAnd, tOr, tNot, tTest, tB, tAndV, tOrV, tNotV, tIf, tCB, tBM, tBM0, tyV, tSl, tPart, tNoPart, tAug, ipI, tChain, tCall, spP, tComp, tYes, capV, LenV, iRng1, iRng2, iStr, tDNewK, iList, iTup, rCat, rIxL, rIxT, rIxS, rEq, rNe, rI, rI0, rU, rIn, rSlS, rSlL, rAddS, rInS, rNotInS, rIsB, rIsNotB, rIsN, rNotN, cLen, cIsi, cAll, cAbs, cStr, cInt, r_mt_startswith, r_mt_upper, scal, List.map, List.replicate, List.length, List.append, List.cons_append, List.nil_append, List.append_nil, List.getElem?_cons_zero, List.getElem?_cons_succ, Option.some.injEq, exists_eq_left', exists_eq_left, V.int.injEq, V.ref.injEq, V.str.injEq, V.bl.injEq, V.ty.injEq, List.cons.injEq, and_true, true_and, and_assoc, exists_and_left, List.set_cons_zero, List.set_cons_succ, Nat.reduceSub, Nat.reduceAdd, decide_eq_true_eq, Bool.not_eq_true', decide_eq_false_iff_not, Int.reduceToNat, Int.reducePow, Int.reduceNeg, Int.reduceMul, Int.reduceAdd, if_true, ite_true, Bool.false_eq_true, ite_false, if_false]
  have g1 := Int.emod_nonneg c (b := 2147483647) (by decide)
  have g2 := Int.emod_lt_of_pos c (b := 2147483647) (by decide)
  generalize c % 2147483647 = u at *
  have hb : (100000000000 : Int) < big := by decide +kernel
  refine ⟨by decide, ⟨by omega, by omega⟩, ⟨by omega, by omega⟩, by decide, dB, ?_⟩
  generalize (u + 11 * k + 7) * (u + 11 * k + 7 + 48271 + k) = z
  have g3 := Int.emod_nonneg z (b := 2147483647) (by decide)
  have g4 := Int.emod_lt_of_pos z (b := 2147483647) (by decide)
  exact q _ _ (by omega) (by omega) (Same.refl H)
def ltI (m : Int) (H : Hp) (i : Nat) (σ : St) (H' : Hp) : Prop := (∃ (a : Int) (x : Str) (o : Option V), σ = [some (.int a), some (.int m), some (.str (Str.ofString "abcdefghijklmnopqrstuvwxyz")), some (.str x), o] ∧ x.length = i ∧ Asc x) ∧ H' = H
theorem rdp__law_letters {n m : Int} (h0 : 0 ≤ m) (h1 : m ≤ 6) (q : ∀ (x : Str) H', x.length ≤ 6 → Asc x → Same H H' → Q (.str x) H') :
    rd__law_letters K t { nx := fun _ H' => Q .non H', rt := Q } (L2.start ["number", "many", "letters", "found", "k"] [.int n, .int m]) H := by
  simp only [rd__law_letters, L2.start, iRev, cLst, cMin, rRep, rEqL, rEqNil, cIntB, tDGet2, tDisp, tPairs, r_mt_append, r_mt_pop, rAppend, rPop, rIxT, rCatT, tTry, endT, tDropX, tRetX, tAsgX, tCallX, tRaise, tMsgR, tMsgS, cIsx, cIsxT, clsV, rMulS, r_mt_find, r_mt_join, tSeq, tAsg, gName, gTup, gCons, gNil, tRet, tRetN, tDrop, tNext, tNever, tOp, tUn, tVar, tC, tLst, tTup, tCons, tNil, tFor, tIfS, tAnd, tOr, tNot, tTest, tB, tAndV, tOrV, tNotV, tIf, tCB, tBM, tBM0, tyV, tSl, tPart, tNoPart, tAug, ipI, tChain, tCall, spP, tComp, tYes, capV, LenV, iRng1, iRng2, iStr, tDNewK, iList, iTup, rCat, rIxL, rIxT, rIxS, rEq, rNe, rI, rI0, rU, rIn, rSlS, rSlL, rAddS, rInS, rNotInS, rIsB, rIsNotB, rIsN, rNotN, cLen, cIsi, cAll, cAbs, cStr, cInt, r_mt_startswith, r_mt_upper, scal, List.map, List.replicate, List.length, List.append, List.cons_append, List.nil_append, List.append_nil, List.getElem?_cons_zero, List.getElem?_cons_succ, Option.some.injEq, exists_eq_left', exists_eq_left, V.int.injEq, V.ref.injEq, V.str.injEq, V.bl.injEq, V.ty.injEq, List.cons.injEq, and_true, true_and, and_assoc, exists_and_left, List.set_cons_zero, List.set_cons_succ, Nat.reduceSub, Nat.reduceAdd, decide_eq_true_eq, Bool.not_eq_true', decide_eq_false_iff_not, Int.reduceToNat, Int.reducePow, Int.reduceNeg, Int.reduceMul, Int.reduceAdd, if_true, ite_true, Bool.false_eq_true, ite_false, if_false]
  have hb : (100000000000 : Int) < big := by decide +kernel
  have ea : ∀ c ∈ (Str.ofString "abcdefghijklmnopqrstuvwxyz").cps.toList, c < 128 := by decide +kernel
  refine ⟨by omega, by omega, loop_range (ltI m H) ⟨⟨n, _, none, rfl, by decide +kernel, by unfold Asc; decide +kernel⟩, rfl⟩ ?_ ?_⟩
  · rintro i σ H' hi ⟨⟨a, x, o, rfl, hx, ha⟩, rfl⟩
    simp only [L2.start, iRev, cLst, cMin, rRep, rEqL, rEqNil, cIntB, tDGet2, tDisp, tPairs, r_mt_append, r_mt_pop, rAppend, rPop, rIxT, rCatT, tTry, endT, tDropX, tRetX, tAsgX, tCallX, tRaise, tMsgR, tMsgS, cIsx, cIsxT, clsV, rMulS, r_mt_find, r_mt_join, tSeq, tAsg, gName, gTup, gCons, gNil, tRet, tRetN, tDrop, tNext, tNever, tOp, tUn, tVar, tC, tLst, tTup, tCons, tNil, tFor, tIfS, tAnd, tOr, tNot, tTest, tB, tAndV, tOrV, tNotV, tIf, tCB, tBM, tBM0, tyV, tSl, tPart, tNoPart, tAug, ipI, tChain, tCall, spP, tComp, tYes, capV, LenV, iRng1, iRng2, iStr, tDNewK, iList, iTup, rCat, rIxL, rIxT, rIxS, rEq, rNe, rI, rI0, rU, rIn, rSlS, rSlL, rAddS, rInS, rNotInS, rIsB, rIsNotB, rIsN, rNotN, cLen, cIsi, cAll, cAbs, cStr, cInt, r_mt_startswith, r_mt_upper, scal, List.map, List.replicate, List.length, List.append, List.cons_append, List.nil_append, List.append_nil, List.getElem?_cons_zero, List.getElem?_cons_succ, Option.some.injEq, exists_eq_left', exists_eq_left, V.int.injEq, V.ref.injEq, V.str.injEq, V.bl.injEq, V.ty.injEq, List.cons.injEq, and_true, true_and, and_assoc, exists_and_left, List.set_cons_zero, List.set_cons_succ, Nat.reduceSub, Nat.reduceAdd, decide_eq_true_eq, Bool.not_eq_true', decide_eq_false_iff_not, Int.reduceToNat, Int.reducePow, Int.reduceNeg, Int.reduceMul, Int.reduceAdd, if_true, ite_true, Bool.false_eq_true, ite_false, if_false]
    obtain ⟨c, hc, hm⟩ := at_mod a 26 abc_len (by decide)
    exact ⟨by decide, by decide +kernel, c, hc, small_size (by rw [one_len]; omega), dB, ⟨by omega, by omega⟩, ⟨by omega, by omega⟩, ⟨_, _, _, rfl, by rw [len_app, one_len]; omega, ha.app (Asc.one (ea c hm))⟩, rfl⟩
  · rintro σ H' ⟨⟨a, x, o, rfl, hx, ha⟩, rfl⟩
    exact ⟨_, rfl, q x _ (by omega) ha (Same.refl _)⟩
theorem q_cps : (Str.ofString "q").cps.toList = [113] ∧ (Str.ofString "q").length = 1 := by decide +kernel
theorem rdp__law_free {x : Str} (hx : x.length ≤ 1000) (q : ∀ H', Same H H' → Q (.str (freeW x)) H') :
    rd__law_free K t { nx := fun _ H' => Q .non H', rt := Q } (L2.start ["name"] [.str x]) H := by
  simp only [rd__law_free, L2.start, iRev, cLst, cMin, rRep, rEqL, rEqNil, cIntB, tDGet2, tDisp, tPairs, r_mt_append, r_mt_pop, rAppend, rPop, rIxT, rCatT, tTry, endT, tDropX, tRetX, tAsgX, tCallX, tRaise, tMsgR, tMsgS, cIsx, cIsxT, clsV, rMulS, r_mt_find, r_mt_join, tSeq, tAsg, gName, gTup, gCons, gNil, tRet, tRetN, tDrop, tNext, tNever, tOp, tUn, tVar, tC, tLst, tTup, tCons, tNil, tFor, tIfS, tAnd, tOr, tNot, tTest, tB, tAndV, tOrV, tNotV, tIf, tCB, tBM, tBM0, tyV, tSl, tPart, tNoPart, tAug, ipI, tChain, tCall, spP, tComp, tYes, capV, LenV, iRng1, iRng2, iStr, tDNewK, iList, iTup, rCat, rIxL, rIxT, rIxS, rEq, rNe, rI, rI0, rU, rIn, rSlS, rSlL, rAddS, rInS, rNotInS, rIsB, rIsNotB, rIsN, rNotN, cLen, cIsi, cAll, cAbs, cStr, cInt, r_mt_startswith, r_mt_upper, scal, List.map, List.replicate, List.length, List.append, List.cons_append, List.nil_append, List.append_nil, List.getElem?_cons_zero, List.getElem?_cons_succ, Option.some.injEq, exists_eq_left', exists_eq_left, V.int.injEq, V.ref.injEq, V.str.injEq, V.bl.injEq, V.ty.injEq, List.cons.injEq, and_true, true_and, and_assoc, exists_and_left, List.set_cons_zero, List.set_cons_succ, Nat.reduceSub, Nat.reduceAdd, decide_eq_true_eq, Bool.not_eq_true', decide_eq_false_iff_not, Int.reduceToNat, Int.reducePow, Int.reduceNeg, Int.reduceMul, Int.reduceAdd, if_true, ite_true, Bool.false_eq_true, ite_false, if_false]
  unfold freeW at q
  have ql := q_cps.2
  refine ⟨by decide, fun p hp => ⟨_, .inr (SqT.of upd_same), rfl, rfl, ite2 (fun c => ⟨small_size (by omega), ?_⟩) fun c => ⟨by decide, fun p1 hp1 => ⟨_, .inr (SqT.of upd_same), rfl, rfl, ite2 (fun d => ⟨small_size (by omega), ?_⟩) fun d => ?_⟩⟩⟩⟩
  · have q := q _ (isV (o := HO.tup wl) p hp)
    rw [if_pos (show inV (.str x) wl = true from c)] at q
    exact q
  · have q := q _ ((isV (o := HO.tup wl) p hp).trans (isV (o := HO.tup jw) p1 hp1))
    rw [if_neg (show ¬ inV (.str x) wl = true from c), if_pos (show inV (.str x) jw = true from d)] at q
    exact q
  · have q := q _ ((isV (o := HO.tup wl) p hp).trans (isV (o := HO.tup jw) p1 hp1))
    rw [if_neg (show ¬ inV (.str x) wl = true from c), if_neg (show ¬ inV (.str x) jw = true from d)] at q
    exact q
theorem free_asc {x : Str} (hx : x.length ≤ 6) (ha : Asc x) : (freeW x).length ≤ 100 ∧ Asc (freeW x) := by
  have ql := q_cps.2
  have qa : Asc (Str.ofString "q") := by unfold Asc; decide +kernel
  have l : (x ++ Str.ofString "q").length ≤ 100 := by rw [len_app]; omega
  unfold freeW
  split
  · exact ⟨l, ha.app qa⟩
  · split
    · exact ⟨l, ha.app qa⟩
    · exact ⟨by omega, ha⟩
theorem free_iff {x : Str} : freeW x = x ↔ ¬ inV (.str x) wl = true ∧ ¬ inV (.str x) jw = true := by
  have ne : x ++ Str.ofString "q" ≠ x := fun z => by
    have := congrArg Str.length z
    rw [len_app, q_cps.2] at this
    omega
  unfold freeW
  split
  · rename_i h
    exact ⟨fun z => absurd z ne, fun z => absurd h z.1⟩
  · rename_i h
    split
    · rename_i h2
      exact ⟨fun z => absurd z ne, fun z => absurd h2 z.2⟩
    · rename_i h2
      exact ⟨fun _ => ⟨h, h2⟩, fun _ => rfl⟩
theorem rep_ok {n : Int} (h0 : 0 ≤ n) (h1 : n ≤ 31) : (repS (Str.ofString "0") n).length ≤ 31 ∧ Asc (repS (Str.ofString "0") n) := by
  have e : (Str.ofString "0").length = 1 := by decide +kernel
  refine ⟨by rw [repS_len, e]; omega, Asc.rep ?_ _⟩
  unfold Asc; decide +kernel
theorem rdp__law_odd {n : Int} (q : anyW H Q) :
    rd__law_odd K t { nx := fun _ H' => Q .non H', rt := Q } (L2.start ["number", "some"] [.int n]) H := by
  simp only [rd__law_odd, L2.start, iRev, cLst, cMin, rRep, rEqL, rEqNil, cIntB, tDGet2, tDisp, tPairs, r_mt_append, r_mt_pop, rAppend, rPop, rIxT, rCatT, tTry, endT, tDropX, tRetX, tAsgX, tCallX, tRaise, tMsgR, tMsgS, cIsx, cIsxT, clsV, rMulS, r_mt_find, r_mt_join, tSeq, tAsg, gName, gTup, gCons, gNil, tRet, tRetN, tDrop, tNext, tNever, tOp, tUn, tVar, tC, tLst, tTup, tCons, tNil, tFor, tIfS, tAnd, tOr, tNot, tTest, tB, tAndV, tOrV, tNotV, tIf, tCB, tBM, tBM0, tyV, tSl, tPart, tNoPart, tAug, ipI, tChain, tCall, spP, tComp, tYes, capV, LenV, iRng1, iRng2, iStr, tDNewK, iList, iTup, rCat, rIxL, rIxT, rIxS, rEq, rNe, rI, rI0, rU, rIn, rSlS, rSlL, rAddS, rInS, rNotInS, rIsB, rIsNotB, rIsN, rNotN, cLen, cIsi, cAll, cAbs, cStr, cInt, r_mt_startswith, r_mt_upper, scal, List.map, List.replicate, List.length, List.append, List.cons_append, List.nil_append, List.append_nil, List.getElem?_cons_zero, List.getElem?_cons_succ, Option.some.injEq, exists_eq_left', exists_eq_left, V.int.injEq, V.ref.injEq, V.str.injEq, V.bl.injEq, V.ty.injEq, List.cons.injEq, and_true, true_and, and_assoc, exists_and_left, List.set_cons_zero, List.set_cons_succ, Nat.reduceSub, Nat.reduceAdd, decide_eq_true_eq, Bool.not_eq_true', decide_eq_false_iff_not, Int.reduceToNat, Int.reducePow, Int.reduceNeg, Int.reduceMul, Int.reduceAdd, if_true, ite_true, Bool.false_eq_true, ite_false, if_false]
  have r1 := rep_ok (n := 31) (by decide) (by decide)
  have r2 := rep_ok (n := 29) (by decide) (by decide)
  have l0 : (Str.ofString "0").length = 1 := by decide +kernel
  have l1 : (Str.ofString "1").length = 1 ∧ Asc (Str.ofString "1") := by unfold Asc; decide +kernel
  have l2 : (Str.ofString "-1").length = 2 ∧ Asc (Str.ofString "-1") := by unfold Asc; decide +kernel
  generalize repS (Str.ofString "0") 31 = z1 at *
  generalize repS (Str.ofString "0") 29 = z2 at *
  have w1 : (Str.ofString "1" ++ z1).length ≤ 100 ∧ Asc (Str.ofString "1" ++ z1) := ⟨by rw [len_app]; omega, l1.2.app r1.2⟩
  have w2 : (Str.ofString "-1" ++ z2 ++ Str.ofString "1").length ≤ 100 ∧ Asc (Str.ofString "-1" ++ z2 ++ Str.ofString "1") := ⟨by rw [len_app, len_app]; omega, (l2.2.app r2.2).app l1.2⟩
  have sz1 : (Str.ofString "1").length + z1.length ≤ sizeLine := small_size (by omega)
  have sz2 : (Str.ofString "-1").length + z2.length ≤ sizeLine := small_size (by omega)
  have sz3 : (Str.ofString "-1" ++ z2).length + (Str.ofString "1").length ≤ sizeLine := small_size (by rw [len_app]; omega)
  generalize Str.ofString "1" ++ z1 = y1 at *
  generalize Str.ofString "-1" ++ z2 ++ Str.ofString "1" = y2 at *
  refine ⟨by decide, fun p1 hp1 => ⟨by decide, by decide, by decide +kernel, sz1, by decide, by decide, by decide +kernel, sz2, sz3, by decide, fun p2 hp2 => ?_⟩⟩
  refine ⟨_, isV p2 hp2 _ _ upd_same, _, upd_same, by simp only [List.length]; decide, fun p3 hp3 => ⟨by decide, _, SqL.of upd_same, ?_⟩⟩
  obtain ⟨v, hv, hm⟩ := at_mod (xs := [V.str (Str.ofString "take"), V.str (Str.ofString "give"), V.str (Str.ofString "let"), V.str (Str.ofString "say"), V.str (Str.ofString "off"), V.str (Str.ofString "if"), V.str (Str.ofString "else"), V.str (Str.ofString "end"), V.str (Str.ofString "as"), V.str (Str.ofString "Plus"), V.str (Str.ofString "x1"), V.str (Str.ofString "letters"), V.str (Str.ofString ""), V.str (Str.ofString "007"), V.str (Str.ofString "-0"), V.str (Str.ofString "+1"), V.str (Str.ofString "1_0"), V.str (Str.ofString " 1"), V.str (Str.ofString "-"), V.str (Str.ofString "a b"), V.str y1, V.str y2]) n 22 rfl (by decide)
  refine ⟨v, hv, ?_⟩
  obtain ⟨x, rfl, hx, ha⟩ : ∃ x : Str, v = .str x ∧ x.length ≤ 100 ∧ Asc x := by
    simp only [List.mem_cons, List.not_mem_nil, or_false] at hm
    rcases hm with rfl | rfl | rfl | rfl | rfl | rfl | rfl | rfl | rfl | rfl | rfl | rfl | rfl | rfl | rfl | rfl | rfl | rfl | rfl | rfl | rfl | rfl
    case inr.inr.inr.inr.inr.inr.inr.inr.inr.inr.inr.inr.inr.inr.inr.inr.inr.inr.inr.inr.inl => exact ⟨_, rfl, w1⟩
    case inr.inr.inr.inr.inr.inr.inr.inr.inr.inr.inr.inr.inr.inr.inr.inr.inr.inr.inr.inr.inr => exact ⟨_, rfl, w2⟩
    all_goals exact ⟨_, rfl, by decide +kernel, by unfold Asc; decide +kernel⟩
  exact q _ _ hx ha ((isV p1 hp1).trans ((isV p2 hp2).trans (isV p3 hp3)))
theorem rdp__law_leaf_word {n : Int} (h0 : 0 ≤ n) (h1 : n < 2147483648) (q : anyW H Q) :
    rd__law_leaf_word K t { nx := fun _ H' => Q .non H', rt := Q } (L2.start ["number"] [.int n]) H := by
  simp only [rd__law_leaf_word, sp__law_free, sp__law_letters, L2.start, iRev, cLst, cMin, rRep, rEqL, rEqNil, cIntB, tDGet2, tDisp, tPairs, r_mt_append, r_mt_pop, rAppend, rPop, rIxT, rCatT, tTry, endT, tDropX, tRetX, tAsgX, tCallX, tRaise, tMsgR, tMsgS, cIsx, cIsxT, clsV, rMulS, r_mt_find, r_mt_join, tSeq, tAsg, gName, gTup, gCons, gNil, tRet, tRetN, tDrop, tNext, tNever, tOp, tUn, tVar, tC, tLst, tTup, tCons, tNil, tFor, tIfS, tAnd, tOr, tNot, tTest, tB, tAndV, tOrV, tNotV, tIf, tCB, tBM, tBM0, tyV, tSl, tPart, tNoPart, tAug, ipI, tChain, tCall, spP, tComp, tYes, capV, LenV, iRng1, iRng2, iStr, tDNewK, iList, iTup, rCat, rIxL, rIxT, rIxS, rEq, rNe, rI, rI0, rU, rIn, rSlS, rSlL, rAddS, rInS, rNotInS, rIsB, rIsNotB, rIsN, rNotN, cLen, cIsi, cAll, cAbs, cStr, cInt, r_mt_startswith, r_mt_upper, scal, List.map, List.replicate, List.length, List.append, List.cons_append, List.nil_append, List.append_nil, List.getElem?_cons_zero, List.getElem?_cons_succ, Option.some.injEq, exists_eq_left', exists_eq_left, V.int.injEq, V.ref.injEq, V.str.injEq, V.bl.injEq, V.ty.injEq, List.cons.injEq, and_true, true_and, and_assoc, exists_and_left, List.set_cons_zero, List.set_cons_succ, Nat.reduceSub, Nat.reduceAdd, decide_eq_true_eq, Bool.not_eq_true', decide_eq_false_iff_not, Int.reduceToNat, Int.reducePow, Int.reduceNeg, Int.reduceMul, Int.reduceAdd, if_true, ite_true, Bool.false_eq_true, ite_false, if_false]
  have P30 := pow10 (j := 30) (by decide) (by decide)
  have hb : (10000000000000000000000000000000000000000000000 : Int) < big := by decide +kernel
  have g1 := Int.emod_nonneg (n / 2) (b := 6) (by decide)
  have g2 := Int.emod_lt_of_pos (n / 2) (b := 6) (by decide)
  have nm : ∀ {w : Int}, -1000000000000000000000000000000 ≤ w → w ≤ 1000000000000000000000000000000 → w.natAbs.log2 < 1920 ∧ Q (.str (numS w)) H := fun {w} a b => by
    have hw : inW w = true := decide_eq_true ⟨a, b⟩
    have hl := (isNum_numS hw).2.2
    exact ⟨log_inW hw, q _ _ (by omega) (Asc.num w) (Same.refl H)⟩
  refine ⟨by decide, ite2 (fun c => ⟨dB, dB, by decide, by omega, by omega, fun x H1 hx ha s1 => ⟨by omega, fun H2 s2 => ?_⟩⟩) fun c => ⟨by decide, ite2 (fun d => ⟨dB, by decide, nm (by omega) (by omega)⟩) fun d => ⟨⟨by decide, by decide, by omega⟩, P30, P30, ⟨by omega, by omega⟩, by decide, P30, ?_⟩⟩⟩
  · obtain ⟨f1, f2⟩ := free_asc hx ha
    exact q _ _ f1 f2 (s1.trans s2)
  · generalize n ^ 4 = z
    exact nm (by omega) (by omega)
theorem rdp__law_word_by {n : Int} (q : anyW H Q) :
    rd__law_word_by K t { nx := fun _ H' => Q .non H', rt := Q } (L2.start ["cell", "number"] [.int n]) H := by
  simp only [rd__law_word_by, sp__law_mixed, sp__law_odd, sp__law_leaf_word, anyW, L2.start, iRev, cLst, cMin, rRep, rEqL, rEqNil, cIntB, tDGet2, tDisp, tPairs, r_mt_append, r_mt_pop, rAppend, rPop, rIxT, rCatT, tTry, endT, tDropX, tRetX, tAsgX, tCallX, tRaise, tMsgR, tMsgS, cIsx, cIsxT, clsV, rMulS, r_mt_find, r_mt_join, tSeq, tAsg, gName, gTup, gCons, gNil, tRet, tRetN, tDrop, tNext, tNever, tOp, tUn, tVar, tC, tLst, tTup, tCons, tNil, tFor, tIfS, tAnd, tOr, tNot, tTest, tB, tAndV, tOrV, tNotV, tIf, tCB, tBM, tBM0, tyV, tSl, tPart, tNoPart, tAug, ipI, tChain, tCall, spP, tComp, tYes, capV, LenV, iRng1, iRng2, iStr, tDNewK, iList, iTup, rCat, rIxL, rIxT, rIxS, rEq, rNe, rI, rI0, rU, rIn, rSlS, rSlL, rAddS, rInS, rNotInS, rIsB, rIsNotB, rIsN, rNotN, cLen, cIsi, cAll, cAbs, cStr, cInt, r_mt_startswith, r_mt_upper, scal, List.map, List.replicate, List.length, List.append, List.cons_append, List.nil_append, List.append_nil, List.getElem?_cons_zero, List.getElem?_cons_succ, Option.some.injEq, exists_eq_left', exists_eq_left, V.int.injEq, V.ref.injEq, V.str.injEq, V.bl.injEq, V.ty.injEq, List.cons.injEq, and_true, true_and, and_assoc, exists_and_left, List.set_cons_zero, List.set_cons_succ, Nat.reduceSub, Nat.reduceAdd, decide_eq_true_eq, Bool.not_eq_true', decide_eq_false_iff_not, Int.reduceToNat, Int.reducePow, Int.reduceNeg, Int.reduceMul, Int.reduceAdd, if_true, ite_true, Bool.false_eq_true, ite_false, if_false]
  refine ⟨by decide, by decide, fun r H1 a1 b1 s1 => ⟨by decide, ite2 (fun c x H2 hx ha s2 => q _ _ hx ha (s1.trans s2)) fun c => ⟨by decide, ite2 (fun d => ⟨by decide, fun p hp => ⟨by decide, _, SqL.of upd_same, ?_⟩⟩) fun d => ⟨by decide, by decide, fun r2 H2 a2 b2 s2 => ⟨a2, b2, fun x H3 hx ha s3 => q _ _ hx ha (s1.trans (s2.trans s3))⟩⟩⟩⟩⟩
  obtain ⟨v, hv, hm⟩ := at_mod (xs := jw) r 7 rfl (by decide)
  refine ⟨v, hv, ?_⟩
  obtain ⟨x, rfl, hx, ha⟩ : ∃ x : Str, v = .str x ∧ x.length ≤ 100 ∧ Asc x := by
    simp only [jw, List.mem_cons, List.not_mem_nil, or_false] at hm
    rcases hm with rfl | rfl | rfl | rfl | rfl | rfl | rfl <;> exact ⟨_, rfl, by decide +kernel, by unfold Asc; decide +kernel⟩
  exact q _ _ hx ha (s1.trans (isV p hp))
/-! ### numerals, sign by sign -/
open PySem.NumText in
theorem val_cons : ∀ (r : List Nat) (c : Nat), digitsVal (c :: r) = (c - 48) * 10 ^ r.length + digitsVal r := fun r c => by
  have g : ∀ (r : List Nat) (a : Nat), r.foldl (fun acc c => acc * 10 + (c - 48)) a = a * 10 ^ r.length + r.foldl (fun acc c => acc * 10 + (c - 48)) 0 := by
    intro r
    induction r with
    | nil => intro a; simp
    | cons d r ih =>
      intro a
      rw [List.foldl_cons, List.foldl_cons, ih, ih (0 * 10 + (d - 48)), List.length_cons, Nat.pow_succ, Nat.add_mul]
      rw [Nat.zero_mul, Nat.zero_add, Nat.mul_assoc, Nat.mul_comm 10]
      omega
  unfold digitsVal
  rw [List.foldl_cons, g, Nat.zero_mul, Nat.zero_add]
open PySem.NumText in
theorem val_nought : ∀ {r : List Nat}, AllDigits r → digitsVal r = 0 → r = List.replicate r.length 48
  | [], _, _ => rfl
  | c :: r, h, e => by
    rw [val_cons] at e
    have hc := h c List.mem_cons_self
    have hp : 0 < 10 ^ r.length := Nat.pow_pos (by decide)
    have e1 : (c - 48) * 10 ^ r.length = 0 := by omega
    have e2 : digitsVal r = 0 := by omega
    have e3 : c - 48 = 0 := by
      rcases Nat.mul_eq_zero.mp e1 with z | z
      · exact z
      · omega
    have e4 : c = 48 := by omega
    rw [List.length_cons, List.replicate_succ, ← val_nought (fun x hx => h x (List.mem_cons_of_mem _ hx)) e2, e4]
open PySem.NumText in
theorem val_small : ∀ {d : List Nat}, AllDigits d → digitsVal d < 10 ^ d.length
  | [], _ => by decide
  | c :: r, h => by
    rw [val_cons, List.length_cons, Nat.pow_succ]
    have hc := h c List.mem_cons_self
    have ih := val_small (d := r) fun x hx => h x (List.mem_cons_of_mem _ hx)
    have : (c - 48) * 10 ^ r.length ≤ 9 * 10 ^ r.length := Nat.mul_le_mul_right _ (by omega)
    omega
open PySem.NumText in
theorem val31 {d : List Nat} (h : AllDigits d) (hl : d.length = 31) (hh : d.head? ≠ some 48) : digitsVal d ≤ 1000000000000000000000000000000 ↔ d = 49 :: List.replicate 30 48 := by
  constructor
  · intro hv
    match d, hl with
    | c :: r, hl =>
      have hr : r.length = 30 := by simpa using hl
      rw [val_cons, hr] at hv
      have hc := h c List.mem_cons_self
      have hc2 : c ≠ 48 := fun z => hh (by rw [z]; rfl)
      have e30 : (10 : Nat) ^ 30 = 1000000000000000000000000000000 := by decide +kernel
      rw [e30] at hv
      have hc3 : c = 49 := by omega
      rw [hc3] at hv ⊢
      have := val_nought (r := r) (fun x hx => h x (List.mem_cons_of_mem _ hx)) (by omega)
      rw [this, hr]
  · intro e
    rw [e]
    decide +kernel
def noI (x f : Str) (H : Hp) (i : Nat) (σ : St) (H' : Hp) : Prop := (∃ o, σ = [some (.str x), some (.str f), o]) ∧ PySem.NumText.AllDigits (f.cps.toList.take i) ∧ H' = H
theorem rdp_no3 {x f : Str} (hf : f = fpart x) (hx : x.length ≤ 1000) (h0 : fig x ≠ []) (h1 : (fig x).length ≤ 31) (h2 : ¬ ((fig x).head? = some 48 ∧ x ≠ "0")) (q : ∀ H', Same H H' → if isNum x = true then Q (.int (valOf x)) H' else Q .non H') :
    rd__law_number_of_3 K t { nx := fun _ H' => Q .non H', rt := Q } [some (.str x), some (.str f), none] H := by
  have q := q H (Same.refl H)
  have ef : f.cps.toList = fig x := by rw [hf]; rfl
  have lf : f.length = (fig x).length := by rw [len_cps, ef]
  have lx := fpart_len x
  rw [← hf] at lx
  have no : ¬ PySem.NumText.AllDigits (fig x) → Q .non H := fun h => by
    rw [if_neg fun z => h ((num_iff hx).mp z).2.2.1] at q; exact q
  have gr : 1000000000000000000000000000000 < PySem.NumText.digitsVal (fig x) → Q .non H := fun h => by
    rw [if_neg fun z => absurd ((num_iff hx).mp z).2.2.2.2 (by omega)] at q; exact q
  simp only [rd__law_number_of_3, L2.start, iRev, cLst, cMin, rRep, rEqL, rEqNil, cIntB, tDGet2, tDisp, tPairs, r_mt_append, r_mt_pop, rAppend, rPop, rIxT, rCatT, tTry, endT, tDropX, tRetX, tAsgX, tCallX, tRaise, tMsgR, tMsgS, cIsx, cIsxT, clsV, rMulS, r_mt_find, r_mt_join, tSeq, tAsg, gName, gTup, gCons, gNil, tRet, tRetN, tDrop, tNext, tNever, tOp, tUn, tVar, tC, tLst, tTup, tCons, tNil, tFor, tIfS, tAnd, tOr, tNot, tTest, tB, tAndV, tOrV, tNotV, tIf, tCB, tBM, tBM0, tyV, tSl, tPart, tNoPart, tAug, ipI, tChain, tCall, spP, tComp, tYes, capV, LenV, iRng1, iRng2, iStr, tDNewK, iList, iTup, rCat, rIxL, rIxT, rIxS, rEq, rNe, rI, rI0, rU, rIn, rSlS, rSlL, rAddS, rInS, rNotInS, rIsB, rIsNotB, rIsN, rNotN, cLen, cIsi, cAll, cAbs, cStr, cInt, r_mt_startswith, r_mt_upper, scal, List.map, List.replicate, List.length, List.append, List.cons_append, List.nil_append, List.append_nil, List.getElem?_cons_zero, List.getElem?_cons_succ, Option.some.injEq, exists_eq_left', exists_eq_left, V.int.injEq, V.ref.injEq, V.str.injEq, V.bl.injEq, V.ty.injEq, List.cons.injEq, and_true, true_and, and_assoc, exists_and_left, List.set_cons_zero, List.set_cons_succ, Nat.reduceSub, Nat.reduceAdd, decide_eq_true_eq, Bool.not_eq_true', decide_eq_false_iff_not, Int.reduceToNat, Int.reducePow, Int.reduceNeg, Int.reduceMul, Int.reduceAdd, if_true, ite_true, Bool.false_eq_true, ite_false, if_false]
  refine loop_str (noI x f H) ⟨⟨_, rfl⟩, (fun c z => by simp at z), rfl⟩ ?_ ?_
  · rintro i c σ H' hc ⟨⟨o, rfl⟩, hd, rfl⟩
    have hc' : f.cps.toList[i]? = some c := by simpa using hc
    have hmem : c ∈ fig x := by rw [← ef]; exact List.mem_of_getElem? hc'
    simp only [L2.start, iRev, cLst, cMin, rRep, rEqL, rEqNil, cIntB, tDGet2, tDisp, tPairs, r_mt_append, r_mt_pop, rAppend, rPop, rIxT, rCatT, tTry, endT, tDropX, tRetX, tAsgX, tCallX, tRaise, tMsgR, tMsgS, cIsx, cIsxT, clsV, rMulS, r_mt_find, r_mt_join, tSeq, tAsg, gName, gTup, gCons, gNil, tRet, tRetN, tDrop, tNext, tNever, tOp, tUn, tVar, tC, tLst, tTup, tCons, tNil, tFor, tIfS, tAnd, tOr, tNot, tTest, tB, tAndV, tOrV, tNotV, tIf, tCB, tBM, tBM0, tyV, tSl, tPart, tNoPart, tAug, ipI, tChain, tCall, spP, tComp, tYes, capV, LenV, iRng1, iRng2, iStr, tDNewK, iList, iTup, rCat, rIxL, rIxT, rIxS, rEq, rNe, rI, rI0, rU, rIn, rSlS, rSlL, rAddS, rInS, rNotInS, rIsB, rIsNotB, rIsN, rNotN, cLen, cIsi, cAll, cAbs, cStr, cInt, r_mt_startswith, r_mt_upper, scal, List.map, List.replicate, List.length, List.append, List.cons_append, List.nil_append, List.append_nil, List.getElem?_cons_zero, List.getElem?_cons_succ, Option.some.injEq, exists_eq_left', exists_eq_left, V.int.injEq, V.ref.injEq, V.str.injEq, V.bl.injEq, V.ty.injEq, List.cons.injEq, and_true, true_and, and_assoc, exists_and_left, List.set_cons_zero, List.set_cons_succ, Nat.reduceSub, Nat.reduceAdd, decide_eq_true_eq, Bool.not_eq_true', decide_eq_false_iff_not, Int.reduceToNat, Int.reducePow, Int.reduceNeg, Int.reduceMul, Int.reduceAdd, if_true, ite_true, Bool.false_eq_true, ite_false, if_false]
    rw [inF_def]
    refine ite2 (fun z => ?_) fun z => ?_
    · refine no fun h => ?_
      have := (inF_iff c).mpr (h c hmem)
      rw [this] at z; cases z
    · have hF := (inF_iff c).mp (by simpa using z)
      refine ⟨⟨_, rfl⟩, ?_, rfl⟩
      rw [List.take_add_one, hc']
      intro d hd2
      rcases List.mem_append.mp hd2 with z | z
      · exact hd d z
      · have : d = c := by simpa using z
        omega
  · rintro σ H' ⟨⟨o, rfl⟩, hd, rfl⟩
    have tk : f.cps.toList.take f.cps.size = fig x := by rw [← ef]; exact List.take_of_length_le (by simp)
    rw [tk] at hd
    simp only [L2.start, iRev, cLst, cMin, rRep, rEqL, rEqNil, cIntB, tDGet2, tDisp, tPairs, r_mt_append, r_mt_pop, rAppend, rPop, rIxT, rCatT, tTry, endT, tDropX, tRetX, tAsgX, tCallX, tRaise, tMsgR, tMsgS, cIsx, cIsxT, clsV, rMulS, r_mt_find, r_mt_join, tSeq, tAsg, gName, gTup, gCons, gNil, tRet, tRetN, tDrop, tNext, tNever, tOp, tUn, tVar, tC, tLst, tTup, tCons, tNil, tFor, tIfS, tAnd, tOr, tNot, tTest, tB, tAndV, tOrV, tNotV, tIf, tCB, tBM, tBM0, tyV, tSl, tPart, tNoPart, tAug, ipI, tChain, tCall, spP, tComp, tYes, capV, LenV, iRng1, iRng2, iStr, tDNewK, iList, iTup, rCat, rIxL, rIxT, rIxS, rEq, rNe, rI, rI0, rU, rIn, rSlS, rSlL, rAddS, rInS, rNotInS, rIsB, rIsNotB, rIsN, rNotN, cLen, cIsi, cAll, cAbs, cStr, cInt, r_mt_startswith, r_mt_upper, scal, List.map, List.replicate, List.length, List.append, List.cons_append, List.nil_append, List.append_nil, List.getElem?_cons_zero, List.getElem?_cons_succ, Option.some.injEq, exists_eq_left', exists_eq_left, V.int.injEq, V.ref.injEq, V.str.injEq, V.bl.injEq, V.ty.injEq, List.cons.injEq, and_true, true_and, and_assoc, exists_and_left, List.set_cons_zero, List.set_cons_succ, Nat.reduceSub, Nat.reduceAdd, decide_eq_true_eq, Bool.not_eq_true', decide_eq_false_iff_not, Int.reduceToNat, Int.reducePow, Int.reduceNeg, Int.reduceMul, Int.reduceAdd, if_true, ite_true, Bool.false_eq_true, ite_false, if_false]
    have hfig : isFig (fpart x) = true := (isFig_iff _).mpr ⟨h0, hd⟩
    have yes : PySem.NumText.digitsVal (fig x) ≤ 1000000000000000000000000000000 → ∃ n, intText? x = some n ∧ x.length ≤ 640 ∧ Q (.int n) H' := fun hv => by
      rw [if_pos ((num_iff hx).mpr ⟨h0, h1, hd, h2, hv⟩)] at q
      exact ⟨_, int_of_fig hfig (by omega), by omega, q⟩
    have em : Str.ofString "1" ++ repS (Str.ofString "0") 30 = f ↔ fig x = 49 :: List.replicate 30 48 := by
      have e1 : (Str.ofString "1" ++ repS (Str.ofString "0") 30).cps.toList = 49 :: List.replicate 30 48 := by decide +kernel
      constructor
      · intro z; rw [← ef, ← z, e1]
      · intro z; exact str_ext (by rw [e1, ef, z])
    have e30 : (10 : Nat) ^ 30 = 1000000000000000000000000000000 := by decide +kernel
    have r1 := rep_ok (n := 30) (by decide) (by decide)
    have l1 : (Str.ofString "1").length = 1 := by decide +kernel
    refine ⟨small_size (by omega), ite2 (fun c => ⟨by decide, by decide, by decide +kernel, small_size (by omega), ite2 (fun d => gr ?_) fun d => yes ?_⟩) fun c => yes ?_⟩
    · have hh : (fig x).head? ≠ some 48 := fun z => h2 ⟨z, fun y => by
        have : (fig x).length = 1 := by rw [y]; decide +kernel
        omega⟩
      refine Nat.lt_of_not_le fun z => ?_
      exact d (em.mpr ((val31 hd (by omega) hh).mp z)).symm
    · have := em.mp (Classical.not_not.mp d).symm
      rw [this]; decide +kernel
    · have vs := val_small hd
      have : (10 : Nat) ^ (fig x).length ≤ 10 ^ 30 := Nat.pow_le_pow_right (by decide) (by omega)
      omega
theorem str_nil {x : Str} : x = Str.ofString "" ↔ x.cps.toList = [] := ⟨fun h => by rw [h]; decide +kernel, fun h => str_ext (by rw [h]; decide +kernel)⟩
theorem rdp_no2 {x f : Str} (hf : f = fpart x) (hx : x.length ≤ 1000) (q : ∀ H', Same H H' → if isNum x = true then Q (.int (valOf x)) H' else Q .non H') :
    rd__law_number_of_2 K t { nx := fun _ H' => Q .non H', rt := Q } [some (.str x), some (.str f), none] H := by
  have ef : f.cps.toList = fig x := by rw [hf]; rfl
  have no : isNum x = false → Q .non H := fun h => by
    have q := q H (Same.refl H)
    rw [if_neg (by rw [h]; decide)] at q; exact q
  have lf : f.length = (fig x).length := by rw [len_cps, ef]
  have hfl := fpart_le x
  rw [← hf] at hfl
  simp only [rd__law_number_of_2, L2.start, iRev, cLst, cMin, rRep, rEqL, rEqNil, cIntB, tDGet2, tDisp, tPairs, r_mt_append, r_mt_pop, rAppend, rPop, rIxT, rCatT, tTry, endT, tDropX, tRetX, tAsgX, tCallX, tRaise, tMsgR, tMsgS, cIsx, cIsxT, clsV, rMulS, r_mt_find, r_mt_join, tSeq, tAsg, gName, gTup, gCons, gNil, tRet, tRetN, tDrop, tNext, tNever, tOp, tUn, tVar, tC, tLst, tTup, tCons, tNil, tFor, tIfS, tAnd, tOr, tNot, tTest, tB, tAndV, tOrV, tNotV, tIf, tCB, tBM, tBM0, tyV, tSl, tPart, tNoPart, tAug, ipI, tChain, tCall, spP, tComp, tYes, capV, LenV, iRng1, iRng2, iStr, tDNewK, iList, iTup, rCat, rIxL, rIxT, rIxS, rEq, rNe, rI, rI0, rU, rIn, rSlS, rSlL, rAddS, rInS, rNotInS, rIsB, rIsNotB, rIsN, rNotN, cLen, cIsi, cAll, cAbs, cStr, cInt, r_mt_startswith, r_mt_upper, scal, List.map, List.replicate, List.length, List.append, List.cons_append, List.nil_append, List.append_nil, List.getElem?_cons_zero, List.getElem?_cons_succ, Option.some.injEq, exists_eq_left', exists_eq_left, V.int.injEq, V.ref.injEq, V.str.injEq, V.bl.injEq, V.ty.injEq, List.cons.injEq, and_true, true_and, and_assoc, exists_and_left, List.set_cons_zero, List.set_cons_succ, Nat.reduceSub, Nat.reduceAdd, decide_eq_true_eq, Bool.not_eq_true', decide_eq_false_iff_not, Int.reduceToNat, Int.reducePow, Int.reduceNeg, Int.reduceMul, Int.reduceAdd, if_true, ite_true, Bool.false_eq_true, ite_false, if_false]
  refine ite2 (fun c => no (Bool.eq_false_iff.mpr fun z => ((num_iff hx).mp z).1 (by rw [← ef]; exact str_nil.mp c))) fun c0 => ⟨small_size (by omega), ite2 (fun c => no (Bool.eq_false_iff.mpr fun z => by have := ((num_iff hx).mp z).2.1; omega)) fun c1 => ?_⟩
  have h0 : fig x ≠ [] := fun z => c0 (str_nil.mpr (ef.trans z))
  obtain ⟨a, r, har⟩ := List.exists_cons_of_ne_nil h0
  refine ⟨small_size (by omega), a, by rw [ef, har]; simp [atI, ixN], ?_⟩
  have hd : (⟨#[a]⟩ : Str) = Str.ofString "0" ↔ (fig x).head? = some 48 := by
    rw [har]
    constructor
    · intro z
      have := (congrArg (fun y : Str => y.cps.toList) z).trans zero_cps
      have e : a = 48 := (List.cons.inj this).1
      rw [e]; rfl
    · intro z
      have e : a = 48 := by simpa using z
      rw [e]; decide +kernel
  refine ite2 (fun c2 => ite2 (fun c3 => no (Bool.eq_false_iff.mpr fun z => ((num_iff hx).mp z).2.2.2.1 ⟨hd.mp c2, c3⟩)) fun c3 => rdp_no3 hf hx h0 (by omega) (fun z => c3 z.2) q) fun c2 => rdp_no3 hf hx h0 (by omega) (fun z => c2 (hd.mpr z.1)) q
theorem rdp__law_number_of {x : Str} (hx : x.length ≤ 1000) (q : ∀ H', Same H H' → if isNum x = true then Q (.int (valOf x)) H' else Q .non H') :
    rd__law_number_of K t { nx := fun _ H' => Q .non H', rt := Q } (L2.start ["word", "figures", "sign"] [.str x]) H := by
  simp only [rd__law_number_of, L2.start, iRev, cLst, cMin, rRep, rEqL, rEqNil, cIntB, tDGet2, tDisp, tPairs, r_mt_append, r_mt_pop, rAppend, rPop, rIxT, rCatT, tTry, endT, tDropX, tRetX, tAsgX, tCallX, tRaise, tMsgR, tMsgS, cIsx, cIsxT, clsV, rMulS, r_mt_find, r_mt_join, tSeq, tAsg, gName, gTup, gCons, gNil, tRet, tRetN, tDrop, tNext, tNever, tOp, tUn, tVar, tC, tLst, tTup, tCons, tNil, tFor, tIfS, tAnd, tOr, tNot, tTest, tB, tAndV, tOrV, tNotV, tIf, tCB, tBM, tBM0, tyV, tSl, tPart, tNoPart, tAug, ipI, tChain, tCall, spP, tComp, tYes, capV, LenV, iRng1, iRng2, iStr, tDNewK, iList, iTup, rCat, rIxL, rIxT, rIxS, rEq, rNe, rI, rI0, rU, rIn, rSlS, rSlL, rAddS, rInS, rNotInS, rIsB, rIsNotB, rIsN, rNotN, cLen, cIsi, cAll, cAbs, cStr, cInt, r_mt_startswith, r_mt_upper, scal, List.map, List.replicate, List.length, List.append, List.cons_append, List.nil_append, List.append_nil, List.getElem?_cons_zero, List.getElem?_cons_succ, Option.some.injEq, exists_eq_left', exists_eq_left, V.int.injEq, V.ref.injEq, V.str.injEq, V.bl.injEq, V.ty.injEq, List.cons.injEq, and_true, true_and, and_assoc, exists_and_left, List.set_cons_zero, List.set_cons_succ, Nat.reduceSub, Nat.reduceAdd, decide_eq_true_eq, Bool.not_eq_true', decide_eq_false_iff_not, Int.reduceToNat, Int.reducePow, Int.reduceNeg, Int.reduceMul, Int.reduceAdd, if_true, ite_true, Bool.false_eq_true, ite_false, if_false]
  have e : Txt.slice x none (some 1) = Str.ofString "-" ↔ (x.cps.toList.take 1 == [45]) = true := by
    have s1 := slice_to x 1
    have e1 : (Str.ofString "-").cps.toList = [45] := by decide +kernel
    rw [beq_iff_eq, ← s1, ← e1]
    exact ⟨fun z => by rw [← z]; rfl, fun z => str_ext z⟩
  refine ⟨small_size (by omega), ite2 (fun c => ⟨small_size (by omega), rdp_no2 ?_ hx q⟩) fun c => rdp_no2 ?_ hx q⟩
  · unfold fpart
    rw [if_pos (e.mp c)]
  · unfold fpart
    rw [if_neg fun z => c (e.mpr z)]
theorem name_iff {x : Str} (h0 : 1 ≤ x.length) (h1 : x.length ≤ 6) (hf : freeW x = x) : isName x = x.cps.toList.all inL := by
  obtain ⟨f1, f2⟩ := free_iff.mp hf
  have e0 : ¬ x = "" := fun z => by
    rw [z] at h0
    exact absurd h0 (by decide +kernel)
  unfold isName
  rw [decide_eq_false e0, decide_eq_false (by omega : ¬ 6 < x.length), Bool.eq_false_iff.mpr f1, Bool.eq_false_iff.mpr f2]
  simp
theorem name_no {x : Str} (h : ¬ (1 ≤ x.length ∧ x.length ≤ 6) ∨ freeW x ≠ x) : isName x = false := by
  refine Bool.eq_false_iff.mpr fun z => ?_
  obtain ⟨a, b, c, d⟩ := isName_parts z
  rcases h with h | h
  · refine h ⟨?_, b⟩
    rw [len_cps]
    exact List.length_pos_iff.mpr a
  · refine h (free_iff.mpr ?_)
    unfold isName at z
    rw [Bool.and_eq_true, Bool.and_eq_true, Bool.not_eq_true', Bool.not_eq_true', Bool.or_eq_false_iff, Bool.or_eq_false_iff] at z
    rw [z.1.2.1, z.1.2.2]
    exact ⟨by decide, by decide⟩
def poI (x : Str) (H : Hp) (i : Nat) (σ : St) (H' : Hp) : Prop := (∃ o, σ = [some (.str x), o]) ∧ H' = H ∧ ∀ k < i, ∀ c, x.cps[k]? = some c → inL c = true
theorem rdp_po1 {x : Str} (hx : x.length ≤ 1000) (hn : isNum x = false) (q : ∀ H', Same H H' → Q ((partW x).getD .non) H') :
    rd__law_part_of_1 K t { nx := fun _ H' => Q .non H', rt := Q } [some (.str x), none] H := by
  have yes : isName x = true → ∀ H', Same H H' → Q (.str x) H' := fun h H' s => by
    have q := q H' s
    unfold partW at q
    rw [if_pos h] at q
    exact q
  have no : isName x = false → ∀ H', Same H H' → Q .non H' := fun h H' s => by
    have q := q H' s
    unfold partW at q
    rw [h, hn] at q
    exact q
  simp only [rd__law_part_of_1, sp__law_free, L2.start, iRev, cLst, cMin, rRep, rEqL, rEqNil, cIntB, tDGet2, tDisp, tPairs, r_mt_append, r_mt_pop, rAppend, rPop, rIxT, rCatT, tTry, endT, tDropX, tRetX, tAsgX, tCallX, tRaise, tMsgR, tMsgS, cIsx, cIsxT, clsV, rMulS, r_mt_find, r_mt_join, tSeq, tAsg, gName, gTup, gCons, gNil, tRet, tRetN, tDrop, tNext, tNever, tOp, tUn, tVar, tC, tLst, tTup, tCons, tNil, tFor, tIfS, tAnd, tOr, tNot, tTest, tB, tAndV, tOrV, tNotV, tIf, tCB, tBM, tBM0, tyV, tSl, tPart, tNoPart, tAug, ipI, tChain, tCall, spP, tComp, tYes, capV, LenV, iRng1, iRng2, iStr, tDNewK, iList, iTup, rCat, rIxL, rIxT, rIxS, rEq, rNe, rI, rI0, rU, rIn, rSlS, rSlL, rAddS, rInS, rNotInS, rIsB, rIsNotB, rIsN, rNotN, cLen, cIsi, cAll, cAbs, cStr, cInt, r_mt_startswith, r_mt_upper, scal, List.map, List.replicate, List.length, List.append, List.cons_append, List.nil_append, List.append_nil, List.getElem?_cons_zero, List.getElem?_cons_succ, Option.some.injEq, exists_eq_left', exists_eq_left, V.int.injEq, V.ref.injEq, V.str.injEq, V.bl.injEq, V.ty.injEq, List.cons.injEq, and_true, true_and, and_assoc, exists_and_left, List.set_cons_zero, List.set_cons_succ, Nat.reduceSub, Nat.reduceAdd, decide_eq_true_eq, Bool.not_eq_true', decide_eq_false_iff_not, Int.reduceToNat, Int.reducePow, Int.reduceNeg, Int.reduceMul, Int.reduceAdd, if_true, ite_true, Bool.false_eq_true, ite_false, if_false]
  refine ⟨small_size (by omega), ite2 (fun c => ite2 (fun c2 => ⟨hx, fun H1 s1 => ite2 (fun c3 => ?_) fun c3 => no (name_no (.inr c3)) _ s1⟩) fun c2 => no (name_no (.inl (by omega))) _ (Same.refl H)) fun c => no (name_no (.inl (by omega))) _ (Same.refl H)⟩
  have en := name_iff (by omega) (by omega) c3
  refine loop_str (poI x H1) ⟨⟨_, rfl⟩, rfl, fun k h => nomatch h⟩ ?_ ?_
  · rintro i c σ H' hc ⟨⟨o, rfl⟩, rfl, hl⟩
    simp only [inL_def, L2.start, iRev, cLst, cMin, rRep, rEqL, rEqNil, cIntB, tDGet2, tDisp, tPairs, r_mt_append, r_mt_pop, rAppend, rPop, rIxT, rCatT, tTry, endT, tDropX, tRetX, tAsgX, tCallX, tRaise, tMsgR, tMsgS, cIsx, cIsxT, clsV, rMulS, r_mt_find, r_mt_join, tSeq, tAsg, gName, gTup, gCons, gNil, tRet, tRetN, tDrop, tNext, tNever, tOp, tUn, tVar, tC, tLst, tTup, tCons, tNil, tFor, tIfS, tAnd, tOr, tNot, tTest, tB, tAndV, tOrV, tNotV, tIf, tCB, tBM, tBM0, tyV, tSl, tPart, tNoPart, tAug, ipI, tChain, tCall, spP, tComp, tYes, capV, LenV, iRng1, iRng2, iStr, tDNewK, iList, iTup, rCat, rIxL, rIxT, rIxS, rEq, rNe, rI, rI0, rU, rIn, rSlS, rSlL, rAddS, rInS, rNotInS, rIsB, rIsNotB, rIsN, rNotN, cLen, cIsi, cAll, cAbs, cStr, cInt, r_mt_startswith, r_mt_upper, scal, List.map, List.replicate, List.length, List.append, List.cons_append, List.nil_append, List.append_nil, List.getElem?_cons_zero, List.getElem?_cons_succ, Option.some.injEq, exists_eq_left', exists_eq_left, V.int.injEq, V.ref.injEq, V.str.injEq, V.bl.injEq, V.ty.injEq, List.cons.injEq, and_true, true_and, and_assoc, exists_and_left, List.set_cons_zero, List.set_cons_succ, Nat.reduceSub, Nat.reduceAdd, decide_eq_true_eq, Bool.not_eq_true', decide_eq_false_iff_not, Int.reduceToNat, Int.reducePow, Int.reduceNeg, Int.reduceMul, Int.reduceAdd, if_true, ite_true, Bool.false_eq_true, ite_false, if_false]
    refine ite2 (fun e => ?_) fun e => ⟨⟨_, rfl⟩, rfl, fun k hk d hd => ?_⟩
    · refine no ?_ _ s1
      rw [en, List.all_eq_false]
      exact ⟨c, List.mem_of_getElem? (i := i) (by simpa using hc), by simp [e]⟩
    · by_cases hki : k = i
      · subst hki
        rw [hc] at hd
        cases hd
        simpa using e
      · exact hl k (by omega) d hd
  · rintro σ H' ⟨⟨o, rfl⟩, rfl, hl⟩
    refine ⟨_, rfl, yes ?_ _ s1⟩
    rw [en, List.all_eq_true]
    intro c hc
    obtain ⟨k, hk, e⟩ := List.getElem_of_mem hc
    have hk' : k < x.cps.size := by simpa using hk
    exact hl k hk' c (by rw [← e]; simp)
theorem rdp__law_part_of {x : Str} (hx : x.length ≤ 1000) (q : ∀ H', Same H H' → Q ((partW x).getD .non) H') :
    rd__law_part_of K t { nx := fun _ H' => Q .non H', rt := Q } (L2.start ["word", "sign"] [.str x]) H := by
  simp only [rd__law_part_of, sp__law_number_of, L2.start, iRev, cLst, cMin, rRep, rEqL, rEqNil, cIntB, tDGet2, tDisp, tPairs, r_mt_append, r_mt_pop, rAppend, rPop, rIxT, rCatT, tTry, endT, tDropX, tRetX, tAsgX, tCallX, tRaise, tMsgR, tMsgS, cIsx, cIsxT, clsV, rMulS, r_mt_find, r_mt_join, tSeq, tAsg, gName, gTup, gCons, gNil, tRet, tRetN, tDrop, tNext, tNever, tOp, tUn, tVar, tC, tLst, tTup, tCons, tNil, tFor, tIfS, tAnd, tOr, tNot, tTest, tB, tAndV, tOrV, tNotV, tIf, tCB, tBM, tBM0, tyV, tSl, tPart, tNoPart, tAug, ipI, tChain, tCall, spP, tComp, tYes, capV, LenV, iRng1, iRng2, iStr, tDNewK, iList, iTup, rCat, rIxL, rIxT, rIxS, rEq, rNe, rI, rI0, rU, rIn, rSlS, rSlL, rAddS, rInS, rNotInS, rIsB, rIsNotB, rIsN, rNotN, cLen, cIsi, cAll, cAbs, cStr, cInt, r_mt_startswith, r_mt_upper, scal, List.map, List.replicate, List.length, List.append, List.cons_append, List.nil_append, List.append_nil, List.getElem?_cons_zero, List.getElem?_cons_succ, Option.some.injEq, exists_eq_left', exists_eq_left, V.int.injEq, V.ref.injEq, V.str.injEq, V.bl.injEq, V.ty.injEq, List.cons.injEq, and_true, true_and, and_assoc, exists_and_left, List.set_cons_zero, List.set_cons_succ, Nat.reduceSub, Nat.reduceAdd, decide_eq_true_eq, Bool.not_eq_true', decide_eq_false_iff_not, Int.reduceToNat, Int.reducePow, Int.reduceNeg, Int.reduceMul, Int.reduceAdd, if_true, ite_true, Bool.false_eq_true, ite_false, if_false]
  refine ⟨hx, fun H1 s1 => ?_⟩
  by_cases hn : isNum x = true
  · rw [if_pos hn, if_pos (by simp)]
    refine ⟨hx, fun H2 s2 => ?_⟩
    rw [if_pos hn]
    have q := q H2 (s1.trans s2)
    have hN : isName x = false := Bool.eq_false_iff.mpr fun z => by rw [isName_notNum z] at hn; cases hn
    unfold partW at q
    rw [hN, if_neg (by decide), if_pos hn] at q
    exact q
  · rw [if_neg hn, if_neg (by simp)]
    exact rdp_po1 hx (Bool.eq_false_iff.mpr hn) fun H' s => q _ (s1.trans s)
def scanL : List Str → Nat → Option Nat
  | _, 0 => some 0
  | [], _ + 1 => none
  | w :: r, d + 1 => if isJ (.str w) = true then (scanL r (d + 2)).map (· + 1) else match partW w with | none => none | some _ => (scanL r d).map (· + 1)
theorem scanL_zero (l : List Str) : scanL l 0 = some 0 := by cases l <;> (unfold scanL; rfl)
theorem scanL_iff : ∀ (l : List Str) (d n : Nat), scanL l d = some n ↔ (scanE l d = some n ∧ ∀ w ∈ l.take n, isJ (.str w) = true ∨ (partW w).isSome = true)
  | l, 0, n => by
    rw [scanL_zero, scan_zero]
    constructor
    · intro h; cases h; exact ⟨rfl, by simp⟩
    · rintro ⟨h, _⟩; exact h
  | [], d + 1, n => by
    unfold scanL scanE
    constructor
    · intro h; cases h
    · rintro ⟨h, _⟩; cases h
  | w :: r, d + 1, n => by
    unfold scanL scanE
    by_cases hj : isJ (.str w) = true
    · rw [if_pos hj, if_pos hj]
      constructor
      · intro h
        obtain ⟨m, hm, rfl⟩ := Option.map_eq_some_iff.mp h
        obtain ⟨h1, h2⟩ := (scanL_iff r (d + 2) m).mp hm
        refine ⟨by rw [h1]; rfl, fun v hv => ?_⟩
        rw [List.take_succ_cons] at hv
        rcases List.mem_cons.mp hv with rfl | hv
        · exact .inl hj
        · exact h2 v hv
      · rintro ⟨h, h2⟩
        obtain ⟨m, hm, rfl⟩ := Option.map_eq_some_iff.mp h
        rw [(scanL_iff r (d + 2) m).mpr ⟨hm, fun v hv => h2 v (by rw [List.take_succ_cons]; exact List.mem_cons_of_mem _ hv)⟩]; rfl
    · rw [if_neg hj, if_neg hj]
      cases hp : partW w with
      | none =>
        constructor
        · intro h; cases h
        · rintro ⟨h, h2⟩
          obtain ⟨m, hm, rfl⟩ := Option.map_eq_some_iff.mp h
          rcases h2 w (by rw [List.take_succ_cons]; exact List.mem_cons_self) with z | z
          · exact absurd z hj
          · rw [hp] at z; cases z
      | some u =>
        constructor
        · intro h
          obtain ⟨m, hm, rfl⟩ := Option.map_eq_some_iff.mp h
          obtain ⟨h1, h2⟩ := (scanL_iff r d m).mp hm
          refine ⟨by rw [h1]; rfl, fun v hv => ?_⟩
          rw [List.take_succ_cons] at hv
          rcases List.mem_cons.mp hv with rfl | hv
          · exact .inr (by rw [hp]; rfl)
          · exact h2 v hv
        · rintro ⟨h, h2⟩
          obtain ⟨m, hm, rfl⟩ := Option.map_eq_some_iff.mp h
          show (scanL r d).map (· + 1) = _
          rw [(scanL_iff r d m).mpr ⟨hm, fun v hv => h2 v (by rw [List.take_succ_cons]; exact List.mem_cons_of_mem _ hv)⟩]; rfl
theorem scanE_take : ∀ (l : List Str) (d m n : Nat), scanE (l.take m) d = some n ↔ (scanE l d = some n ∧ n ≤ m)
  | l, 0, m, n => by
    rw [scan_zero, scan_zero]
    constructor
    · intro h; cases h; exact ⟨rfl, Nat.zero_le _⟩
    · exact fun h => h.1
  | [], d + 1, m, n => by
    rw [List.take_nil]
    unfold scanE
    constructor
    · intro h; cases h
    · rintro ⟨h, _⟩; cases h
  | w :: r, d + 1, 0, n => by
    rw [List.take_zero]
    constructor
    · intro h; unfold scanE at h; cases h
    · rintro ⟨h, hn⟩
      have := scan_pos h
      omega
  | w :: r, d + 1, m + 1, n => by
    rw [List.take_succ_cons]
    unfold scanE
    constructor
    · intro h
      obtain ⟨j, hj, rfl⟩ := Option.map_eq_some_iff.mp h
      obtain ⟨a, b⟩ := (scanE_take r _ m j).mp hj
      exact ⟨by rw [a]; rfl, Nat.succ_le_succ b⟩
    · rintro ⟨h, hn⟩
      obtain ⟨j, hj, rfl⟩ := Option.map_eq_some_iff.mp h
      rw [(scanE_take r _ m j).mpr ⟨hj, Nat.le_of_succ_le_succ hn⟩]; rfl
def endL (k : Nat) : Option Nat → V
  | some n => .int ((k + n : Nat) : Int)
  | none => .non
theorem scanL_parse (ws : List Str) (k : Nat) : endV (parse ws k) = endL k (scanL ((ws.drop k).take 60) 1) := by
  cases h : scanL ((ws.drop k).take 60) 1 with
  | some n =>
    obtain ⟨a, b⟩ := (scanL_iff _ _ _).mp h
    obtain ⟨a1, a2⟩ := (scanE_take _ _ _ _).mp a
    obtain ⟨T, hT, hpre, _, _⟩ := parse_tree a1
    have hok : okT T = true := (okT_iff hT).mpr fun w hw => b w (by rw [List.take_take, Nat.min_eq_left a2, hpre]; exact hw)
    rw [parse_some a1 a2 hT hpre, if_pos hok]
    rfl
  | none =>
    show endV (parse ws k) = .non
    cases hs : scanE (ws.drop k) 1 with
    | none =>
      have : parse ws k = none := by unfold parse; rw [hs]
      rw [this]; rfl
    | some n =>
      by_cases hn : n ≤ 60
      · obtain ⟨T, hT, hpre, _, _⟩ := parse_tree hs
        rw [parse_some hs hn hT hpre]
        by_cases hok : okT T = true
        · have := (scanL_iff ((ws.drop k).take 60) 1 n).mpr ⟨(scanE_take _ _ _ _).mpr ⟨hs, hn⟩, fun w hw => by
            rw [List.take_take, Nat.min_eq_left hn, hpre] at hw
            exact (okT_iff hT).mp hok w hw⟩
          rw [h] at this; cases this
        · rw [if_neg hok]; rfl
      · have : parse ws k = none := by unfold parse; rw [hs]; exact if_neg hn
        rw [this]; rfl
theorem scanL_step {l : List Str} {i d : Nat} {w : Str} {R : Option Nat} (h : R = (scanL (l.drop i) (d + 1)).map (· + i)) (hw : l[i]? = some w) :
    R = if isJ (.str w) = true then (scanL (l.drop (i + 1)) (d + 2)).map (· + (i + 1)) else match partW w with | none => none | some _ => (scanL (l.drop (i + 1)) d).map (· + (i + 1)) := by
  have hi := (List.getElem?_eq_some_iff.mp hw).1
  have hv := (List.getElem?_eq_some_iff.mp hw).2
  have mm : ∀ x : Option Nat, (x.map (· + 1)).map (· + i) = x.map (· + (i + 1)) := fun x => by
    rw [Option.map_map]
    exact congrArg (fun f => Option.map f x) (funext fun n => by show n + 1 + i = n + (i + 1); omega)
  rw [h, List.drop_eq_getElem_cons hi, hv]
  show (if isJ (.str w) = true then (scanL (l.drop (i + 1)) (d + 2)).map (· + 1) else match partW w with | none => none | some _ => (scanL (l.drop (i + 1)) d).map (· + 1)).map (· + i) = _
  by_cases hj : isJ (.str w) = true
  · rw [if_pos hj, if_pos hj, mm]
  · rw [if_neg hj, if_neg hj]
    cases partW w with
    | none => rfl
    | some u => exact mm _
def leI (a : Addr) (k : Nat) (l : List Str) (R : Option Nat) (H : Hp) (i : Nat) (σ : St) (H' : Hp) : Prop := ∃ d : Nat, (∃ o, σ = [some (.ref a), some (.int (k : Int)), some (.int ((d + 1 : Nat) : Int)), o]) ∧ R = (scanL (l.drop i) (d + 1)).map (· + i) ∧ Same H H'
theorem rdp__law_end {a : Addr} {ws : List Str} {k : Nat} (h1 : H a = some (.lst (ws.map V.str))) (h2 : ws.length ≤ 1000) (h3 : k ≤ 1000) (h4 : okWs ws) (q : ∀ H', Same H H' → Q (endV (parse ws k)) H') :
    rd__law_end K t { nx := fun _ H' => Q .non H', rt := Q } (L2.start ["words", "at", "lacking", "k"] [.ref a, .int k]) H := by
  simp only [rd__law_end, sp__law_part_of, L2.start, iRev, cLst, cMin, rRep, rEqL, rEqNil, cIntB, tDGet2, tDisp, tPairs, r_mt_append, r_mt_pop, rAppend, rPop, rIxT, rCatT, tTry, endT, tDropX, tRetX, tAsgX, tCallX, tRaise, tMsgR, tMsgS, cIsx, cIsxT, clsV, rMulS, r_mt_find, r_mt_join, tSeq, tAsg, gName, gTup, gCons, gNil, tRet, tRetN, tDrop, tNext, tNever, tOp, tUn, tVar, tC, tLst, tTup, tCons, tNil, tFor, tIfS, tAnd, tOr, tNot, tTest, tB, tAndV, tOrV, tNotV, tIf, tCB, tBM, tBM0, tyV, tSl, tPart, tNoPart, tAug, ipI, tChain, tCall, spP, tComp, tYes, capV, LenV, iRng1, iRng2, iStr, tDNewK, iList, iTup, rCat, rIxL, rIxT, rIxS, rEq, rNe, rI, rI0, rU, rIn, rSlS, rSlL, rAddS, rInS, rNotInS, rIsB, rIsNotB, rIsN, rNotN, cLen, cIsi, cAll, cAbs, cStr, cInt, r_mt_startswith, r_mt_upper, scal, List.map, List.replicate, List.length, List.append, List.cons_append, List.nil_append, List.append_nil, List.getElem?_cons_zero, List.getElem?_cons_succ, Option.some.injEq, exists_eq_left', exists_eq_left, V.int.injEq, V.ref.injEq, V.str.injEq, V.bl.injEq, V.ty.injEq, List.cons.injEq, and_true, true_and, and_assoc, exists_and_left, List.set_cons_zero, List.set_cons_succ, Nat.reduceSub, Nat.reduceAdd, decide_eq_true_eq, Bool.not_eq_true', decide_eq_false_iff_not, Int.reduceToNat, Int.reducePow, Int.reduceNeg, Int.reduceMul, Int.reduceAdd, if_true, ite_true, Bool.false_eq_true, ite_false, if_false]
  rw [scanL_parse] at q
  have hl : ((ws.drop k).take 60).length = min 60 (ws.length - k) := by rw [List.length_take, List.length_drop]
  have hw : ∀ i w, ((ws.drop k).take 60)[i]? = some w → ws[k + i]? = some w := fun i w h => by
    have hi := (List.getElem?_eq_some_iff.mp h).1
    rw [List.getElem?_take_of_lt (by omega), List.getElem?_drop] at h
    exact h
  generalize (ws.drop k).take 60 = l at *
  generalize hR : scanL l 1 = R at *
  refine ⟨ws.length, .inl ⟨_, SqL.of h1, by rw [List.length_map]⟩, ?_⟩
  have em : ((if (k : Int) + 60 < (ws.length : Int) then (k : Int) + 60 else (ws.length : Int)) - (k : Int)).toNat = l.length := by split <;> omega
  refine ⟨by omega, by omega, by split <;> omega, by split <;> omega, ?_⟩
  rw [em]
  refine loop_range (leI a k l R H) ⟨0, ⟨_, rfl⟩, by rw [← hR]; simp, Same.refl H⟩ ?_ ?_
  · rintro i σ H' hi ⟨d, ⟨o, rfl⟩, hs, S⟩
    obtain ⟨w, hlw⟩ : ∃ w, l[i]? = some w := ⟨_, List.getElem?_eq_getElem hi⟩
    have hww := hw i w hlw
    have hwV : (ws.map V.str)[k + i]? = some (V.str w) := by rw [List.getElem?_map, hww]; rfl
    have hat : atI (ws.map V.str) ((k : Int) + (i : Int)) = some (V.str w) := by
      have := at_nat hwV
      rwa [show ((k + i : Nat) : Int) = (k : Int) + (i : Int) by omega] at this
    have okw := h4 w (List.mem_of_getElem? hww)
    have st := scanL_step hs hlw
    simp only [L2.start, iRev, cLst, cMin, rRep, rEqL, rEqNil, cIntB, tDGet2, tDisp, tPairs, r_mt_append, r_mt_pop, rAppend, rPop, rIxT, rCatT, tTry, endT, tDropX, tRetX, tAsgX, tCallX, tRaise, tMsgR, tMsgS, cIsx, cIsxT, clsV, rMulS, r_mt_find, r_mt_join, tSeq, tAsg, gName, gTup, gCons, gNil, tRet, tRetN, tDrop, tNext, tNever, tOp, tUn, tVar, tC, tLst, tTup, tCons, tNil, tFor, tIfS, tAnd, tOr, tNot, tTest, tB, tAndV, tOrV, tNotV, tIf, tCB, tBM, tBM0, tyV, tSl, tPart, tNoPart, tAug, ipI, tChain, tCall, spP, tComp, tYes, capV, LenV, iRng1, iRng2, iStr, tDNewK, iList, iTup, rCat, rIxL, rIxT, rIxS, rEq, rNe, rI, rI0, rU, rIn, rSlS, rSlL, rAddS, rInS, rNotInS, rIsB, rIsNotB, rIsN, rNotN, cLen, cIsi, cAll, cAbs, cStr, cInt, r_mt_startswith, r_mt_upper, scal, List.map, List.replicate, List.length, List.append, List.cons_append, List.nil_append, List.append_nil, List.getElem?_cons_zero, List.getElem?_cons_succ, Option.some.injEq, exists_eq_left', exists_eq_left, V.int.injEq, V.ref.injEq, V.str.injEq, V.bl.injEq, V.ty.injEq, List.cons.injEq, and_true, true_and, and_assoc, exists_and_left, List.set_cons_zero, List.set_cons_succ, Nat.reduceSub, Nat.reduceAdd, decide_eq_true_eq, Bool.not_eq_true', decide_eq_false_iff_not, Int.reduceToNat, Int.reducePow, Int.reduceNeg, Int.reduceMul, Int.reduceAdd, if_true, ite_true, Bool.false_eq_true, ite_false, if_false]
    refine ⟨_, SqL.of (S _ _ h1), _, hat, by decide, fun p hp => ⟨_, .inr (SqT.of upd_same), rfl, rfl, ite2 (fun j => ?_) fun j => ?_⟩⟩
    · rw [if_pos (show isJ (.str w) = true from j)] at st
      rw [if_neg (by omega)]
      refine ⟨d + 1, ⟨some (.int ((k : Int) + (i : Int))), ?_⟩, st, S.trans (isV p hp)⟩
      rw [show (((d + 1 : Nat) : Int) + 1) = ((d + 1 + 1 : Nat) : Int) by omega]
    · rw [if_neg (show ¬ isJ (.str w) = true from j)] at st
      refine ⟨_, SqL.of (isV p hp _ _ (S _ _ h1)), _, hat, w, rfl, by omega, fun H2 s2 => ?_⟩
      have S2 := S.trans ((isV p hp).trans s2)
      cases hp2 : partW w with
      | none =>
        rw [hp2] at st
        rw [if_pos (show (none : Option V).getD V.non = V.non from rfl)]
        have st : R = none := st
        rw [st] at q
        exact q _ S2
      | some v =>
        rw [hp2] at st
        have st : R = (scanL (l.drop (i + 1)) d).map (· + (i + 1)) := st
        have vn : ¬ (some v).getD .non = V.non := by
          rcases (partW_flat hp2).2 with ⟨z, rfl⟩ | rfl <;> exact fun z => nomatch z
        rw [if_neg vn]
        refine ite2 (fun e => ?_) fun e => ?_
        · obtain rfl : d = 0 := by omega
          rw [scanL_zero] at st
          rw [st] at q
          have q := q _ S2
          have e2 : endL k (Option.map (· + (i + 1)) (some 0)) = .int ((k : Int) + (i : Int) + 1) := by
            show V.int ((k + (0 + (i + 1)) : Nat) : Int) = _
            rw [show ((k + (0 + (i + 1)) : Nat) : Int) = (k : Int) + (i : Int) + 1 by omega]
          rw [e2] at q
          exact q
        · obtain ⟨d, rfl⟩ : ∃ d0, d = d0 + 1 := ⟨d - 1, by omega⟩
          refine ⟨d, ⟨some (.int ((k : Int) + (i : Int))), ?_⟩, st, S2⟩
          rw [show (((d + 1 + 1 : Nat) : Int) - 1) = ((d + 1 : Nat) : Int) by omega]
  · rintro σ H' ⟨d, ⟨o, rfl⟩, hs, S⟩
    rw [List.drop_eq_nil_of_le (Nat.le_refl _)] at hs
    have hs : R = none := hs
    rw [hs] at q
    exact q _ S
def stepA (st : List (List V)) (v : V) : Option (List (List V)) := if isJ v = true then (match st.reverse with | b :: a :: r => some (r.reverse ++ [v :: (a ++ b)]) | _ => none) else some (st ++ [[v]])
def runA : List V → List (List V) → Option (List (List V))
  | [], st => some st
  | v :: r, st => (stepA st v).bind (runA r)
theorem runA_app : ∀ (p q : List V) (st : List (List V)), runA (p ++ q) st = (runA p st).bind (runA q)
  | [], q, st => rfl
  | v :: r, q, st => by
    show (stepA st v).bind (runA (r ++ q)) = ((stepA st v).bind (runA r)).bind (runA q)
    cases stepA st v with
    | none => rfl
    | some st' => exact runA_app r q st'
theorem pvw_notJ {w : Str} (h : isJ (.str w) = false) : isJ (pvw w) = false := by
  unfold pvw
  cases hp : partW w with
  | none => exact h
  | some v => exact (partW_flat hp).1
theorem pvw_j {w : Str} (h : isJ (.str w) = true) : pvw w = .str w := by
  unfold pvw
  rw [partW_j h]; rfl
theorem pvw_flat (w : Str) : (∃ i, pvw w = .int i) ∨ pvw w = .str w := by
  unfold pvw
  cases hp : partW w with
  | none => exact .inr rfl
  | some v => exact (partW_flat hp).2
theorem runA_tree : ∀ {T : Tw}, wfT T → ∀ st, runA (pst T) st = some (st ++ [(pre T).map pvw])
  | .leaf w, h, st => by
    show (stepA st (pvw w)).bind (runA []) = _
    unfold stepA
    rw [pvw_notJ h, if_neg (by decide)]
    rfl
  | .node w a b, h, st => by
    show runA (pst a ++ pst b ++ [.str w]) st = _
    rw [runA_app, runA_app, runA_tree h.2.1]
    show ((runA (pst b) (st ++ [(pre a).map pvw])).bind (runA [.str w])) = _
    rw [runA_tree h.2.2]
    show (stepA (st ++ [(pre a).map pvw] ++ [(pre b).map pvw]) (.str w)).bind (runA []) = _
    unfold stepA
    rw [if_pos h.1]
    simp [runA, pre, pvw_j h.1]
theorem runA_one {ps : List V} {i : Nat} {st : List (List V)} {v : V} (h : runA (ps.take i) [] = some st) (hv : ps[i]? = some v) : runA (ps.take (i + 1)) [] = stepA st v := by
  rw [List.take_add_one, hv]
  show runA (ps.take i ++ [v]) [] = _
  rw [runA_app, h]
  show (stepA st v).bind (runA []) = _
  cases stepA st v <;> rfl
theorem runA_none {ps : List V} {i : Nat} (h : runA (ps.take i) [] = none) : runA ps [] = none := by
  have := runA_app (ps.take i) (ps.drop i) []
  rw [List.take_append_drop, h] at this
  exact this
theorem pst_flat : ∀ (T : Tw), ∀ v ∈ pst T, (∃ i, v = .int i) ∨ ∃ x : Str, v = .str x ∧ x ∈ pre T
  | .leaf w, v, hv => by
    have : v = pvw w := by simpa [pst] using hv
    rw [this]
    rcases pvw_flat w with h | h
    · exact .inl h
    · exact .inr ⟨w, h, by simp [pre]⟩
  | .node w a b, v, hv => by
    have hv : v ∈ pst a ∨ v ∈ pst b ∨ v = .str w := by simpa [pst, or_assoc] using hv
    rcases hv with h | h | h
    · rcases pst_flat a v h with h | ⟨x, h, m⟩
      · exact .inl h
      · exact .inr ⟨x, h, by simp [pre, m]⟩
    · rcases pst_flat b v h with h | ⟨x, h, m⟩
      · exact .inl h
      · exact .inr ⟨x, h, by simp [pre, m]⟩
    · exact .inr ⟨w, h, by simp [pre]⟩
theorem stepA_two {l : List (List V)} {a b : List V} {v : V} (hv : isJ v = true) : stepA (l ++ [a, b]) v = some (l ++ [v :: (a ++ b)]) := by
  unfold stepA
  rw [if_pos hv]
  simp
theorem stepA_few {st : List (List V)} {v : V} (hv : isJ v = true) (h : st.length ≤ 1) : stepA st v = none := by
  unfold stepA
  rw [if_pos hv]
  match st, h with
  | [], _ => rfl
  | [a], _ => rfl
  | a :: b :: r, h => exact absurd h (by rw [List.length_cons, List.length_cons]; omega)
def ahI (tm : Addr) (ps : List V) (H : Hp) (i : Nat) (σ : St) (H' : Hp) : Prop := ∃ (L : List (Addr × List V)) (s : Addr), (∃ o, σ = [some (.ref tm), some (.ref s), o]) ∧ H' s = some (.lst (L.map fun n => V.ref n.1)) ∧ runA (ps.take i) [] = some (L.map Prod.snd) ∧ lensP L ≤ i ∧ L.length ≤ i ∧ (∀ n ∈ L, H' n.1 = some (.lst n.2) ∧ n.1 ≠ s) ∧ H s = none ∧ Same H H'
theorem ahLeaf {tm s p : Addr} {ps : List V} {L : List (Addr × List V)} {i : Nat} {v : V} {H H' : Hp} (hj : isJ v = false) (hv : ps[i]? = some v) (hs : H' s = some (.lst (L.map fun n => V.ref n.1))) (hr : runA (ps.take i) [] = some (L.map Prod.snd)) (hle : lensP L ≤ i) (hL : L.length ≤ i) (hN : ∀ n ∈ L, H' n.1 = some (.lst n.2) ∧ n.1 ≠ s) (h0 : H s = none) (S : Same H H') (hp : H' p = none) :
    ahI tm ps H (i + 1) [some (.ref tm), some (.ref s), some v] (upd (upd H' p (.lst [v])) s (.lst ((L.map fun n => V.ref n.1) ++ [.ref p]))) := by
  have one := runA_one hr hv
  have st : stepA (L.map Prod.snd) v = some (L.map Prod.snd ++ [[v]]) := by unfold stepA; rw [if_neg (by rw [hj]; decide)]
  have ps' : p ≠ s := (ne_of_none hs hp).symm
  refine ⟨L ++ [(p, [v])], s, ⟨_, rfl⟩, by rw [upd_same]; simp, by rw [one, st]; simp, ?_, by simp; omega, fun n hn => ?_, h0, same_upd (S.trans (isV p hp)) h0⟩
  · rw [lensP_app]
    have : lensP [(p, [v])] = 1 := by simp [lensP]
    omega
  · rcases List.mem_append.mp hn with h | h
    · obtain ⟨a, b⟩ := hN n h
      exact ⟨by rw [upd_ne b]; exact isV p hp _ _ a, b⟩
    · have : n = (p, [v]) := by simpa using h
      rw [this]
      exact ⟨by rw [upd_ne ps']; exact upd_same, ps'⟩
theorem rdp_ah2 {tm s : Addr} {o : Option V} {n : Addr} {l : List V} (hs : H s = some (.lst [V.ref n])) (hn : H n = some (.lst l)) (q : ∀ p H', Same H H' → H' p = some (.lst l) → Q (.ref p) H') :
    rd__law_ahead_2 K t { nx := fun _ H' => Q .non H', rt := Q } [some (.ref tm), some (.ref s), o] H := by
  simp only [rd__law_ahead_2, L2.start, iRev, cLst, cMin, rRep, rEqL, rEqNil, cIntB, tDGet2, tDisp, tPairs, r_mt_append, r_mt_pop, rAppend, rPop, rIxT, rCatT, tTry, endT, tDropX, tRetX, tAsgX, tCallX, tRaise, tMsgR, tMsgS, cIsx, cIsxT, clsV, rMulS, r_mt_find, r_mt_join, tSeq, tAsg, gName, gTup, gCons, gNil, tRet, tRetN, tDrop, tNext, tNever, tOp, tUn, tVar, tC, tLst, tTup, tCons, tNil, tFor, tIfS, tAnd, tOr, tNot, tTest, tB, tAndV, tOrV, tNotV, tIf, tCB, tBM, tBM0, tyV, tSl, tPart, tNoPart, tAug, ipI, tChain, tCall, spP, tComp, tYes, capV, LenV, iRng1, iRng2, iStr, tDNewK, iList, iTup, rCat, rIxL, rIxT, rIxS, rEq, rNe, rI, rI0, rU, rIn, rSlS, rSlL, rAddS, rInS, rNotInS, rIsB, rIsNotB, rIsN, rNotN, cLen, cIsi, cAll, cAbs, cStr, cInt, r_mt_startswith, r_mt_upper, scal, List.map, List.replicate, List.length, List.append, List.cons_append, List.nil_append, List.append_nil, List.getElem?_cons_zero, List.getElem?_cons_succ, Option.some.injEq, exists_eq_left', exists_eq_left, V.int.injEq, V.ref.injEq, V.str.injEq, V.bl.injEq, V.ty.injEq, List.cons.injEq, and_true, true_and, and_assoc, exists_and_left, List.set_cons_zero, List.set_cons_succ, Nat.reduceSub, Nat.reduceAdd, decide_eq_true_eq, Bool.not_eq_true', decide_eq_false_iff_not, Int.reduceToNat, Int.reducePow, Int.reduceNeg, Int.reduceMul, Int.reduceAdd, if_true, ite_true, Bool.false_eq_true, ite_false, if_false]
  refine ⟨1, .inl ⟨_, SqL.of hs, rfl⟩, ?_⟩
  rw [if_neg (by simp)]
  exact ⟨_, SqL.of hs, _, rfl, q _ _ (Same.refl H) hn⟩
theorem rdp__law_ahead {tm : Addr} {T0 : Tw} (F : KF K) (h1 : H tm = some (.tup (pst T0))) (h2 : wfT T0) (h3 : okT T0 = true) (h4 : (pre T0).length ≤ 100) (q : ∀ p H', Same H H' → H' p = some (.lst ((pre T0).map pvw)) → Q (.ref p) H') :
    rd__law_ahead K t { nx := fun _ H' => Q .non H', rt := Q } (L2.start ["term", "some", "part"] [.ref tm]) H := by
  simp only [rd__law_ahead, L2.start, iRev, cLst, cMin, rRep, rEqL, rEqNil, cIntB, tDGet2, tDisp, tPairs, r_mt_append, r_mt_pop, rAppend, rPop, rIxT, rCatT, tTry, endT, tDropX, tRetX, tAsgX, tCallX, tRaise, tMsgR, tMsgS, cIsx, cIsxT, clsV, rMulS, r_mt_find, r_mt_join, tSeq, tAsg, gName, gTup, gCons, gNil, tRet, tRetN, tDrop, tNext, tNever, tOp, tUn, tVar, tC, tLst, tTup, tCons, tNil, tFor, tIfS, tAnd, tOr, tNot, tTest, tB, tAndV, tOrV, tNotV, tIf, tCB, tBM, tBM0, tyV, tSl, tPart, tNoPart, tAug, ipI, tChain, tCall, spP, tComp, tYes, capV, LenV, iRng1, iRng2, iStr, tDNewK, iList, iTup, rCat, rIxL, rIxT, rIxS, rEq, rNe, rI, rI0, rU, rIn, rSlS, rSlL, rAddS, rInS, rNotInS, rIsB, rIsNotB, rIsN, rNotN, cLen, cIsi, cAll, cAbs, cStr, cInt, r_mt_startswith, r_mt_upper, scal, List.map, List.replicate, List.length, List.append, List.cons_append, List.nil_append, List.append_nil, List.getElem?_cons_zero, List.getElem?_cons_succ, Option.some.injEq, exists_eq_left', exists_eq_left, V.int.injEq, V.ref.injEq, V.str.injEq, V.bl.injEq, V.ty.injEq, List.cons.injEq, and_true, true_and, and_assoc, exists_and_left, List.set_cons_zero, List.set_cons_succ, Nat.reduceSub, Nat.reduceAdd, decide_eq_true_eq, Bool.not_eq_true', decide_eq_false_iff_not, Int.reduceToNat, Int.reducePow, Int.reduceNeg, Int.reduceMul, Int.reduceAdd, if_true, ite_true, Bool.false_eq_true, ite_false, if_false]
  have hrun := runA_tree h2 []
  have hlen := pst_len T0
  have hfl := pst_flat T0
  generalize pst T0 = ps at *
  refine ⟨by decide, fun s0 hs0 => ⟨⟨_, SqT.of (isV s0 hs0 _ _ h1)⟩, ?_⟩⟩
  refine loop_tup ps (ahI tm ps H) ⟨[], s0, ⟨_, rfl⟩, upd_same, rfl, Nat.le_refl _, Nat.le_refl _, (fun n z => nomatch z), hs0, isV s0 hs0⟩ (fun i σ H' ⟨_, _, _, _, _, _, _, _, _, z⟩ => SqT.of (z _ _ h1)) ?_ ?_
  · rintro i v σ H' hv ⟨L, s, ⟨o, rfl⟩, hs, hr, hle, hL, hN, hs0, S⟩
    have hi : i < ps.length := (List.getElem?_eq_some_iff.mp hv).1
    have one := runA_one hr hv
    simp only [L2.start, iRev, cLst, cMin, rRep, rEqL, rEqNil, cIntB, tDGet2, tDisp, tPairs, r_mt_append, r_mt_pop, rAppend, rPop, rIxT, rCatT, tTry, endT, tDropX, tRetX, tAsgX, tCallX, tRaise, tMsgR, tMsgS, cIsx, cIsxT, clsV, rMulS, r_mt_find, r_mt_join, tSeq, tAsg, gName, gTup, gCons, gNil, tRet, tRetN, tDrop, tNext, tNever, tOp, tUn, tVar, tC, tLst, tTup, tCons, tNil, tFor, tIfS, tAnd, tOr, tNot, tTest, tB, tAndV, tOrV, tNotV, tIf, tCB, tBM, tBM0, tyV, tSl, tPart, tNoPart, tAug, ipI, tChain, tCall, spP, tComp, tYes, capV, LenV, iRng1, iRng2, iStr, tDNewK, iList, iTup, rCat, rIxL, rIxT, rIxS, rEq, rNe, rI, rI0, rU, rIn, rSlS, rSlL, rAddS, rInS, rNotInS, rIsB, rIsNotB, rIsN, rNotN, cLen, cIsi, cAll, cAbs, cStr, cInt, r_mt_startswith, r_mt_upper, scal, List.map, List.replicate, List.length, List.append, List.cons_append, List.nil_append, List.append_nil, List.getElem?_cons_zero, List.getElem?_cons_succ, Option.some.injEq, exists_eq_left', exists_eq_left, V.int.injEq, V.ref.injEq, V.str.injEq, V.bl.injEq, V.ty.injEq, List.cons.injEq, and_true, true_and, and_assoc, exists_and_left, List.set_cons_zero, List.set_cons_succ, Nat.reduceSub, Nat.reduceAdd, decide_eq_true_eq, Bool.not_eq_true', decide_eq_false_iff_not, Int.reduceToNat, Int.reducePow, Int.reduceNeg, Int.reduceMul, Int.reduceAdd, if_true, ite_true, Bool.false_eq_true, ite_false, if_false]
    have sz : (L.map fun n => V.ref n.1).length < sizeLine := by
      rw [List.length_map]
      exact Nat.lt_of_le_of_lt (by omega : L.length ≤ 1000) (by decide)
    rcases hfl v (List.mem_of_getElem? hv) with ⟨z, rfl⟩ | ⟨x, rfl, _⟩
    · refine ⟨_, .int z, false, F.i_b, ?_⟩
      rw [if_neg (by decide)]
      refine ⟨_, .int z, true, kit_same _, ?_⟩
      rw [if_neg (by decide)]
      refine ⟨by decide, fun p0 hp0 => ⟨_, .inr (SqT.of upd_same), rfl, rfl, ?_⟩⟩
      rw [if_neg (by rw [show inV (V.int z) _ = false from rfl]; decide)]
      have s1 := isV (o := HO.tup jw) p0 hp0
      exact ⟨.inl ⟨_, SqL.of (s1 _ _ hs)⟩, by decide, fun p hp => ⟨_, isV p hp _ _ (s1 _ _ hs), sz, ahLeaf rfl hv (s1 _ _ hs) hr hle hL (fun n hn => ⟨s1 _ _ (hN n hn).1, (hN n hn).2⟩) hs0 (S.trans s1) hp⟩⟩
    · refine ⟨_, .str x, false, F.s_b, ?_⟩
      rw [if_neg (by decide)]
      refine ⟨_, .str x, false, F.s_i, ?_⟩
      rw [if_pos rfl]
      refine ⟨_, .str x, true, kit_same _, ?_⟩
      rw [if_neg (by decide)]
      refine ⟨by decide, fun p0 hp0 => ⟨_, .inr (SqT.of upd_same), rfl, rfl, ite2 (fun c => ?_) fun c => ?_⟩⟩
      · have hj : isJ (.str x) = true := c
        obtain ⟨H1, eH, s1, q1⟩ := new_obj (o := HO.tup jw) hp0
        rw [show [V.str (Str.ofString "plus"), V.str (Str.ofString "minus"), V.str (Str.ofString "times"), V.str (Str.ofString "over"), V.str (Str.ofString "rest"), V.str (Str.ofString "under"), V.str (Str.ofString "same")] = jw from rfl, ← eH]
        clear eH
        rcases Nat.lt_or_ge 1 L.length with h2l | h2l
        · obtain ⟨L0, na, nb, rfl⟩ := two_last h2l
          have e1 : (L0 ++ [na, nb]).map (fun n => V.ref n.1) = L0.map (fun n => V.ref n.1) ++ [.ref na.1, .ref nb.1] := by simp
          have e2 : (L0 ++ [na, nb]).map Prod.snd = L0.map Prod.snd ++ [na.2, nb.2] := by simp
          have nA := hN na (by simp)
          have nB := hN nb (by simp)
          rw [e2] at one
          have one := one.trans (stepA_two hj)
          rw [e1] at hs
          have l3 : L0.length + 2 = (L0 ++ [na, nb]).length := by simp
          have lp : lensP (L0 ++ [na, nb]) = lensP L0 + (na.2.length + nb.2.length) := by rw [lensP_app]; simp [lensP]
          have hs1 := s1 _ _ hs
          refine ⟨L0.length + 2, .inl ⟨_, SqL.of hs1, by simp⟩, ?_⟩
          rw [if_neg (by omega)]
          refine ⟨_, SqL.of hs1, fun p1 hp1 => ⟨by decide, ?_⟩⟩
          rw [cut_m2]
          obtain ⟨H2, eH, s2, q2⟩ := new_obj (o := HO.lst (L0.map (fun n => V.ref n.1))) hp1
          rw [← eH]
          clear eH
          intro p2 hp2
          obtain ⟨H3, eH, s3, q3⟩ := new_obj (o := HO.lst [V.str x]) hp2
          rw [← eH]
          clear eH
          have S13 := s2.trans s3
          refine ⟨_, SqL.of (S13 _ _ hs1), _, at_m2, na.1, rfl, _, q3, _, S13 _ _ (s1 _ _ nA.1), small_size (by show 1 + _ ≤ _; omega), fun p3 hp3 => ?_⟩
          obtain ⟨H4, eH, s4, q4⟩ := new_obj (o := HO.lst ([V.str x] ++ na.2)) hp3
          rw [← eH]
          clear eH
          have S14 := S13.trans s4
          refine ⟨_, SqL.of (S14 _ _ hs1), _, at_m1, nb.1, rfl, _, q4, _, S14 _ _ (s1 _ _ nB.1), small_size (by rw [List.length_append]; show 1 + _ + _ ≤ _; omega), fun p4 hp4 => ⟨by decide, ?_⟩⟩
          obtain ⟨H5, eH, s5, q5⟩ := new_obj (o := HO.lst ([V.str x] ++ na.2 ++ nb.2)) hp4
          rw [← eH]
          clear eH
          intro p5 hp5
          obtain ⟨H6, eH, s6, q6⟩ := new_obj (o := HO.lst [V.ref p4]) hp5
          rw [← eH]
          clear eH
          have S26 := s3.trans (s4.trans (s5.trans s6))
          refine ⟨_, S26 _ _ q2, _, q6, small_size (by rw [List.length_map]; show _ + 1 ≤ _; omega), fun p6 hp6 => ?_⟩
          have S6 : Same H' H6 := s1.trans (s2.trans S26)
          have h45 := s6 _ _ q5
          refine ⟨L0 ++ [(p4, [V.str x] ++ na.2 ++ nb.2)], p6, ⟨_, rfl⟩, by rw [upd_same]; simp, by rw [one]; simp, ?_, by simp; omega, fun m hm => ?_, (S.trans S6).free hp6, S.trans (S6.trans (isV p6 hp6))⟩
          · rw [lensP_app]
            have : lensP [(p4, [V.str x] ++ na.2 ++ nb.2)] = 1 + na.2.length + nb.2.length := by simp [lensP]; omega
            omega
          · rcases List.mem_append.mp hm with h | h
            · have hm' := S6 _ _ (hN m (List.mem_append_left _ h)).1
              exact ⟨isV p6 hp6 _ _ hm', ne_of_none hm' hp6⟩
            · have : m = (p4, [V.str x] ++ na.2 ++ nb.2) := by simpa using h
              rw [this]
              exact ⟨isV p6 hp6 _ _ h45, ne_of_none h45 hp6⟩
        · have := runA_none (one.trans (stepA_few hj (by rw [List.length_map]; exact h2l)))
          rw [hrun] at this; cases this
      · have s1 := isV (o := HO.tup jw) p0 hp0
        exact ⟨.inl ⟨_, SqL.of (s1 _ _ hs)⟩, by decide, fun p hp => ⟨_, isV p hp _ _ (s1 _ _ hs), sz, ahLeaf (Bool.eq_false_iff.mpr c) hv (s1 _ _ hs) hr hle hL (fun n hn => ⟨s1 _ _ (hN n hn).1, (hN n hn).2⟩) hs0 (S.trans s1) hp⟩⟩
  · rintro σ H' ⟨L, s, ⟨o, rfl⟩, hs, hr, hle, hL, hN, hs0, S⟩
    rw [List.take_length, hrun] at hr
    have e : L.map Prod.snd = [(pre T0).map pvw] := by injection hr with hr; exact hr.symm
    obtain ⟨n1, rfl⟩ : ∃ n1, L = [n1] := List.length_eq_one_iff.mp (by have := congrArg List.length e; simpa using this)
    have e1 : n1.2 = (pre T0).map pvw := by simpa using e
    have nA := (hN n1 (by simp)).1
    rw [e1] at nA
    exact rdp_ah2 hs nA fun p H2 s2 hp => q p H2 (S.trans s2) hp
def reI (a p d : Addr) (k e : Nat) (fp : Addr) (seg : List Str) (H : Hp) (i : Nat) (σ : St) (H' : Hp) : Prop := (∃ o5 o6, σ = [some (.ref a), some (.int (k : Int)), some (.int (e : Int)), some (.ref fp), some (.ref d), o5, o6]) ∧ H' d = some (.lst ((seg.take i).map pvw)) ∧ H' p = some (.lst (seg.map V.str)) ∧ Same H H'
theorem rdp_re3 {a fp r : Addr} {ws : List Str} {k n : Nat} {T0 : Tw} (h1 : H a = some (.lst (ws.map V.str))) (h2 : ws.length ≤ 1000) (h3 : okWs ws) (hn : n ≤ 60) (hkn : k + n ≤ ws.length) (hT : wfT T0) (hok : okT T0 = true) (hpre : (ws.drop k).take n = pre T0)
    (hfp : H fp = some (.tup [.ref r, .int ((k + n : Nat) : Int)])) (hr : H r = some (.tup (pst T0))) (q : ∀ H', Same H H' → Q (.bl true) H') :
    rd__law_read_3 K t { nx := fun _ H' => Q .non H', rt := Q } [some (.ref a), some (.int (k : Int)), some (.int ((k + n : Nat) : Int)), some (.ref fp), none, none, none] H := by
  simp only [rd__law_read_3, sp__law_part_of, sp__law_ahead, L2.start, iRev, cLst, cMin, rRep, rEqL, rEqNil, cIntB, tDGet2, tDisp, tPairs, r_mt_append, r_mt_pop, rAppend, rPop, rIxT, rCatT, tTry, endT, tDropX, tRetX, tAsgX, tCallX, tRaise, tMsgR, tMsgS, cIsx, cIsxT, clsV, rMulS, r_mt_find, r_mt_join, tSeq, tAsg, gName, gTup, gCons, gNil, tRet, tRetN, tDrop, tNext, tNever, tOp, tUn, tVar, tC, tLst, tTup, tCons, tNil, tFor, tIfS, tAnd, tOr, tNot, tTest, tB, tAndV, tOrV, tNotV, tIf, tCB, tBM, tBM0, tyV, tSl, tPart, tNoPart, tAug, ipI, tChain, tCall, spP, tComp, tYes, capV, LenV, iRng1, iRng2, iStr, tDNewK, iList, iTup, rCat, rIxL, rIxT, rIxS, rEq, rNe, rI, rI0, rU, rIn, rSlS, rSlL, rAddS, rInS, rNotInS, rIsB, rIsNotB, rIsN, rNotN, cLen, cIsi, cAll, cAbs, cStr, cInt, r_mt_startswith, r_mt_upper, scal, List.map, List.replicate, List.length, List.append, List.cons_append, List.nil_append, List.append_nil, List.getElem?_cons_zero, List.getElem?_cons_succ, Option.some.injEq, exists_eq_left', exists_eq_left, V.int.injEq, V.ref.injEq, V.str.injEq, V.bl.injEq, V.ty.injEq, List.cons.injEq, and_true, true_and, and_assoc, exists_and_left, List.set_cons_zero, List.set_cons_succ, Nat.reduceSub, Nat.reduceAdd, decide_eq_true_eq, Bool.not_eq_true', decide_eq_false_iff_not, Int.reduceToNat, Int.reducePow, Int.reduceNeg, Int.reduceMul, Int.reduceAdd, if_true, ite_true, Bool.false_eq_true, ite_false, if_false]
  have hseg : ∀ x ∈ (ws.drop k).take n, x.length ≤ 100 ∧ Asc x := fun x hx => h3 x (List.mem_of_mem_drop (List.mem_of_mem_take hx))
  have hsl : ((ws.drop k).take n).length = n := by rw [List.length_take, List.length_drop]; omega
  have hcut : cutV (ws.map V.str) (some (k : Int)) (some ((k + n : Nat) : Int)) = ((ws.drop k).take n).map V.str := by
    rw [cut_mid (by rw [List.length_map]; exact hkn), List.map_take, List.map_drop]
  generalize (ws.drop k).take n = seg at *
  refine ⟨by decide, fun d hd => ⟨_, SqL.of (isV d hd _ _ h1), fun p hp => ?_⟩⟩
  rw [hcut]
  have hpd : d ≠ p := ne_of_none upd_same hp
  refine ⟨⟨_, SqL.of upd_same⟩, loop_list (seg.map V.str) (reI a p d k (k + n) fp seg H) ⟨⟨_, _, rfl⟩, by rw [upd_ne hpd]; exact upd_same, upd_same, (isV d hd).trans (isV p hp)⟩ (fun i σ H' ⟨_, _, z, _⟩ => SqL.of z) ?_ ?_⟩
  · rintro i v σ H' hv ⟨⟨o5, o6, rfl⟩, hdd, hpp, S⟩
    rw [List.getElem?_map] at hv
    obtain ⟨x, hx, rfl⟩ := Option.map_eq_some_iff.mp hv
    have okx := hseg x (List.mem_of_getElem? hx)
    have hi := (List.getElem?_eq_some_iff.mp hx).1
    have tk : (seg.take (i + 1)).map pvw = (seg.take i).map pvw ++ [pvw x] := by rw [List.take_add_one, hx]; simp
    simp only [L2.start, iRev, cLst, cMin, rRep, rEqL, rEqNil, cIntB, tDGet2, tDisp, tPairs, r_mt_append, r_mt_pop, rAppend, rPop, rIxT, rCatT, tTry, endT, tDropX, tRetX, tAsgX, tCallX, tRaise, tMsgR, tMsgS, cIsx, cIsxT, clsV, rMulS, r_mt_find, r_mt_join, tSeq, tAsg, gName, gTup, gCons, gNil, tRet, tRetN, tDrop, tNext, tNever, tOp, tUn, tVar, tC, tLst, tTup, tCons, tNil, tFor, tIfS, tAnd, tOr, tNot, tTest, tB, tAndV, tOrV, tNotV, tIf, tCB, tBM, tBM0, tyV, tSl, tPart, tNoPart, tAug, ipI, tChain, tCall, spP, tComp, tYes, capV, LenV, iRng1, iRng2, iStr, tDNewK, iList, iTup, rCat, rIxL, rIxT, rIxS, rEq, rNe, rI, rI0, rU, rIn, rSlS, rSlL, rAddS, rInS, rNotInS, rIsB, rIsNotB, rIsN, rNotN, cLen, cIsi, cAll, cAbs, cStr, cInt, r_mt_startswith, r_mt_upper, scal, List.map, List.replicate, List.length, List.append, List.cons_append, List.nil_append, List.append_nil, List.getElem?_cons_zero, List.getElem?_cons_succ, Option.some.injEq, exists_eq_left', exists_eq_left, V.int.injEq, V.ref.injEq, V.str.injEq, V.bl.injEq, V.ty.injEq, List.cons.injEq, and_true, true_and, and_assoc, exists_and_left, List.set_cons_zero, List.set_cons_succ, Nat.reduceSub, Nat.reduceAdd, decide_eq_true_eq, Bool.not_eq_true', decide_eq_false_iff_not, Int.reduceToNat, Int.reducePow, Int.reduceNeg, Int.reduceMul, Int.reduceAdd, if_true, ite_true, Bool.false_eq_true, ite_false, if_false]
    refine ⟨by omega, fun H2 s2 => ⟨.inl ⟨_, SqL.of (s2 _ _ hdd)⟩, ?_⟩⟩
    have sz : ((seg.take i).map pvw).length < sizeLine := by
      rw [List.length_map, List.length_take]
      exact Nat.lt_of_le_of_lt (by omega : min i seg.length ≤ 1000) (by decide)
    have S2 := S.trans s2
    have fin1 : ∀ u, u = pvw x → ∀ o6, reI a p d k (k + n) fp seg H (i + 1) [some (.ref a), some (.int (k : Int)), some (.int ((k + n : Nat) : Int)), some (.ref fp), some (.ref d), some (.str x), o6] (upd H2 d (.lst ((seg.take i).map pvw ++ [u]))) := fun u hu o6 => by
      rw [hu]
      exact ⟨⟨_, _, rfl⟩, by rw [tk]; exact upd_same, by rw [upd_ne hpd.symm]; exact s2 _ _ hpp, same_upd S2 hd⟩
    cases hp2 : partW x with
    | none =>
      rw [if_pos (show (none : Option V).getD V.non = V.non from rfl)]
      exact ⟨_, s2 _ _ hdd, sz, fin1 _ (by unfold pvw; rw [hp2]; rfl) _⟩
    | some v =>
      have vn : ¬ (some v).getD .non = V.non := by
        rcases (partW_flat hp2).2 with ⟨z, rfl⟩ | rfl <;> exact fun z => nomatch z
      rw [if_neg vn]
      exact ⟨_, s2 _ _ hdd, sz, fin1 _ (by unfold pvw; rw [hp2]; rfl) _⟩
  · rintro σ H' ⟨⟨o5, o6, rfl⟩, hdd, hpp, S⟩
    rw [List.length_map, List.take_length] at hdd
    simp only [L2.start, iRev, cLst, cMin, rRep, rEqL, rEqNil, cIntB, tDGet2, tDisp, tPairs, r_mt_append, r_mt_pop, rAppend, rPop, rIxT, rCatT, tTry, endT, tDropX, tRetX, tAsgX, tCallX, tRaise, tMsgR, tMsgS, cIsx, cIsxT, clsV, rMulS, r_mt_find, r_mt_join, tSeq, tAsg, gName, gTup, gCons, gNil, tRet, tRetN, tDrop, tNext, tNever, tOp, tUn, tVar, tC, tLst, tTup, tCons, tNil, tFor, tIfS, tAnd, tOr, tNot, tTest, tB, tAndV, tOrV, tNotV, tIf, tCB, tBM, tBM0, tyV, tSl, tPart, tNoPart, tAug, ipI, tChain, tCall, spP, tComp, tYes, capV, LenV, iRng1, iRng2, iStr, tDNewK, iList, iTup, rCat, rIxL, rIxT, rIxS, rEq, rNe, rI, rI0, rU, rIn, rSlS, rSlL, rAddS, rInS, rNotInS, rIsB, rIsNotB, rIsN, rNotN, cLen, cIsi, cAll, cAbs, cStr, cInt, r_mt_startswith, r_mt_upper, scal, List.map, List.replicate, List.length, List.append, List.cons_append, List.nil_append, List.append_nil, List.getElem?_cons_zero, List.getElem?_cons_succ, Option.some.injEq, exists_eq_left', exists_eq_left, V.int.injEq, V.ref.injEq, V.str.injEq, V.bl.injEq, V.ty.injEq, List.cons.injEq, and_true, true_and, and_assoc, exists_and_left, List.set_cons_zero, List.set_cons_succ, Nat.reduceSub, Nat.reduceAdd, decide_eq_true_eq, Bool.not_eq_true', decide_eq_false_iff_not, Int.reduceToNat, Int.reducePow, Int.reduceNeg, Int.reduceMul, Int.reduceAdd, if_true, ite_true, Bool.false_eq_true, ite_false, if_false]
    refine ⟨_, SqT.of (S _ _ hfp), _, rfl, r, rfl, T0, S _ _ hr, hT, hok, by rw [← hpre]; omega, fun p1 H2 s2 hp1 => ?_⟩
    rw [← hpre] at hp1
    have fl : (seg.map pvw).all isFlat = true := by
      rw [List.all_eq_true]
      intro v hv
      obtain ⟨x, hx, rfl⟩ := List.mem_map.mp hv
      rcases pvw_flat x with ⟨i, e⟩ | e
      · rw [e]; rfl
      · rw [e]; exact (hseg x hx).2.flat
    have mx : ∀ l : List V, mixAll l l = true := by
      intro l
      induction l with
      | nil => rfl
      | cons a r ih =>
        unfold mixAll
        rw [ih]
        cases a <;> rfl
    refine ⟨_, SqL.of hp1, _, SqL.of (s2 _ _ hdd), fl, fl, mx _, ?_⟩
    rw [decide_eq_true rfl]
    exact q _ (S.trans s2)
theorem rdp_re2 {a fp r : Addr} {ws : List Str} {k n : Nat} {T0 : Tw} (F : KF K) (h1 : H a = some (.lst (ws.map V.str))) (h2 : ws.length ≤ 1000) (h3 : okWs ws) (hn : n ≤ 60) (hkn : k + n ≤ ws.length) (hT : wfT T0) (hok : okT T0 = true) (hpre : (ws.drop k).take n = pre T0)
    (hfp : H fp = some (.tup [.ref r, .int ((k + n : Nat) : Int)])) (hr : H r = some (.tup (pst T0))) (q : ∀ H', Same H H' → Q (.bl true) H') :
    rd__law_read_2 K t { nx := fun _ H' => Q .non H', rt := Q } [some (.ref a), some (.int (k : Int)), some (.int ((k + n : Nat) : Int)), some (.ref fp), none, none, none] H := by
  simp only [rd__law_read_2, L2.start, iRev, cLst, cMin, rRep, rEqL, rEqNil, cIntB, tDGet2, tDisp, tPairs, r_mt_append, r_mt_pop, rAppend, rPop, rIxT, rCatT, tTry, endT, tDropX, tRetX, tAsgX, tCallX, tRaise, tMsgR, tMsgS, cIsx, cIsxT, clsV, rMulS, r_mt_find, r_mt_join, tSeq, tAsg, gName, gTup, gCons, gNil, tRet, tRetN, tDrop, tNext, tNever, tOp, tUn, tVar, tC, tLst, tTup, tCons, tNil, tFor, tIfS, tAnd, tOr, tNot, tTest, tB, tAndV, tOrV, tNotV, tIf, tCB, tBM, tBM0, tyV, tSl, tPart, tNoPart, tAug, ipI, tChain, tCall, spP, tComp, tYes, capV, LenV, iRng1, iRng2, iStr, tDNewK, iList, iTup, rCat, rIxL, rIxT, rIxS, rEq, rNe, rI, rI0, rU, rIn, rSlS, rSlL, rAddS, rInS, rNotInS, rIsB, rIsNotB, rIsN, rNotN, cLen, cIsi, cAll, cAbs, cStr, cInt, r_mt_startswith, r_mt_upper, scal, List.map, List.replicate, List.length, List.append, List.cons_append, List.nil_append, List.append_nil, List.getElem?_cons_zero, List.getElem?_cons_succ, Option.some.injEq, exists_eq_left', exists_eq_left, V.int.injEq, V.ref.injEq, V.str.injEq, V.bl.injEq, V.ty.injEq, List.cons.injEq, and_true, true_and, and_assoc, exists_and_left, List.set_cons_zero, List.set_cons_succ, Nat.reduceSub, Nat.reduceAdd, decide_eq_true_eq, Bool.not_eq_true', decide_eq_false_iff_not, Int.reduceToNat, Int.reducePow, Int.reduceNeg, Int.reduceMul, Int.reduceAdd, if_true, ite_true, Bool.false_eq_true, ite_false, if_false]
  refine ⟨_, SqT.of hfp, _, rfl, _, .int _, true, kit_same _, ?_⟩
  rw [if_neg (by decide)]
  refine ⟨_, SqT.of hfp, _, rfl, _, .int _, false, F.i_b, ?_⟩
  rw [if_neg (by decide)]
  refine ⟨_, SqT.of hfp, _, rfl, rfl, ?_⟩
  rw [if_neg (by simp)]
  exact rdp_re3 h1 h2 h3 hn hkn hT hok hpre hfp hr q
theorem rdp__law_read {a : Addr} {ws : List Str} {k e : Nat} {ps : List V} (F : KF K) (h1 : H a = some (.lst (ws.map V.str))) (h2 : ws.length ≤ 1000) (h3 : okWs ws) (h4 : parse ws k = some (ps, e)) (q : ∀ H', Same H H' → Q (.bl true) H') :
    rd__law_read K t { nx := fun _ H' => Q .non H', rt := Q } (L2.start ["words", "at", "end", "found", "due", "word", "part"] [.ref a, .int k, .int e]) H := by
  simp only [rd__law_read, sp_term_from, L2.start, iRev, cLst, cMin, rRep, rEqL, rEqNil, cIntB, tDGet2, tDisp, tPairs, r_mt_append, r_mt_pop, rAppend, rPop, rIxT, rCatT, tTry, endT, tDropX, tRetX, tAsgX, tCallX, tRaise, tMsgR, tMsgS, cIsx, cIsxT, clsV, rMulS, r_mt_find, r_mt_join, tSeq, tAsg, gName, gTup, gCons, gNil, tRet, tRetN, tDrop, tNext, tNever, tOp, tUn, tVar, tC, tLst, tTup, tCons, tNil, tFor, tIfS, tAnd, tOr, tNot, tTest, tB, tAndV, tOrV, tNotV, tIf, tCB, tBM, tBM0, tyV, tSl, tPart, tNoPart, tAug, ipI, tChain, tCall, spP, tComp, tYes, capV, LenV, iRng1, iRng2, iStr, tDNewK, iList, iTup, rCat, rIxL, rIxT, rIxS, rEq, rNe, rI, rI0, rU, rIn, rSlS, rSlL, rAddS, rInS, rNotInS, rIsB, rIsNotB, rIsN, rNotN, cLen, cIsi, cAll, cAbs, cStr, cInt, r_mt_startswith, r_mt_upper, scal, List.map, List.replicate, List.length, List.append, List.cons_append, List.nil_append, List.append_nil, List.getElem?_cons_zero, List.getElem?_cons_succ, Option.some.injEq, exists_eq_left', exists_eq_left, V.int.injEq, V.ref.injEq, V.str.injEq, V.bl.injEq, V.ty.injEq, List.cons.injEq, and_true, true_and, and_assoc, exists_and_left, List.set_cons_zero, List.set_cons_succ, Nat.reduceSub, Nat.reduceAdd, decide_eq_true_eq, Bool.not_eq_true', decide_eq_false_iff_not, Int.reduceToNat, Int.reducePow, Int.reduceNeg, Int.reduceMul, Int.reduceAdd, if_true, ite_true, Bool.false_eq_true, ite_false, if_false]
  refine ⟨ws, k, rfl, h1, h2, h3, .inl ⟨ps, e, h4, fun H1 fp r s1 hfp hr => ?_⟩⟩
  cases hs : scanE (ws.drop k) 1 with
  | none =>
    have : parse ws k = none := by unfold parse; rw [hs]
    rw [this] at h4; cases h4
  | some n =>
    by_cases hn : n ≤ 60
    · obtain ⟨T0, hT, hpre, hkn, _⟩ := parse_tree hs
      have hp := parse_some hs hn hT hpre
      rw [h4] at hp
      by_cases hok : okT T0 = true
      · rw [if_pos hok] at hp
        cases hp
        refine ⟨_, .tup hfp, true, kit_same _, ?_⟩
        rw [if_neg (by decide)]
        refine ⟨2, .inr ⟨_, SqT.of hfp, rfl⟩, ?_⟩
        rw [if_neg (by simp)]
        refine ⟨_, SqT.of hfp, _, rfl, _, .tup hr, true, kit_same _, ?_⟩
        rw [if_neg (by decide)]
        exact rdp_re2 F (s1 _ _ h1) h2 h3 hn hkn hT hok hpre hfp hr fun H' s => q _ (s1.trans s)
      · rw [if_neg hok] at hp; cases hp
    · have : parse ws k = none := by unfold parse; rw [hs]; exact if_neg hn
      rw [this] at h4; cases h4
theorem rdp__law_refused {mg : Str → Option Value} {a : Addr} {ws : List Str} {k : Nat} (T : Txt K mg t) (h1 : H a = some (.lst (ws.map V.str))) (h2 : ws.length ≤ 1000) (h3 : okWs ws) (h4 : parse ws k = none) (q : ∀ H', Same H H' → Q (.bl true) H') :
    rd__law_refused K t { nx := fun _ H' => Q .non H', rt := Q } (L2.start ["words", "at", "right", "other", "e"] [.ref a, .int k]) H := by
  simp only [rd__law_refused, sp_term_from, L2.start, iRev, cLst, cMin, rRep, rEqL, rEqNil, cIntB, tDGet2, tDisp, tPairs, r_mt_append, r_mt_pop, rAppend, rPop, rIxT, rCatT, tTry, endT, tDropX, tRetX, tAsgX, tCallX, tRaise, tMsgR, tMsgS, cIsx, cIsxT, clsV, rMulS, r_mt_find, r_mt_join, tSeq, tAsg, gName, gTup, gCons, gNil, tRet, tRetN, tDrop, tNext, tNever, tOp, tUn, tVar, tC, tLst, tTup, tCons, tNil, tFor, tIfS, tAnd, tOr, tNot, tTest, tB, tAndV, tOrV, tNotV, tIf, tCB, tBM, tBM0, tyV, tSl, tPart, tNoPart, tAug, ipI, tChain, tCall, spP, tComp, tYes, capV, LenV, iRng1, iRng2, iStr, tDNewK, iList, iTup, rCat, rIxL, rIxT, rIxS, rEq, rNe, rI, rI0, rU, rIn, rSlS, rSlL, rAddS, rInS, rNotInS, rIsB, rIsNotB, rIsN, rNotN, cLen, cIsi, cAll, cAbs, cStr, cInt, r_mt_startswith, r_mt_upper, scal, List.map, List.replicate, List.length, List.append, List.cons_append, List.nil_append, List.append_nil, List.getElem?_cons_zero, List.getElem?_cons_succ, Option.some.injEq, exists_eq_left', exists_eq_left, V.int.injEq, V.ref.injEq, V.str.injEq, V.bl.injEq, V.ty.injEq, List.cons.injEq, and_true, true_and, and_assoc, exists_and_left, List.set_cons_zero, List.set_cons_succ, Nat.reduceSub, Nat.reduceAdd, decide_eq_true_eq, Bool.not_eq_true', decide_eq_false_iff_not, Int.reduceToNat, Int.reducePow, Int.reduceNeg, Int.reduceMul, Int.reduceAdd, if_true, ite_true, Bool.false_eq_true, ite_false, if_false]
  refine ⟨ws, k, rfl, h1, h2, h3, .inr ⟨h4, fun H1 s1 => ?_⟩⟩
  refine ⟨_, rfl, T.y_NoTerm, T.e_NoTerm_ForerunError, fun e he => ⟨_, upd_same, T.y_NoTerm, true, T.i_NoTerm_NoTerm, ?_⟩⟩
  rw [if_pos rfl]
  refine ⟨_, upd_same, T.y_NoTerm, true, T.i_NoTerm_ValueError, by decide, fun p hp => ⟨_, by rw [upd_ne (ne_of_none upd_same hp)]; exact upd_same, T.y_NoTerm, [t.c_NoNumber, t.c_NoDealing, t.c_Nought, t.c_Great, t.c_Folded, t.c_NoHand, t.c_NoOrder, t.c_NoLine, t.c_NoLog], upd_same, false, T.j_NoTerm_0, ?_⟩⟩
  rw [if_pos rfl]
  exact q _ (s1.trans ((isV e he).trans (isV p hp)))
theorem cut_map {α : Type} (f : α → V) (xs : List α) (lo hi : Option Int) : ∃ ys : List α, cutV (xs.map f) lo hi = ys.map f ∧ ys.length ≤ xs.length ∧ ∀ y ∈ ys, y ∈ xs :=
  ⟨(xs.drop (HT.sIx (xs.map f).length 0 lo)).take (HT.sIx (xs.map f).length (xs.map f).length hi - HT.sIx (xs.map f).length 0 lo), by unfold cutV; rw [List.map_take, List.map_drop], by rw [List.length_take, List.length_drop]; omega, fun y hy => List.mem_of_mem_drop (List.mem_of_mem_take hy)⟩
theorem okWs.app {a b : List Str} (h : okWs a) (h' : okWs b) : okWs (a ++ b) := fun w hw => by
  rcases List.mem_append.mp hw with z | z
  · exact h w z
  · exact h' w z
def okV (v : V) : Prop := ∃ x : Str, v = .str x ∧ x.length ≤ 100 ∧ Asc x
theorem strs_ok {ys : List V} {n : Nat} (hl : ys.length = n) (hv : ∀ (i : Nat) (v : V), ys[i]? = some v → okV v) : ∃ ls : List Str, ys = ls.map V.str ∧ ls.length = n ∧ okWs ls := by
  obtain ⟨ls, rfl, hp⟩ := strs_of (P := fun x => x.length ≤ 100 ∧ Asc x) (ys := ys) fun v hv2 => by
    obtain ⟨i, hi⟩ := List.getElem?_of_mem hv2
    exact hv i v hi
  rw [List.length_map] at hl
  exact ⟨ls, rfl, hl, hp⟩
theorem rdp_w10 {a p : Addr} {ns : List Int} {ws : List Str} {k c r ms tl : Int} (hS : SqL K H a (ns.map V.int)) (hl : ns.length ≤ 63) (hp : H p = some (.lst (ws.map V.str))) (hw : ws.length ≤ 300) (ho : okWs ws) (h0 : 0 ≤ tl) (h1 : tl ≤ 100) (q : ∀ p ws H', Same H H' → H' p = some (.lst (ws.map V.str)) → ws.length ≤ 500 → okWs ws → Q (.ref p) H') :
    rd__law_words_10 K t { nx := fun _ H' => Q .non H', rt := Q } [some (.ref a), some (.int k), some (.int c), some (.int r), some (.ref p), some (.int ms), some (.int tl)] H := by
  simp only [rd__law_words_10, sp__law_leaf_word, sp__law_mixed, sp__law_cell_at, anyW, L2.start, iRev, cLst, cMin, rRep, rEqL, rEqNil, cIntB, tDGet2, tDisp, tPairs, r_mt_append, r_mt_pop, rAppend, rPop, rIxT, rCatT, tTry, endT, tDropX, tRetX, tAsgX, tCallX, tRaise, tMsgR, tMsgS, cIsx, cIsxT, clsV, rMulS, r_mt_find, r_mt_join, tSeq, tAsg, gName, gTup, gCons, gNil, tRet, tRetN, tDrop, tNext, tNever, tOp, tUn, tVar, tC, tLst, tTup, tCons, tNil, tFor, tIfS, tAnd, tOr, tNot, tTest, tB, tAndV, tOrV, tNotV, tIf, tCB, tBM, tBM0, tyV, tSl, tPart, tNoPart, tAug, ipI, tChain, tCall, spP, tComp, tYes, capV, LenV, iRng1, iRng2, iStr, tDNewK, iList, iTup, rCat, rIxL, rIxT, rIxS, rEq, rNe, rI, rI0, rU, rIn, rSlS, rSlL, rAddS, rInS, rNotInS, rIsB, rIsNotB, rIsN, rNotN, cLen, cIsi, cAll, cAbs, cStr, cInt, r_mt_startswith, r_mt_upper, scal, List.map, List.replicate, List.length, List.append, List.cons_append, List.nil_append, List.append_nil, List.getElem?_cons_zero, List.getElem?_cons_succ, Option.some.injEq, exists_eq_left', exists_eq_left, V.int.injEq, V.ref.injEq, V.str.injEq, V.bl.injEq, V.ty.injEq, List.cons.injEq, and_true, true_and, and_assoc, exists_and_left, List.set_cons_zero, List.set_cons_succ, Nat.reduceSub, Nat.reduceAdd, decide_eq_true_eq, Bool.not_eq_true', decide_eq_false_iff_not, Int.reduceToNat, Int.reducePow, Int.reduceNeg, Int.reduceMul, Int.reduceAdd, if_true, ite_true, Bool.false_eq_true, ite_false, if_false]
  refine ⟨by omega, by omega, fun D hD => ?_⟩
  refine comp_gen (J := Itr 0 tl.toNat) tl.toNat (by omega) (fun τ => ∃ o, τ = [o, some (.ref a)]) (fun i v => okV v) ⟨_, rfl⟩ (fun i H _ h => h) (fun H _ => Nat.le_refl _) hD ?_ ?_
  · rintro i v τ H2 H' ⟨o, rfl⟩ s hi ⟨rfl, rfl⟩
    simp only [L2.start, iRev, cLst, cMin, rRep, rEqL, rEqNil, cIntB, tDGet2, tDisp, tPairs, r_mt_append, r_mt_pop, rAppend, rPop, rIxT, rCatT, tTry, endT, tDropX, tRetX, tAsgX, tCallX, tRaise, tMsgR, tMsgS, cIsx, cIsxT, clsV, rMulS, r_mt_find, r_mt_join, tSeq, tAsg, gName, gTup, gCons, gNil, tRet, tRetN, tDrop, tNext, tNever, tOp, tUn, tVar, tC, tLst, tTup, tCons, tNil, tFor, tIfS, tAnd, tOr, tNot, tTest, tB, tAndV, tOrV, tNotV, tIf, tCB, tBM, tBM0, tyV, tSl, tPart, tNoPart, tAug, ipI, tChain, tCall, spP, tComp, tYes, capV, LenV, iRng1, iRng2, iStr, tDNewK, iList, iTup, rCat, rIxL, rIxT, rIxS, rEq, rNe, rI, rI0, rU, rIn, rSlS, rSlL, rAddS, rInS, rNotInS, rIsB, rIsNotB, rIsN, rNotN, cLen, cIsi, cAll, cAbs, cStr, cInt, r_mt_startswith, r_mt_upper, scal, List.map, List.replicate, List.length, List.append, List.cons_append, List.nil_append, List.append_nil, List.getElem?_cons_zero, List.getElem?_cons_succ, Option.some.injEq, exists_eq_left', exists_eq_left, V.int.injEq, V.ref.injEq, V.str.injEq, V.bl.injEq, V.ty.injEq, List.cons.injEq, and_true, true_and, and_assoc, exists_and_left, List.set_cons_zero, List.set_cons_succ, Nat.reduceSub, Nat.reduceAdd, decide_eq_true_eq, Bool.not_eq_true', decide_eq_false_iff_not, Int.reduceToNat, Int.reducePow, Int.reduceNeg, Int.reduceMul, Int.reduceAdd, if_true, ite_true, Bool.false_eq_true, ite_false, if_false]
    exact ⟨ns, 2, rfl, s.seq hS, hl, fun c2 H3 s3 => ⟨by omega, by omega, fun m H4 a4 b4 s4 => ⟨a4, b4, fun x H5 hx ha s5 => ⟨⟨_, rfl⟩, ⟨_, rfl, hx, ha⟩, s3.trans (s4.trans s5)⟩⟩⟩⟩
  · intro ys H' hly hv s hq
    obtain ⟨ls, rfl, hll, hok⟩ := strs_ok hly hv
    exact ⟨_, s _ _ hp, _, hq, small_size (by rw [List.length_map, List.length_map]; omega), fun p2 hp2 => q _ (ws ++ ls) _ (s.trans (isV p2 hp2)) (by rw [List.map_append]; exact upd_same) (by rw [List.length_append]; omega) (ho.app hok)⟩
theorem rdp_w8 {a p : Addr} {ns : List Int} {ws : List Str} {k c r ms : Int} (hS : SqL K H a (ns.map V.int)) (hl : ns.length ≤ 63) (hp : H p = some (.lst (ws.map V.str))) (hw : ws.length ≤ 300) (ho : okWs ws) (h0 : 0 ≤ r) (h1 : r ≤ 33) (q : ∀ p ws H', Same H H' → H' p = some (.lst (ws.map V.str)) → ws.length ≤ 500 → okWs ws → Q (.ref p) H') :
    rd__law_words_8 K t { nx := fun _ H' => Q .non H', rt := Q } [some (.ref a), some (.int k), some (.int c), some (.int r), some (.ref p), some (.int ms), none] H := by
  simp only [rd__law_words_8, sp__law_cell_at, L2.start, iRev, cLst, cMin, rRep, rEqL, rEqNil, cIntB, tDGet2, tDisp, tPairs, r_mt_append, r_mt_pop, rAppend, rPop, rIxT, rCatT, tTry, endT, tDropX, tRetX, tAsgX, tCallX, tRaise, tMsgR, tMsgS, cIsx, cIsxT, clsV, rMulS, r_mt_find, r_mt_join, tSeq, tAsg, gName, gTup, gCons, gNil, tRet, tRetN, tDrop, tNext, tNever, tOp, tUn, tVar, tC, tLst, tTup, tCons, tNil, tFor, tIfS, tAnd, tOr, tNot, tTest, tB, tAndV, tOrV, tNotV, tIf, tCB, tBM, tBM0, tyV, tSl, tPart, tNoPart, tAug, ipI, tChain, tCall, spP, tComp, tYes, capV, LenV, iRng1, iRng2, iStr, tDNewK, iList, iTup, rCat, rIxL, rIxT, rIxS, rEq, rNe, rI, rI0, rU, rIn, rSlS, rSlL, rAddS, rInS, rNotInS, rIsB, rIsNotB, rIsN, rNotN, cLen, cIsi, cAll, cAbs, cStr, cInt, r_mt_startswith, r_mt_upper, scal, List.map, List.replicate, List.length, List.append, List.cons_append, List.nil_append, List.append_nil, List.getElem?_cons_zero, List.getElem?_cons_succ, Option.some.injEq, exists_eq_left', exists_eq_left, V.int.injEq, V.ref.injEq, V.str.injEq, V.bl.injEq, V.ty.injEq, List.cons.injEq, and_true, true_and, and_assoc, exists_and_left, List.set_cons_zero, List.set_cons_succ, Nat.reduceSub, Nat.reduceAdd, decide_eq_true_eq, Bool.not_eq_true', decide_eq_false_iff_not, Int.reduceToNat, Int.reducePow, Int.reduceNeg, Int.reduceMul, Int.reduceAdd, if_true, ite_true, Bool.false_eq_true, ite_false, if_false]
  refine ⟨ns, 2, rfl, hS, hl, fun c1 H1 s1 => ⟨by decide, ns, 2, rfl, s1.seq hS, hl, fun c2 H2 s2 => ⟨dB, by decide, ite2 (fun e => ⟨ns, 2, rfl, (s1.trans s2).seq hS, hl, fun c3 H3 s3 => ⟨dB, by decide, ?_⟩⟩) fun e => ?_⟩⟩⟩
  · have S := s1.trans (s2.trans s3)
    exact rdp_w10 (S.seq hS) hl (S _ _ hp) hw ho (by omega) (by omega) fun p ws H' s => q p ws H' (S.trans s)
  · have S := s1.trans s2
    exact rdp_w10 (S.seq hS) hl (S _ _ hp) hw ho (by omega) (by omega) fun p ws H' s => q p ws H' (S.trans s)
theorem rdp_w7 {a p : Addr} {ns : List Int} {ws : List Str} {k c r ms : Int} (hS : SqL K H a (ns.map V.int)) (hl : ns.length ≤ 63) (hp : H p = some (.lst (ws.map V.str))) (hw : ws.length ≤ 100) (ho : okWs ws) (h0 : 0 ≤ r) (h1 : r ≤ 33) (q : ∀ p ws H', Same H H' → H' p = some (.lst (ws.map V.str)) → ws.length ≤ 500 → okWs ws → Q (.ref p) H') :
    rd__law_words_7 K t { nx := fun _ H' => Q .non H', rt := Q } [some (.ref a), some (.int k), some (.int c), some (.int r), some (.ref p), some (.int ms), none] H := by
  simp only [rd__law_words_7, sp__law_word_by, anyW, L2.start, iRev, cLst, cMin, rRep, rEqL, rEqNil, cIntB, tDGet2, tDisp, tPairs, r_mt_append, r_mt_pop, rAppend, rPop, rIxT, rCatT, tTry, endT, tDropX, tRetX, tAsgX, tCallX, tRaise, tMsgR, tMsgS, cIsx, cIsxT, clsV, rMulS, r_mt_find, r_mt_join, tSeq, tAsg, gName, gTup, gCons, gNil, tRet, tRetN, tDrop, tNext, tNever, tOp, tUn, tVar, tC, tLst, tTup, tCons, tNil, tFor, tIfS, tAnd, tOr, tNot, tTest, tB, tAndV, tOrV, tNotV, tIf, tCB, tBM, tBM0, tyV, tSl, tPart, tNoPart, tAug, ipI, tChain, tCall, spP, tComp, tYes, capV, LenV, iRng1, iRng2, iStr, tDNewK, iList, iTup, rCat, rIxL, rIxT, rIxS, rEq, rNe, rI, rI0, rU, rIn, rSlS, rSlL, rAddS, rInS, rNotInS, rIsB, rIsNotB, rIsN, rNotN, cLen, cIsi, cAll, cAbs, cStr, cInt, r_mt_startswith, r_mt_upper, scal, List.map, List.replicate, List.length, List.append, List.cons_append, List.nil_append, List.append_nil, List.getElem?_cons_zero, List.getElem?_cons_succ, Option.some.injEq, exists_eq_left', exists_eq_left, V.int.injEq, V.ref.injEq, V.str.injEq, V.bl.injEq, V.ty.injEq, List.cons.injEq, and_true, true_and, and_assoc, exists_and_left, List.set_cons_zero, List.set_cons_succ, Nat.reduceSub, Nat.reduceAdd, decide_eq_true_eq, Bool.not_eq_true', decide_eq_false_iff_not, Int.reduceToNat, Int.reducePow, Int.reduceNeg, Int.reduceMul, Int.reduceAdd, if_true, ite_true, Bool.false_eq_true, ite_false, if_false]
  obtain ⟨w1, e1, l1, m1⟩ := cut_map V.str ws none (some (k + r))
  obtain ⟨cs, e2, l2, m2⟩ := cut_map V.int ns (some 3) (some (3 + ms))
  refine ⟨_, SqL.of hp, fun p1 hp1 => ⟨_, (isV p1 hp1).seq hS, fun p2 hp2 => ⟨⟨_, SqL.of upd_same⟩, fun D hD => ?_⟩⟩⟩
  rw [e1] at hp2 hD ⊢
  rw [e2] at hD ⊢
  obtain ⟨H1, eH, s1, q1⟩ := new_obj (o := HO.lst (w1.map V.str)) hp1
  rw [← eH] at hp2 hD ⊢
  clear eH
  obtain ⟨H2, eH, s2, q2⟩ := new_obj (o := HO.lst (cs.map V.int)) hp2
  rw [← eH] at hD ⊢
  clear eH
  refine comp_gen (J := Itl K p2) cs.length (by omega) (fun τ => ∃ o, τ = [o]) (fun i v => okV v) ⟨_, rfl⟩ (fun i H s h => ⟨cs.map V.int, .int cs[i], SqL.of (s _ _ q2), by rw [List.getElem?_map, List.getElem?_eq_getElem h]; rfl⟩) (fun H s => ⟨cs.map V.int, SqL.of (s _ _ q2), by rw [List.length_map]; exact Nat.le_refl _⟩) hD ?_ ?_
  · rintro i v τ H3 H' ⟨o, rfl⟩ s hi ⟨rfl, hv⟩
    obtain ⟨n, _, rfl⟩ := List.mem_map.mp (List.mem_of_getElem? (hv _ (SqL.of (s _ _ q2))))
    simp only [L2.start, iRev, cLst, cMin, rRep, rEqL, rEqNil, cIntB, tDGet2, tDisp, tPairs, r_mt_append, r_mt_pop, rAppend, rPop, rIxT, rCatT, tTry, endT, tDropX, tRetX, tAsgX, tCallX, tRaise, tMsgR, tMsgS, cIsx, cIsxT, clsV, rMulS, r_mt_find, r_mt_join, tSeq, tAsg, gName, gTup, gCons, gNil, tRet, tRetN, tDrop, tNext, tNever, tOp, tUn, tVar, tC, tLst, tTup, tCons, tNil, tFor, tIfS, tAnd, tOr, tNot, tTest, tB, tAndV, tOrV, tNotV, tIf, tCB, tBM, tBM0, tyV, tSl, tPart, tNoPart, tAug, ipI, tChain, tCall, spP, tComp, tYes, capV, LenV, iRng1, iRng2, iStr, tDNewK, iList, iTup, rCat, rIxL, rIxT, rIxS, rEq, rNe, rI, rI0, rU, rIn, rSlS, rSlL, rAddS, rInS, rNotInS, rIsB, rIsNotB, rIsN, rNotN, cLen, cIsi, cAll, cAbs, cStr, cInt, r_mt_startswith, r_mt_upper, scal, List.map, List.replicate, List.length, List.append, List.cons_append, List.nil_append, List.append_nil, List.getElem?_cons_zero, List.getElem?_cons_succ, Option.some.injEq, exists_eq_left', exists_eq_left, V.int.injEq, V.ref.injEq, V.str.injEq, V.bl.injEq, V.ty.injEq, List.cons.injEq, and_true, true_and, and_assoc, exists_and_left, List.set_cons_zero, List.set_cons_succ, Nat.reduceSub, Nat.reduceAdd, decide_eq_true_eq, Bool.not_eq_true', decide_eq_false_iff_not, Int.reduceToNat, Int.reducePow, Int.reduceNeg, Int.reduceMul, Int.reduceAdd, if_true, ite_true, Bool.false_eq_true, ite_false, if_false]
    exact fun x H3 hx ha s3 => ⟨⟨_, rfl⟩, ⟨_, rfl, hx, ha⟩, s3⟩
  · intro ys H' hly hv s hq
    obtain ⟨ls, rfl, hll, hok⟩ := strs_ok hly hv
    refine ⟨_, s _ _ (s2 _ _ q1), _, hq, small_size (by rw [List.length_map, List.length_map]; omega), fun p3 hp3 => ?_⟩
    have S := s1.trans (s2.trans (s.trans (isV (o := HO.lst (w1.map V.str ++ ls.map V.str)) p3 hp3)))
    exact rdp_w8 (ws := w1 ++ ls) (S.seq hS) hl (by rw [List.map_append]; exact upd_same) (by rw [List.length_append]; omega) (okWs.app (fun w hw => ho w (m1 w hw)) hok) h0 h1 fun p ws H' s => q p ws H' (S.trans s)
theorem rdp_w5 {a p : Addr} {ns : List Int} {ws : List Str} {k c r : Int} (hS : SqL K H a (ns.map V.int)) (hl : ns.length ≤ 63) (hp : H p = some (.lst (ws.map V.str))) (hw : ws.length ≤ 100) (ho : okWs ws) (h0 : 0 ≤ r) (h1 : r ≤ 33) (q : ∀ p ws H', Same H H' → H' p = some (.lst (ws.map V.str)) → ws.length ≤ 500 → okWs ws → Q (.ref p) H') :
    rd__law_words_5 K t { nx := fun _ H' => Q .non H', rt := Q } [some (.ref a), some (.int k), some (.int c), some (.int r), some (.ref p), none, none] H := by
  simp only [rd__law_words_5, L2.start, iRev, cLst, cMin, rRep, rEqL, rEqNil, cIntB, tDGet2, tDisp, tPairs, r_mt_append, r_mt_pop, rAppend, rPop, rIxT, rCatT, tTry, endT, tDropX, tRetX, tAsgX, tCallX, tRaise, tMsgR, tMsgS, cIsx, cIsxT, clsV, rMulS, r_mt_find, r_mt_join, tSeq, tAsg, gName, gTup, gCons, gNil, tRet, tRetN, tDrop, tNext, tNever, tOp, tUn, tVar, tC, tLst, tTup, tCons, tNil, tFor, tIfS, tAnd, tOr, tNot, tTest, tB, tAndV, tOrV, tNotV, tIf, tCB, tBM, tBM0, tyV, tSl, tPart, tNoPart, tAug, ipI, tChain, tCall, spP, tComp, tYes, capV, LenV, iRng1, iRng2, iStr, tDNewK, iList, iTup, rCat, rIxL, rIxT, rIxS, rEq, rNe, rI, rI0, rU, rIn, rSlS, rSlL, rAddS, rInS, rNotInS, rIsB, rIsNotB, rIsN, rNotN, cLen, cIsi, cAll, cAbs, cStr, cInt, r_mt_startswith, r_mt_upper, scal, List.map, List.replicate, List.length, List.append, List.cons_append, List.nil_append, List.append_nil, List.getElem?_cons_zero, List.getElem?_cons_succ, Option.some.injEq, exists_eq_left', exists_eq_left, V.int.injEq, V.ref.injEq, V.str.injEq, V.bl.injEq, V.ty.injEq, List.cons.injEq, and_true, true_and, and_assoc, exists_and_left, List.set_cons_zero, List.set_cons_succ, Nat.reduceSub, Nat.reduceAdd, decide_eq_true_eq, Bool.not_eq_true', decide_eq_false_iff_not, Int.reduceToNat, Int.reducePow, Int.reduceNeg, Int.reduceMul, Int.reduceAdd, if_true, ite_true, Bool.false_eq_true, ite_false, if_false]
  exact ⟨dB, by decide, ite2 (fun e => rdp_w7 hS hl hp hw ho h0 h1 q) fun e => rdp_w7 hS hl hp hw ho h0 h1 q⟩
def js5 : List Str := (List.replicate 5 [("plus" : Str), "under", "times", "same", "minus", "over", "rest"]).flatten
theorem js5_ok : okWs js5 ∧ js5.length = 35 := by unfold okWs Asc; decide +kernel
theorem rdp_w3 {a : Addr} {ns : List Int} {k : Nat} {c r : Int} (hS : SqL K H a (ns.map V.int)) (hl : ns.length ≤ 63) (hk : k ≤ 4) (h0 : 0 ≤ r) (h1 : r ≤ 33) (q : ∀ p ws H', Same H H' → H' p = some (.lst (ws.map V.str)) → ws.length ≤ 500 → okWs ws → Q (.ref p) H') :
    rd__law_words_3 K t { nx := fun _ H' => Q .non H', rt := Q } [some (.ref a), some (.int (k : Int)), some (.int c), some (.int r), none, none, none] H := by
  simp only [rd__law_words_3, sp__law_word_by, anyW, L2.start, iRev, cLst, cMin, rRep, rEqL, rEqNil, cIntB, tDGet2, tDisp, tPairs, r_mt_append, r_mt_pop, rAppend, rPop, rIxT, rCatT, tTry, endT, tDropX, tRetX, tAsgX, tCallX, tRaise, tMsgR, tMsgS, cIsx, cIsxT, clsV, rMulS, r_mt_find, r_mt_join, tSeq, tAsg, gName, gTup, gCons, gNil, tRet, tRetN, tDrop, tNext, tNever, tOp, tUn, tVar, tC, tLst, tTup, tCons, tNil, tFor, tIfS, tAnd, tOr, tNot, tTest, tB, tAndV, tOrV, tNotV, tIf, tCB, tBM, tBM0, tyV, tSl, tPart, tNoPart, tAug, ipI, tChain, tCall, spP, tComp, tYes, capV, LenV, iRng1, iRng2, iStr, tDNewK, iList, iTup, rCat, rIxL, rIxT, rIxS, rEq, rNe, rI, rI0, rU, rIn, rSlS, rSlL, rAddS, rInS, rNotInS, rIsB, rIsNotB, rIsN, rNotN, cLen, cIsi, cAll, cAbs, cStr, cInt, r_mt_startswith, r_mt_upper, scal, List.map, List.replicate, List.length, List.append, List.cons_append, List.nil_append, List.append_nil, List.getElem?_cons_zero, List.getElem?_cons_succ, Option.some.injEq, exists_eq_left', exists_eq_left, V.int.injEq, V.ref.injEq, V.str.injEq, V.bl.injEq, V.ty.injEq, List.cons.injEq, and_true, true_and, and_assoc, exists_and_left, List.set_cons_zero, List.set_cons_succ, Nat.reduceSub, Nat.reduceAdd, decide_eq_true_eq, Bool.not_eq_true', decide_eq_false_iff_not, Int.reduceToNat, Int.reducePow, Int.reduceNeg, Int.reduceMul, Int.reduceAdd, if_true, ite_true, Bool.false_eq_true, ite_false, if_false]
  have hb : (100000000000 : Int) < big := by decide +kernel
  refine ⟨by omega, by omega, fun D hD => ?_⟩
  refine comp_gen (J := Itr 0 (k : Int).toNat) (k : Int).toNat (by omega) (fun τ => ∃ o, τ = [o, some (.int c)]) (fun i v => okV v) ⟨_, rfl⟩ (fun i H _ h => h) (fun H _ => Nat.le_refl _) hD ?_ ?_
  · rintro i v τ H2 H' ⟨o, rfl⟩ s hi ⟨rfl, rfl⟩
    simp only [L2.start, iRev, cLst, cMin, rRep, rEqL, rEqNil, cIntB, tDGet2, tDisp, tPairs, r_mt_append, r_mt_pop, rAppend, rPop, rIxT, rCatT, tTry, endT, tDropX, tRetX, tAsgX, tCallX, tRaise, tMsgR, tMsgS, cIsx, cIsxT, clsV, rMulS, r_mt_find, r_mt_join, tSeq, tAsg, gName, gTup, gCons, gNil, tRet, tRetN, tDrop, tNext, tNever, tOp, tUn, tVar, tC, tLst, tTup, tCons, tNil, tFor, tIfS, tAnd, tOr, tNot, tTest, tB, tAndV, tOrV, tNotV, tIf, tCB, tBM, tBM0, tyV, tSl, tPart, tNoPart, tAug, ipI, tChain, tCall, spP, tComp, tYes, capV, LenV, iRng1, iRng2, iStr, tDNewK, iList, iTup, rCat, rIxL, rIxT, rIxS, rEq, rNe, rI, rI0, rU, rIn, rSlS, rSlL, rAddS, rInS, rNotInS, rIsB, rIsNotB, rIsN, rNotN, cLen, cIsi, cAll, cAbs, cStr, cInt, r_mt_startswith, r_mt_upper, scal, List.map, List.replicate, List.length, List.append, List.cons_append, List.nil_append, List.append_nil, List.getElem?_cons_zero, List.getElem?_cons_succ, Option.some.injEq, exists_eq_left', exists_eq_left, V.int.injEq, V.ref.injEq, V.str.injEq, V.bl.injEq, V.ty.injEq, List.cons.injEq, and_true, true_and, and_assoc, exists_and_left, List.set_cons_zero, List.set_cons_succ, Nat.reduceSub, Nat.reduceAdd, decide_eq_true_eq, Bool.not_eq_true', decide_eq_false_iff_not, Int.reduceToNat, Int.reducePow, Int.reduceNeg, Int.reduceMul, Int.reduceAdd, if_true, ite_true, Bool.false_eq_true, ite_false, if_false]
    exact ⟨dB, ⟨by omega, by omega⟩, ⟨by omega, by omega⟩, fun x H3 hx ha s3 => ⟨⟨_, rfl⟩, ⟨_, rfl, hx, ha⟩, s3⟩⟩
  · intro ys H' hly hv s hq
    obtain ⟨ls, rfl, hll, hok⟩ := strs_ok hly hv
    have j5 := js5_ok
    refine ⟨by decide, fun p1 hp1 => ⟨_, upd_same, by decide, by decide, by decide, fun p2 hp2 => ?_⟩⟩
    obtain ⟨H1, eH, s1, q1⟩ := new_obj (o := HO.lst [V.str (Str.ofString "plus"), V.str (Str.ofString "under"), V.str (Str.ofString "times"), V.str (Str.ofString "same"), V.str (Str.ofString "minus"), V.str (Str.ofString "over"), V.str (Str.ofString "rest")]) hp1
    rw [← eH] at hp2 ⊢
    clear eH
    refine ⟨_, isV p2 hp2 _ _ (s1 _ _ hq), js5.map V.str, upd_same, small_size (by rw [List.length_map, List.length_map]; omega), fun p3 hp3 => ?_⟩
    have S := s.trans (s1.trans ((isV p2 hp2).trans (isV (o := HO.lst (ls.map V.str ++ js5.map V.str)) p3 hp3)))
    exact rdp_w5 (ws := ls ++ js5) (S.seq hS) hl (by rw [List.map_append]; exact upd_same) (by rw [List.length_append]; omega) (hok.app j5.1) h0 h1 fun p ws H' s => q p ws H' (S.trans s)
theorem rdp__law_words {a : Addr} {ns : List Int} {k : Nat} (hS : SqL K H a (ns.map V.int)) (hl : ns.length ≤ 63) (hk : k ≤ 4) (q : ∀ p ws H', Same H H' → H' p = some (.lst (ws.map V.str)) → ws.length ≤ 500 → okWs ws → Q (.ref p) H') :
    rd__law_words K t { nx := fun _ H' => Q .non H', rt := Q } (L2.start ["script", "ahead", "cell", "run", "words", "most", "tail"] [.ref a, .int k]) H := by
  simp only [rd__law_words, sp__law_cell_at, L2.start, iRev, cLst, cMin, rRep, rEqL, rEqNil, cIntB, tDGet2, tDisp, tPairs, r_mt_append, r_mt_pop, rAppend, rPop, rIxT, rCatT, tTry, endT, tDropX, tRetX, tAsgX, tCallX, tRaise, tMsgR, tMsgS, cIsx, cIsxT, clsV, rMulS, r_mt_find, r_mt_join, tSeq, tAsg, gName, gTup, gCons, gNil, tRet, tRetN, tDrop, tNext, tNever, tOp, tUn, tVar, tC, tLst, tTup, tCons, tNil, tFor, tIfS, tAnd, tOr, tNot, tTest, tB, tAndV, tOrV, tNotV, tIf, tCB, tBM, tBM0, tyV, tSl, tPart, tNoPart, tAug, ipI, tChain, tCall, spP, tComp, tYes, capV, LenV, iRng1, iRng2, iStr, tDNewK, iList, iTup, rCat, rIxL, rIxT, rIxS, rEq, rNe, rI, rI0, rU, rIn, rSlS, rSlL, rAddS, rInS, rNotInS, rIsB, rIsNotB, rIsN, rNotN, cLen, cIsi, cAll, cAbs, cStr, cInt, r_mt_startswith, r_mt_upper, scal, List.map, List.replicate, List.length, List.append, List.cons_append, List.nil_append, List.append_nil, List.getElem?_cons_zero, List.getElem?_cons_succ, Option.some.injEq, exists_eq_left', exists_eq_left, V.int.injEq, V.ref.injEq, V.str.injEq, V.bl.injEq, V.ty.injEq, List.cons.injEq, and_true, true_and, and_assoc, exists_and_left, List.set_cons_zero, List.set_cons_succ, Nat.reduceSub, Nat.reduceAdd, decide_eq_true_eq, Bool.not_eq_true', decide_eq_false_iff_not, Int.reduceToNat, Int.reducePow, Int.reduceNeg, Int.reduceMul, Int.reduceAdd, if_true, ite_true, Bool.false_eq_true, ite_false, if_false]
  refine ⟨ns, 1, rfl, hS, hl, fun c H1 s1 => ⟨by decide, dB, by decide, ite2 (fun e => ⟨by decide, ?_⟩) fun e => ?_⟩⟩
  · exact rdp_w3 (s1.seq hS) hl hk (by omega) (by omega) fun p ws H' s => q p ws H' (s1.trans s)
  · exact rdp_w3 (s1.seq hS) hl hk (by omega) (by omega) fun p ws H' s => q p ws H' (s1.trans s)
theorem mix_self : ∀ l : List V, mixAll l l = true := by
  intro l
  induction l with
  | nil => rfl
  | cons a r ih =>
    unfold mixAll
    rw [ih]
    cases a <;> rfl
theorem rdp_law5 {a p : Addr} {c k z : Int} {ws : List Str} (hp : H p = some (.lst (ws.map V.str))) (hw : ws.length ≤ 500) (ho : okWs ws) (h0 : 0 ≤ z) (h1 : z ≤ 600) (q : ∀ H', Q (.bl true) H') :
    rd_law_5 K t { nx := fun _ H' => Q .non H', rt := Q } [some (.ref a), some (.int c), some (.int k), some (.ref p), some (.int z), none, none] H := by
  obtain ⟨m, rfl⟩ : ∃ m : Nat, z = m := ⟨z.toNat, by omega⟩
  have fl : (ws.map V.str).all isFlat = true := by
    rw [List.all_eq_true]
    intro v hv
    obtain ⟨x, hx, rfl⟩ := List.mem_map.mp hv
    exact (ho x hx).2.flat
  simp only [rd_law_5, sp__law_end, sp__law_refused, sp__law_read, L2.start, iRev, cLst, cMin, rRep, rEqL, rEqNil, cIntB, tDGet2, tDisp, tPairs, r_mt_append, r_mt_pop, rAppend, rPop, rIxT, rCatT, tTry, endT, tDropX, tRetX, tAsgX, tCallX, tRaise, tMsgR, tMsgS, cIsx, cIsxT, clsV, rMulS, r_mt_find, r_mt_join, tSeq, tAsg, gName, gTup, gCons, gNil, tRet, tRetN, tDrop, tNext, tNever, tOp, tUn, tVar, tC, tLst, tTup, tCons, tNil, tFor, tIfS, tAnd, tOr, tNot, tTest, tB, tAndV, tOrV, tNotV, tIf, tCB, tBM, tBM0, tyV, tSl, tPart, tNoPart, tAug, ipI, tChain, tCall, spP, tComp, tYes, capV, LenV, iRng1, iRng2, iStr, tDNewK, iList, iTup, rCat, rIxL, rIxT, rIxS, rEq, rNe, rI, rI0, rU, rIn, rSlS, rSlL, rAddS, rInS, rNotInS, rIsB, rIsNotB, rIsN, rNotN, cLen, cIsi, cAll, cAbs, cStr, cInt, r_mt_startswith, r_mt_upper, scal, List.map, List.replicate, List.length, List.append, List.cons_append, List.nil_append, List.append_nil, List.getElem?_cons_zero, List.getElem?_cons_succ, Option.some.injEq, exists_eq_left', exists_eq_left, V.int.injEq, V.ref.injEq, V.str.injEq, V.bl.injEq, V.ty.injEq, List.cons.injEq, and_true, true_and, and_assoc, exists_and_left, List.set_cons_zero, List.set_cons_succ, Nat.reduceSub, Nat.reduceAdd, decide_eq_true_eq, Bool.not_eq_true', decide_eq_false_iff_not, Int.reduceToNat, Int.reducePow, Int.reduceNeg, Int.reduceMul, Int.reduceAdd, if_true, ite_true, Bool.false_eq_true, ite_false, if_false]
  refine ⟨_, .inl (SqL.of hp), fun l hl => ?_⟩
  obtain ⟨H1, eH, s1, q1⟩ := new_obj (o := HO.lst (ws.map V.str)) hl
  rw [← eH]
  clear eH
  refine ⟨ws, m, rfl, s1 _ _ hp, by omega, by omega, ho, fun H2 s2 => ?_⟩
  cases hpa : parse ws m with
  | none =>
    show if V.non = V.non then _ else _
    rw [if_pos rfl]
    refine ⟨ws, m, rfl, s2 _ _ q1, by omega, ho, hpa, fun H3 s3 => ?_⟩
    refine ⟨_, SqL.of (s3 _ _ (s2 _ _ q1)), _, SqL.of (s3 _ _ (s2 _ _ (s1 _ _ hp))), fl, fl, mix_self _, ?_⟩
    rw [decide_eq_true rfl]
    exact q _
  | some pe =>
    obtain ⟨ps, e⟩ := pe
    show if V.int (e : Nat) = V.non then _ else _
    rw [if_neg (by simp)]
    refine ⟨ws, m, rfl, e, rfl, s2 _ _ q1, by omega, ho, ps, hpa, fun H3 s3 => ?_⟩
    refine ⟨_, SqL.of (s3 _ _ (s2 _ _ q1)), _, SqL.of (s3 _ _ (s2 _ _ (s1 _ _ hp))), fl, fl, mix_self _, ?_⟩
    rw [decide_eq_true rfl]
    exact q _
theorem rdp_law {a : Addr} {ns : List Int} (hS : SqL K H a (ns.map V.int)) (hn : ns.length ≤ 63) (q : ∀ H', Q (.bl true) H') :
    rd_law K t { nx := fun _ H' => Q .non H', rt := Q } (L2.start ["script", "cell", "ahead", "words", "at", "handed", "end"] [.ref a]) H := by
  simp only [rd_law, sp__law_cell_at, sp__law_words, L2.start, iRev, cLst, cMin, rRep, rEqL, rEqNil, cIntB, tDGet2, tDisp, tPairs, r_mt_append, r_mt_pop, rAppend, rPop, rIxT, rCatT, tTry, endT, tDropX, tRetX, tAsgX, tCallX, tRaise, tMsgR, tMsgS, cIsx, cIsxT, clsV, rMulS, r_mt_find, r_mt_join, tSeq, tAsg, gName, gTup, gCons, gNil, tRet, tRetN, tDrop, tNext, tNever, tOp, tUn, tVar, tC, tLst, tTup, tCons, tNil, tFor, tIfS, tAnd, tOr, tNot, tTest, tB, tAndV, tOrV, tNotV, tIf, tCB, tBM, tBM0, tyV, tSl, tPart, tNoPart, tAug, ipI, tChain, tCall, spP, tComp, tYes, capV, LenV, iRng1, iRng2, iStr, tDNewK, iList, iTup, rCat, rIxL, rIxT, rIxS, rEq, rNe, rI, rI0, rU, rIn, rSlS, rSlL, rAddS, rInS, rNotInS, rIsB, rIsNotB, rIsN, rNotN, cLen, cIsi, cAll, cAbs, cStr, cInt, r_mt_startswith, r_mt_upper, scal, List.map, List.replicate, List.length, List.append, List.cons_append, List.nil_append, List.append_nil, List.getElem?_cons_zero, List.getElem?_cons_succ, Option.some.injEq, exists_eq_left', exists_eq_left, V.int.injEq, V.ref.injEq, V.str.injEq, V.bl.injEq, V.ty.injEq, List.cons.injEq, and_true, true_and, and_assoc, exists_and_left, List.set_cons_zero, List.set_cons_succ, Nat.reduceSub, Nat.reduceAdd, decide_eq_true_eq, Bool.not_eq_true', decide_eq_false_iff_not, Int.reduceToNat, Int.reducePow, Int.reduceNeg, Int.reduceMul, Int.reduceAdd, if_true, ite_true, Bool.false_eq_true, ite_false, if_false]
  refine ⟨ns, 0, rfl, hS, hn, fun c H1 s1 => ⟨by decide, ns, (c % 5).toNat, by omega, s1.seq hS, hn, by omega, fun p ws H2 s2 hp hw ho => ⟨dB, by decide, ite2 (fun e => ⟨dB, ws.length, .inl ⟨_, SqL.of hp, by rw [List.length_map]⟩, by omega, ?_⟩) fun e => ?_⟩⟩⟩
  · have g1 := Int.emod_nonneg (c / 15) (b := (ws.length : Int) + 1) (by omega)
    have g2 := Int.emod_lt_of_pos (c / 15) (b := (ws.length : Int) + 1) (by omega)
    exact rdp_law5 hp hw ho g1 (by omega) q
  · exact rdp_law5 hp hw ho (by omega) (by omega) q
end

section
variable {P : Program} {w : World} {K : PySem.W.Frag} {mg : Str → Option Value} {base : Heap} {t : Adr}
theorem ok__law_cell_at (T : Txt K mg t) : FnOk P w K mg base (CX1 P w) 1 t.a__law_cell_at t.d__law_cell_at ["script", "k"] (sp__law_cell_at K) := by
  refine T.f__law_cell_at.ok0 sc__law_cell_at (fun vs H Q E h => ?_) (fun cdv A outer s H vs Q E hr h => ?_)
  · obtain ⟨a, ns, k, rfl, _⟩ := h; rfl
  obtain ⟨a, ns, k, rfl, hS, hl, q⟩ := h
  exact ⟨rd__law_cell_at K t, (pss_cons (ps_if (pt_cmpR op_lt (pv 1) (pe_callB call_len rfl T.b_len bt_len (pa_cons (pv 0) pa_nil)) (nomark _)) (pss_one (ps_ret (pe_ix ix_list (pv 0) (pv 1) (fun _ _ => rfl))))
      pss_nil)
    (pss_one (ps_ret (pe_int (i := 0))))), rdp__law_cell_at hS hl q⟩
theorem ok__law_mixed (T : Txt K mg t) : FnOk P w K mg base (CX1 P w) 1 t.a__law_mixed t.d__law_mixed ["cell", "k"] (sp__law_mixed) := by
  refine T.f__law_mixed.ok0 sc__law_mixed (fun vs H Q E h => ?_) (fun cdv A outer s H vs Q E hr h => ?_)
  · obtain ⟨c, k, rfl, _⟩ := h; rfl
  obtain ⟨c, k, rfl, hk, hk2, q⟩ := h
  exact ⟨rd__law_mixed K t, (pss_cons (ps_set (i := 2) sc__law_mixed.nd rfl (Or.inl rfl) (pe_op op_add (pe_op op_add (pe_op op_mod (pv 0) (pe_int (i := 2147483647))) (pe_op op_mulB (pe_int (i := 11)) (pv 1))) (pe_int (i := 7))))
    (pss_one (ps_ret (pe_op op_fdivB (pe_op op_mod (pe_op op_mulB (pv 2) (pe_op op_add (pe_op op_add (pv 2) (pe_int (i := 48271))) (pv 1))) (pe_int (i := 2147483647))) (pe_int (i := 5)))))), rdp__law_mixed hk hk2 q⟩
theorem ok__law_free (T : Txt K mg t) : FnOk P w K mg base (CX1 P w) 1 t.a__law_free t.d__law_free ["name"] (sp__law_free) := by
  refine T.f__law_free.ok0 sc__law_free (fun vs H Q E h => ?_) (fun cdv A outer s H vs Q E hr h => ?_)
  · obtain ⟨x, rfl, _⟩ := h; rfl
  obtain ⟨x, rfl, hx, q⟩ := h
  exact ⟨rd__law_free K t, (pss_cons (ps_if (pt_cmpR op_in_seq (pv 0) (pe_tup (pa_str (x := "take") (pa_str (x := "give") (pa_str (x := "let") (pa_str (x := "say") (pa_str (x := "off") (pa_str (x := "if") (pa_str (x := "else") (pa_str (x := "end") (pa_str (x := "as") pa_nil)))))))))) (by with_unfolding_all rfl)) (pss_one (ps_ret (pe_op op_add_str (pv 0) (pe_str (x := "q")))))
      pss_nil)
    (pss_cons (ps_if (pt_cmpR op_in_seq (pv 0) (pe_tup (pa_cons (pe_str (x := "plus")) (pa_cons (pe_str (x := "minus")) (pa_cons (pe_str (x := "times")) (pa_cons (pe_str (x := "over")) (pa_cons (pe_str (x := "rest")) (pa_cons (pe_str (x := "under")) (pa_cons (pe_str (x := "same")) pa_nil)))))))) (by with_unfolding_all rfl)) (pss_one (ps_ret (pe_op op_add_str (pv 0) (pe_str (x := "q")))))
      pss_nil)
    (pss_one (ps_ret (pv 0))))), rdp__law_free hx q⟩
theorem ok__law_letters (T : Txt K mg t) : FnOk P w K mg base (CX1 P w) 1 t.a__law_letters t.d__law_letters ["number", "many"] (sp__law_letters) := by
  refine T.f__law_letters.ok0 sc__law_letters (fun vs H Q E h => ?_) (fun cdv A outer s H vs Q E hr h => ?_)
  · obtain ⟨n, m, rfl, _⟩ := h; rfl
  obtain ⟨n, m, rfl, h0, h1, q⟩ := h
  exact ⟨rd__law_letters K t, (pss_cons (ps_set (i := 2) sc__law_letters.nd rfl (Or.inl rfl) (pe_str (x := "abcdefghijklmnopqrstuvwxyz")))
    (pss_cons (ps_set (i := 3) sc__law_letters.nd rfl (Or.inl rfl) (pe_str (x := "")))
    (pss_cons (ps_for PassesOwn.never rfl (pi_range1 rfl T.b_range (pa_cons (pv 1) pa_nil)) (pg_name (i := 4) sc__law_letters.nd rfl (Or.inl rfl)) (pss_cons (ps_set (i := 3) sc__law_letters.nd rfl (Or.inl rfl) (pe_op op_add_str (pv 3) (pe_ix ix_str (pv 2) (pe_op op_mod (pv 0) (pe_int (i := 26))) (fun _ _ => rfl))))
    (pss_one (ps_set (i := 0) sc__law_letters.nd rfl (Or.inl rfl) (pe_op op_add (pe_op op_fdivB (pv 0) (pe_int (i := 26))) (pe_op op_mulB (pe_op op_mulB (pe_int (i := 991)) (pv 4)) (pv 4)))))))
    (pss_one (ps_ret (pv 3)))))), rdp__law_letters h0 h1 q⟩
theorem ok__law_leaf_word (T : Txt K mg t) : FnOk P w K mg base (CX1 P w) 2 t.a__law_leaf_word t.d__law_leaf_word ["number"] (sp__law_leaf_word) := by
  refine T.f__law_leaf_word.ok0 sc__law_leaf_word (fun vs H Q E h => ?_) (fun cdv A outer s H vs Q E hr h => ?_)
  · obtain ⟨n, rfl, _⟩ := h; rfl
  obtain ⟨n, rfl, h0, h1, q⟩ := h
  exact ⟨rd__law_leaf_word K t, (pss_cons (ps_if (pt_cmpR op_eq (pe_op op_mod (pv 0) (pe_int (i := 2))) (pe_int (i := 0)) (nomark _)) (pss_one (ps_ret (pe_call (FnOk.mono (ok__law_free T) (by decide)) hr rfl T.m__law_free T.f__law_free.kp T.b__law_free .nil pass10 (pa_cons (pe_call (FnOk.mono (ok__law_letters T) (by decide)) hr rfl T.m__law_letters T.f__law_letters.kp T.b__law_letters .nil pass10 (pa_cons (pe_op op_fdivB (pv 0) (pe_int (i := 12))) (pa_cons (pe_op op_add (pe_int (i := 1)) (pe_op op_mod (pe_op op_fdivB (pv 0) (pe_int (i := 2))) (pe_int (i := 6)))) pa_nil))) pa_nil))))
      pss_nil)
    (pss_cons (ps_if (pt_cmpR op_eq (pe_op op_mod (pv 0) (pe_int (i := 4))) (pe_int (i := 1)) (nomark _)) (pss_one (ps_ret (pe_callTy call_str_int rfl T.b_str bt_str (pa_cons (pe_op op_sub (pe_op op_mod (pe_op op_fdivB (pv 0) (pe_int (i := 4))) (pe_int (i := 30))) (pe_int (i := 9))) pa_nil))))
      pss_nil)
    (pss_one (ps_ret (pe_callTy call_str_int rfl T.b_str bt_str (pa_cons (pe_op op_sub (pe_op op_mod (pe_op op_add (pe_op op_pow (pv 0) (pe_int (i := 4))) (pe_op op_pow (pe_int (i := 10)) (pe_int (i := 30)))) (pe_op op_add (pe_op op_mulB (pe_int (i := 2)) (pe_op op_pow (pe_int (i := 10)) (pe_int (i := 30)))) (pe_int (i := 1)))) (pe_op op_pow (pe_int (i := 10)) (pe_int (i := 30)))) pa_nil)))))), rdp__law_leaf_word h0 h1 q⟩
theorem ok__law_odd (T : Txt K mg t) : FnOk P w K mg base (CX1 P w) 1 t.a__law_odd t.d__law_odd ["number"] (sp__law_odd) := by
  refine T.f__law_odd.ok0 sc__law_odd (fun vs H Q E h => ?_) (fun cdv A outer s H vs Q E hr h => ?_)
  · obtain ⟨n, rfl, _⟩ := h; rfl
  obtain ⟨n, rfl, q⟩ := h
  refine ⟨rd__law_odd K t, ?_, rdp__law_odd q⟩
  refine pss_cons ?_ ?_
  · refine ps_set (i := 1) ?z ?a ?b ?c (hs := ?d) (hf := ?e)
    case z => exact sc__law_odd.nd
    case a => rfl
    case b => exact (Or.inl rfl)
    case c =>
      refine pe_lst ?_
      refine pa_str (x := "take") ?_
      refine pa_str (x := "give") ?_
      refine pa_str (x := "let") ?_
      refine pa_str (x := "say") ?_
      refine pa_str (x := "off") ?_
      refine pa_str (x := "if") ?_
      refine pa_str (x := "else") ?_
      refine pa_str (x := "end") ?_
      refine pa_str (x := "as") ?_
      refine pa_str (x := "Plus") ?_
      refine pa_str (x := "x1") ?_
      refine pa_str (x := "letters") ?_
      refine pa_str (x := "") ?_
      refine pa_str (x := "007") ?_
      exact pa_nil
    case d => rfl
    case e => first | exact .inl rfl | exact .inr rfl | assumption
  · refine pss_cons ?_ ?_
    · refine ps_set (i := 1) ?z ?a ?b ?c (hs := ?d) (hf := ?e)
      case z => exact sc__law_odd.nd
      case a => rfl
      case b => exact (Or.inl rfl)
      case c =>
        refine pe_op op_cat (pv 1) ?_
        refine pe_lst ?_
        refine pa_str (x := "-0") ?_
        refine pa_str (x := "+1") ?_
        refine pa_str (x := "1_0") ?_
        refine pa_str (x := " 1") ?_
        refine pa_str (x := "-") ?_
        refine pa_str (x := "a b") ?_
        refine pa_cons (pe_op op_add_str (pe_str (x := "1")) (pe_op op_mul_str (pe_str (x := "0")) (pe_int (i := 31)))) ?_
        refine pa_cons (pe_op op_add_str (pe_op op_add_str (pe_str (x := "-1")) (pe_op op_mul_str (pe_str (x := "0")) (pe_int (i := 29)))) (pe_str (x := "1"))) ?_
        exact pa_nil
      case d => rfl
      case e => first | exact .inl rfl | exact .inr rfl | assumption
    · refine pss_one ?_
      exact (ps_ret (pe_ix ix_list (pv 1) (pe_op op_mod (pv 0) (pe_int (i := 22))) (fun _ _ => rfl)))
theorem ok__law_word_by (T : Txt K mg t) : FnOk P w K mg base (CX1 P w) 3 t.a__law_word_by t.d__law_word_by ["cell"] (sp__law_word_by) := by
  refine T.f__law_word_by.ok0 sc__law_word_by (fun vs H Q E h => ?_) (fun cdv A outer s H vs Q E hr h => ?_)
  · obtain ⟨n, rfl, _⟩ := h; rfl
  obtain ⟨n, rfl, q⟩ := h
  exact ⟨rd__law_word_by K t, (pss_cons (ps_set (i := 1) sc__law_word_by.nd rfl (Or.inl rfl) (pe_call (FnOk.mono (ok__law_mixed T) (by decide)) hr rfl T.m__law_mixed T.f__law_mixed.kp T.b__law_mixed .nil pass10 (pa_cons (pv 0) (pa_cons (pe_int (i := 1)) pa_nil))))
    (pss_cons (ps_if (pt_cmpR op_eq (pe_op op_mod (pv 0) (pe_int (i := 16))) (pe_int (i := 9)) (nomark _)) (pss_one (ps_ret (pe_call (FnOk.mono (ok__law_odd T) (by decide)) hr rfl T.m__law_odd T.f__law_odd.kp T.b__law_odd .nil pass10 (pa_cons (pv 1) pa_nil))))
      pss_nil)
    (pss_cons (ps_if (pt_cmpR op_lt (pe_op op_mod (pv 0) (pe_int (i := 5))) (pe_int (i := 2)) (nomark _)) (pss_one (ps_ret (pe_ix ix_list (pe_lst (pa_cons (pe_str (x := "plus")) (pa_cons (pe_str (x := "minus")) (pa_cons (pe_str (x := "times")) (pa_cons (pe_str (x := "over")) (pa_cons (pe_str (x := "rest")) (pa_cons (pe_str (x := "under")) (pa_cons (pe_str (x := "same")) pa_nil)))))))) (pe_op op_mod (pv 1) (pe_int (i := 7))) (fun _ _ => rfl))))
      pss_nil)
    (pss_one (ps_ret (pe_call (FnOk.mono (ok__law_leaf_word T) (by decide)) hr rfl T.m__law_leaf_word T.f__law_leaf_word.kp T.b__law_leaf_word .nil pass10 (pa_cons (pe_call (FnOk.mono (ok__law_mixed T) (by decide)) hr rfl T.m__law_mixed T.f__law_mixed.kp T.b__law_mixed .nil pass10 (pa_cons (pv 0) (pa_cons (pe_int (i := 2)) pa_nil))) pa_nil))))))), rdp__law_word_by q⟩
theorem ok__law_words (T : Txt K mg t) : FnOk P w K mg base (CX1 P w) 4 t.a__law_words t.d__law_words ["script", "ahead"] (sp__law_words K) := by
  refine T.f__law_words.ok0 sc__law_words (fun vs H Q E h => ?_) (fun cdv A outer s H vs Q E hr h => ?_)
  · obtain ⟨a, ns, k, rfl, _⟩ := h; rfl
  obtain ⟨a, ns, k, rfl, hS, hl, hk, q⟩ := h
  exact ⟨rd__law_words K t, (pss_cons (ps_set (i := 2) sc__law_words.nd rfl (Or.inr rfl) (pe_call (FnOk.mono (ok__law_cell_at T) (by decide)) hr rfl T.m__law_cell_at T.f__law_cell_at.kp T.b__law_cell_at .nil pass10 (pa_cons (pv 0) (pa_cons (pe_int (i := 1)) pa_nil))))
    (pss_cons (ps_set (i := 3) sc__law_words.nd rfl (Or.inl rfl) (pe_op op_mod (pv 2) (pe_int (i := 34))))
    (pss_cons (ps_if (pt_cmpR op_eq (pe_op op_mod (pe_op op_fdivB (pv 2) (pe_int (i := 34))) (pe_int (i := 3))) (pe_int (i := 1)) (nomark _)) (pss_one (ps_set (i := 3) sc__law_words.nd rfl (Or.inl rfl) (pe_op op_add (pe_int (i := 27)) (pe_op op_mod (pv 2) (pe_int (i := 7))))))
      pss_nil)
    (pss_cons (ps_setComp (j := 4) sc__law_words.nd rfl rfl (Or.inl rfl) (osc := defScope s__law_words) (N := ["script", "ahead", "cell", "run", "words", "most", "tail"]) (xs := ["k"]) (ix := [2]) (by decide +kernel) (pi_range1 rfl T.b_range (pa_cons (pv 1) pa_nil)) (fun _ _ _ _ => (pg_name (i := 0) (show List.Nodup (["k", "cell"] : List Str) from (by decide +kernel)) rfl (Or.inl rfl) (.inr rfl))) (fun _ _ _ _ => pts_nil) (fun _ _ _ _ => (pe_call (FnOk.mono (ok__law_word_by T) (by decide)) hr rfl T.m__law_word_by T.f__law_word_by.kp T.b__law_word_by .nil pass10 (pa_cons (pe_op op_add (pe_op op_fdivB (pv 1) (pe_int (i := 34))) (pe_op op_mulB (pe_op op_mulB (pe_int (i := 3)) (pv 0)) (pv 0))) pa_nil))))
    (pss_cons (ps_set (i := 4) sc__law_words.nd rfl (Or.inl rfl) (pe_op op_cat (pv 4) (pe_op op_rep (pe_lst (pa_cons (pe_str (x := "plus")) (pa_cons (pe_str (x := "under")) (pa_cons (pe_str (x := "times")) (pa_cons (pe_str (x := "same")) (pa_cons (pe_str (x := "minus")) (pa_cons (pe_str (x := "over")) (pa_cons (pe_str (x := "rest")) pa_nil)))))))) (pe_int (i := 5)))))
    (pss_cons (ps_set (i := 5) sc__law_words.nd rfl (Or.inl rfl) (pe_int (i := 80)))
    (pss_cons (ps_if (pt_cmpR op_eq (pe_op op_mod (pe_op op_fdivB (pv 2) (pe_int (i := 34))) (pe_int (i := 3))) (pe_int (i := 1)) (nomark _)) (pss_one (ps_set (i := 5) sc__law_words.nd rfl (Or.inl rfl) (pe_int (i := 0))))
      pss_nil)
    (pss_cons (ps_set (i := 4) sc__law_words.nd rfl (Or.inl rfl) (pe_op op_cat (pe_slice sl_list (pv 4) po_none (po_some (pe_op op_add (pv 1) (pv 3)))) (pe_comp rfl (osc := defScope s__law_words) (N := ["script", "ahead", "cell", "run", "words", "most", "tail"]) (xs := ["one"]) (ix := []) (by decide +kernel) (pi_list (pe_slice sl_list (pv 0) (po_some (pe_int (i := 3))) (po_some (pe_op op_add (pe_int (i := 3)) (pv 5))))) (fun _ _ _ _ => (pg_name (i := 0) (show List.Nodup (["one"] : List Str) from (by decide +kernel)) rfl (Or.inl rfl) (.inr rfl))) (fun _ _ _ _ => pts_nil) (fun _ _ _ _ => (pe_call (FnOk.mono (ok__law_word_by T) (by decide)) hr rfl T.m__law_word_by T.f__law_word_by.kp T.b__law_word_by .nil pass10 (pa_cons (pv 0) pa_nil))))))
    (pss_cons (ps_set (i := 6) sc__law_words.nd rfl (Or.inl rfl) (pe_op op_mod (pe_call (FnOk.mono (ok__law_cell_at T) (by decide)) hr rfl T.m__law_cell_at T.f__law_cell_at.kp T.b__law_cell_at .nil pass10 (pa_cons (pv 0) (pa_cons (pe_int (i := 2)) pa_nil))) (pe_int (i := 71))))
    (pss_cons (ps_if (pt_cmpR op_eq (pe_op op_mod (pe_op op_fdivB (pe_call (FnOk.mono (ok__law_cell_at T) (by decide)) hr rfl T.m__law_cell_at T.f__law_cell_at.kp T.b__law_cell_at .nil pass10 (pa_cons (pv 0) (pa_cons (pe_int (i := 2)) pa_nil))) (pe_int (i := 71))) (pe_int (i := 2))) (pe_int (i := 1)) (nomark _)) (pss_one (ps_set (i := 6) sc__law_words.nd rfl (Or.inl rfl) (pe_op op_add (pv 3) (pe_op op_mod (pe_op op_fdivB (pe_call (FnOk.mono (ok__law_cell_at T) (by decide)) hr rfl T.m__law_cell_at T.f__law_cell_at.kp T.b__law_cell_at .nil pass10 (pa_cons (pv 0) (pa_cons (pe_int (i := 2)) pa_nil))) (pe_int (i := 142))) (pe_int (i := 3))))))
      pss_nil)
    (pss_one (ps_ret (pe_op op_cat (pv 4) (pe_comp rfl (osc := defScope s__law_words) (N := ["script", "ahead", "cell", "run", "words", "most", "tail"]) (xs := ["k"]) (ix := [0]) (by decide +kernel) (pi_range1 rfl T.b_range (pa_cons (pv 6) pa_nil)) (fun _ _ _ _ => (pg_name (i := 0) (show List.Nodup (["k", "script"] : List Str) from (by decide +kernel)) rfl (Or.inl rfl) (.inr rfl))) (fun _ _ _ _ => pts_nil) (fun _ _ _ _ => (pe_call (FnOk.mono (ok__law_leaf_word T) (by decide)) hr rfl T.m__law_leaf_word T.f__law_leaf_word.kp T.b__law_leaf_word .nil pass10 (pa_cons (pe_call (FnOk.mono (ok__law_mixed T) (by decide)) hr rfl T.m__law_mixed T.f__law_mixed.kp T.b__law_mixed .nil pass10 (pa_cons (pe_call (FnOk.mono (ok__law_cell_at T) (by decide)) hr rfl T.m__law_cell_at T.f__law_cell_at.kp T.b__law_cell_at .nil pass10 (pa_cons (pv 1) (pa_cons (pe_int (i := 2)) pa_nil))) (pa_cons (pv 0) pa_nil))) pa_nil))))))))))))))))), rdp__law_words hS hl hk q⟩
theorem ok__law_number_of (T : Txt K mg t) : FnOk P w K mg base (CX1 P w) 1 t.a__law_number_of t.d__law_number_of ["word"] (sp__law_number_of) := by
  refine T.f__law_number_of.ok0 sc__law_number_of (fun vs H Q E h => ?_) (fun cdv A outer s H vs Q E hr h => ?_)
  · obtain ⟨x, rfl, _⟩ := h; rfl
  obtain ⟨x, rfl, hx, q⟩ := h
  exact ⟨rd__law_number_of K t, (pss_cons (ps_set (i := 1) sc__law_number_of.nd rfl (Or.inl rfl) (pv 0))
    (pss_cons (ps_if (pt_cmpR op_eq (pe_slice sl_str (pv 0) po_none (po_some (pe_int (i := 1)))) (pe_str (x := "-")) (nomark _)) (pss_one (ps_set (i := 1) sc__law_number_of.nd rfl (Or.inl rfl) (pe_slice sl_str (pv 0) (po_some (pe_int (i := 1))) po_none)))
      pss_nil)
    (pss_cons (ps_if (PW.pt (pw_or (pt_cmpR op_eq (pv 1) (pe_str (x := "")) (nomark _)) (pw_or (pt_cmpR op_gt (pe_callB call_len rfl T.b_len bt_len (pa_cons (pv 1) pa_nil)) (pe_int (i := 31)) (nomark _)) (pw_or1 (PW.pt (pw_and (pt_cmpR op_eq (pe_ix ix_str (pv 1) (pe_int (i := 0)) (fun _ _ => rfl)) (pe_str (x := "0")) (nomark _)) (pw_and1 (pt_cmpR op_ne (pv 0) (pe_str (x := "0")) (nomark _))))))))) (pss_one (ps_ret pe_non))
      pss_nil)
    (pss_cons (ps_for PassesOwn.never rfl (pi_str (pv 1)) (pg_name (i := 2) sc__law_number_of.nd rfl (Or.inl rfl)) (pss_one (ps_if (pt_cmpR op_notin_str (pv 2) (pe_str (x := "0123456789")) (by with_unfolding_all rfl)) (pss_one (ps_ret pe_non))
      pss_nil)))
    (pss_cons (ps_if (PW.pt (pw_and (pt_cmpR op_eq (pe_callB call_len rfl T.b_len bt_len (pa_cons (pv 1) pa_nil)) (pe_int (i := 31)) (nomark _)) (pw_and1 (pt_cmpR op_ne (pv 1) (pe_op op_add_str (pe_str (x := "1")) (pe_op op_mul_str (pe_str (x := "0")) (pe_int (i := 30)))) (nomark _))))) (pss_one (ps_ret pe_non))
      pss_nil)
    (pss_one (ps_ret (pe_callTy call_int_str rfl T.b_int bt_int (pa_cons (pv 0) pa_nil))))))))), rdp__law_number_of hx q⟩
theorem ok__law_part_of (T : Txt K mg t) : FnOk P w K mg base (CX1 P w) 2 t.a__law_part_of t.d__law_part_of ["word"] (sp__law_part_of) := by
  refine T.f__law_part_of.ok0 sc__law_part_of (fun vs H Q E h => ?_) (fun cdv A outer s H vs Q E hr h => ?_)
  · obtain ⟨x, rfl, _⟩ := h; rfl
  obtain ⟨x, rfl, hx, q⟩ := h
  exact ⟨rd__law_part_of K t, (pss_cons (ps_if (pt_cmpR op_notN (pe_call (FnOk.mono (ok__law_number_of T) (by decide)) hr rfl T.m__law_number_of T.f__law_number_of.kp T.b__law_number_of .nil pass10 (pa_cons (pv 0) pa_nil)) pe_non (nomark _)) (pss_one (ps_ret (pe_call (FnOk.mono (ok__law_number_of T) (by decide)) hr rfl T.m__law_number_of T.f__law_number_of.kp T.b__law_number_of .nil pass10 (pa_cons (pv 0) pa_nil))))
      pss_nil)
    (pss_cons (ps_if (PW.pt (pw_and (pt_chain op_le op_le (pe_int (i := 1)) (pe_callB call_len rfl T.b_len bt_len (pa_cons (pv 0) pa_nil)) (pe_int (i := 6))) (pw_and1 (pt_cmpR op_eq (pe_call (FnOk.mono (ok__law_free T) (by decide)) hr rfl T.m__law_free T.f__law_free.kp T.b__law_free .nil pass10 (pa_cons (pv 0) pa_nil)) (pv 0) (nomark _))))) (pss_cons (ps_for PassesOwn.never rfl (pi_str (pv 0)) (pg_name (i := 1) sc__law_part_of.nd rfl (Or.inl rfl)) (pss_one (ps_if (pt_cmpR op_notin_str (pv 1) (pe_str (x := "abcdefghijklmnopqrstuvwxyz")) (by with_unfolding_all rfl)) (pss_one (ps_ret pe_non))
      pss_nil)))
    (pss_one (ps_ret (pv 0))))
      pss_nil)
    (pss_one (ps_ret pe_non)))), rdp__law_part_of hx q⟩
theorem ok__law_end (T : Txt K mg t) : FnOk P w K mg base (CX1 P w) 3 t.a__law_end t.d__law_end ["words", "at"] (sp__law_end) := by
  refine T.f__law_end.ok0 sc__law_end (fun vs H Q E h => ?_) (fun cdv A outer s H vs Q E hr h => ?_)
  · obtain ⟨a, ws, k, rfl, _⟩ := h; rfl
  obtain ⟨a, ws, k, rfl, h1, h2, h3, h4, q⟩ := h
  exact ⟨rd__law_end K t, (pss_cons (ps_set (i := 2) sc__law_end.nd rfl (Or.inl rfl) (pe_int (i := 1)))
    (pss_cons (ps_for PassesOwn.never rfl (pi_range2 rfl T.b_range (pa_cons (pv 1) (pa_cons (pe_callB (call_min2 rfl) rfl T.b_min bt_min (pa_cons (pe_callB call_len rfl T.b_len bt_len (pa_cons (pv 0) pa_nil)) (pa_cons (pe_op op_add (pv 1) (pe_int (i := 60))) pa_nil))) pa_nil))) (pg_name (i := 3) sc__law_end.nd rfl (Or.inl rfl)) (pss_cons (ps_if (pt_cmpR op_in_seq (pe_ix ix_list (pv 0) (pv 3) (fun _ _ => rfl)) (pe_tup (pa_cons (pe_str (x := "plus")) (pa_cons (pe_str (x := "minus")) (pa_cons (pe_str (x := "times")) (pa_cons (pe_str (x := "over")) (pa_cons (pe_str (x := "rest")) (pa_cons (pe_str (x := "under")) (pa_cons (pe_str (x := "same")) pa_nil)))))))) (by with_unfolding_all rfl)) (pss_one (ps_aug (i := 2) sc__law_end.nd rfl (Or.inl rfl) (pe_int (i := 1)) ip_add))
      (pss_one (ps_if (pt_cmpR op_isN (pe_call (FnOk.mono (ok__law_part_of T) (by decide)) hr rfl T.m__law_part_of T.f__law_part_of.kp T.b__law_part_of .nil pass10 (pa_cons (pe_ix ix_list (pv 0) (pv 3) (fun _ _ => rfl)) pa_nil)) pe_non (nomark _)) (pss_one (ps_ret pe_non))
      (pss_one (ps_aug (i := 2) sc__law_end.nd rfl (Or.inl rfl) (pe_int (i := 1)) ip_sub)))))
    (pss_one (ps_if (pt_cmpR op_eq (pv 2) (pe_int (i := 0)) (nomark _)) (pss_one (ps_ret (pe_op op_add (pv 3) (pe_int (i := 1)))))
      pss_nil))))
    (pss_one (ps_ret pe_non)))), rdp__law_end h1 h2 h3 h4 q⟩
theorem ok_behind_term (T : Txt K mg t) : FnOk P w K mg base (CX1 P w) 1 t.a_behind_term t.d_behind_term ["words", "at"] (sp_behind_term t) := by
  refine T.f_behind_term.ok1 sc_behind_term (fun vs H Q E h => ?_) (fun cdv A outer s H vs Q E hr h => ?_)
  · obtain ⟨a, ws, k, rfl, _⟩ := h; rfl
  obtain ⟨a, ws, k, rfl, h1, h2, q⟩ := h
  exact ⟨rd_behind_term K t E, (pss_cons (ps_set (i := 2) sc_behind_term.nd rfl (Or.inl rfl) (pe_int (i := 1)))
    (pss_cons (ps_set (i := 3) sc_behind_term.nd rfl (Or.inl rfl) (pv 1))
    (pss_cons (ps_while own1 (pt_cmpR op_gt (pv 2) (pe_int (i := 0)) (nomark _)) (pss_cons (ps_if (pt_cmpR op_ge (pv 3) (pe_callB call_len rfl T.b_len bt_len (pa_cons (pv 0) pa_nil)) (nomark _)) (pss_one (ps_raise rfl T.x_NoTerm raises1 rfl T.g_NoTerm (pa_cons (pe_str (x := "the words end ahead of the term's end")) pa_nil)))
      pss_nil)
    (pss_cons (ps_if (pt_cmpR op_eq (pe_op op_sub (pv 3) (pv 1)) (pe_glob rfl T.g_MOST_WORDS ⟨_, rfl⟩) (nomark _)) (pss_one (ps_raise rfl T.x_NoTerm raises1 rfl T.g_NoTerm (pa_cons (pe_str (x := "a term of more than sixty words")) pa_nil)))
      pss_nil)
    (pss_cons (ps_set (i := 2) sc_behind_term.nd rfl (Or.inl rfl) (pe_ifExp (pt_cmpR op_in_seq (pe_ix ix_list (pv 0) (pv 3) (fun _ _ => rfl)) (pe_glob rfl T.g_JOINING rfl) (by with_unfolding_all rfl)) (pe_op op_add (pv 2) (pe_int (i := 1))) (pe_op op_sub (pv 2) (pe_int (i := 1)))))
    (pss_one (ps_aug (i := 3) sc_behind_term.nd rfl (Or.inl rfl) (pe_int (i := 1)) ip_add))))))
    (pss_one (ps_ret (pv 3)))))), rdp_behind_term T.v_JOINING h1 h2 q⟩
theorem ok_is_name (T : Txt K mg t) : FnOk P w K mg base (CX1 P w) 1 t.a_is_name t.d_is_name ["text"] (sp_is_name) := by
  refine T.f_is_name.ok0 sc_is_name (fun vs H Q E h => ?_) (fun cdv A outer s H vs Q E hr h => ?_)
  · obtain ⟨x, rfl, _⟩ := h; rfl
  obtain ⟨x, rfl, hx, q⟩ := h
  exact ⟨rd_is_name K t, (pss_cons (ps_if (PW.pt (pw_or (pt_cmpR op_eq (pv 0) (pe_str (x := "")) (nomark _)) (pw_or1 (pt_cmpR op_gt (pe_callB call_len rfl T.b_len bt_len (pa_cons (pv 0) pa_nil)) (pe_glob rfl T.g_MOST_LETTERS ⟨_, rfl⟩) (nomark _))))) (pss_one (ps_ret (pe_bl (b := false))))
      pss_nil)
    (pss_cons (ps_if (PW.pt (pw_or (pt_cmpR op_in_seq (pv 0) (pe_glob rfl T.g_JOINING rfl) (by with_unfolding_all rfl)) (pw_or1 (pt_cmpR op_in_seq (pv 0) (pe_glob rfl T.g_ROW_WORDS rfl) (by with_unfolding_all rfl))))) (pss_one (ps_ret (pe_bl (b := false))))
      pss_nil)
    (pss_one (ps_ret (pe_callB (call_allL rfl) rfl T.b_all bt_all (pa_cons (pe_comp rfl (osc := defScope s_is_name) (N := ["text"]) (xs := ["sign"]) (ix := []) (by decide +kernel) (pi_str (pv 0)) (fun _ _ _ _ => (pg_name (i := 0) (show List.Nodup (["sign"] : List Str) from (by decide +kernel)) rfl (Or.inl rfl) (.inr rfl))) (fun _ _ _ _ => pts_nil) (fun _ _ _ _ => (pe_cmpR op_in_str (pv 0) (pe_glob rfl T.g_LETTERS ⟨_, rfl⟩) (by with_unfolding_all rfl)))) pa_nil)))))), rdp_is_name hx T.v_JOINING T.v_ROW_WORDS q⟩
theorem ok_is_worth (T : Txt K mg t) : FnOk P w K mg base (CX1 P w) 1 t.a_is_worth t.d_is_worth ["thing"] (sp_is_worth K) := by
  refine T.f_is_worth.ok0 sc_is_worth (fun vs H Q E h => ?_) (fun cdv A outer s H vs Q E hr h => ?_)
  · obtain ⟨x, rfl, _⟩ := h; rfl
  obtain ⟨x, rfl, h⟩ := h
  exact ⟨rd_is_worth K t, (pss_cons (ps_if (PW.pt (pw_or (pt_not (pt_val (pe_callB call_isi rfl T.b_isinstance bt_isinstance (pa_cons (pv 0) (pa_cons (pe_bltn rfl T.b_int bt_int rfl) pa_nil))))) (pw_or1 (pt_val (pe_callB call_isi rfl T.b_isinstance bt_isinstance (pa_cons (pv 0) (pa_cons (pe_bltn rfl T.b_bool bt_bool rfl) pa_nil))))))) (pss_one (ps_ret (pe_bl (b := false))))
      pss_nil)
    (pss_one (ps_ret (pe_chain op_le op_le (pe_un un_neg (pe_op op_pow (pe_int (i := 10)) (pe_int (i := 30)))) (pv 0) (pe_op op_pow (pe_int (i := 10)) (pe_int (i := 30))))))), rdp_is_worth (kf K).i_b h⟩
theorem ok_is_figures (T : Txt K mg t) : FnOk P w K mg base (CX1 P w) 1 t.a_is_figures t.d_is_figures ["text"] (sp_is_figures) := by
  refine T.f_is_figures.ok0 sc_is_figures (fun vs H Q E h => ?_) (fun cdv A outer s H vs Q E hr h => ?_)
  · obtain ⟨x, rfl, _⟩ := h; rfl
  obtain ⟨x, rfl, hx, q⟩ := h
  exact ⟨rd_is_figures K t, (pss_one (ps_ret (pe_and (pe_cmpR op_ne (pv 0) (pe_str (x := "")) (nomark _)) (pe_one (pe_callB (call_allL rfl) rfl T.b_all bt_all (pa_cons (pe_comp rfl (osc := defScope s_is_figures) (N := ["text"]) (xs := ["sign"]) (ix := []) (by decide +kernel) (pi_str (pv 0)) (fun _ _ _ _ => (pg_name (i := 0) (show List.Nodup (["sign"] : List Str) from (by decide +kernel)) rfl (Or.inl rfl) (.inr rfl))) (fun _ _ _ _ => pts_nil) (fun _ _ _ _ => (pe_cmpR op_in_str (pv 0) (pe_glob rfl T.g_FIGURES ⟨_, rfl⟩) (by with_unfolding_all rfl)))) pa_nil)))))), rdp_is_figures hx q⟩
theorem ok_numeral (T : Txt K mg t) : FnOk P w K mg base (CX1 P w) 1 t.a_numeral t.d_numeral ["worth"] (sp_numeral) := by
  refine T.f_numeral.ok0 sc_numeral (fun vs H Q E h => ?_) (fun cdv A outer s H vs Q E hr h => ?_)
  · obtain ⟨w, rfl, _⟩ := h; rfl
  obtain ⟨w, rfl, hw, q⟩ := h
  exact ⟨rd_numeral K t, (pss_one (ps_ret (pe_callTy call_str_int rfl T.b_str bt_str (pa_cons (pv 0) pa_nil)))), rdp_numeral hw q⟩
theorem ok_is_numeral (T : Txt K mg t) : FnOk P w K mg base (CX1 P w) 2 t.a_is_numeral t.d_is_numeral ["text"] (sp_is_numeral) := by
  refine T.f_is_numeral.ok0 sc_is_numeral (fun vs H Q E h => ?_) (fun cdv A outer s H vs Q E hr h => ?_)
  · obtain ⟨x, rfl, _⟩ := h; rfl
  obtain ⟨x, rfl, hx, q⟩ := h
  exact ⟨rd_is_numeral K t, (pss_cons (ps_set (i := 1) sc_is_numeral.nd rfl (Or.inl rfl) (pe_ifExp (pt_val (pe_bm PySem.F.plainAttrs_str PySem.F.slot_str_startswith PySem.F.type_str_startswith mt_startswith (pv 0) (pa_cons (pe_str (x := "-")) pa_nil))) (pe_slice sl_str (pv 0) (po_some (pe_int (i := 1))) po_none) (pv 0)))
    (pss_cons (ps_if (PW.pt (pw_or (pt_cmpR op_gt (pe_callB call_len rfl T.b_len bt_len (pa_cons (pv 1) pa_nil)) (pe_glob rfl T.g_MOST_FIGURES ⟨_, rfl⟩) (nomark _)) (pw_or1 (pt_not (pt_val (pe_call (FnOk.mono (ok_is_figures T) (by decide)) hr rfl T.m_is_figures T.f_is_figures.kp T.b_is_figures .nil pass10 (pa_cons (pv 1) pa_nil))))))) (pss_one (ps_ret (pe_bl (b := false))))
      pss_nil)
    (pss_cons (ps_set (i := 2) sc_is_numeral.nd rfl (Or.inl rfl) (pe_callTy call_int_str rfl T.b_int bt_int (pa_cons (pv 0) pa_nil)))
    (pss_one (ps_ret (pe_and (pe_call (FnOk.mono (ok_is_worth T) (by decide)) hr rfl T.m_is_worth T.f_is_worth.kp T.b_is_worth .nil pass10 (pa_cons (pv 2) pa_nil)) (pe_one (pe_cmpR op_eq (pe_call (FnOk.mono (ok_numeral T) (by decide)) hr rfl T.m_numeral T.f_numeral.kp T.b_numeral .nil pass10 (pa_cons (pv 2) pa_nil)) (pv 0) (nomark _))))))))), rdp_is_numeral hx q⟩
theorem ok_worth_in (T : Txt K mg t) : FnOk P w K mg base (CX1 P w) 3 t.a_worth_in t.d_worth_in ["text"] (sp_worth_in t) := by
  refine T.f_worth_in.ok1 sc_worth_in (fun vs H Q E h => ?_) (fun cdv A outer s H vs Q E hr h => ?_)
  · obtain ⟨x, rfl, _⟩ := h; rfl
  obtain ⟨x, rfl, hx, ha, q⟩ := h
  exact ⟨rd_worth_in K t E, (pss_cons (ps_if (pt_not (pt_val (pe_call (FnOk.mono (ok_is_numeral T) (by decide)) hr rfl T.m_is_numeral T.f_is_numeral.kp T.b_is_numeral .nil pass1 (pa_cons (pv 0) pa_nil)))) (pss_one (ps_raise rfl T.x_NoNumber raises1 rfl T.g_NoNumber (pa_cons (pe_msgR (pv 0)) pa_nil)))
      pss_nil)
    (pss_one (ps_ret (pe_callTy call_int_str rfl T.b_int bt_int (pa_cons (pv 0) pa_nil))))), rdp_worth_in hx ha q⟩
theorem ok_part_in (T : Txt K mg t) : FnOk P w K mg base (CX1 P w) 4 t.a_part_in t.d_part_in ["word"] (sp_part_in t) := by
  refine T.f_part_in.ok1 sc_part_in (fun vs H Q E h => ?_) (fun cdv A outer s H vs Q E hr h => ?_)
  · obtain ⟨x, rfl, _⟩ := h; rfl
  obtain ⟨x, rfl, hx, ha, q⟩ := h
  exact ⟨rd_part_in K t E, (pss_cons (ps_if (pt_val (pe_call (FnOk.mono (ok_is_name T) (by decide)) hr rfl T.m_is_name T.f_is_name.kp T.b_is_name .nil pass1 (pa_cons (pv 0) pa_nil))) (pss_one (ps_ret (pv 0)))
      pss_nil)
    (pss_cons (ps_if (pt_val (pe_call (FnOk.mono (ok_is_numeral T) (by decide)) hr rfl T.m_is_numeral T.f_is_numeral.kp T.b_is_numeral .nil pass1 (pa_cons (pv 0) pa_nil))) (pss_one (ps_ret (pe_call (FnOk.mono (ok_worth_in T) (by decide)) hr rfl T.m_worth_in T.f_worth_in.kp T.b_worth_in .nil pass1 (pa_cons (pv 0) pa_nil))))
      pss_nil)
    (pss_one (ps_raise rfl T.x_NoTerm raises1 rfl T.g_NoTerm (pa_cons (pe_msgR (pv 0)) pa_nil))))), rdp_part_in hx ha q⟩
theorem ok_term_from (T : Txt K mg t) : FnOk P w K mg base (CX1 P w) 5 t.a_term_from t.d_term_from ["words", "at"] (sp_term_from t) := by
  refine T.f_term_from.ok1 sc_term_from (fun vs H Q E h => ?_) (fun cdv A outer s H vs Q E hr h => ?_)
  · obtain ⟨a, ws, k, rfl, _⟩ := h; rfl
  obtain ⟨a, ws, k, rfl, h1, h2, h3, q⟩ := h
  exact ⟨rd_term_from K t E, (pss_cons (ps_set (i := 2) sc_term_from.nd rfl (Or.inl rfl) (pe_call (FnOk.mono (ok_behind_term T) (by decide)) hr rfl T.m_behind_term T.f_behind_term.kp T.b_behind_term .nil pass1 (pa_cons (pv 0) (pa_cons (pv 1) pa_nil))))
    (pss_cons (ps_set (i := 3) sc_term_from.nd rfl (Or.inl rfl) (pe_lst pa_nil))
    (pss_cons (ps_for own1 rfl (pi_rev rfl T.b_reversed (pa_cons (pe_slice sl_list (pv 0) (po_some (pv 1)) (po_some (pv 2))) pa_nil)) (pg_name (i := 4) sc_term_from.nd rfl (Or.inl rfl)) (pss_one (ps_if (pt_cmpR op_in_seq (pv 4) (pe_glob rfl T.g_JOINING rfl) (by with_unfolding_all rfl)) (pss_cons (ps_set (i := 5) sc_term_from.nd rfl (Or.inl rfl) (pe_bm0 PySem.F.plainAttrs_list PySem.F.slot_list_pop PySem.F.type_list_pop mt_pop (pv 3)))
    (pss_cons (ps_set (i := 6) sc_term_from.nd rfl (Or.inl rfl) (pe_bm0 PySem.F.plainAttrs_list PySem.F.slot_list_pop PySem.F.type_list_pop mt_pop (pv 3)))
    (pss_one (ps_expr (pe_bm PySem.F.plainAttrs_list PySem.F.slot_list_append PySem.F.type_list_append mt_append (pv 3) (pa_cons (pe_op op_catT (pe_op op_catT (pv 5) (pv 6)) (pe_tup (pa_cons (pv 4) pa_nil))) pa_nil))))))
      (pss_one (ps_expr (pe_bm PySem.F.plainAttrs_list PySem.F.slot_list_append PySem.F.type_list_append mt_append (pv 3) (pa_cons (pe_tup (pa_cons (pe_call (FnOk.mono (ok_part_in T) (by decide)) hr rfl T.m_part_in T.f_part_in.kp T.b_part_in .nil pass1 (pa_cons (pv 4) pa_nil)) pa_nil)) pa_nil)))))))
    (pss_one (ps_ret (pe_tup (pa_cons (pe_bm0 PySem.F.plainAttrs_list PySem.F.slot_list_pop PySem.F.type_list_pop mt_pop (pv 3)) (pa_cons (pv 2) pa_nil)))))))), rdp_term_from T.v_JOINING h1 h2 h3 q⟩
theorem ok__law_ahead (T : Txt K mg t) : FnOk P w K mg base (CX1 P w) 1 t.a__law_ahead t.d__law_ahead ["term"] (sp__law_ahead) := by
  refine T.f__law_ahead.ok0 sc__law_ahead (fun vs H Q E h => ?_) (fun cdv A outer s H vs Q E hr h => ?_)
  · obtain ⟨tm, T0, rfl, _⟩ := h; rfl
  obtain ⟨tm, T0, rfl, h1, h2, h3, h4, q⟩ := h
  exact ⟨rd__law_ahead K t, (pss_cons (ps_set (i := 1) sc__law_ahead.nd rfl (Or.inl rfl) (pe_lst pa_nil))
    (pss_cons (ps_for PassesOwn.never rfl (pi_tup (pv 0)) (pg_name (i := 2) sc__law_ahead.nd rfl (Or.inl rfl)) (pss_cons (ps_if (PW.pt (pw_or (pt_val (pe_callB call_isi rfl T.b_isinstance bt_isinstance (pa_cons (pv 2) (pa_cons (pe_bltn rfl T.b_bool bt_bool rfl) pa_nil)))) (pw_or1 (PW.pt (pw_and (pt_not (pt_val (pe_callB call_isi rfl T.b_isinstance bt_isinstance (pa_cons (pv 2) (pa_cons (pe_bltn rfl T.b_int bt_int rfl) pa_nil))))) (pw_and1 (pt_not (pt_val (pe_callB call_isi rfl T.b_isinstance bt_isinstance (pa_cons (pv 2) (pa_cons (pe_bltn rfl T.b_str bt_str rfl) pa_nil))))))))))) (pss_one (ps_ret pe_non))
      pss_nil)
    (pss_one (ps_if (pt_cmpR op_in_seq (pv 2) (pe_tup (pa_cons (pe_str (x := "plus")) (pa_cons (pe_str (x := "minus")) (pa_cons (pe_str (x := "times")) (pa_cons (pe_str (x := "over")) (pa_cons (pe_str (x := "rest")) (pa_cons (pe_str (x := "under")) (pa_cons (pe_str (x := "same")) pa_nil)))))))) (by with_unfolding_all rfl)) (pss_cons (ps_if (pt_cmpR op_lt (pe_callB call_len rfl T.b_len bt_len (pa_cons (pv 1) pa_nil)) (pe_int (i := 2)) (nomark _)) (pss_one (ps_ret pe_non))
      pss_nil)
    (pss_one (ps_set (i := 1) sc__law_ahead.nd rfl (Or.inl rfl) (pe_op op_cat (pe_slice sl_list (pv 1) po_none (po_some (pe_un un_neg (pe_int (i := 2))))) (pe_lst (pa_cons (pe_op op_cat (pe_op op_cat (pe_lst (pa_cons (pv 2) pa_nil)) (pe_ix ix_list (pv 1) (pe_un un_neg (pe_int (i := 2))) (fun _ _ => rfl))) (pe_ix ix_list (pv 1) (pe_un un_neg (pe_int (i := 1))) (fun _ _ => rfl))) pa_nil))))))
      (pss_one (ps_expr (pe_bm PySem.F.plainAttrs_list PySem.F.slot_list_append PySem.F.type_list_append mt_append (pv 1) (pa_cons (pe_lst (pa_cons (pv 2) pa_nil)) pa_nil))))))))
    (pss_cons (ps_if (pt_cmpR op_ne (pe_callB call_len rfl T.b_len bt_len (pa_cons (pv 1) pa_nil)) (pe_int (i := 1)) (nomark _)) (pss_one (ps_ret pe_non))
      pss_nil)
    (pss_one (ps_ret (pe_ix ix_list (pv 1) (pe_int (i := 0)) (fun _ _ => rfl))))))), rdp__law_ahead (kf K) h1 h2 h3 h4 q⟩
theorem ok__law_read (T : Txt K mg t) : FnOk P w K mg base (CX1 P w) 6 t.a__law_read t.d__law_read ["words", "at", "end"] (sp__law_read) := by
  refine T.f__law_read.ok0 sc__law_read (fun vs H Q E h => ?_) (fun cdv A outer s H vs Q E hr h => ?_)
  · obtain ⟨a, ws, k, e, ps, rfl, _⟩ := h; rfl
  obtain ⟨a, ws, k, e, ps, rfl, h1, h2, h3, h4, q⟩ := h
  exact ⟨rd__law_read K t, (pss_cons (ps_set (i := 3) sc__law_read.nd rfl (Or.inl rfl) (pe_call (FnOk.mono (ok_term_from T) (by decide)) hr rfl T.m_term_from T.f_term_from.kp T.b_term_from .nil pass10 (pa_cons (pv 0) (pa_cons (pv 1) pa_nil))))
    (pss_cons (ps_if (PW.pt (pw_or (pt_not (pt_val (pe_callB call_isi rfl T.b_isinstance bt_isinstance (pa_cons (pv 3) (pa_cons (pe_bltn rfl T.b_tuple bt_tuple rfl) pa_nil))))) (pw_or (pt_cmpR op_ne (pe_callB call_len rfl T.b_len bt_len (pa_cons (pv 3) pa_nil)) (pe_int (i := 2)) (nomark _)) (pw_or1 (pt_not (pt_val (pe_callB call_isi rfl T.b_isinstance bt_isinstance (pa_cons (pe_ix ix_tup (pv 3) (pe_int (i := 0)) (fun _ _ => rfl)) (pa_cons (pe_bltn rfl T.b_tuple bt_tuple rfl) pa_nil))))))))) (pss_one (ps_ret (pe_bl (b := false))))
      pss_nil)
    (pss_cons (ps_if (PW.pt (pw_or (pt_not (pt_val (pe_callB call_isi rfl T.b_isinstance bt_isinstance (pa_cons (pe_ix ix_tup (pv 3) (pe_int (i := 1)) (fun _ _ => rfl)) (pa_cons (pe_bltn rfl T.b_int bt_int rfl) pa_nil))))) (pw_or (pt_val (pe_callB call_isi rfl T.b_isinstance bt_isinstance (pa_cons (pe_ix ix_tup (pv 3) (pe_int (i := 1)) (fun _ _ => rfl)) (pa_cons (pe_bltn rfl T.b_bool bt_bool rfl) pa_nil)))) (pw_or1 (pt_cmpR op_ne (pe_ix ix_tup (pv 3) (pe_int (i := 1)) (fun _ _ => rfl)) (pv 2) (nomark _)))))) (pss_one (ps_ret (pe_bl (b := false))))
      pss_nil)
    (pss_cons (ps_set (i := 4) sc__law_read.nd rfl (Or.inl rfl) (pe_lst pa_nil))
    (pss_cons (ps_for PassesOwn.never rfl (pi_list (pe_slice sl_list (pv 0) (po_some (pv 1)) (po_some (pv 2)))) (pg_name (i := 5) sc__law_read.nd rfl (Or.inl rfl)) (pss_cons (ps_set (i := 6) sc__law_read.nd rfl (Or.inl rfl) (pe_call (FnOk.mono (ok__law_part_of T) (by decide)) hr rfl T.m__law_part_of T.f__law_part_of.kp T.b__law_part_of .nil pass10 (pa_cons (pv 5) pa_nil)))
    (pss_one (ps_expr (pe_bm PySem.F.plainAttrs_list PySem.F.slot_list_append PySem.F.type_list_append mt_append (pv 4) (pa_cons (pe_ifExp (pt_cmpR op_isN (pv 6) pe_non (nomark _)) (pv 5) (pv 6)) pa_nil))))))
    (pss_one (ps_ret (pe_cmpR (op_eqL (hu64 hr)) (pe_call (FnOk.mono (ok__law_ahead T) (by decide)) hr rfl T.m__law_ahead T.f__law_ahead.kp T.b__law_ahead .nil pass10 (pa_cons (pe_ix ix_tup (pv 3) (pe_int (i := 0)) (fun _ _ => rfl)) pa_nil)) (pv 4) (nomark _))))))))), rdp__law_read (kf K) h1 h2 h3 h4 q⟩
theorem ok__law_refused (T : Txt K mg t) : FnOk P w K mg base (CX1 P w) 6 t.a__law_refused t.d__law_refused ["words", "at"] (sp__law_refused) := by
  refine T.f__law_refused.ok0 sc__law_refused (fun vs H Q E h => ?_) (fun cdv A outer s H vs Q E hr h => ?_)
  · obtain ⟨a, ws, k, rfl, _⟩ := h; rfl
  obtain ⟨a, ws, k, rfl, h1, h2, h3, h4, q⟩ := h
  exact ⟨rd__law_refused K t, (pss_cons (ps_set (i := 2) sc__law_refused.nd rfl (Or.inl rfl) (pe_bl (b := false)))
    (pss_cons (ps_set (i := 3) sc__law_refused.nd rfl (Or.inl rfl) (pe_bl (b := true)))
    (pss_cons (ps_try (i := 4) (And.intro rfl rfl) rfl sc__law_refused.nd (psx_expr (pex_call (FnOk.mono (ok_term_from T) (by decide)) hr rfl T.m_term_from T.f_term_from.kp T.b_term_from (pa_cons (pv 0) (pa_cons (pv 1) pa_nil)))) rfl T.g_ForerunError rfl rfl (fun _ => (pss_cons (ps_set (i := 2) sc__law_refused.nd rfl (Or.inl rfl) (pe_and (pe_callB call_isx rfl T.b_isinstance bt_isinstance (pa_cons (pv 4) (pa_cons (pe_glob rfl T.g_NoTerm rfl) pa_nil))) (pe_one (pe_callB call_isx rfl T.b_isinstance bt_isinstance (pa_cons (pv 4) (pa_cons (pe_bltn rfl T.b_ValueError bt_ValueError rfl) pa_nil))))))
    (pss_one (ps_set (i := 3) sc__law_refused.nd rfl (Or.inl rfl) (pe_callB call_isxT rfl T.b_isinstance bt_isinstance (pa_cons (pv 4) (pa_cons (pe_tup (pa_cons (pe_glob rfl T.g_NoNumber rfl) (pa_cons (pe_glob rfl T.g_NoDealing rfl) (pa_cons (pe_glob rfl T.g_Nought rfl) (pa_cons (pe_glob rfl T.g_Great rfl) (pa_cons (pe_glob rfl T.g_Folded rfl) (pa_cons (pe_glob rfl T.g_NoHand rfl) (pa_cons (pe_glob rfl T.g_NoOrder rfl) (pa_cons (pe_glob rfl T.g_NoLine rfl) (pa_cons (pe_glob rfl T.g_NoLog rfl) pa_nil)))))))))) pa_nil))))))))
    (pss_one (ps_ret (pe_and (pv 2) (pe_one (pe_not (pv 3))))))))), rdp__law_refused T h1 h2 h3 h4 q⟩
theorem ok_law (T : Txt K mg t) : FnOk P w K mg base (CX1 P w) 7 t.a_law t.d_law ["script"] (sp_law K) := by
  refine T.f_law.ok0 sc_law (fun vs H Q E h => ?_) (fun cdv A outer s H vs Q E hr h => ?_)
  · obtain ⟨a, ns, rfl, _⟩ := h; rfl
  obtain ⟨a, ns, rfl, hS, hn, q⟩ := h
  exact ⟨rd_law K t, (pss_cons (ps_set (i := 1) sc_law.nd rfl (Or.inl rfl) (pe_call (FnOk.mono (ok__law_cell_at T) (by decide)) hr rfl T.m__law_cell_at T.f__law_cell_at.kp T.b__law_cell_at .nil pass10 (pa_cons (pv 0) (pa_cons (pe_int (i := 0)) pa_nil))))
    (pss_cons (ps_set (i := 2) sc_law.nd rfl (Or.inl rfl) (pe_op op_mod (pv 1) (pe_int (i := 5))))
    (pss_cons (ps_set (i := 3) sc_law.nd rfl (Or.inl rfl) (pe_call (FnOk.mono (ok__law_words T) (by decide)) hr rfl T.m__law_words T.f__law_words.kp T.b__law_words .nil pass10 (pa_cons (pv 0) (pa_cons (pv 2) pa_nil))))
    (pss_cons (ps_set (i := 4) sc_law.nd rfl (Or.inl rfl) (pv 2))
    (pss_cons (ps_if (pt_cmpR op_eq (pe_op op_mod (pe_op op_fdivB (pv 1) (pe_int (i := 5))) (pe_int (i := 3))) (pe_int (i := 1)) (nomark _)) (pss_one (ps_set (i := 4) sc_law.nd rfl (Or.inl rfl) (pe_op op_mod (pe_op op_fdivB (pv 1) (pe_int (i := 15))) (pe_op op_add (pe_callB call_len rfl T.b_len bt_len (pa_cons (pv 3) pa_nil)) (pe_int (i := 1))))))
      pss_nil)
    (pss_cons (ps_set (i := 5) sc_law.nd rfl (Or.inl rfl) (pe_callTy call_list_of rfl T.b_list bt_list (pa_cons (pv 3) pa_nil)))
    (pss_cons (ps_set (i := 6) sc_law.nd rfl (Or.inl rfl) (pe_call (FnOk.mono (ok__law_end T) (by decide)) hr rfl T.m__law_end T.f__law_end.kp T.b__law_end .nil pass10 (pa_cons (pv 3) (pa_cons (pv 4) pa_nil))))
    (pss_cons (ps_if (pt_cmpR op_isN (pv 6) pe_non (nomark _)) (pss_one (ps_ret (pe_and (pe_call (FnOk.mono (ok__law_refused T) (by decide)) hr rfl T.m__law_refused T.f__law_refused.kp T.b__law_refused .nil pass10 (pa_cons (pv 5) (pa_cons (pv 4) pa_nil))) (pe_one (pe_cmpR (op_eqL (hu64 hr)) (pv 5) (pv 3) (nomark _))))))
      pss_nil)
    (pss_one (ps_ret (pe_and (pe_call (FnOk.mono (ok__law_read T) (by decide)) hr rfl T.m__law_read T.f__law_read.kp T.b__law_read .nil pass10 (pa_cons (pv 5) (pa_cons (pv 4) (pa_cons (pv 6) pa_nil)))) (pe_one (pe_cmpR (op_eqL (hu64 hr)) (pv 5) (pv 3) (nomark _)))))))))))))), rdp_law hS hn q⟩
end
end K09
open PySem PySem.W PyProof.Rows
set_option maxRecDepth 100000 in
set_option maxHeartbeats 0 in
theorem PySem.Challenge.cw_forerun_k09_no_term_holds : PySem.Challenge.rw_forerun_k09_no_term.Holds := by
  w_on; o_law; k_head; (case hw => w_witness2)
  k_fill
  refine L2.walk_ofX (l := PySem.Challenge.rw_forerun_k09_no_term) (n := 63) (k := 7) (x := "script") (sp := K09.sp_law) rfl (by decide) rfl ⟨rfl, by decide, by decide⟩ (fun w h Y => PySem.W.kIn_of Y) ?F ?S
  case F =>
    intro w mg fa h KX G hmg
    have T : ∃ t, K09.Txt (L2.KOf KX) mg t := by
      dsimp only [L2.KOf]
      refine' K09.txt_mk KX G ?qa0 ?ql0 ?qc0 ?qk0 ?qa1 ?ql1 ?qc1 ?qk1 ?qa2 ?ql2 ?qc2 ?qk2 ?qa3 ?ql3 ?qc3 ?qk3 ?qa4 ?ql4 ?qc4 ?qk4 ?qa5 ?ql5 ?qc5 ?qk5 ?qa6 ?ql6 ?qc6 ?qk6 ?qa7 ?ql7 ?qc7 ?qk7 ?qa8 ?ql8 ?qc8 ?qk8 ?qa9 ?ql9 ?qc9 ?qk9 ?qa10 ?ql10 ?qc10 ?qk10 ?qa11 ?ql11 ?qc11 ?qk11 ?qa12 ?ql12 ?qc12 ?qk12 ?qa13 ?ql13 ?qc13 ?qk13 ?qa14 ?ql14 ?qc14 ?qk14 ?qa15 ?ql15 ?qc15 ?qk15 ?qa16 ?ql16 ?qc16 ?qk16 ?qa17 ?ql17 ?qc17 ?qk17 ?qa18 ?ql18 ?qc18 ?qk18 ?qa19 ?ql19 ?qc19 ?qk19 ?qa20 ?ql20 ?qc20 ?qk20 ?qa21 ?ql21 ?qc21 ?qk21 ?qa22 ?ql22 ?qc22 ?qk22 ?qa23 ?ql23 ?qc23 ?qk23 ?qz0 ?qz1 ?qz2 ?qz3 ?qz4 ?qz5 ?qz6 ?qz7 ?qz8 ?qz9 ?qz10 ?qz11 ?qg0 ?qg1 ?qh1 ?qg2 ?qg3 ?qg4 ?qg5 ?qg6 ?qh6 ?qv0 ?qv1 ?qv2 ?qv3 ?qv4 ?qv5 ?qv6 ?qv7 ?qv8 ?qv9 ?qv10 ?rx0 ?ry0_0 ?ry0_1 ?ry0_2 ?ry0_3 ?ry0_4 ?ry0_5 ?ry0_6 ?ry0_7 ?re0_0 ?ri0_0 ?ri0_1 ?rj0_0 ?rx1 ?ry1_0 ?ry1_1 ?ry1_2 ?ry1_3 ?ry1_4 ?ry1_5 ?ry1_6 ?ry1_7 ?re1_0 ?ri1_0 ?ri1_1 ?rj1_0
      (case qa0 => k_is)
      (case ql0 => k_is)
      (case qc0 => k_is)
      (case qk0 => k_is)
      (case qa1 => k_is)
      (case ql1 => k_is)
      (case qc1 => k_is)
      (case qk1 => k_is)
      (case qa2 => k_is)
      (case ql2 => k_is)
      (case qc2 => k_is)
      (case qk2 => k_is)
      (case qa3 => k_is)
      (case ql3 => k_is)
      (case qc3 => k_is)
      (case qk3 => k_is)
      (case qa4 => k_is)
      (case ql4 => k_is)
      (case qc4 => k_is)
      (case qk4 => k_is)
      (case qa5 => k_is)
      (case ql5 => k_is)
      (case qc5 => k_is)
      (case qk5 => k_is)
      (case qa6 => k_is)
      (case ql6 => k_is)
      (case qc6 => k_is)
      (case qk6 => k_is)
      (case qa7 => k_is)
      (case ql7 => k_is)
      (case qc7 => k_is)
      (case qk7 => k_is)
      (case qa8 => k_is)
      (case ql8 => k_is)
      (case qc8 => k_is)
      (case qk8 => k_is)
      (case qa9 => k_is)
      (case ql9 => k_is)
      (case qc9 => k_is)
      (case qk9 => k_is)
      (case qa10 => k_is)
      (case ql10 => k_is)
      (case qc10 => k_is)
      (case qk10 => k_is)
      (case qa11 => k_is)
      (case ql11 => k_is)
      (case qc11 => k_is)
      (case qk11 => k_is)
      (case qa12 => k_is)
      (case ql12 => k_is)
      (case qc12 => k_is)
      (case qk12 => k_is)
      (case qa13 => k_is)
      (case ql13 => k_is)
      (case qc13 => k_is)
      (case qk13 => k_is)
      (case qa14 => k_is)
      (case ql14 => k_is)
      (case qc14 => k_is)
      (case qk14 => k_is)
      (case qa15 => k_is)
      (case ql15 => k_is)
      (case qc15 => k_is)
      (case qk15 => k_is)
      (case qa16 => k_is)
      (case ql16 => k_is)
      (case qc16 => k_is)
      (case qk16 => k_is)
      (case qa17 => k_is)
      (case ql17 => k_is)
      (case qc17 => k_is)
      (case qk17 => k_is)
      (case qa18 => k_is)
      (case ql18 => k_is)
      (case qc18 => k_is)
      (case qk18 => k_is)
      (case qa19 => k_is)
      (case ql19 => k_is)
      (case qc19 => k_is)
      (case qk19 => k_is)
      (case qa20 => k_is)
      (case ql20 => k_is)
      (case qc20 => k_is)
      (case qk20 => k_is)
      (case qa21 => k_is)
      (case ql21 => k_is)
      (case qc21 => k_is)
      (case qk21 => k_is)
      (case qa22 => k_is)
      (case ql22 => k_is)
      (case qc22 => k_is)
      (case qk22 => k_is)
      (case qa23 => k_is)
      (case ql23 => k_is)
      (case qc23 => k_is)
      (case qk23 => k_is)
      (case qz0 => k_is)
      (case qz1 => k_is)
      (case qz2 => k_is)
      (case qz3 => k_is)
      (case qz4 => k_is)
      (case qz5 => k_is)
      (case qz6 => k_is)
      (case qz7 => k_is)
      (case qz8 => k_is)
      (case qz9 => k_is)
      (case qz10 => k_is)
      (case qz11 => k_is)
      (case qg0 => k_is)
      (case qg1 => k_is)
      (case qh1 => k_is)
      (case qg2 => k_is)
      (case qg3 => k_is)
      (case qg4 => k_is)
      (case qg5 => k_is)
      (case qg6 => k_is)
      (case qh6 => k_is)
      (case qv0 => k_is)
      (case qv1 => k_is)
      (case qv2 => k_is)
      (case qv3 => k_is)
      (case qv4 => k_is)
      (case qv5 => k_is)
      (case qv6 => k_is)
      (case qv7 => k_is)
      (case qv8 => k_is)
      (case qv9 => k_is)
      (case qv10 => k_is)
      (case rx0 => k_exc)
      (case ry0_0 => k_is)
      (case ry0_1 => k_is)
      (case ry0_2 => k_is)
      (case ry0_3 => k_is)
      (case ry0_4 => k_is)
      (case ry0_5 => k_is)
      (case ry0_6 => k_is)
      (case ry0_7 => k_is)
      (case re0_0 => kernel_rfl)
      (case ri0_0 => kit_is)
      (case ri0_1 => kit_is)
      (case rj0_0 => kit_is)
      (case rx1 => k_exc)
      (case ry1_0 => k_is)
      (case ry1_1 => k_is)
      (case ry1_2 => k_is)
      (case ry1_3 => k_is)
      (case ry1_4 => k_is)
      (case ry1_5 => k_is)
      (case ry1_6 => k_is)
      (case ry1_7 => k_is)
      (case re1_0 => kernel_rfl)
      (case ri1_0 => kit_is)
      (case ri1_1 => kit_is)
      (case rj1_0 => kit_is)
    obtain ⟨t, T⟩ := T
    have e0 := hmg.symm.trans T.m_law
    cases e0
    exact ⟨_, T.w_law, fun base _ _ => K09.ok_law T⟩
  case S => exact fun K H a ns hl _ hS => ⟨a, ns, rfl, hS, hl, fun _ => rfl⟩
