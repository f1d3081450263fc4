import PyProof.Rows.All
import Wide.All
import OpenK.AllK
import Wide.FinOn
import Lean
import PyProof.EqAt
import PyProof.EqKinds
import PyProof.TupleCall
import PySem.Challenge.RW_stonelay_k51_what_two_things_tell
set_option Elab.async false
set_option linter.all false
set_option maxRecDepth 100000
/-! THE HAND LAYER, for ints, bools, texts, own classes, LISTS and tuples (index, slices, in, append, pop ..), calls, loops. Paste it whole ahead of your own text; what your proof does not reach may be deleted. -/
namespace L2
open PySem PySem.Spec PyProof.Rows

/-- a key: an int or a str -/
abbrev Key := Sum Int Str
def keyIs : Key → Value → Bool
  | .inl k, v => Value.isInt k v
  | .inr x, v => Value.isStrOf x v
def keyH (w : World) : Key → Int
  | .inl k => hashInt k
  | .inr x => hashStr w x
theorem keyIs_shape : ∀ {k : Key} {v : Value}, keyIs k v = true → (∃ i t, k = Sum.inl i ∧ v = Value.int i t) ∨ (∃ x t, k = Sum.inr x ∧ v = Value.str x t)
  | .inl i, v, h => by
    obtain ⟨t, e⟩ := Value.isInt_shape (k := i) (v := v) h
    exact .inl ⟨i, t, rfl, e⟩
  | .inr x, v, h => by
    obtain ⟨t, e⟩ := Value.isStrOf_shape (x := x) (v := v) h
    exact .inr ⟨x, t, rfl, e⟩
theorem keyIs_int (i : Int) (t : Tok) : keyIs (.inl i) (.int i t) = true := by simp [keyIs, Value.isInt]
theorem keyIs_str (x : Str) (t : Tok) : keyIs (.inr x) (.str x t) = true := by simp [keyIs, Value.isStrOf]
theorem key_ll (a b : Int) : decide ((Sum.inl a : Key) = Sum.inl b) = (a == b) := by
  by_cases e : a = b
  · subst e; simp
  · have h : ¬ (Sum.inl a : Key) = Sum.inl b := fun q => e (Sum.inl.inj q)
    rw [decide_eq_false h]
    exact (beq_eq_false_iff_ne.mpr e).symm
theorem key_rr (a b : Str) : decide ((Sum.inr a : Key) = Sum.inr b) = decide (a = b) := by
  by_cases e : a = b
  · subst e; simp
  · have h : ¬ (Sum.inr a : Key) = Sum.inr b := fun q => e (Sum.inr.inj q)
    rw [decide_eq_false h, decide_eq_false e]
theorem key_lr (a : Int) (b : Str) : decide ((Sum.inl a : Key) = Sum.inr b) = false := decide_eq_false (fun q => nomatch q)
theorem key_rl (a : Str) (b : Int) : decide ((Sum.inr a : Key) = Sum.inl b) = false := decide_eq_false (fun q => nomatch q)

def mixKind (prog : Program) (w : World) : PySem.KeyKind prog w Key where
  is := keyIs
  hash := keyH w
  inj := fun v a b ha hb => by
    rcases keyIs_shape ha with ⟨i, t, rfl, rfl⟩ | ⟨x, t, rfl, rfl⟩
    · rcases keyIs_shape hb with ⟨j, u, rfl, e⟩ | ⟨y, u, rfl, e⟩
      · injection e with e1 _; rw [e1]
      · exact nomatch e
    · rcases keyIs_shape hb with ⟨j, u, rfl, e⟩ | ⟨y, u, rfl, e⟩
      · exact nomatch e
      · injection e with e1 _; rw [e1]
  byValue := fun k v h => by
    rcases keyIs_shape h with ⟨i, t, rfl, rfl⟩ | ⟨x, t, rfl, rfl⟩ <;> rfl
  pyHash := fun hv h => by
    rcases keyIs_shape hv with ⟨i, t, rfl, rfl⟩ | ⟨x, t, rfl, rfl⟩
    · exact wpAny_pyHash_int h
    · exact wpAny_pyHash_str h
  eqBool := fun hu hv h => by
    rcases keyIs_shape hu with ⟨i, t, rfl, rfl⟩ | ⟨x, t, rfl, rfl⟩
    · rcases keyIs_shape hv with ⟨j, u, rfl, rfl⟩ | ⟨y, u, rfl, rfl⟩
      · rw [key_ll] at h; exact wpAny_eqBool_int h
      · rw [key_lr] at h; exact SeqAt.EqAt.int_str i t y u _ _ _ _ h
    · rcases keyIs_shape hv with ⟨j, u, rfl, rfl⟩ | ⟨y, u, rfl, rfl⟩
      · rw [key_rl] at h; exact SeqAt.EqAt.str_int x t j u _ _ _ _ h
      · rw [key_rr] at h; exact wpAny_eqBool_str h
  «strs» := fun k x t v h => by
    rcases keyIs_shape h with ⟨i, u, rfl, e⟩ | ⟨y, u, rfl, e⟩
    · exact nomatch e
    · injection e with e1 _
      subst e1
      cases v <;> rfl

theorem mixKind_int (prog : Program) (w : World) (i : Int) (t : Tok) : (mixKind prog w).is (.inl i) (.int i t) = true := keyIs_int i t
theorem mixKind_str (prog : Program) (w : World) (x : Str) (t : Tok) : (mixKind prog w).is (.inr x) (.str x t) = true := keyIs_str x t
end L2

namespace L2
open PySem PySem.Spec PyProof.Rows

/-- a value, without the heap -/
inductive V where
  | non | bl (b : Bool) | int (i : Int) | str (x : Str) | byt (b : Array UInt8) | flt (b : UInt64) | ref (a : Addr) | ty (n : String)
  deriving DecidableEq

def RelV : V → Value → Prop
  | .non, u => u = Value.none
  | .bl b, u => u = Value.bool b
  | .int i, u => ∃ t, u = Value.int i t
  | .str x, u => ∃ t, u = Value.str x t
  | .byt b, u => ∃ t, u = Value.bytes b t
  | .flt b, u => ∃ t, u = Value.float b t
  | .ref a, u => u = Value.ref a
  | .ty n, u => u = Value.type n

abbrev Vals : List V → List Value → Prop := Paired RelV
theorem Vals.length {xs : List V} {us : List Value} (r : Vals xs us) : xs.length = us.length := Paired.length r
theorem Vals.get : ∀ {xs : List V} {us : List Value} {i : Nat} {x : V}, Vals xs us → xs[i]? = some x → ∃ u, us[i]? = some u ∧ RelV x u
  | _, _, _, _, .nil, e => by simp at e
  | _, _, 0, _, .cons r _, e => by simp at e; subst e; exact ⟨_, rfl, r⟩
  | _, _, i + 1, x, .cons _ t, e => by
    obtain ⟨u, h1, h2⟩ := Vals.get (i := i) (x := x) t (by simpa using e)
    exact ⟨u, by simpa using h1, h2⟩
theorem Vals.append : ∀ {xs ys : List V} {us ws : List Value}, Vals xs us → Vals ys ws → Vals (xs ++ ys) (us ++ ws)
  | _, _, _, _, .nil, s => s
  | _, _, _, _, .cons r t, s => .cons r (Vals.append t s)
theorem Vals.take : ∀ {xs : List V} {us : List Value} (n : Nat), Vals xs us → Vals (xs.take n) (us.take n)
  | _, _, 0, _ => .nil
  | _, _, _ + 1, .nil => .nil
  | _, _, n + 1, .cons r t => .cons r (Vals.take n t)
theorem Vals.drop : ∀ {xs : List V} {us : List Value} (n : Nat), Vals xs us → Vals (xs.drop n) (us.drop n)
  | _, _, 0, r => r
  | _, _, _ + 1, .nil => .nil
  | _, _, n + 1, .cons _ t => Vals.drop n t

def RelO : Option V → Option Value → Prop
  | some v, some u => RelV v u
  | none, none => True
  | _, _ => False
def KV {κ : Type} : List (κ × V) → List (κ × Value) → Prop := Paired fun (p : κ × V) (q : κ × Value) => p.1 = q.1 ∧ RelV p.2 q.2

/-- a key of a dict (00_mix): an int or a text -/
def kV : Key → V
  | .inl i => .int i
  | .inr x => .str x

/-- what stands at a tracked address -/
inductive HO where
  /-- a list -/
  | lst (xs : List V)
  /-- a tuple (never changes) -/
  | tup (xs : List V)
  /-- a dict whose keys are ints and texts; one whose keys are tuples of ints and texts (the empty one is both) -/
  | dK (kvs : List (Key × V)) | dT (kvs : List (List Key × V))
  /-- a set of ints: its members, its size -/
  | set (S : Int → Bool) (n : Nat)
  /-- an instance of the class at C, its dict at dx, its attributes -/
  | ins (C dx : Addr) (fs : List (Str × V))
  /-- the dict of the instance at x -/
  | own (x : Addr)
  /-- the dict of an exception -/
  | xd (fs : List (Str × V))
  /-- a bound method, f of x -/
  | met (f x : Addr)
  /-- a range object lo, lo + 1, .. below hi -/
  | rng (lo hi : Int)
  /-- a thing that is known to the object (the script; a dict while a loop walks it): read, never written while it is so -/
  | frz (o : Obj) (u : HO)
  /-- a code object's table -/
  | tbl (ps : Array Value)
  /-- any other thing, by what is true of its one object (a def of one's own: SetO a S n := HO.ext fun h => ..) -/
  | ext (φ : Heap → Prop)

abbrev Hp := Addr → Option HO
def upd (H : Hp) (a : Addr) (o : HO) : Hp := fun b => if b = a then some o else H b
theorem upd_same {H : Hp} {a : Addr} {o : HO} : upd H a o a = some o := by unfold upd; rw [if_pos rfl]
theorem upd_ne {H : Hp} {a b : Addr} {o : HO} (h : b ≠ a) : upd H a o b = H b := by unfold upd; rw [if_neg h]
/-- two objects of different content stand apart -/
theorem ne_of {H : Hp} {a b : Addr} {o u : HO} (h : H a = some o) (h' : H b = some u) (d : o ≠ u) : a ≠ b := by
  intro e; subst e; rw [h] at h'; exact d (Option.some.inj h')
theorem ne_of_none {H : Hp} {a b : Addr} {o : HO} (h : H a = some o) (h' : H b = none) : a ≠ b := by
  intro e; subst e; rw [h] at h'; cases h'

section
variable (P : Program) (w : World)
def ObjOk (H : Hp) (h : Heap) (a : Addr) : HO → Prop
  | .lst xs => xs.length ≤ sizeLine ∧ ∃ (its : List Value) (n : Nat), Vals xs its ∧ h.get? a = some { cls := .type "list", data := .seq its.toArray n }
  | .tup xs => xs.length ≤ sizeLine ∧ ∃ its : List Value, Vals xs its ∧ IsTup h a its.toArray
  | .dK kvs => kvs.length ≤ sizeLine ∧ (a == sysModules) = false ∧ ∃ vs, KV kvs vs ∧ h.DictOf (mixKind P w) a vs
  | .dT kvs => kvs.length ≤ sizeLine ∧ (a == sysModules) = false ∧ ∃ xs : List (List Key × Addr × Value),
      Paired (fun (p : List Key × V) (q : List Key × Addr × Value) => p.1 = q.1 ∧ H q.2.1 = some (.tup (p.1.map kV)) ∧ RelV p.2 q.2.2) kvs xs ∧
      ∃ o es ep, h.get? a = some o ∧ o.ExactDict ∧ o.data = .dict es ep ∧ es.toList = xs.map (entryOfKey (tupleKind (mixKind P w))) ∧ (xs.map (·.1)).Nodup
  | .set S n => h.SetOf (intKind P w) a S n
  | .ins C dx fs => H dx = some (.own a) ∧ fs.length ≤ 1000 ∧ dx ≠ a ∧ h.get? a = some (PySem.W.instObj C dx) ∧
      ∃ mA, h.Ns1 dx mA ∧ (∀ f, RelO (fs.lookup f) (mA f)) ∧ PySem.Within mA (fs.map (·.1))
  | .own _ => ∃ o, h.get? a = some o
  | .xd fs => ∃ mA, h.Ns1 a mA ∧ ∀ f, RelO (fs.lookup f) (mA f)
  | .rng lo hi => ∃ t u v, h.get? a = some { cls := .type "range", data := .fields #[.int lo t, .int hi u, .int 1 v] }
  | .frz o u => h.get? a = some o ∧ ObjOk H h a u
  | .tbl ps => h.get? a = some { cls := .none, data := .fields ps }
  | .met f x => h.get? a = some (PySem.W.methodObj (.ref f) (.ref x))
  | .ext φ => φ h ∧ (∃ o, h.get? a = some o) ∧ ∀ h1 h2 : Heap, φ h1 → (∀ o, h1.get? a = some o → h2.get? a = some o) → φ h2
/-- the abstract heap is held -/
def HOk (H : Hp) (h : Heap) : Prop := ∀ a o, H a = some o → ObjOk P w H h a o
end

section
variable {P : Program} {w : World} {H H' : Hp} {h h' : Heap} {a : Addr} {o : HO}
theorem ObjOk.lt (x : ObjOk P w H h a o) : a < h.objs.size := by
  cases o with
  | lst xs => obtain ⟨_, _, _, _, e⟩ := x; exact Heap.lt_size e
  | tup xs => obtain ⟨_, _, _, p⟩ := x; exact p.lt
  | dK kvs => obtain ⟨_, _, _, _, o, _, _, e, _⟩ := x; exact Heap.lt_size e
  | dT kvs => obtain ⟨_, _, _, _, o, _, _, e, _⟩ := x; exact Heap.lt_size e
  | set S n => obtain ⟨o, _, _, _, e, _⟩ := x; exact Heap.lt_size e
  | ins C dx fs => obtain ⟨_, _, _, e, _⟩ := x; exact Heap.lt_size e
  | own y => obtain ⟨_, e⟩ := x; exact Heap.lt_size e
  | xd fs => obtain ⟨_, ⟨_, _, _, e, _⟩, _⟩ := x; exact Heap.lt_size e
  | rng lo hi => obtain ⟨_, _, _, e⟩ := x; exact Heap.lt_size e
  | frz ob u => obtain ⟨e, _⟩ := x; exact Heap.lt_size e
  | tbl ps => exact Heap.lt_size (show h.get? a = some _ from x)
  | met f y => exact Heap.lt_size (show h.get? a = some _ from x)
  | ext φ => obtain ⟨_, ⟨_, e⟩, _⟩ := x; exact Heap.lt_size e
theorem Paired.mapP {α β : Type} {F G : α → β → Prop} : ∀ {l₁ : List α} {l₂ : List β}, Paired F l₁ l₂ → (∀ a b, F a b → G a b) → Paired G l₁ l₂
  | _, _, .nil, _ => .nil
  | _, _, .cons r t, f => .cons (f _ _ r) (Paired.mapP t f)
theorem Paired.imp' {α β : Type} {F G : α → β → Prop} (f : ∀ a b, F a b → G a b) {l₁ : List α} {l₂ : List β} (r : Paired F l₁ l₂) : Paired G l₁ l₂ := Paired.mapP r f
/-- what an object's description leans on: its own object, its own dict, the tuples -/
theorem ObjOk.stay (x : ObjOk P w H h a o) (k : ∀ b u, (b = a ∨ H b = some (.own a)) → h.get? b = some u → h'.get? b = some u)
    (ho : ∀ b, H b = some (.own a) → H' b = some (.own a)) (ht : ∀ b xs, H b = some (.tup xs) → H' b = some (.tup xs)) : ObjOk P w H' h' a o := by
  induction o with
  | lst xs => obtain ⟨z, its, n, r, e⟩ := x; exact ⟨z, its, n, r, k _ _ (.inl rfl) e⟩
  | tup xs => obtain ⟨z, its, r, ob, e, c⟩ := x; exact ⟨z, its, r, ob, k _ _ (.inl rfl) e, c⟩
  | dK kvs => obtain ⟨z, y, vs, r, ob, es, ep, e, c⟩ := x; exact ⟨z, y, vs, r, ob, es, ep, k _ _ (.inl rfl) e, c⟩
  | dT kvs =>
    obtain ⟨z, y, xs, r, ob, es, ep, e, c⟩ := x
    exact ⟨z, y, xs, Paired.mapP r fun p q z => ⟨z.1, ht _ _ z.2.1, z.2.2⟩, ob, es, ep, k _ _ (.inl rfl) e, c⟩
  | set S n => obtain ⟨ob, es, ep, t, e, c⟩ := x; exact ⟨ob, es, ep, t, k _ _ (.inl rfl) e, c⟩
  | ins C dx fs =>
    obtain ⟨d, z, ne, e, mA, ⟨od, es, ep, e2, c⟩, r⟩ := x
    exact ⟨ho _ d, z, ne, k _ _ (.inl rfl) e, mA, ⟨od, es, ep, k _ _ (.inr d) e2, c⟩, r⟩
  | own y => obtain ⟨ob, e⟩ := x; exact ⟨ob, k _ _ (.inl rfl) e⟩
  | xd fs => obtain ⟨mA, ⟨od, es, ep, e, c⟩, r⟩ := x; exact ⟨mA, ⟨od, es, ep, k _ _ (.inl rfl) e, c⟩, r⟩
  | rng lo hi => obtain ⟨t, u, v, e⟩ := x; exact ⟨t, u, v, k _ _ (.inl rfl) e⟩
  | frz ob u ih => obtain ⟨e, q⟩ := x; exact ⟨k _ _ (.inl rfl) e, ih q⟩
  | tbl ps =>
    have e : h.get? a = some { cls := .none, data := .fields ps } := x
    show h'.get? a = some { cls := .none, data := .fields ps }
    exact k a _ (.inl rfl) e
  | met f y =>
    have e : h.get? a = some (PySem.W.methodObj (.ref f) (.ref y)) := x
    show h'.get? a = some (PySem.W.methodObj (.ref f) (.ref y))
    exact k a _ (.inl rfl) e
  | ext φ => obtain ⟨p, ⟨o, e⟩, st⟩ := x; exact ⟨st _ _ p fun o q => k _ _ (.inl rfl) q, ⟨o, k _ _ (.inl rfl) e⟩, st⟩
theorem HOk.lt (x : HOk P w H h) (e : H a = some o) : a < h.objs.size := (x a o e).lt
theorem HOk.fresh (x : HOk P w H h) (e : h.objs.size ≤ a) : H a = none := by
  cases q : H a with
  | none => rfl
  | some u => exact absurd (Nat.lt_of_lt_of_le (x.lt q) e) (Nat.lt_irrefl _)
/-- every object of the heap is kept -/
theorem HOk.kept (x : HOk P w H h) (k : ∀ b u, h.get? b = some u → h'.get? b = some u) : HOk P w H h' := fun a o e =>
  (x a o e).stay (fun b u _ q => k b u q) (fun _ q => q) fun _ _ q => q
/-- a new object is laid and tracked -/
theorem HOk.laid (x : HOk P w H h) (k : ∀ b u, h.get? b = some u → h'.get? b = some u) (hp : h.objs.size ≤ a) (new : ObjOk P w (upd H a o) h' a o) : HOk P w (upd H a o) h' := fun b u e => by
  have hn := x.fresh hp
  by_cases hb : b = a
  · subst hb; rw [upd_same] at e; cases e; exact new
  · rw [upd_ne hb] at e
    exact (x b u e).stay (fun c v _ q => k c v q) (fun c q => by rw [upd_ne (ne_of_none q hn)]; exact q) fun c xs q => by rw [upd_ne (ne_of_none q hn)]; exact q
end

/-- what may be read as u: it is u, or a known u -/
def Rd (H : Hp) (a : Addr) (u : HO) : Prop := H a = some u ∨ ∃ o, H a = some (.frz o u)
theorem Rd.ok {P : Program} {w : World} {H : Hp} {h : Heap} {a : Addr} {u : HO} (r : Rd H a u) (x : HOk P w H h) : ObjOk P w H h a u := by
  rcases r with r | ⟨o, r⟩
  · exact x a u r
  · obtain ⟨_, q⟩ := x a _ r
    exact q
/-- what may be written -/
def Mut : Option HO → Prop
  | some (.lst _) => True
  | some (.dK _) => True
  | some (.dT _) => True
  | some (.set _ _) => True
  | some (.ins _ _ _) => True
  | some (.ext _) => True
  | _ => False
section
variable {P : Program} {w : World} {H : Hp} {h h' : Heap} {x e : Addr} {o' : HO}
/-- the object at e is changed: x itself, or the dict of the instance x -/
theorem HOk.write (ok : HOk P w H h) (mu : Mut (H x)) (he : e = x ∨ H e = some (.own x)) (k : ∀ b u, b ≠ e → h.get? b = some u → h'.get? b = some u) (heo : ∃ u, h'.get? e = some u)
    (new : ObjOk P w (upd H x o') h' x o') : HOk P w (upd H x o') h' := fun b u q => by
  have nown : ∀ c y, H c = some (.own y) → c ≠ x := fun c y r z => by subst z; rw [r] at mu; exact mu
  have ntup : ∀ c xs, H c = some (.tup xs) → c ≠ x := fun c xs r z => by subst z; rw [r] at mu; exact mu
  by_cases hb : b = x
  · subst hb; rw [upd_same] at q; cases q; exact new
  · rw [upd_ne hb] at q
    by_cases hbe : b = e
    · have q' : H b = some (.own x) := by
        rcases he with z | z
        · exact absurd (hbe.trans z) hb
        · rw [hbe]; exact z
      rw [q] at q'; cases q'
      obtain ⟨v, hv⟩ := heo
      exact ⟨v, by rw [hbe]; exact hv⟩
    · refine (ok b u q).stay (fun c v hc r => k c v ?_ r) (fun c r => by rw [upd_ne (nown c b r)]; exact r) fun c xs r => by rw [upd_ne (ntup c xs r)]; exact r
      rcases hc with rfl | hc
      · exact hbe
      · rintro rfl
        rcases he with z | z
        · exact nown c b hc z
        · rw [hc] at z; cases z; exact hb rfl
end

/-! ### kept unless tracked; of the frames at fs (the callers') the slots may change (an exception that passes writes there); of the records at ex (iterators) nothing is said -/
structure Un (fs ex : List Addr) (H H' : Hp) (h h' : Heap) : Prop where
  keep : ∀ b o, h.get? b = some o → H b = none → b ∉ fs → b ∉ ex → h'.get? b = some o
  slot : ∀ b o, h.get? b = some o → H b = none → b ∈ fs → b ∉ ex → ∃ sl, h'.get? b = some { o with slots := sl }
  free : ∀ b o, h.get? b = some o → H b = none → b ∉ ex → H' b = none
  there : ∀ b o, h.get? b = some o → b ∉ ex → ∃ o', h'.get? b = some o'
  tups : ∀ b xs, H b = some (.tup xs) → H' b = some (.tup xs)
  frzs : ∀ b o u, H b = some (.frz o u) → H' b = some (.frz o u)
  tbls : ∀ b ps, H b = some (.tbl ps) → ∃ more, H' b = some (.tbl (ps ++ more))
section
variable {fs fs' ex ex' : List Addr} {H H1 H2 : Hp} {h h1 h2 h' : Heap} {a x e : Addr} {o : HO}
theorem Un.any (u : Un fs ex H H1 h h1) {b : Addr} {ob : Obj} (q : h.get? b = some ob) (n : H b = none) (hx : b ∉ ex) : ∃ sl, h1.get? b = some { ob with slots := sl } := by
  by_cases hb : b ∈ fs
  · exact u.slot b ob q n hb hx
  · exact ⟨ob.slots, u.keep b ob q n hb hx⟩
theorem Un.kept (k : ∀ b u, h.get? b = some u → h'.get? b = some u) : Un fs ex H H h h' :=
  ⟨fun b ob q _ _ _ => k b ob q, fun b ob q _ _ _ => ⟨ob.slots, k b ob q⟩, fun _ _ _ n _ => n, fun b ob q _ => ⟨ob, k b ob q⟩, fun _ _ q => q, fun _ _ _ q => q, fun _ ps q => ⟨#[], by rw [q]; simp⟩⟩
theorem Un.refl : Un fs ex H H h h := Un.kept fun _ _ q => q
theorem Un.laid (k : ∀ b u, h.get? b = some u → h'.get? b = some u) (hp : h.objs.size ≤ a) (hn : H a = none) : Un fs ex H (upd H a o) h h' where
  keep := fun b u q _ _ _ => k b u q
  slot := fun b u q _ _ _ => ⟨u.slots, k b u q⟩
  free := fun b u q n _ => by rw [upd_ne (Nat.ne_of_lt (Nat.lt_of_lt_of_le (Heap.lt_size q) hp))]; exact n
  there := fun b u q _ => ⟨u, k b u q⟩
  tups := fun b xs q => by rw [upd_ne (ne_of_none q hn)]; exact q
  frzs := fun b u xs q => by rw [upd_ne (ne_of_none q hn)]; exact q
  tbls := fun b ps q => ⟨#[], by rw [upd_ne (ne_of_none q hn), q]; simp⟩
theorem Un.write (mu : Mut (H x)) (he : e = x ∨ H e = some (.own x)) (k : ∀ b u, b ≠ e → h.get? b = some u → h'.get? b = some u) (heo : ∃ u, h'.get? e = some u) : Un fs ex H (upd H x o) h h' := by
  have hx : ∀ b, H b = none → b ≠ x := fun b n z => by subst z; rw [n] at mu; exact mu
  have hb : ∀ b, H b = none → b ≠ e := fun b n z => by
    subst z
    rcases he with r | r
    · exact hx b n r
    · rw [n] at r; cases r
  have hm : ∀ b u, H b = some u → ¬ Mut (some u) → b ≠ x := fun b u q nm z => by subst z; rw [q] at mu; exact nm mu
  refine ⟨fun b u q n _ _ => k b u (hb b n) q, fun b u q n _ _ => ⟨u.slots, k b u (hb b n) q⟩, fun b u q n _ => by rw [upd_ne (hx b n)]; exact n, fun b u q _ => ?_,
    fun b xs q => by rw [upd_ne (hm b _ q fun z => z)]; exact q, fun b u xs q => by rw [upd_ne (hm b _ q fun z => z)]; exact q, fun b ps q => ⟨#[], by rw [upd_ne (hm b _ q fun z => z), q]; simp⟩⟩
  by_cases hbe : b = e
  · subst hbe; exact heo
  · exact ⟨u, k b u hbe q⟩
end

/-! ### the heap without what is tracked -/
def trk (h : Heap) (H : Hp) : List Addr := (List.range h.objs.size).filter fun a => (H a).isSome
def hidT (h : Heap) (H : Hp) : Heap := PySem.W.hideAll h (trk h H)
theorem hidT_size (h : Heap) (H : Hp) : (hidT h H).objs.size = h.objs.size := PySem.W.hideAll_size _ _
theorem hidT_get {h : Heap} {H : Hp} {b : Addr} {o : Obj} (e : h.get? b = some o) (n : H b = none) : (hidT h H).get? b = some o :=
  PySem.W.hideAll_get _ e fun hm => by
    have q : (H b).isSome = true := (List.mem_filter.mp hm).2
    rw [n] at q; simp at q
theorem of_hidT {h : Heap} {H : Hp} {b : Addr} {o : Obj} (e : (hidT h H).get? b = some o) : h.get? b = some o ∧ H b = none := by
  have e' : h.get? b = some o := PySem.W.of_hideAll (trk h H) e
  refine ⟨e', ?_⟩
  cases q : H b with
  | none => rfl
  | some x =>
    have hm : b ∈ trk h H := List.mem_filter.mpr ⟨List.mem_range.mpr (Heap.lt_size e'), by simp [q]⟩
    have z : (hidT h H).get? b = none := PySem.W.hideAll_none (trk h H) hm
    rw [z] at e; cases e

/-! ### OpenK's ledger, filled with every new object but one -/
def allNews (g h : Heap) (L : Addr) : List (Addr × Obj) := (List.range h.objs.size).filterMap fun a => if a = L ∨ (g.get? a).isSome = true then none else (h.get? a).map fun o => (a, o)
def rest (g h : Heap) (L d : Addr) : List (Addr × Obj) := (allNews g h L).filter fun p => decide (p.1 ≠ d)
end L2

namespace L2
open PySem PySem.Spec PyProof.Rows

/-- the module's facts, over the base: the heap at the law's entry without what is tracked there -/
structure Mod (K : PySem.W.Frag) (mg : Str → Option Value) (base : Heap) : Prop where
  kin : K.In base
  glob : base.Ns mainGlobals mg
  blt : ∃ mb, base.Ns builtinsNs mb ∧ ∀ x : Str, x ≠ "__name__" → mb x = bootBuiltins x
  nolimit : base.NoLimit

/-- the context: a def's body (or a comprehension's block) running. base: fixed through the whole law; s₀, H₀: the entry; outer: the frames whose slots others may change (a def's callers); stack: all frames that run;
   ex: iterators that were made ahead of the entry and are walked here (a comprehension's); fn: the names whose cells were made at the entry (a def: all; a comprehension's block: its own); calm: not within an except suite; pn: pins that every state bears; xe: what is wanted of an exception that leaves the code -/
structure Cx where
  prog : Program
  w : World
  K : PySem.W.Frag
  mg : Str → Option Value
  base : Heap
  A : Around
  N : List Str
  s₀ : Shared
  H₀ : Hp
  env : Env
  outer : List Env
  stack : List Env
  ex : List Addr
  fn : Str → Bool
  calm : Bool
  pn : List (Addr × Obj)
  xe : Value → Shared → Prop
/-- the callers' frames -/
def frs (l : List Env) : List Addr := l.filterMap (·.frame)
abbrev Cx.fs (X : Cx) : List Addr := frs X.outer

def Vis (sc : Scope) (x : Str) : Prop := sc.names.lookup x = some .local ∨ sc.names.lookup x = some .cell ∨ sc.names.lookup x = some .free
def Loc (sc : Scope) (x : Str) : Prop := sc.names.lookup x = some .local ∨ sc.names.lookup x = some .cell
def Look (env : Env) (h : Heap) (m : Str → Option Value) (x : Str) (u : Value) : Prop :=
  (env.kindOf x = some .local ∧ m x = some u) ∨ ((env.kindOf x = some .cell ∨ env.kindOf x = some .free) ∧ ∃ c, env.cells.lookup x = some c ∧ h.IsCell c (some u))

structure Cx.Ok (X : Cx) : Prop where
  mod : Mod X.K X.mg X.base
  kind : X.env.scope.kind = .function
  glob : X.env.globals = mainGlobals
  blt : X.env.builtins = builtinsNs
  above : X.s₀.heap.objs.size ≤ X.env.locals
  inj : ∀ x y c, X.env.cells.lookup x = some c → X.env.cells.lookup y = some c → x = y
  has : ∀ x, (X.env.kindOf x = some .cell ∨ X.env.kindOf x = some .free) → ∃ c, X.env.cells.lookup x = some c
  cab : ∀ x c, X.fn x = true → X.env.cells.lookup x = some c → X.s₀.heap.objs.size ≤ c
  hd : X.calm = true → X.A.handled = none
  frames : X.A.frames = some X.stack
  stk : X.stack = X.outer ∨ (X.stack = X.env :: X.outer ∧ X.env.frame = some X.env.locals)
  exf : ∀ b ∈ X.ex, b ≠ X.env.locals ∧ ∀ x c, X.env.cells.lookup x = some c → c ≠ b
  bs : ∀ b o, X.base.get? b = some o → X.s₀.heap.get? b = some o ∧ X.H₀ b = none
  bsz : X.base.objs.size ≤ X.s₀.heap.objs.size
  noex : ∀ b o, X.base.get? b = some o → b ∉ X.ex
  exfs : ∀ b ∈ X.ex, b ∉ X.fs
  funs : X.s₀.heap.FunFrames X.base X.outer
  frf : ∀ b ∈ X.fs, X.H₀ b = none

structure Inv (X : Cx) (pins : List (Addr × Obj)) (σ : List (Option V)) (H : Hp) (s : Shared) : Prop where
  ok : X.Ok
  os : s.os = X.s₀.os
  bare : AllBare s.gens
  base : Un X.fs X.ex X.H₀ H X.s₀.heap s.heap
  loc : ∃ m, s.heap.Ns X.env.locals m ∧ ∀ (i : Nat) (x : Str) (v : V), X.N[i]? = some x → σ[i]? = some (some v) → Vis X.env.scope x → ∃ u, RelV v u ∧ Look X.env s.heap m x u
  cell : ∀ x c, X.env.cells.lookup x = some c → ∃ v, s.heap.IsCell c v
  free : H X.env.locals = none
  freeC : ∀ x c, X.env.cells.lookup x = some c → H c = none
  pin : ∀ p ∈ X.pn ++ pins, s.heap.get? p.1 = some p.2 ∧ H p.1 = none ∧ p.1 ≠ X.env.locals ∧ p.1 ∉ X.fs ∧ ∀ v, p.2.data ≠ .cell v
  hok : HOk X.prog X.w H s.heap
  len : σ.length = X.N.length

section
variable {X : Cx} {pins : List (Addr × Obj)} {σ : List (Option V)} {H H' : Hp} {s : Shared} {h' : Heap}

theorem Cx.Ok.nofr (ok : X.Ok) {b : Addr} {o : Obj} (e : X.base.get? b = some o) : b ∉ X.fs := fun hb => by
  have := (ok.funs.mem hb).1
  rw [e] at this; cases this
theorem Inv.bs (I : Inv X pins σ H s) : ∀ b o, X.base.get? b = some o → s.heap.get? b = some o ∧ H b = none := fun b o e =>
  ⟨I.base.keep b o (I.ok.bs b o e).1 (I.ok.bs b o e).2 (I.ok.nofr e) (I.ok.noex b o e), I.base.free b o (I.ok.bs b o e).1 (I.ok.bs b o e).2 (I.ok.noex b o e)⟩
theorem Inv.bk (I : Inv X pins σ H s) : ∀ b o, X.base.get? b = some o → s.heap.get? b = some o := fun b o e => (I.bs b o e).1
theorem Inv.mod (I : Inv X pins σ H s) : Mod X.K X.mg X.base := I.ok.mod
theorem Inv.kIn (I : Inv X pins σ H s) : X.K.In s.heap := I.ok.mod.kin.keeps I.bk
theorem Inv.lt (I : Inv X pins σ H s) : X.env.locals < s.heap.objs.size := let ⟨_, hn, _⟩ := I.loc; hn.lt
theorem Inv.sz (I : Inv X pins σ H s) : X.s₀.heap.objs.size ≤ s.heap.objs.size := Nat.le_trans I.ok.above (Nat.le_of_lt I.lt)
theorem Inv.nofs (I : Inv X pins σ H s) {a : Addr} (h : s.heap.objs.size ≤ a) : a ∉ X.fs := fun hb => by
  obtain ⟨_, o, ho, _⟩ := I.ok.funs.mem hb
  exact absurd (Nat.lt_of_lt_of_le (Heap.lt_size ho) (Nat.le_trans I.sz h)) (Nat.lt_irrefl _)
theorem Inv.cne (I : Inv X pins σ H s) : ∀ x c, X.env.cells.lookup x = some c → c ≠ X.env.locals := fun x c e z => by
  obtain ⟨v, o, ho, hd⟩ := I.cell x c e
  obtain ⟨m, ⟨o', es, ep, ho', hd', _⟩, _⟩ := I.loc
  rw [z, ho'] at ho; cases ho; rw [hd'] at hd; cases hd
theorem Inv.funs (I : Inv X pins σ H s) : s.heap.FunFrames X.base X.outer := by
  have all : ∀ (l : List Env), (∀ b ∈ frs l, b ∈ X.fs) → X.s₀.heap.FunFrames X.base l → s.heap.FunFrames X.base l := by
    intro l
    induction l with
    | nil => intro _ _; trivial
    | cons env r ih =>
      intro hs hl
      obtain ⟨hk, ⟨L, o, hf, hn, ho, hd⟩, hr⟩ := hl
      have hL : L ∈ X.fs := hs L (by unfold frs; rw [List.filterMap_cons, hf]; exact List.mem_cons_self)
      obtain ⟨sl, e⟩ := I.base.slot L o ho (I.ok.frf L hL) hL fun z => I.ok.exfs L z hL
      exact ⟨hk, ⟨L, _, hf, hn, e, hd⟩, ih (fun b hb => hs b (by unfold frs; rw [List.filterMap_cons, hf]; exact List.mem_cons_of_mem _ hb)) hr⟩
  exact all X.outer (fun _ hb => hb) I.ok.funs

/-- the frames that run, for a call -/
theorem Inv.stack (I : Inv X pins σ H s) : s.heap.FunFrames X.base X.stack := by
  rcases I.ok.stk with e | ⟨e, hf⟩
  · rw [e]; exact I.funs
  · rw [e]
    obtain ⟨m, hn, _⟩ := I.loc
    refine .cons (by rw [I.ok.kind]; decide) hf hn ?_ I.funs
    exact Heap.get?_none_of_le (Nat.le_trans I.ok.bsz I.ok.above)
theorem Inv.stkSub (I : Inv X pins σ H s) : ∀ b ∈ frs X.stack, b ∈ X.env.locals :: X.fs := fun b hb => by
  rcases I.ok.stk with e | ⟨e, hf⟩
  · rw [e] at hb; exact List.mem_cons_of_mem _ hb
  · rw [e] at hb
    unfold frs at hb
    rw [List.filterMap_cons, hf] at hb
    exact hb
theorem Inv.stkFree (I : Inv X pins σ H s) : ∀ b ∈ frs X.stack, H b = none := fun b hb => by
  rcases List.mem_cons.mp (I.stkSub b hb) with e | hb
  · rw [e]; exact I.free
  · obtain ⟨_, o, ho, _⟩ := I.ok.funs.mem hb
    exact I.base.free b o ho (I.ok.frf b hb) fun z => I.ok.exfs b z hb

/-- THE STEP: the untracked objects but the frame and the records at ch are kept (the callers' frames up to slots), the frame's map is kept, the new abstract heap is held -/
theorem Inv.step {g' : Array GenState} {t' : Nat} {d' : Drawn} {ch : List Addr} (I : Inv X pins σ H s)
    (hch : ∀ b ∈ ch, (b ∈ X.ex ∨ X.s₀.heap.objs.size ≤ b) ∧ b ≠ X.env.locals ∧ (∀ x c, X.env.cells.lookup x = some c → c ≠ b) ∧ ∀ p ∈ X.pn ++ pins, p.1 ≠ b)
    (keep : ∀ b o, b ≠ X.env.locals → b ∉ X.fs → b ∉ ch → s.heap.get? b = some o → H b = none → h'.get? b = some o)
    (slot : ∀ b o, b ≠ X.env.locals → b ∈ X.fs → b ∉ ch → s.heap.get? b = some o → H b = none → ∃ sl, h'.get? b = some { o with slots := sl }) (free : ∀ b o, b ∉ ch → s.heap.get? b = some o → H b = none → H' b = none)
    (there : ∀ b o, b ∉ ch → s.heap.get? b = some o → ∃ o', h'.get? b = some o')
    (tups : ∀ b xs, H b = some (.tup xs) → H' b = some (.tup xs)) (frzs : ∀ b o u, H b = some (.frz o u) → H' b = some (.frz o u)) (tbls : ∀ b ps, H b = some (.tbl ps) → ∃ more, H' b = some (.tbl (ps ++ more)))
    (ns : ∀ m, s.heap.Ns X.env.locals m → h'.Ns X.env.locals m) (hok : HOk X.prog X.w H' h') (hg : AllBare g') :
    Inv X pins σ H' { s with heap := h', gens := g', drawn := d', toks := t' } := by
  have neL : ∀ b o, X.s₀.heap.get? b = some o → b ≠ X.env.locals := fun b o e => Nat.ne_of_lt (Nat.lt_of_lt_of_le (Heap.lt_size e) I.ok.above)
  have neC : ∀ b o, X.s₀.heap.get? b = some o → b ∉ X.ex → b ∉ ch := fun b o e hx hb => by
    rcases (hch b hb).1 with z | z
    · exact hx z
    · exact absurd (Nat.lt_of_lt_of_le (Heap.lt_size e) z) (Nat.lt_irrefl _)
  have cellK : ∀ x c, X.env.cells.lookup x = some c → ∀ v, s.heap.IsCell c v → h'.IsCell c v := fun x c e v ⟨o, ho, hd⟩ => by
    have nch : c ∉ ch := fun z => (hch c z).2.2.1 x c e rfl
    by_cases hc : c ∈ X.fs
    · obtain ⟨sl, q⟩ := slot c o (I.cne x c e) hc nch ho (I.freeC x c e)
      exact ⟨_, q, hd⟩
    · exact ⟨o, keep c o (I.cne x c e) hc nch ho (I.freeC x c e), hd⟩
  refine ⟨I.ok, I.os, hg, ⟨fun b o e n hb hx => ?_, fun b o e n hb hx => ?_, fun b o e n hx => ?_, fun b o e hx => ?_, fun b xs e => tups b xs (I.base.tups b xs e), fun b o xs e => frzs b o xs (I.base.frzs b o xs e), fun b ps e => ?_⟩, ?_, fun x c e => ?_, ?_, fun x c e => ?_, fun p hp => ?_, hok, I.len⟩
  · exact keep b o (neL b o e) hb (neC b o e hx) (I.base.keep b o e n hb hx) (I.base.free b o e n hx)
  · obtain ⟨sl, e1⟩ := I.base.slot b o e n hb hx
    obtain ⟨sl', e2⟩ := slot b _ (neL b o e) hb (neC b o e hx) e1 (I.base.free b o e n hx)
    exact ⟨sl', e2⟩
  · obtain ⟨o', e1⟩ := I.base.there b o e hx
    exact free b o' (neC b o e hx) e1 (I.base.free b o e n hx)
  · obtain ⟨o', e1⟩ := I.base.there b o e hx
    exact there b o' (neC b o e hx) e1
  · obtain ⟨m1, e1⟩ := I.base.tbls b ps e
    obtain ⟨m2, e2⟩ := tbls b _ e1
    exact ⟨m1 ++ m2, by rw [e2, Array.append_assoc]⟩
  · obtain ⟨m, hn, hl⟩ := I.loc
    refine ⟨m, ns m hn, fun i x v e1 e2 e3 => ?_⟩
    obtain ⟨u, r, l⟩ := hl i x v e1 e2 e3
    refine ⟨u, r, ?_⟩
    rcases l with l | ⟨k, c, e, z⟩
    · exact .inl l
    · exact .inr ⟨k, c, e, cellK x c e _ z⟩
  · obtain ⟨v, z⟩ := I.cell x c e
    exact ⟨v, cellK x c e v z⟩
  · obtain ⟨m, ⟨o, _, _, ho, _⟩, _⟩ := I.loc
    exact free _ o (fun z => (hch _ z).2.1 rfl) ho I.free
  · obtain ⟨v, o, ho, hd⟩ := I.cell x c e
    exact free c o (fun z => (hch c z).2.2.1 x c e rfl) ho (I.freeC x c e)
  · obtain ⟨e, n, ne, nf, d⟩ := I.pin p hp
    have nch : p.1 ∉ ch := fun z => (hch p.1 z).2.2.2 p hp rfl
    exact ⟨keep p.1 p.2 ne nf nch e n, free p.1 p.2 nch e n, ne, nf, d⟩
/-- .. where the frame's own object is kept too -/
theorem Inv.un {t' : Nat} (I : Inv X pins σ H s) (u : Un X.fs [] H H' s.heap h') (hok : HOk X.prog X.w H' h') : Inv X pins σ H' { s with heap := h', toks := t' } := by
  obtain ⟨m, ⟨o, es, ep, ho, r⟩, _⟩ := id I.loc
  obtain ⟨sl, hL⟩ := u.any ho I.free (by simp)
  exact I.step (g' := s.gens) (d' := s.drawn) (ch := []) (fun _ z => nomatch z) (fun b o _ hb _ e n => u.keep b o e n hb (by simp)) (fun b o _ hb _ e n => u.slot b o e n hb (by simp)) (fun b o _ e n => u.free b o e n (by simp)) (fun b o _ e => u.there b o e (by simp)) u.tups u.frzs u.tbls (fun m' hm => by
    obtain ⟨o', es', ep', ho', r'⟩ := hm
    rw [ho] at ho'; cases ho'
    exact ⟨_, es', ep', hL, r'⟩) hok I.bare
/-- behind a call (or a comprehension's block): the slots of this frame may have changed too, the records at ch may have turned -/
theorem Inv.call {g' : Array GenState} {t' : Nat} {d' : Drawn} {ch : List Addr} (I : Inv X pins σ H s) (u : Un (frs X.stack) ch H H' s.heap h') (hok : HOk X.prog X.w H' h') (hg : AllBare g')
    (hch : ∀ b ∈ ch, (b ∈ X.ex ∨ X.s₀.heap.objs.size ≤ b) ∧ b ≠ X.env.locals ∧ (∀ x c, X.env.cells.lookup x = some c → c ≠ b) ∧ ∀ p ∈ X.pn ++ pins, p.1 ≠ b) :
    Inv X pins σ H' { s with heap := h', gens := g', drawn := d', toks := t' } := by
  obtain ⟨m, ⟨o, es, ep, ho, r⟩, _⟩ := id I.loc
  obtain ⟨sl, hL⟩ := u.any ho I.free fun z => (hch _ z).2.1 rfl
  exact I.step (ch := ch) hch (fun b o hL hb hc e n => u.keep b o e n (fun z => (List.mem_cons.mp (I.stkSub b z)).elim hL hb) hc) (fun b o _ _ hc e n => u.any e n hc) (fun b o hc e n => u.free b o e n hc) (fun b o hc e => u.there b o e hc) u.tups u.frzs u.tbls (fun m' hm => by
    obtain ⟨o', es', ep', ho', r'⟩ := hm
    rw [ho] at ho'; cases ho'
    exact ⟨_, es', ep', hL, r'⟩) hok hg
/-- an untracked record of ours (an iterator) has turned -/
theorem Inv.turned {t' : Nat} {it : Addr} (I : Inv X pins σ H s) (k : ∀ b o, b ≠ it → s.heap.get? b = some o → h'.get? b = some o) (hn : H it = none) (hL : it ≠ X.env.locals)
    (h1 : it ∈ X.ex ∨ X.s₀.heap.objs.size ≤ it) (h2 : ∀ x c, X.env.cells.lookup x = some c → c ≠ it) (h3 : ∀ p ∈ X.pn ++ pins, p.1 ≠ it) : Inv X pins σ H { s with heap := h', toks := t' } := by
  have nit : ∀ b u, H b = some u → b ≠ it := fun b u e z => by rw [z, hn] at e; cases e
  refine I.step (g' := s.gens) (d' := s.drawn) (ch := [it]) (fun b hb => ?_) (fun b o _ _ hc e _ => k b o (fun z => hc (by simp [z])) e) (fun b o _ _ hc e _ => ⟨o.slots, k b o (fun z => hc (by simp [z])) e⟩) (fun _ _ _ _ n => n)
    (fun b o hc e => ⟨o, k b o (fun z => hc (by simp [z])) e⟩) (fun _ _ e => e) (fun _ _ _ e => e) (fun b ps e => ⟨#[], by rw [e]; simp⟩) (fun m hm => ?_) (fun b u e => ?_) I.bare
  · have e : b = it := by simpa using hb
    subst e
    exact ⟨h1, hL, h2, h3⟩
  · obtain ⟨o, es, ep, ho, r⟩ := hm
    exact ⟨o, es, ep, k _ o (Ne.symm hL) ho, r⟩
  · refine (I.hok b u e).stay (fun c v hc q => k c v ?_ q) (fun _ q => q) fun _ _ q => q
    rcases hc with z | z
    · rw [z]; exact nit b u e
    · exact nit c _ z
theorem Inv.tok (I : Inv X pins σ H s) (t : Nat) : Inv X pins σ H { s with toks := t } := I.un (h' := s.heap) (t' := t) Un.refl I.hok
/-- all objects kept -/
theorem Inv.kept {t' : Nat} (I : Inv X pins σ H s) (k : ∀ b u, s.heap.get? b = some u → h'.get? b = some u) : Inv X pins σ H { s with heap := h', toks := t' } := I.un (Un.kept k) (I.hok.kept k)
/-- a new object laid and tracked -/
theorem Inv.laid {a : Addr} {o : HO} {t' : Nat} (I : Inv X pins σ H s) (k : ∀ b u, s.heap.get? b = some u → h'.get? b = some u) (hp : s.heap.objs.size ≤ a) (new : ObjOk X.prog X.w (upd H a o) h' a o) :
    Inv X pins σ (upd H a o) { s with heap := h', toks := t' } := I.un (Un.laid k hp (I.hok.fresh hp)) (I.hok.laid k hp new)
/-- an object written -/
theorem Inv.write {x e : Addr} {o : HO} {t' : Nat} (I : Inv X pins σ H s) (mu : Mut (H x)) (he : e = x ∨ H e = some (.own x)) (k : ∀ b u, b ≠ e → s.heap.get? b = some u → h'.get? b = some u) (heo : ∃ u, h'.get? e = some u)
    (new : ObjOk X.prog X.w (upd H x o) h' x o) : Inv X pins σ (upd H x o) { s with heap := h', toks := t' } := I.un (Un.write mu he k heo) (I.hok.write mu he k heo new)
theorem Inv.pins_of {pins' : List (Addr × Obj)} (I : Inv X pins σ H s) (h : ∀ p ∈ pins', s.heap.get? p.1 = some p.2 ∧ H p.1 = none ∧ p.1 ≠ X.env.locals ∧ p.1 ∉ X.fs ∧ ∀ v, p.2.data ≠ .cell v) : Inv X pins' σ H s :=
  ⟨I.ok, I.os, I.bare, I.base, I.loc, I.cell, I.free, I.freeC, fun p hp => (List.mem_append.mp hp).elim (fun z => I.pin p (List.mem_append_left _ z)) (h p), I.hok, I.len⟩

theorem nodup_ix {N : List Str} (hN : N.Nodup) {i j : Nat} {x : Str} (a : N[i]? = some x) (b : N[j]? = some x) : i = j := by
  obtain ⟨h1, e1⟩ := List.getElem?_eq_some_iff.mp a
  obtain ⟨h2, e2⟩ := List.getElem?_eq_some_iff.mp b
  exact (List.getElem_inj hN).mp (e1.trans e2.symm)

/-- a name is stored; what changed -/
theorem store_ok2 {M : Model} {A : Around} {E : Value → Shared → Prop} {i : Nat} {x : Str} {v : V} {u : Value} {Q : Unit → Shared → Prop} (I : Inv X pins σ H s) (hN : X.N.Nodup) (hi : X.N[i]? = some x) (hx : Loc X.env.scope x) (r : RelV v u)
    (h : ∀ s', Inv X pins (σ.set i (some v)) H s' → (∃ a, Heap.SameBut a s.heap s'.heap ∧ (a = X.env.locals ∨ X.env.cells.lookup x = some a)) → Q () s') (hf : X.fn x = true ∨ X.env.scope.names.lookup x = some .local := by first | exact .inl rfl | exact .inr rfl | assumption) : wpAny M A (storeName X.env x u) Q E s := by
  obtain ⟨m, hn, hl⟩ := id I.loc
  have hcls : (X.env.scope.kind == .class || (X.env.scope.kind == .module && X.env.locals != X.env.globals)) = false := by rw [I.ok.kind]; rfl
  have hiσ : i < σ.length := by rw [I.len]; exact (List.getElem?_eq_some_iff.mp hi).1
  have cne := I.cne
  have tracked : ∀ {a : Addr} {h' : Heap}, (∃ o, s.heap.get? a = some o ∧ H a = none) → Heap.SameBut a s.heap h' → HOk X.prog X.w H h' := fun {a h'} ha hs b ob e => by
    obtain ⟨_, _, hfree⟩ := ha
    refine (I.hok b ob e).stay (fun c w' hc q => (hs.2 c ?_).trans q) (fun _ q => q) fun _ _ q => q
    rintro rfl
    rcases hc with rfl | hc
    · rw [hfree] at e; cases e
    · rw [hfree] at hc; cases hc
  rcases hx with hk | hk
  · refine wpAny_storeName_local hk hn (fun h' hn' hs => ?_) hcls
    obtain ⟨oL, _, _, hoL, _⟩ := id hn
    refine h _ ⟨I.ok, I.os, I.bare, ⟨fun b o e n hb hx => ?_, fun b o e n hb hx => ?_, I.base.free, fun b o e hx => ?_, I.base.tups, I.base.frzs, I.base.tbls⟩, ⟨_, hn', fun j y v' e1 e2 e3 => ?_⟩, fun y c e => ?_, I.free, I.freeC, fun p hp => ?_, tracked ⟨oL, hoL, I.free⟩ hs, by simpa using I.len⟩ ⟨_, hs, .inl rfl⟩
    · exact (hs.2 b (Nat.ne_of_lt (Nat.lt_of_lt_of_le (Heap.lt_size e) I.ok.above))).trans (I.base.keep b o e n hb hx)
    · obtain ⟨sl, e1⟩ := I.base.slot b o e n hb hx
      exact ⟨sl, (hs.2 b (Nat.ne_of_lt (Nat.lt_of_lt_of_le (Heap.lt_size e) I.ok.above))).trans e1⟩
    · obtain ⟨o', e1⟩ := I.base.there b o e hx
      exact ⟨o', (hs.2 b (Nat.ne_of_lt (Nat.lt_of_lt_of_le (Heap.lt_size e) I.ok.above))).trans e1⟩
    · by_cases hj : j = i
      · subst hj
        rw [hi] at e1; cases e1
        rw [List.getElem?_set_self hiσ] at e2
        cases e2
        exact ⟨u, r, .inl ⟨hk, by simp⟩⟩
      · rw [List.getElem?_set_ne (Ne.symm hj)] at e2
        obtain ⟨u', r', q⟩ := hl j y v' e1 e2 e3
        refine ⟨u', r', ?_⟩
        rcases q with ⟨k, e⟩ | ⟨k, c, e, z⟩
        · refine .inl ⟨k, ?_⟩
          have : y ≠ x := fun e => hj (nodup_ix hN e1 (e ▸ hi))
          simp [this, e]
        · exact .inr ⟨k, c, e, z.sameBut hs (cne y c e)⟩
    · obtain ⟨w', z⟩ := I.cell y c e
      exact ⟨w', z.sameBut hs (cne y c e)⟩
    · obtain ⟨e, n, ne, nf, d⟩ := I.pin p hp
      exact ⟨(hs.2 p.1 ne).trans e, n, ne, nf, d⟩
  · have hfn : X.fn x = true := by
      rcases hf with z | z
      · exact z
      · rw [z] at hk; cases hk
    obtain ⟨c, hc⟩ := I.ok.has x (.inl hk)
    obtain ⟨w', z⟩ := I.cell x c hc
    refine wpAny_storeName_cell I.ok.kind hk hc z (fun h' hc' hs => ?_)
    obtain ⟨oc, hoc, hocd⟩ := id z
    refine h { s with heap := h' } ⟨I.ok, I.os, I.bare, ⟨fun b o e n hb hx => ?_, fun b o e n hb hx => ?_, I.base.free, fun b o e hx => ?_, I.base.tups, I.base.frzs, I.base.tbls⟩, ⟨m, hn.sameBut hs (Ne.symm (cne x c hc)), fun j y v' e1 e2 e3 => ?_⟩, fun y c' e => ?_, I.free, I.freeC, fun p hp => ?_, tracked ⟨oc, hoc, I.freeC x c hc⟩ hs, by simpa using I.len⟩ ⟨c, hs, .inr hc⟩
    · exact (hs.2 b (Nat.ne_of_lt (Nat.lt_of_lt_of_le (Heap.lt_size e) (I.ok.cab x c hfn hc)))).trans (I.base.keep b o e n hb hx)
    · obtain ⟨sl, e1⟩ := I.base.slot b o e n hb hx
      exact ⟨sl, (hs.2 b (Nat.ne_of_lt (Nat.lt_of_lt_of_le (Heap.lt_size e) (I.ok.cab x c hfn hc)))).trans e1⟩
    · obtain ⟨o', e1⟩ := I.base.there b o e hx
      exact ⟨o', (hs.2 b (Nat.ne_of_lt (Nat.lt_of_lt_of_le (Heap.lt_size e) (I.ok.cab x c hfn hc)))).trans e1⟩
    · by_cases hj : j = i
      · subst hj
        rw [hi] at e1; cases e1
        rw [List.getElem?_set_self hiσ] at e2
        cases e2
        exact ⟨u, r, .inr ⟨.inl hk, c, hc, hc'⟩⟩
      · rw [List.getElem?_set_ne (Ne.symm hj)] at e2
        obtain ⟨u', r', q⟩ := hl j y v' e1 e2 e3
        refine ⟨u', r', ?_⟩
        rcases q with q | ⟨k, c', e, z'⟩
        · exact .inl q
        · refine .inr ⟨k, c', e, z'.sameBut hs ?_⟩
          rintro rfl
          exact hj (nodup_ix hN e1 (I.ok.inj _ _ _ e hc ▸ hi))
    · by_cases hcc : c' = c
      · subst hcc; exact ⟨_, hc'⟩
      · obtain ⟨w2, z2⟩ := I.cell y c' e
        exact ⟨w2, z2.sameBut hs hcc⟩
    · obtain ⟨e, n, ne, nf, d⟩ := I.pin p hp
      refine ⟨(hs.2 p.1 ?_).trans e, n, ne, nf, d⟩
      intro q
      rw [q, hoc] at e
      have q' : oc = p.2 := Option.some.inj e
      exact d w' (by rw [← q']; exact hocd)
theorem store_ok {M : Model} {A : Around} {E : Value → Shared → Prop} {i : Nat} {x : Str} {v : V} {u : Value} {Q : Unit → Shared → Prop} (I : Inv X pins σ H s) (hN : X.N.Nodup) (hi : X.N[i]? = some x) (hx : Loc X.env.scope x) (r : RelV v u)
    (h : ∀ s', Inv X pins (σ.set i (some v)) H s' → Q () s') (hf : X.fn x = true ∨ X.env.scope.names.lookup x = some .local := by first | exact .inl rfl | exact .inr rfl | assumption) : wpAny M A (storeName X.env x u) Q E s :=
  store_ok2 I hN hi hx r (fun s' I' _ => h s' I') hf
/-- behind a call or a block, the state as it is -/
theorem Inv.call' {s' : Shared} {ch : List Addr} (I : Inv X pins σ H s) (ho : s'.os = s.os) (u : Un (frs X.stack) ch H H' s.heap s'.heap) (hok : HOk X.prog X.w H' s'.heap) (hg : AllBare s'.gens)
    (hch : ∀ b ∈ ch, (b ∈ X.ex ∨ X.s₀.heap.objs.size ≤ b) ∧ b ≠ X.env.locals ∧ (∀ x c, X.env.cells.lookup x = some c → c ≠ b) ∧ ∀ p ∈ X.pn ++ pins, p.1 ≠ b) : Inv X pins σ H' s' := by
  obtain ⟨h', g', d', t', o'⟩ := s'
  have e : o' = s.os := ho
  subst e
  exact I.call (g' := g') (t' := t') (d' := d') u hok hg hch
end

/-! ### the judgements -/
/-- an exception: its class, its own dict's address (where it has one), the abstract heap behind it -/
abbrev XK := Value → Option Addr → Hp → Prop
abbrev St := List (Option V)
abbrev VK := V → Hp → Prop
/-- an expression's reading; a test's; an argument list's -/
abbrev TE := St → Hp → VK → Prop
abbrev TT := St → Hp → (Bool → Hp → Prop) → Prop
abbrev TA := St → Hp → (List V → Hp → Prop) → Prop
/-- what is wanted behind a statement -/
structure Ends where
  nx : St → Hp → Prop
  rt : VK
  bk : St → Hp → Prop := fun _ _ => False
  ct : St → Hp → Prop := fun _ _ => False
abbrev TS := Ends → St → Hp → Prop

def EP (X : Cx) (pins : List (Addr × Obj)) (σ : St) (Q : VK) (u : Value) (s' : Shared) : Prop := ∃ v H', Inv X pins σ H' s' ∧ RelV v u ∧ Q v H'
def TP (X : Cx) (pins : List (Addr × Obj)) (σ : St) (Q : Bool → Hp → Prop) (b : Bool) (s' : Shared) : Prop := ∃ H', Inv X pins σ H' s' ∧ Q b H'
def AP (X : Cx) (pins : List (Addr × Obj)) (σ : St) (Q : List V → Hp → Prop) (us : List Value) (s' : Shared) : Prop := ∃ vs H', Inv X pins σ H' s' ∧ Vals vs us ∧ Q vs H'
def SP (X : Cx) (pins : List (Addr × Obj)) (D : Ends) (f : Flow) (s' : Shared) : Prop :=
  match f with
  | .next => ∃ σ' H', Inv X pins σ' H' s' ∧ D.nx σ' H'
  | .brk => ∃ σ' H', Inv X pins σ' H' s' ∧ D.bk σ' H'
  | .cont => ∃ σ' H', Inv X pins σ' H' s' ∧ D.ct σ' H'
  | .ret u => ∃ v σ' H', Inv X pins σ' H' s' ∧ RelV v u ∧ D.rt v H'

def PE (X : Cx) (e : Expr) (t : TE) : Prop :=
  ∀ (pins : List (Addr × Obj)) (s : Shared) (σ : St) (H : Hp) (Q : VK), Inv X pins σ H s → t σ H Q → wpAny (model X.prog X.w) X.A (eval e X.env) (EP X pins σ Q) X.xe s
def PT (X : Cx) (e : Expr) (t : TT) : Prop :=
  ∀ (pins : List (Addr × Obj)) (s : Shared) (σ : St) (H : Hp) (Q : Bool → Hp → Prop), Inv X pins σ H s → t σ H Q → wpAny (model X.prog X.w) X.A (isTrue e X.env (eval e X.env)) (TP X pins σ Q) X.xe s
/-- a test whatever its 'whole' is (and, or) -/
def PW (X : Cx) (e : Expr) (t : TT) : Prop :=
  ∀ (whole : Sem Value) (pins : List (Addr × Obj)) (s : Shared) (σ : St) (H : Hp) (Q : Bool → Hp → Prop), Inv X pins σ H s → t σ H Q → wpAny (model X.prog X.w) X.A (isTrue e X.env whole) (TP X pins σ Q) X.xe s
theorem PW.pt {X : Cx} {e : Expr} {t : TT} (h : PW X e t) : PT X e t := h _
/-- an argument list (no star), from the left -/
def PA (X : Cx) (es : List Expr) (t : TA) : Prop :=
  ∀ (pos : Pos) (pins : List (Addr × Obj)) (s : Shared) (σ : St) (H : Hp) (Q : List V → Hp → Prop), Inv X pins σ H s → t σ H Q → wpAny (model X.prog X.w) X.A (spliced (backTo pos (starEach es X.env))) (AP X pins σ Q) X.xe s
def PS (X : Cx) (st : Stmt) (t : TS) : Prop :=
  ∀ (pins : List (Addr × Obj)) (s : Shared) (σ : St) (H : Hp) (D : Ends), Inv X pins σ H s → t D σ H → wpAny (model X.prog X.w) X.A (exec st X.env) (SP X pins D) X.xe s
def PSs (X : Cx) (st : List Stmt) (t : TS) : Prop :=
  ∀ (pins : List (Addr × Obj)) (s : Shared) (σ : St) (H : Hp) (D : Ends), Inv X pins σ H s → t D σ H → wpAny (model X.prog X.w) X.A (execs st X.env) (SP X pins D) X.xe s
/-- weaken the end -/
theorem thn {α : Type} {t : Sem α} {Q Q' : α → Shared → Prop} {M : Model} {A : Around} {E : Value → Shared → Prop} {s : Shared} (h : wpAny M A t Q E s) (hQ : ∀ a s, Q a s → Q' a s) : wpAny M A t Q' E s := wpAny_mono h hQ fun _ _ x => x
end L2

namespace L2
open PySem PySem.Spec PyProof.Rows
section
variable {X : Cx}


/-! ### names and constants -/
def tVar (i : Nat) : TE := fun σ H Q => ∃ v, σ[i]? = some (some v) ∧ Q v H
def tC (v : V) : TE := fun _ H Q => Q v H
theorem pe_var {i : Nat} {x : Str} {pos : Pos} (hN : X.N[i]? = some x) (hv : Vis X.env.scope x) (hd : (x == ("__debug__" : Str)) = false := by decide) (hcd : (x == ("__classdict__" : Str)) = false := by decide) : PE X (.Name x pos) (tVar i) := by
  intro pins s σ H Q I h
  obtain ⟨v, e, h⟩ := h
  obtain ⟨m, hn, hl⟩ := I.loc
  obtain ⟨u, r, l⟩ := hl i x v hN e hv
  have fin : EP X pins σ Q u s := ⟨v, H, I, r, h⟩
  rcases l with ⟨hk, hm⟩ | ⟨hk, c, hc, hcell⟩
  · exact wpAny_Name (wpAny_loadName_local I.ok.kind hk hn hm fin) hd
  · rcases hk with hk | hk
    · exact wpAny_Name (wpAny_loadName_cell I.ok.kind hk hc hcell fin) hd
    · exact wpAny_Name (wpAny_loadName_free I.ok.kind hk hc hcell fin hcd) hd
theorem pe_int {i j pos} : PE X (.Constant (.int i) j pos) (tC (.int i)) := fun _ _ _ H _ I h => wpAny_Constant_int ⟨.int i, H, I.tok _, ⟨_, rfl⟩, h⟩
theorem pe_bl {b j pos} : PE X (.Constant (.bool b) j pos) (tC (.bl b)) := fun _ _ _ H _ I h => Constant_bool ⟨.bl b, H, I, rfl, h⟩
theorem pe_non {j pos} : PE X (.Constant .none j pos) (tC .non) := fun _ _ _ H _ I h => Constant_none ⟨.non, H, I, rfl, h⟩
theorem pe_str {x j pos} : PE X (.Constant (.str x) j pos) (tC (.str x)) := fun _ _ _ H _ I h => Calls.Constant_str ⟨.str x, H, I.tok _, ⟨_, rfl⟩, h⟩

/-- a global name of the def -/
def Gl (X : Cx) (x : Str) : Prop := X.env.kindOf x = some .globalImplicit
theorem ld_glob {E : Value → Shared → Prop} {pins : List (Addr × Obj)} {s : Shared} {σ : St} {H : Hp} {x : Str} {u : Value} {pos : Pos} {Q : Value → Shared → Prop} (I : Inv X pins σ H s) (hg : Gl X x) (hm : X.mg x = some u) (h : Q u s)
    (hd : (x == ("__debug__" : Str)) = false := by decide) : wpAny (model X.prog X.w) X.A (eval (.Name x pos) X.env) Q E s :=
  Calls.Name_function_global I.ok.kind hg (Calls.loadGlobal_global (by rw [I.ok.glob]; exact I.mod.glob.keeps I.bk) hm h) hd
theorem ld_blt {E : Value → Shared → Prop} {pins : List (Addr × Obj)} {s : Shared} {σ : St} {H : Hp} {x : Str} {u : Value} {pos : Pos} {Q : Value → Shared → Prop} (I : Inv X pins σ H s) (hg : Gl X x) (hm : X.mg x = none) (hv : bootBuiltins x = some u) (h : Q u s)
    (hn : x ≠ "__name__" := by decide) (hd : (x == ("__debug__" : Str)) = false := by decide) : wpAny (model X.prog X.w) X.A (eval (.Name x pos) X.env) Q E s := by
  obtain ⟨mb, h1, h2⟩ := I.mod.blt
  exact Calls.Name_function_global I.ok.kind hg (Calls.loadGlobal_builtin (by rw [I.ok.glob]; exact I.mod.glob.keeps I.bk) hm (by rw [I.ok.blt]; exact h1.keeps I.bk) ((h2 x hn).trans hv) h) hd
/-- a module's constant, a class, a function, as a value -/
theorem pe_glob {x : Str} {v : V} {u : Value} {pos : Pos} (hg : Gl X x) (hm : X.mg x = some u) (r : RelV v u) (hd : (x == ("__debug__" : Str)) = false := by decide) : PE X (.Name x pos) (tC v) :=
  fun _ _ _ H _ I h => ld_glob I hg hm ⟨v, H, I, r, h⟩ hd
theorem pe_bltn {x : Str} {v : V} {u : Value} {pos : Pos} (hg : Gl X x) (hm : X.mg x = none) (hv : bootBuiltins x = some u) (r : RelV v u) (hn : x ≠ "__name__" := by decide) (hd : (x == ("__debug__" : Str)) = false := by decide) : PE X (.Name x pos) (tC v) :=
  fun _ _ _ H _ I h => ld_blt I hg hm hv ⟨v, H, I, r, h⟩ hn hd

/-! ### arithmetic -/
/-- two ints -/
def t2I (ta tb : TE) (k : Int → Int → Hp → Prop) : St → Hp → Prop := fun σ H => ta σ H fun x H1 => tb σ H1 fun y H2 => ∃ i j, x = .int i ∧ y = .int j ∧ k i j H2
def tAdd (ta tb : TE) : TE := fun σ H Q => t2I ta tb (fun i j H2 => Q (.int (i + j)) H2) σ H
def tSub (ta tb : TE) : TE := fun σ H Q => t2I ta tb (fun i j H2 => Q (.int (i - j)) H2) σ H
/-- the left factor below 2^64 -/
def tMul (ta tb : TE) : TE := fun σ H Q => t2I ta tb (fun i j H2 => (-(2 ^ 64) < i ∧ i < 2 ^ 64) ∧ Q (.int (i * j)) H2) σ H
variable {a b : Expr} {ta tb : TE} {pos : Pos}

/-! ### comparisons -/
def PC (X : Cx) (op : CmpOp) (a b : Expr) (t : TE) : Prop :=
  ∀ (pins : List (Addr × Obj)) (s : Shared) (σ : St) (H : Hp) (Q : VK), Inv X pins σ H s → t σ H Q →
    wpAny (model X.prog X.w) X.A (eval a X.env) (fun v s₁ => wpAny (model X.prog X.w) X.A (eval b X.env) (fun u s₂ => wpAny (model X.prog X.w) X.A (compareOp op v u) (EP X pins σ Q) X.xe s₂) X.xe s₁) X.xe s
def tCmp (p : Int → Int → Bool) (ta tb : TE) : TE := fun σ H Q => t2I ta tb (fun i j H2 => Q (.bl (p i j)) H2) σ H
abbrev tLt : TE → TE → TE := tCmp fun i j => decide (i < j)
abbrev tLe : TE → TE → TE := tCmp fun i j => decide (i ≤ j)
abbrev tGt : TE → TE → TE := tCmp fun i j => decide (j < i)
abbrev tGe : TE → TE → TE := tCmp fun i j => decide (j ≤ i)
abbrev tEqI : TE → TE → TE := tCmp fun i j => decide (i = j)
abbrev tNeI : TE → TE → TE := tCmp fun i j => !decide (i = j)
/-- is None -/
def tIsN (ta : TE) : TE := fun σ H Q => ta σ H fun x H1 => Q (.bl (decide (x = .non))) H1
def tNotN (ta : TE) : TE := fun σ H Q => ta σ H fun x H1 => Q (.bl (!decide (x = .non))) H1
/-- a comparison as a value, as a test -/
def tB (t : TE) : TT := fun σ H Q => t σ H fun x H1 => ∃ c, x = .bl c ∧ Q c H1
theorem pt_cmp {op : CmpOp} {t : TE} (h : PC X op a b t) (h1 : behindInMarks op b = false := by first | exact nobehind _ (by decide) (by decide) | rfl) : PT X (.Compare a [op] [b] pos) (tB t) := by
  intro pins s σ H Q I hw
  refine wpAny_isTrue_Compare1 (thn (h pins s σ H _ I hw) fun v s1 h1 => thn h1 fun u s2 h2 => thn h2 fun c s3 ⟨x, H1, I1, r1, q1⟩ => ?_) h1
  obtain ⟨d, rfl, q⟩ := q1
  cases r1
  exact wpAny_truthy_bool ⟨H1, I1, q⟩

/-! ### and, or, not -/
variable {tA tB' : TT} {rest : List Expr}
def tAnd (t u : TT) : TT := fun σ H Q => t σ H fun c H1 => if c = true then u σ H1 Q else Q false H1
def tOr (t u : TT) : TT := fun σ H Q => t σ H fun c H1 => if c = true then Q true H1 else u σ H1 Q
def tNot (t : TT) : TT := fun σ H Q => t σ H fun c H1 => Q (!c) H1
theorem pw_and1 (ha : PT X a tA) : PW X (.BoolOp .And [a] pos) tA := by
  intro wh pins s σ H Q I h
  refine isTrue_and (thn (ha pins s σ H Q I h) fun c s1 e => ?_)
  cases c with
  | true => exact isTrue_and_nil e
  | false => exact e
theorem pw_or1 (ha : PT X a tA) : PW X (.BoolOp .Or [a] pos) tA := by
  intro wh pins s σ H Q I h
  refine isTrue_or (thn (ha pins s σ H Q I h) fun c s1 e => ?_)
  cases c with
  | false => exact isTrue_or_nil e
  | true => exact e
theorem pw_and (ha : PT X a tA) (hb : PW X (.BoolOp .And (b :: rest) pos) tB') : PW X (.BoolOp .And (a :: b :: rest) pos) (tAnd tA tB') := by
  intro wh pins s σ H Q I h
  refine isTrue_and (thn (ha pins s σ H _ I h) fun c s1 ⟨H1, I1, q1⟩ => ?_)
  cases c with
  | true => exact hb wh pins s1 σ H1 Q I1 q1
  | false => exact ⟨H1, I1, q1⟩
theorem pw_or (ha : PT X a tA) (hb : PW X (.BoolOp .Or (b :: rest) pos) tB') : PW X (.BoolOp .Or (a :: b :: rest) pos) (tOr tA tB') := by
  intro wh pins s σ H Q I h
  refine isTrue_or (thn (ha pins s σ H _ I h) fun c s1 ⟨H1, I1, q1⟩ => ?_)
  cases c with
  | true => exact ⟨H1, I1, q1⟩
  | false => exact hb wh pins s1 σ H1 Q I1 q1
theorem pt_not (ha : PT X a tA) : PT X (.UnaryOp .Not a pos) (tNot tA) := by
  intro pins s σ H Q I h
  exact isTrue_not (ha pins s σ H (fun c H1 => Q (!c) H1) I h)
/-- .. as values (bools) -/
def tAndV (ta tb : TE) : TE := fun σ H Q => ta σ H fun x H1 => ∃ c, x = .bl c ∧ if c = true then tb σ H1 Q else Q (.bl false) H1
def tOrV (ta tb : TE) : TE := fun σ H Q => ta σ H fun x H1 => ∃ c, x = .bl c ∧ if c = true then Q (.bl true) H1 else tb σ H1 Q
def tNotV (ta : TE) : TE := fun σ H Q => ta σ H fun x H1 => ∃ c, x = .bl c ∧ Q (.bl (!c)) H1
theorem pe_one {op} {t : TE} (h : PE X a t) : PE X (.BoolOp op [a] pos) t := fun pins s σ H Q I hw => BoolOp_one (h pins s σ H Q I hw)
theorem pe_and (ha : PE X a ta) (hb : PE X (.BoolOp .And (b :: rest) pos) tb) : PE X (.BoolOp .And (a :: b :: rest) pos) (tAndV ta tb) := by
  intro pins s σ H Q I h
  refine BoolOp_and (thn (ha pins s σ H _ I h) fun v s1 ⟨x, H1, I1, r1, q1⟩ => ?_)
  obtain ⟨c, rfl, q1⟩ := q1
  cases r1
  refine wpAny_truthy_bool ?_
  cases c with
  | true => exact hb pins s1 σ H1 Q I1 q1
  | false => exact ⟨.bl false, H1, I1, rfl, q1⟩
/-- a if t else b -/
def tIf (t : TT) (ta tb : TE) : TE := fun σ H Q => t σ H fun c H1 => if c = true then ta σ H1 Q else tb σ H1 Q
theorem pe_ifExp {c : Expr} (hc : PT X c tA) (ha : PE X a ta) (hb : PE X b tb) : PE X (.IfExp c a b pos) (tIf tA ta tb) := by
  intro pins s σ H Q I h
  refine wpAny_IfExp (thn (hc pins s σ H _ I h) fun d s1 ⟨H1, I1, q1⟩ => ?_)
  cases d with
  | true => exact ha pins s1 σ H1 Q I1 q1
  | false => exact hb pins s1 σ H1 Q I1 q1
end
end L2

namespace L2
open PySem PySem.Spec PyProof.Rows

/-! ### a list, a tuple that is read: tracked, frozen, or an object of the module -/
def SqL (K : PySem.W.Frag) (H : Hp) (a : Addr) (xs : List V) : Prop :=
  Rd H a (.lst xs) ∨
    ∃ (o : Obj) (its : Array Value) (n : Nat), K.lookup a = some o ∧ o.cls = .type "list" ∧ o.dict = none ∧ o.data = .seq its n ∧ its.size ≤ sizeLine ∧ Vals xs its.toList
def SqT (K : PySem.W.Frag) (H : Hp) (a : Addr) (xs : List V) : Prop :=
  Rd H a (.tup xs) ∨
    ∃ (o : Obj) (its : Array Value) (n : Nat), K.lookup a = some o ∧ o.cls = .type "tuple" ∧ o.data = .seq its n ∧ its.size ≤ sizeLine ∧ Vals xs its.toList
def absV : Value → Option V
  | .none => some .non
  | .bool b => some (.bl b)
  | .int i _ => some (.int i)
  | .str x _ => some (.str x)
  | .bytes b _ => some (.byt b)
  | .float b _ => some (.flt b)
  | .ref a => some (.ref a)
  | .type n => some (.ty n)
  | _ => none
theorem RelV.abs {x : V} {u : Value} (r : RelV x u) : absV u = some x := by
  cases x with
  | non => cases r; rfl
  | bl _ => cases r; rfl
  | int _ => obtain ⟨t, rfl⟩ := r; rfl
  | str _ => obtain ⟨t, rfl⟩ := r; rfl
  | byt _ => obtain ⟨t, rfl⟩ := r; rfl
  | flt _ => obtain ⟨t, rfl⟩ := r; rfl
  | ref _ => cases r; rfl
  | ty _ => cases r; rfl
theorem RelV.inj {x y : V} {u : Value} (r : RelV x u) (q : RelV y u) : x = y := Option.some.inj (r.abs.symm.trans q.abs)
theorem Vals.inj : ∀ {xs ys : List V} {us : List Value}, Vals xs us → Vals ys us → xs = ys
  | _, _, _, .nil, .nil => rfl
  | _, _, _, .cons r t, .cons r' t' => by rw [r.inj r', Vals.inj t t']
section
variable {X : Cx} {pins : List (Addr × Obj)} {σ : St} {H : Hp} {s : Shared} {a : Addr} {xs ys : List V}
theorem SqL.of {K : PySem.W.Frag} (h : H a = some (.lst xs)) : SqL K H a xs := .inl (.inl h)
theorem SqT.of {K : PySem.W.Frag} (h : H a = some (.tup xs)) : SqT K H a xs := .inl (.inl h)
theorem Inv.list (I : Inv X pins σ H s) (h : SqL X.K H a xs) : ∃ its : List Value, Vals xs its ∧ PlainL s.heap a its.toArray ∧ xs.length ≤ sizeLine := by
  rcases h with h | ⟨o, its, n, hk, hc, hd, hs, hz, r⟩
  · obtain ⟨z, its, n, r, e⟩ := h.ok I.hok
    exact ⟨its, r, ⟨_, n, e, rfl, rfl, rfl⟩, z⟩
  · refine ⟨its.toList, r, ⟨o, n, I.kIn a o hk, hc, hd, by simpa using hs⟩, ?_⟩
    have e := r.length
    simp only [Array.length_toList] at e
    omega
theorem Inv.tuple (I : Inv X pins σ H s) (h : SqT X.K H a xs) : ∃ its : List Value, Vals xs its ∧ IsTup s.heap a its.toArray ∧ xs.length ≤ sizeLine := by
  rcases h with h | ⟨o, its, n, hk, hc, hs, hz, r⟩
  · obtain ⟨z, its, r, p⟩ := h.ok I.hok
    exact ⟨its, r, p, z⟩
  · refine ⟨its.toList, r, ⟨o, I.kIn a o hk, hc, n, by simpa using hs⟩, ?_⟩
    have e := r.length
    simp only [Array.length_toList] at e
    omega
theorem Inv.list_inj (I : Inv X pins σ H s) (h : SqL X.K H a xs) (h' : SqL X.K H a ys) : xs = ys := by
  obtain ⟨its, r, ⟨o, n, e, _, _, d⟩, _⟩ := I.list h
  obtain ⟨its', r', ⟨o', n', e', _, _, d'⟩, _⟩ := I.list h'
  rw [e] at e'; cases e'
  rw [d] at d'
  injection d' with d1 _
  have : its = its' := by simpa using congrArg Array.toList d1
  subst this
  exact r.inj r'
theorem Inv.tuple_inj (I : Inv X pins σ H s) (h : SqT X.K H a xs) (h' : SqT X.K H a ys) : xs = ys := by
  obtain ⟨its, r, ⟨o, e, _, n, d⟩, _⟩ := I.tuple h
  obtain ⟨its', r', ⟨o', e', _, n', d'⟩, _⟩ := I.tuple h'
  rw [e] at e'; cases e'
  rw [d] at d'
  injection d' with d1 _
  have : its = its' := by simpa using congrArg Array.toList d1
  subst this
  exact r.inj r'
end

/-! ### another wish about exceptions -/
abbrev Cx.wish (X : Cx) (E : Value → Shared → Prop) : Cx := { X with xe := E }
/-- no exception leaves -/
abbrev Cx.nox (X : Cx) : Cx := X.wish fun _ _ => False
theorem Cx.Ok.wish {X : Cx} (ok : X.Ok) (E : Value → Shared → Prop) : (X.wish E).Ok :=
  ⟨ok.mod, ok.kind, ok.glob, ok.blt, ok.above, ok.inj, ok.has, ok.cab, ok.hd, ok.frames, ok.stk, ok.exf, ok.bs, ok.bsz, ok.noex, ok.exfs, ok.funs, ok.frf⟩
theorem Cx.Ok.unwish {X : Cx} {E : Value → Shared → Prop} (ok : (X.wish E).Ok) : X.Ok :=
  ⟨ok.mod, ok.kind, ok.glob, ok.blt, ok.above, ok.inj, ok.has, ok.cab, ok.hd, ok.frames, ok.stk, ok.exf, ok.bs, ok.bsz, ok.noex, ok.exfs, ok.funs, ok.frf⟩
section
variable {X : Cx} {pins : List (Addr × Obj)} {σ : St} {H : Hp} {s : Shared} {E : Value → Shared → Prop}
theorem Inv.wish (I : Inv X pins σ H s) (E : Value → Shared → Prop) : Inv (X.wish E) pins σ H s := ⟨I.ok.wish E, I.os, I.bare, I.base, I.loc, I.cell, I.free, I.freeC, I.pin, I.hok, I.len⟩
theorem Inv.unwish (I : Inv (X.wish E) pins σ H s) : Inv X pins σ H s := ⟨I.ok.unwish, I.os, I.bare, I.base, I.loc, I.cell, I.free, I.freeC, I.pin, I.hok, I.len⟩
theorem SP.unwish {D : Ends} {f : Flow} {s' : Shared} (h : SP (X.wish E) pins D f s') : SP X pins D f s' := by
  cases f with
  | next => obtain ⟨σ', H', I, q⟩ := h; exact ⟨σ', H', I.unwish, q⟩
  | brk => obtain ⟨σ', H', I, q⟩ := h; exact ⟨σ', H', I.unwish, q⟩
  | cont => obtain ⟨σ', H', I, q⟩ := h; exact ⟨σ', H', I.unwish, q⟩
  | ret u => obtain ⟨v, σ', H', I, r, q⟩ := h; exact ⟨v, σ', H', I.unwish, r, q⟩
theorem PSs.nox {st : List Stmt} {t : TS} (h : PSs X.nox st t) : PSs X st t := fun pins s σ H D I hw =>
  wpAny_mono (h pins s σ H D (I.wish _) hw) (fun _ _ q => q.unwish) fun _ _ z => False.elim z
end

/-! ### blocks and small statements -/
section
variable {X : Cx} {st : Stmt} {rest : List Stmt} {t u : TS} {e : Expr} {te : TE} {pos : Pos}
def tNext : TS := fun D σ H => D.nx σ H
def tSeq (t u : TS) : TS := fun D σ H => t { D with nx := u D } σ H
theorem pss_nil : PSs X [] tNext := fun _ _ σ H _ I h => wpAny_execs_nil ⟨σ, H, I, h⟩
theorem pss_cons (h1 : PS X st t) (h2 : PSs X rest u) : PSs X (st :: rest) (tSeq t u) := by
  intro pins s σ H D I h
  refine wpAny_execs_cons (thn (h1 pins s σ H { D with nx := u D } I h) fun f s1 q => ?_)
  cases f with
  | next =>
    obtain ⟨σ', H', I', q⟩ := q
    exact h2 pins s1 σ' H' D I' q
  | ret v => exact q
  | brk => exact q
  | cont => exact q
theorem pss_one (h1 : PS X st t) : PSs X [st] t := by
  intro pins s σ H D I h
  refine wpAny_execs_cons (thn (h1 pins s σ H D I h) fun f s1 q => ?_)
  cases f with
  | next => exact wpAny_execs_nil q
  | ret v => exact q
  | brk => exact q
  | cont => exact q
def tBreak : TS := fun D σ H => D.bk σ H
def tCont : TS := fun D σ H => D.ct σ H
/-- in a def's body nothing is shown -/
theorem Inv.quiet {pins : List (Addr × Obj)} {σ : St} {H : Hp} {s : Shared} (I : Inv X pins σ H s) : interactive X.env = false := by simp [interactive, I.ok.kind]
/-- an expression whose value is dropped -/
def tDrop (te : TE) : TS := fun D σ H => te σ H fun _ H1 => D.nx σ H1
theorem ps_expr (he : PE X e te) (hs : swapsWith e none pos.line X.env = pure false := by rfl) : PS X (.Expr e pos) (tDrop te) := by
  intro pins s σ H D I h
  exact wpAny_Expr_any (thn (he pins s σ H _ I h) fun v s1 ⟨x, H1, I1, r1, q1⟩ => ⟨σ, H1, I1, q1⟩) I.quiet hs
def tRet (te : TE) : TS := fun D σ H => te σ H D.rt
theorem ps_ret (he : PE X e te) : PS X (.Return (some e) pos) (tRet te) := by
  intro pins s σ H D I h
  exact wpAny_Return_some (thn (he pins s σ H _ I h) fun v s1 ⟨x, H1, I1, r1, q1⟩ => ⟨x, σ, H1, I1, r1, q1⟩)
def tRetN : TS := fun D _ H => D.rt .non H
def tIfS (c : TT) (t u : TS) : TS := fun D σ H => c σ H fun b H1 => if b = true then t D σ H1 else u D σ H1
theorem ps_if {c : Expr} {a b : List Stmt} {tc : TT} (hc : PT X c tc) (ha : PSs X a t) (hb : PSs X b u) : PS X (.If c a b pos) (tIfS tc t u) := by
  intro pins s σ H D I h
  refine wpAny_If (thn (hc pins s σ H _ I h) fun d s1 ⟨H1, I1, q1⟩ => ?_)
  cases d with
  | true => exact ha pins s1 σ H1 D I1 q1
  | false => exact hb pins s1 σ H1 D I1 q1
/-- code that the proof never comes to -/
def tNever : TS := fun _ _ _ => False
end

/-! ### targets -/
abbrev TG := V → St → Hp → (St → Hp → Prop) → Prop
abbrev TGs := List V → St → Hp → (St → Hp → Prop) → Prop
def PG (X : Cx) (target : Expr) (t : TG) : Prop :=
  ∀ (pins : List (Addr × Obj)) (s : Shared) (σ : St) (H : Hp) (v : V) (u : Value) (Q : St → Hp → Prop), Inv X pins σ H s → RelV v u → t v σ H Q →
    wpAny (model X.prog X.w) X.A (assign target X.env u) (fun _ s' => ∃ σ' H', Inv X pins σ' H' s' ∧ Q σ' H') X.xe s
/-- several targets, one after another -/
def PGs (X : Cx) (ts : List Expr) (t : TGs) : Prop :=
  ∀ (pins : List (Addr × Obj)) (s : Shared) (σ : St) (H : Hp) (vs : List V) (us : List Value) (Q : St → Hp → Prop), Inv X pins σ H s → Vals vs us → t vs σ H Q →
    wpAny (model X.prog X.w) X.A (assignInOrder ((assignEach ts X.env).map (·.2)) us) (fun _ s' => ∃ σ' H', Inv X pins σ' H' s' ∧ Q σ' H') X.xe s
/-- o[i] = v, by values -/
abbrev TSet := V → V → V → Hp → (Hp → Prop) → Prop
def PSet (X : Cx) (t : TSet) : Prop :=
  ∀ (pins : List (Addr × Obj)) (s : Shared) (σ : St) (H : Hp) (o i v : V) (ov iv u : Value) (Q : Hp → Prop), Inv X pins σ H s → RelV o ov → RelV i iv → RelV v u → t o i v H Q →
    wpAny (model X.prog X.w) X.A (setItem ov iv u) (fun _ s' => ∃ H', Inv X pins σ H' s' ∧ Q H') X.xe s
/-- a op= b, by values -/
abbrev TIp := V → V → Hp → VK → Prop
def PIp (X : Cx) (op : Operator) (t : TIp) : Prop :=
  ∀ (pins : List (Addr × Obj)) (s : Shared) (σ : St) (H : Hp) (x y : V) (v u : Value) (Q : VK), Inv X pins σ H s → RelV x v → RelV y u → t x y H Q →
    wpAny (model X.prog X.w) X.A (inplaceOp op v u) (EP X pins σ Q) X.xe s
section
variable {X : Cx} {pos : Pos}
def gName (i : Nat) : TG := fun v σ H Q => Q (σ.set i (some v)) H
theorem pg_name {i : Nat} {x : Str} (hN : X.N.Nodup) (hi : X.N[i]? = some x) (hx : Loc X.env.scope x) (hf : X.fn x = true ∨ X.env.scope.names.lookup x = some .local := by first | exact .inl rfl | exact .inr rfl | assumption) : PG X (.Name x pos) (gName i) := by
  intro pins s σ H v u Q I r h
  exact wpAny_assign_Name (store_ok I hN hi hx r (fun s' I' => ⟨_, H, I', h⟩) hf)
def gNil : TGs := fun vs σ H Q => vs = [] ∧ Q σ H
def gCons (t : TG) (u : TGs) : TGs := fun vs σ H Q => ∃ v r, vs = v :: r ∧ t v σ H fun σ' H' => u r σ' H' Q
theorem pgs_nil : PGs X [] gNil := by
  intro pins s σ H vs us Q I r h
  obtain ⟨e, h⟩ := h
  subst e
  cases r
  exact assignInOrder_nil ⟨σ, H, I, h⟩
theorem pgs_cons {e : Expr} {es : List Expr} {t : TG} {u : TGs} (h1 : PG X e t) (h2 : PGs X es u)
    (hs : (assignEach (e :: es) X.env).map (·.2) = assign e X.env :: (assignEach es X.env).map (·.2) := by rfl) : PGs X (e :: es) (gCons t u) := by
  intro pins s σ H vs us Q I r h
  obtain ⟨v, vr, e1, h⟩ := h
  subst e1
  cases r with
  | cons r rr =>
    rw [hs]
    refine assignInOrder_cons (thn (h1 pins s σ H _ _ _ I r h) fun _ s1 ⟨σ1, H1, I1, q1⟩ => ?_)
    exact h2 pins s1 σ1 H1 _ _ Q I1 rr q1
/-- (a, b, ..) = a tuple of that length -/
def gTup (K : PySem.W.Frag) (n : Nat) (t : TGs) : TG := fun v σ H Q => ∃ a xs, v = .ref a ∧ SqT K H a xs ∧ xs.length = n ∧ t xs σ H Q
theorem pg_tup {es : List Expr} {k : Nat} {t : TGs} {n : Nat} (hc : X.calm = true) (h : PGs X es t)
    (hn : (assignEach es X.env).length = n := by rfl) (hst : (assignEach es X.env).findIdx? (·.1) = none := by rfl) : PG X (.Tuple es k pos) (gTup X.K n t) := by
  intro pins s σ H v u Q I r hw
  obtain ⟨a, xs, e1, hq, hl, hw⟩ := hw
  subst e1
  cases r
  obtain ⟨its, rv, ht, hz⟩ := I.tuple hq
  refine assign_Tuple_tuple (I.ok.hd hc) ht (by simp [hn, ← hl, rv.length]) hst fun h' hx => ?_
  have I1 : Inv X pins σ H { s with heap := h' } := I.kept (t' := s.toks) fun b o e => hx b o (Nat.ne_of_lt (Heap.lt_size e)) e
  exact h pins _ σ H xs _ Q I1 (by simpa using rv) hw
/-- o[i] = .. -/
def gSub (to ti : TE) (t : TSet) : TG := fun v σ H Q => to σ H fun o H1 => ti σ H1 fun i H2 => t o i v H2 fun H3 => Q σ H3
/-- target = value -/
def tAsg (te : TE) (g : TG) : TS := fun D σ H => te σ H fun x H1 => g x σ H1 D.nx
theorem ps_asg {tg e : Expr} {te : TE} {g : TG} (he : PE X e te) (hg : PG X tg g) (hs : swapsWithSole [tg] e pos.line X.env = pure false := by rfl) (hw : swappedStores [tg] e X.env = pure none := by rfl)
    (h1 : (assignEach [tg] X.env).map (·.2) = [assign tg X.env] := by rfl) : PS X (.Assign [tg] e pos) (tAsg te g) := by
  intro pins s σ H D I h
  refine wpAny_Assign_stores (thn (he pins s σ H _ I h) fun v s1 ⟨x, H1, I1, r1, q1⟩ => ?_) hs hw
  rw [h1]
  exact thn (hg pins s1 σ H1 x v _ I1 r1 q1) fun _ s2 q => q
/-- name = value -/
theorem ps_set {i : Nat} {x : Str} {e : Expr} {te : TE} {pos' : Pos} (hN : X.N.Nodup) (hi : X.N[i]? = some x) (hx : Loc X.env.scope x) (he : PE X e te) (hs : swapsWith e (some (.Name x pos')) pos.line X.env = pure false := by rfl) (hf : X.fn x = true ∨ X.env.scope.names.lookup x = some .local := by first | exact .inl rfl | exact .inr rfl | assumption) :
    PS X (.Assign [.Name x pos'] e pos) (tAsg te (gName i)) := by
  intro pins s σ H D I h
  refine wpAny_Assign_Name (thn (he pins s σ H _ I h) fun v s1 ⟨y, H1, I1, r1, q1⟩ => ?_) hs
  exact store_ok I1 hN hi hx r1 (fun s2 I2 => ⟨_, H1, I2, q1⟩) hf
/-- a, b = x, y with plain local names: stored from the right; the pair itself is not tracked (the opening rows as in PyProof/Rows/TupAssign.lean:23) -/
def tPar (i j : Nat) (ta : TA) : TS := fun D σ H => ta σ H fun vs H1 => ∃ v w, vs = [v, w] ∧ D.nx ((σ.set i (some v)).set j (some w)) H1
/-- name op= e -/
def tAug (i : Nat) (te : TE) (ti : TIp) : TS := fun D σ H => ∃ x, σ[i]? = some (some x) ∧ te σ H fun y H1 => ti x y H1 fun z H2 => D.nx (σ.set i (some z)) H2
/-- o[i] op= e -/
def tAugS (to ti te : TE) (tget : V → V → Hp → VK → Prop) (tip : TIp) (tset : TSet) : TS := fun D σ H => to σ H fun o H1 => ti σ H1 fun i H2 => tget o i H2 fun x H3 => te σ H3 fun y H4 => tip x y H4 fun z H5 => tset o i z H5 fun H6 => D.nx σ H6
/-- o[i], by values -/
def PGet (X : Cx) (t : V → V → Hp → VK → Prop) : Prop :=
  ∀ (pins : List (Addr × Obj)) (s : Shared) (σ : St) (H : Hp) (o i : V) (ov iv : Value) (Q : VK), Inv X pins σ H s → RelV o ov → RelV i iv → t o i H Q →
    wpAny (model X.prog X.w) X.A (getItem ov iv) (EP X pins σ Q) X.xe s
/-- ints -/
def ipI (f : Int → Int → Int) : TIp := fun x y H Q => ∃ i j, x = .int i ∧ y = .int j ∧ Q (.int (f i j)) H
end

/-! ### while -/
section
variable {X : Cx} {pos : Pos}
/-- the invariant W with its measure -/
def tWhile (c : TT) (tb : TS) : TS := fun D σ H => ∃ W : Nat → St → Hp → Prop, (∃ m, W m σ H) ∧ ∀ m σ H, W m σ H →
  c σ H fun b H1 => if b = true then ∃ N : St → Hp → Prop, (∀ σ' H', N σ' H' → ∃ m', m' < m ∧ W m' σ' H') ∧ tb { D with nx := N, ct := N, bk := D.nx } σ H1 else D.nx σ H1
end

/-! ### what a loop or a comprehension walks -/
/-- at turn i: it yields x (the heap may grow), or it stops -/
structure It where
  go : Nat → Hp → Prop
  yld : Nat → Hp → V → Hp → Prop
  stop : Nat → Hp → Prop
/-- the iterator's own objects may turn: they are not the frame's, not pinned, younger than the entry (or a comprehension's own) -/
def FpOk (X : Cx) (pins : List (Addr × Obj)) (H : Hp) (b : Addr) : Prop :=
  H b = none ∧ b ≠ X.env.locals ∧ b ∉ X.fs ∧ (b ∈ X.ex ∨ X.s₀.heap.objs.size ≤ b) ∧ (∀ x c, X.env.cells.lookup x = some c → c ≠ b) ∧ ∀ p ∈ X.pn ++ pins, p.1 ≠ b
theorem Inv.fpOk {X : Cx} {pins : List (Addr × Obj)} {σ : St} {H H' : Hp} {s : Shared} {b : Addr} (I : Inv X pins σ H s) (hb : s.heap.objs.size ≤ b) (hn : H' b = none) : FpOk X pins H' b := by
  refine ⟨hn, Nat.ne_of_gt (Nat.lt_of_lt_of_le I.lt hb), I.nofs hb, .inr (Nat.le_trans I.sz hb), fun x c e z => ?_, fun p hp z => ?_⟩
  · obtain ⟨v, q⟩ := I.cell x c e
    exact absurd (Nat.lt_of_lt_of_le q.lt (by rw [z]; exact hb)) (Nat.lt_irrefl _)
  · exact absurd (Nat.lt_of_lt_of_le (Heap.lt_size (I.pin p hp).1) (by rw [z]; exact hb)) (Nat.lt_irrefl _)
structure Turn (P : Program) (w : World) (K : PySem.W.Frag) (tg : Expr) (J : It) (fp : List Addr) (it : Addr) (tn : Nat → Heap → Prop) : Prop where
  mem : it ∈ fp
  obj : ∀ i h, tn i h → ∀ b ∈ fp, ∃ o, h.get? b = some o ∧ ∀ v, o.data ≠ .cell v
  keep : ∀ i h h', tn i h → (∀ b ∈ fp, ∀ o, h.get? b = some o → h'.get? b = some o) → tn i h'
  item : ∀ (X : Cx), X.prog = P → X.w = w → X.K = K → X.calm = true → ∀ (i : Nat) (pins : List (Addr × Obj)) (s : Shared) (σ : St) (H : Hp) (E : Value → Shared → Prop), Inv X pins σ H s → (∀ b ∈ fp, FpOk X pins H b) → tn i s.heap → J.go i H →
    wpAny (model P w) X.A (pyNext (.ref it)) (fun r s1 => ∃ u, r = some u ∧
      wpAny (model P w) X.A (letOwnedTupleGo tg (.ref it) u) (fun _ s2 => ∃ x H', Inv X pins σ H' s2 ∧ RelV x u ∧ J.yld i H x H' ∧ tn (i + 1) s2.heap ∧ ∀ b ∈ fp, H' b = none) E s1) E s
  done : ∀ (X : Cx), X.prog = P → X.w = w → X.K = K → X.calm = true → ∀ (i : Nat) (pins : List (Addr × Obj)) (s : Shared) (σ : St) (H : Hp) (E : Value → Shared → Prop), Inv X pins σ H s → (∀ b ∈ fp, FpOk X pins H b) → tn i s.heap → J.stop i H →
    wpAny (model P w) X.A (pyNext (.ref it)) (fun r s1 => r = none ∧ Inv X pins σ H s1) E s
  self : ∀ (A : Around) (i : Nat) (s : Shared) (Q : Value → Shared → Prop) (E : Value → Shared → Prop), tn i s.heap → Q (.ref it) s → wpAny (model P w) A (pyIter (.ref it)) Q E s
abbrev TI := St → Hp → (It → Hp → Prop) → Prop
/-- an iterator has come -/
def PIE (X : Cx) (pins : List (Addr × Obj)) (σ : St) (tg : Expr) (R : It → Hp → Prop) (itv : Value) (s2 : Shared) : Prop :=
  ∃ (it : Addr) (fp : List Addr) (tn : Nat → Heap → Prop) (J : It) (H' : Hp), itv = .ref it ∧ Inv X pins σ H' s2 ∧ Turn X.prog X.w X.K tg J fp it tn ∧ tn 0 s2.heap ∧ (∀ b ∈ fp, FpOk X pins H' b) ∧ R J H'
def PI (X : Cx) (tg iter : Expr) (wi : TI) : Prop :=
  ∀ (pins : List (Addr × Obj)) (s : Shared) (σ : St) (H : Hp) (R : It → Hp → Prop), Inv X pins σ H s → wi σ H R →
    wpAny (model X.prog X.w) X.A (eval iter X.env) (fun v s1 => wpAny (model X.prog X.w) X.A (pyIter v) (PIE X pins σ tg R) X.xe s1) X.xe s

/-- the step ahead of the store is nothing for an iterator that keeps no tuple -/
theorem go_of {M : Model} {A : Around} {E : Value → Shared → Prop} {s : Shared} {tg : Expr} {it : Addr} {u : Value} {o : Obj} {n : String} {vs : Array Value} {Q : Unit → Shared → Prop} (ho : s.heap.get? it = some o) (hc : o.cls = .type n) (hd : o.data = .fields vs)
    (hn : ["enumerate", "zip", "dict_itemiterator", "dict_reverseitemiterator", "odict_iterator", "itertools.zip_longest", "itertools.pairwise"].contains n = false) (hQ : Q () s) : wpAny M A (letOwnedTupleGo tg (.ref it) u) Q E s := by
  unfold letOwnedTupleGo
  cases tg <;> first
    | exact wpAny_pure hQ
    | (cases u <;> first
        | exact wpAny_pure hQ
        | (refine wpAny_bind (wpAny_load ho ?_)
           rw [hc, hd]
           show wpAny M A (if (["enumerate", "zip", "dict_itemiterator", "dict_reverseitemiterator", "odict_iterator", "itertools.zip_longest", "itertools.pairwise"].contains n && vs[0]? == some (rawInt _)) = true then _ else _) Q E s
           rw [if_neg (by intro h; rw [hn, Bool.false_and] at h; cases h)]
           exact wpAny_pure hQ))

/-- the list at a, as it stands at each turn (a loop may append to it) -/
def Itl (K : PySem.W.Frag) (a : Addr) : It :=
  ⟨fun i H => ∃ xs x, SqL K H a xs ∧ xs[i]? = some x, fun i H x H' => H' = H ∧ ∀ xs, SqL K H a xs → xs[i]? = some x, fun i H => ∃ xs, SqL K H a xs ∧ xs.length ≤ i⟩
def Itt (K : PySem.W.Frag) (a : Addr) : It :=
  ⟨fun i H => ∃ xs x, SqT K H a xs ∧ xs[i]? = some x, fun i H x H' => H' = H ∧ ∀ xs, SqT K H a xs → xs[i]? = some x, fun i H => ∃ xs, SqT K H a xs ∧ xs.length ≤ i⟩
/-- lo, lo + 1, .. (n of them) -/
def Itr (lo : Int) (n : Nat) : It := ⟨fun i _ => i < n, fun i H x H' => H' = H ∧ x = .int (lo + i), fun i _ => n ≤ i⟩
theorem turn_list {P : Program} {w : World} {K : PySem.W.Frag} {tg : Expr} (a it : Addr) : Turn P w K tg (Itl K a) [it] it (fun i h => h.IsListIter it a i) where
  mem := by simp
  obj := fun i h st b hb => by
    have e : b = it := by simpa using hb
    subst e
    obtain ⟨o, e, c, d⟩ := st
    exact ⟨o, e, fun v z => by rw [d] at z; cases z⟩
  keep := fun i h h' st k => st.at fun o e => k it (by simp) o e
  item := by
    intro X hP hw hK hc i pins s σ H E I hf st hg
    subst hP hw hK
    obtain ⟨xs, x, hq, hx⟩ := hg
    obtain ⟨its, rv, p, hz⟩ := I.list hq
    obtain ⟨u, hu, ru⟩ := rv.get hx
    obtain ⟨f0, f1, f2, f3, f4, f5⟩ := hf it (by simp)
    refine wpAny_pyNext_list_item st p.isList (x := u) (by simpa using hu) fun h' st' sb => ?_
    have I1 : Inv X pins σ H { s with heap := h' } := I.turned (t' := s.toks) (fun b o hb e => (sb.2 b hb).trans e) f0 f1 f3 f4 f5
    obtain ⟨o, e, c, d⟩ := id st'
    exact ⟨u, rfl, go_of (s := { s with heap := h' }) e c d (by decide) ⟨x, H, I1, ru, ⟨rfl, fun ys hy => by rw [I.list_inj hy hq]; exact hx⟩, st', fun b hb => (hf b hb).1⟩⟩
  done := by
    intro X hP hw hK hc i pins s σ H E I hf st hg
    subst hP hw hK
    obtain ⟨xs, hq, hx⟩ := hg
    obtain ⟨its, rv, p, hz⟩ := I.list hq
    obtain ⟨f0, f1, f2, f3, f4, f5⟩ := hf it (by simp)
    have hl := rv.length
    exact wpAny_pyNext_list_end (I.ok.hd hc) st p.isList (by simp; omega) fun h' eb => ⟨rfl, I.turned (t' := s.toks) (fun b o hb e => eb b o hb e) f0 f1 f3 f4 f5⟩
  self := fun _ _ _ _ _ st h => wpAny_pyIter_listiter st h
theorem turn_tuple {P : Program} {w : World} {K : PySem.W.Frag} {tg : Expr} (a it : Addr) : Turn P w K tg (Itt K a) [it] it (fun i h => h.IsTupleIter it a i) where
  mem := by simp
  obj := fun i h st b hb => by
    have e : b = it := by simpa using hb
    subst e
    obtain ⟨o, e, c, d⟩ := st
    exact ⟨o, e, fun v z => by rw [d] at z; cases z⟩
  keep := fun i h h' st k => st.at fun o e => k it (by simp) o e
  item := by
    intro X hP hw hK hc i pins s σ H E I hf st hg
    subst hP hw hK
    obtain ⟨xs, x, hq, hx⟩ := hg
    obtain ⟨its, rv, p, hz⟩ := I.tuple hq
    obtain ⟨u, hu, ru⟩ := rv.get hx
    obtain ⟨f0, f1, f2, f3, f4, f5⟩ := hf it (by simp)
    refine wpAny_pyNext_tuple_item st (show s.heap.IsTuple a its.toArray from p) (x := u) (by simpa using hu) fun h' st' sb => ?_
    have I1 : Inv X pins σ H { s with heap := h' } := I.turned (t' := s.toks) (fun b o hb e => (sb.2 b hb).trans e) f0 f1 f3 f4 f5
    obtain ⟨o, e, c, d⟩ := id st'
    exact ⟨u, rfl, go_of (s := { s with heap := h' }) e c d (by decide) ⟨x, H, I1, ru, ⟨rfl, fun ys hy => by rw [I.tuple_inj hy hq]; exact hx⟩, st', fun b hb => (hf b hb).1⟩⟩
  done := by
    intro X hP hw hK hc i pins s σ H E I hf st hg
    subst hP hw hK
    obtain ⟨xs, hq, hx⟩ := hg
    obtain ⟨its, rv, p, hz⟩ := I.tuple hq
    obtain ⟨f0, f1, f2, f3, f4, f5⟩ := hf it (by simp)
    have hl := rv.length
    exact wpAny_pyNext_tuple_end (I.ok.hd hc) st (show s.heap.IsTuple a its.toArray from p) (by simp; omega) fun h' eb => ⟨rfl, I.turned (t' := s.toks) (fun b o hb e => eb b o hb e) f0 f1 f3 f4 f5⟩
  self := fun _ _ _ _ _ st h => wpAny_pyIter_tupleiter st h
theorem turn_range {P : Program} {w : World} {K : PySem.W.Frag} {tg : Expr} (it : Addr) (lo : Int) (n : Nat) : Turn P w K tg (Itr lo n) [it] it (fun i h => IsRangeIter h it (lo + (i : Nat) * 1) ((n : Int) - (i : Nat)) 1) where
  mem := by simp
  obj := fun i h st b hb => by
    have e : b = it := by simpa using hb
    subst e
    exact ⟨_, st, fun v z => by
      have z' : Data.fields _ = Data.cell v := z
      cases z'⟩
  keep := fun i h h' st k => k it (by simp) _ st
  item := by
    intro X hP hw hK hc i pins s σ H E I hf st hg
    subst hP hw hK
    obtain ⟨f0, f1, f2, f3, f4, f5⟩ := hf it (by simp)
    have W := Walks.range (prog := X.prog) (w := X.w) (I.ok.hd hc) it lo 1 n
    refine W.item i s _ _ hg st fun v h' tk hv st' kk => ?_
    obtain ⟨t, rfl⟩ := hv
    have I1 : Inv X pins σ H { s with heap := h', toks := tk } := I.turned (fun b o hb e => kk b o (by simpa using hb) e) f0 f1 f3 f4 f5
    refine ⟨_, rfl, go_of (s := { s with heap := h', toks := tk }) (n := "range_iterator") st' rfl rfl (by decide) ⟨.int (lo + i), H, I1, ⟨t, ?_⟩, ⟨rfl, rfl⟩, st', fun b hb => (hf b hb).1⟩⟩
    rw [Int.mul_one]
  done := by
    intro X hP hw hK hc i pins s σ H E I hf st hg
    subst hP hw hK
    obtain ⟨f0, f1, f2, f3, f4, f5⟩ := hf it (by simp)
    exact wpAny_pyNext_range_end (I.ok.hd hc) st (by have : n ≤ i := hg; omega) fun h' eb => ⟨rfl, I.turned (t' := s.toks) (fun b o hb e => eb b o hb e) f0 f1 f3 f4 f5⟩
  self := fun _ _ _ _ _ st h => wpAny_pyIter_rangeiter st h
end L2

namespace L2
open PySem PySem.Spec PyProof.Rows
section
variable {X : Cx} {tg : Expr}
def iList (K : PySem.W.Frag) (tl : TE) : TI := fun σ H R => tl σ H fun x H1 => ∃ a, x = .ref a ∧ (∃ xs, SqL K H1 a xs) ∧ R (Itl K a) H1
def iTup (K : PySem.W.Frag) (tl : TE) : TI := fun σ H R => tl σ H fun x H1 => ∃ a, x = .ref a ∧ (∃ xs, SqT K H1 a xs) ∧ R (Itt K a) H1
theorem pi_list {l : Expr} {tl : TE} (hl : PE X l tl) : PI X tg l (iList X.K tl) := by
  intro pins s σ H R I h
  refine thn (hl pins s σ H _ I h) fun v s1 ⟨x, H1, I1, r1, q1⟩ => ?_
  obtain ⟨a, e, ⟨xs, hq⟩, q⟩ := q1
  subst e
  cases r1
  obtain ⟨its, rv, p, hz⟩ := I1.list hq
  refine wpAny_pyIter_list p.isList ?_
  refine ⟨s1.heap.objs.size, [s1.heap.objs.size], _, _, H1, rfl, I1.kept (t' := s1.toks) fun b o e => Heap.get?_push_of_some _ e, turn_list a _, ⟨_, Heap.get?_push_size _ rfl, rfl, rfl⟩, fun b hb => ?_, q⟩
  have e : b = s1.heap.objs.size := by simpa using hb
  subst e
  exact I1.fpOk (Nat.le_refl _) (I1.hok.fresh (Nat.le_refl _))
theorem pi_tup {l : Expr} {tl : TE} (hl : PE X l tl) : PI X tg l (iTup X.K tl) := by
  intro pins s σ H R I h
  refine thn (hl pins s σ H _ I h) fun v s1 ⟨x, H1, I1, r1, q1⟩ => ?_
  obtain ⟨a, e, ⟨xs, hq⟩, q⟩ := q1
  subst e
  cases r1
  obtain ⟨its, rv, p, hz⟩ := I1.tuple hq
  refine wpAny_pyIter_tuple (show s1.heap.IsTuple a its.toArray from p) ?_
  refine ⟨s1.heap.objs.size, [s1.heap.objs.size], _, _, H1, rfl, I1.kept (t' := s1.toks) fun b o e => Heap.get?_push_of_some _ e, turn_tuple a _, ⟨_, Heap.get?_push_size _ rfl, rfl, rfl⟩, fun b hb => ?_, q⟩
  have e : b = s1.heap.objs.size := by simpa using hb
  subst e
  exact I1.fpOk (Nat.le_refl _) (I1.hok.fresh (Nat.le_refl _))
/-- a range object just made, walked -/
theorem range_it {pins : List (Addr × Obj)} {σ : St} {H : Hp} {s : Shared} {R : It → Hp → Prop} {E : Value → Shared → Prop} {lo hi : Int} {t u v : Tok} {tk : Nat} (I : Inv X pins σ H s) (h1 : -(2 ^ 62) ≤ lo) (h2 : lo < 2 ^ 62) (h3 : -(2 ^ 62) ≤ hi) (h4 : hi < 2 ^ 62)
    (q : R (Itr lo (hi - lo).toNat) H) : wpAny (model X.prog X.w) X.A (pyIter (.ref s.heap.objs.size)) (PIE X pins σ tg R) E { s with heap := s.heap.push { cls := .type "range", data := .fields #[.int lo t, .int hi u, .int 1 v] }, toks := tk } := by
  refine wpAny_pyIter_range (IsRange.new ..) (small_one h1 h2 h3 h4) ?_
  have I1 : Inv X pins σ H { s with heap := s.heap.push { cls := .type "range", data := .fields #[.int lo t, .int hi u, .int 1 v] }, toks := tk } := I.kept fun b o e => Heap.get?_push_of_some _ e
  refine ⟨(s.heap.push { cls := .type "range", data := .fields #[.int lo t, .int hi u, .int 1 v] }).objs.size, [(s.heap.push { cls := .type "range", data := .fields #[.int lo t, .int hi u, .int 1 v] }).objs.size], _, _, H, rfl,
    I1.kept (t' := tk) fun b o e => Heap.get?_push_of_some _ e, turn_range _ lo (hi - lo).toNat, ?_, fun b hb => ?_, q⟩
  · have e1 : lo + ((0 : Nat) : Int) * 1 = lo := by simp
    have e2 : (((hi - lo).toNat : Nat) : Int) - ((0 : Nat) : Int) = Builtin.Range.rangeSize lo hi 1 := by rw [rangeSize_one]; split <;> omega
    show IsRangeIter _ _ (lo + ((0 : Nat) : Int) * 1) ((((hi - lo).toNat : Nat) : Int) - ((0 : Nat) : Int)) 1
    rw [e1, e2]
    exact Heap.get?_push_size _ rfl
  · have e : b = (s.heap.push { cls := .type "range", data := .fields #[.int lo t, .int hi u, .int 1 v] }).objs.size := by simpa using hb
    subst e
    exact I1.fpOk (Nat.le_refl _) (I1.hok.fresh (Nat.le_refl _))
def iRng1 (ta : TA) : TI := fun σ H R => ta σ H fun vs H1 => ∃ j : Int, vs = [.int j] ∧ -(2 ^ 62) ≤ j ∧ j < 2 ^ 62 ∧ R (Itr 0 j.toNat) H1
def iRng2 (ta : TA) : TI := fun σ H R => ta σ H fun vs H1 => ∃ i j : Int, vs = [.int i, .int j] ∧ (-(2 ^ 62) ≤ i ∧ i < 2 ^ 62 ∧ -(2 ^ 62) ≤ j ∧ j < 2 ^ 62) ∧ R (Itr i (j - i).toNat) H1
theorem pi_range1 {a : Expr} {ta : TA} {p pos : Pos} (hg : Gl X "range") (hm : X.mg "range" = none) (ha : PA X [a] ta) (hs : starEach [a] X.env = [(false, eval a X.env)] := by rfl) : PI X tg (.Call (.Name "range" p) [a] [] pos) (iRng1 ta) := by
  intro pins s σ H R I h
  refine Call_ (ld_blt I hg hm boot_range (PyProof.Rows.callWith_type1 (thn (ha pos pins s σ H _ I h) fun us s1 ⟨vs, H1, I1, r1, q1⟩ => ?_) hs rfl))
  obtain ⟨j, e, q1, q2, q⟩ := q1
  subst e
  cases r1 with
  | cons r rr =>
    cases rr
    obtain ⟨t, rfl⟩ := r
    exact call_range_1 (range_it I1 (by omega) (by omega) q1 q2 (by simpa using q))
theorem pi_range2 {a b : Expr} {ta : TA} {p pos : Pos} (hg : Gl X "range") (hm : X.mg "range" = none) (ha : PA X [a, b] ta) (hs : starEach [a, b] X.env = [(false, eval a X.env), (false, eval b X.env)] := by rfl) (hs2 : starEach [b] X.env = [(false, eval b X.env)] := by rfl) :
    PI X tg (.Call (.Name "range" p) [a, b] [] pos) (iRng2 ta) := by
  intro pins s σ H R I h
  refine Call_ (ld_blt I hg hm boot_range (PyProof.Rows.callWith_type1 (thn (ha pos pins s σ H _ I h) fun us s1 ⟨vs, H1, I1, r1, q1⟩ => ?_) (by rw [hs, hs2]) (by rw [hs2]; rfl)))
  obtain ⟨i, j, e, ⟨q1, q2, q3, q4⟩, q⟩ := q1
  subst e
  cases r1 with
  | cons r rr =>
    cases rr with
    | cons r' rr =>
      cases rr
      obtain ⟨t, rfl⟩ := r
      obtain ⟨t', rfl⟩ := r'
      exact call_range_2 (range_it I1 q1 q2 q3 q4 q)

/-! ### for -/
/-- W: the invariant by the turn and a measure; N: what the body is to reach -/
def tFor (wi : TI) (g : TG) (tb : TS) : TS := fun D σ H => wi σ H fun J H1 => ∃ W : Nat → Nat → St → Hp → Prop, (∃ m, W 0 m σ H1) ∧ ∀ i m σ H, W i m σ H →
  (J.stop i H ∧ D.nx σ H) ∨ (J.go i H ∧ ∃ N : St → Hp → Prop, (∀ σ' H', N σ' H' → ∃ m', m' < m ∧ W (i + 1) m' σ' H') ∧ ∀ x H', J.yld i H x H' → g x σ H' fun σ2 H2 => tb { D with nx := N, ct := N, bk := D.nx } σ2 H2)
/-- the records at fp as they stand -/
def pinsAt (fp : List Addr) (h : Heap) : List (Addr × Obj) := fp.filterMap fun b => (h.get? b).map fun o => (b, o)
theorem mem_pinsAt {fp : List Addr} {h : Heap} {b : Addr} {o : Obj} (hb : b ∈ fp) (e : h.get? b = some o) : (b, o) ∈ pinsAt fp h := List.mem_filterMap.mpr ⟨b, hb, by rw [e]; rfl⟩
theorem of_pinsAt {fp : List Addr} {h : Heap} {p : Addr × Obj} (hp : p ∈ pinsAt fp h) : p.1 ∈ fp ∧ h.get? p.1 = some p.2 := by
  obtain ⟨b, hb, e⟩ := List.mem_filterMap.mp hp
  cases q : h.get? b with
  | none => rw [q] at e; cases e
  | some o =>
    rw [q] at e
    have e' : (b, o) = p := Option.some.inj e
    subst e'
    exact ⟨hb, q⟩
theorem Inv.pinned {pins : List (Addr × Obj)} {σ : St} {H : Hp} {s : Shared} {fp : List Addr} (I : Inv X pins σ H s) (hf : ∀ b ∈ fp, FpOk X pins H b) (ho : ∀ b ∈ fp, ∃ o, s.heap.get? b = some o ∧ ∀ v, o.data ≠ .cell v) : Inv X (pins ++ pinsAt fp s.heap) σ H s :=
  I.pins_of fun p hp => (List.mem_append.mp hp).elim (fun z => I.pin p (List.mem_append_right _ z)) fun z => by
    obtain ⟨hb, e⟩ := of_pinsAt z
    obtain ⟨f0, f1, f2, _⟩ := hf p.1 hb
    obtain ⟨o, e', d⟩ := ho p.1 hb
    rw [e] at e'; cases e'
    exact ⟨e, f0, f1, f2, d⟩
theorem Inv.unpinned {pins pl : List (Addr × Obj)} {σ : St} {H : Hp} {s : Shared} (I : Inv X (pins ++ pl) σ H s) : Inv X pins σ H s := I.pins_of fun p hp => I.pin p (List.mem_append_right _ (List.mem_append_left _ hp))
theorem ps_for {iter : Expr} {body : List Stmt} {wi : TI} {g : TG} {tb : TS} {pos : Pos} (hp : PassesOwn (model X.prog X.w) X.A X.env X.xe) (hc : X.calm = true) (hi : PI X tg iter wi) (hg : PG X tg g) (hb : PSs X body tb)
    (hs : ∀ x, foldedSetIterable iter X.env x = pure x := by intro _; rfl) : PS X (.For tg iter body [] pos) (tFor wi g tb) := by
  intro pins s σ H D I h
  refine wpAny_For (thn (hi pins s σ H _ I h) fun v s1 h1 => thn h1 fun itv s2 h2 => ?_) hs
  obtain ⟨it, fp, tn, J, H2, e, I2, T, st2, f2, W, ⟨m0, w0⟩, turn⟩ := h2
  subst e
  -- what stays true of the iterator's objects through the loop
  have stat : ∀ {H' : Hp}, (∀ b ∈ fp, H' b = none) → ∀ b ∈ fp, FpOk X pins H' b := fun hn b hb => ⟨hn b hb, (f2 b hb).2⟩
  refine codeAny_forLoop_any (fun n s' => ∃ i σ' H', Inv X pins σ' H' s' ∧ tn i s'.heap ∧ (∀ b ∈ fp, H' b = none) ∧ W i n σ' H') ?_ m0 ⟨0, σ, H2, I2, st2, fun b hb => (f2 b hb).1, w0⟩
  rintro n s3 ⟨i, σ3, H3, I3, st3, fr3, w3⟩
  rcases turn i n σ3 H3 w3 with ⟨stop, qn⟩ | ⟨go, N, hN, step⟩
  · refine wpAny_passesOwn hp (thn (T.done X rfl rfl rfl hc i pins s3 σ3 H3 X.xe I3 (stat fr3) st3 stop) fun r s4 ⟨hr, I4⟩ => ?_)
    subst hr
    exact wpAny_execs_nil ⟨σ3, H3, I4, qn⟩
  · refine wpAny_passesOwn hp (thn (T.item X rfl rfl rfl hc i pins s3 σ3 H3 X.xe I3 (stat fr3) st3 go) fun r s4 ⟨u, hr, h4⟩ => ?_)
    subst hr
    refine wpAny_passesOwn hp (thn h4 fun _ s5 ⟨x, H5, I5, r5, y5, st5, fr5⟩ => ?_)
    have I5' := I5.pinned (stat fr5) (T.obj _ _ st5)
    refine wpAny_passesOwn hp (thn (hg _ s5 σ3 H5 x u _ I5' r5 (step x H5 y5)) fun _ s6 ⟨σ6, H6, I6, q6⟩ => ?_)
    refine wpAny_passesOwn hp (thn (hb _ s6 σ6 H6 _ I6 q6) fun f s7 q7 => ?_)
    have again : ∀ {σ7 : St} {H7 : Hp}, Inv X (pins ++ pinsAt fp s5.heap) σ7 H7 s7 → N σ7 H7 → ∃ m, m < n ∧ ∃ i σ' H', Inv X pins σ' H' s7 ∧ tn i s7.heap ∧ (∀ b ∈ fp, H' b = none) ∧ W i m σ' H' := fun {σ7 H7} I7 n7 => by
      obtain ⟨m', hm, w7⟩ := hN σ7 H7 n7
      refine ⟨m', hm, i + 1, σ7, H7, I7.unpinned, T.keep _ _ _ st5 fun b hb o e => (I7.pin (b, o) (List.mem_append_right _ (List.mem_append_right _ (mem_pinsAt hb e)))).1, fun b hb => ?_, w7⟩
      obtain ⟨o, e, d⟩ := T.obj _ _ st5 b hb
      exact (I7.pin (b, o) (List.mem_append_right _ (List.mem_append_right _ (mem_pinsAt hb e)))).2.1
    cases f with
    | next => obtain ⟨σ7, H7, I7, n7⟩ := q7; exact again I7 n7
    | cont => obtain ⟨σ7, H7, I7, n7⟩ := q7; exact again I7 n7
    | brk => obtain ⟨σ7, H7, I7, q7⟩ := q7; exact ⟨σ7, H7, I7.unpinned, q7⟩
    | ret v => obtain ⟨x7, σ7, H7, I7, r7, q7⟩ := q7; exact ⟨x7, σ7, H7, I7.unpinned, r7, q7⟩
end

/-! ### the forms one uses -/
/-- over a list that the body leaves as it is -/
theorem for_list {K : PySem.W.Frag} {a : Addr} {xs : List V} {g : TG} {tb : TS} {D : Ends} {σ : St} {H : Hp} (Pv : Nat → St → Hp → Prop) (h0 : Pv 0 σ H) (hl : ∀ i σ H, i ≤ xs.length → Pv i σ H → SqL K H a xs)
    (hs : ∀ i x σ H, xs[i]? = some x → Pv i σ H → g x σ H fun σ2 H2 => tb { D with nx := Pv (i + 1), ct := Pv (i + 1), bk := D.nx } σ2 H2) (hd : ∀ σ H, Pv xs.length σ H → D.nx σ H) :
    ∃ W : Nat → Nat → St → Hp → Prop, (∃ m, W 0 m σ H) ∧ ∀ i m σ H, W i m σ H →
      ((Itl K a).stop i H ∧ D.nx σ H) ∨ ((Itl K a).go i H ∧ ∃ N : St → Hp → Prop, (∀ σ' H', N σ' H' → ∃ m', m' < m ∧ W (i + 1) m' σ' H') ∧ ∀ x H', (Itl K a).yld i H x H' → g x σ H' fun σ2 H2 => tb { D with nx := N, ct := N, bk := D.nx } σ2 H2) := by
  refine ⟨fun i m σ H => m = xs.length - i ∧ i ≤ xs.length ∧ Pv i σ H, ⟨xs.length, by simp, Nat.zero_le _, h0⟩, ?_⟩
  rintro i m σ H ⟨rfl, hi, p⟩
  have q := hl i σ H hi p
  by_cases hlt : i < xs.length
  · refine .inr ⟨⟨xs, xs[i], q, by simp [hlt]⟩, Pv (i + 1), fun σ' H' p' => ⟨xs.length - (i + 1), by omega, rfl, hlt, p'⟩, fun x H' y => ?_⟩
    obtain ⟨e, y⟩ := y
    subst e
    exact hs i x σ _ (y xs q) p
  · have e : i = xs.length := by omega
    subst e
    exact .inl ⟨⟨xs, q, Nat.le_refl _⟩, hd σ H p⟩
theorem for_tup {K : PySem.W.Frag} {a : Addr} {xs : List V} {g : TG} {tb : TS} {D : Ends} {σ : St} {H : Hp} (Pv : Nat → St → Hp → Prop) (h0 : Pv 0 σ H) (hl : ∀ i σ H, i ≤ xs.length → Pv i σ H → SqT K H a xs)
    (hs : ∀ i x σ H, xs[i]? = some x → Pv i σ H → g x σ H fun σ2 H2 => tb { D with nx := Pv (i + 1), ct := Pv (i + 1), bk := D.nx } σ2 H2) (hd : ∀ σ H, Pv xs.length σ H → D.nx σ H) :
    ∃ W : Nat → Nat → St → Hp → Prop, (∃ m, W 0 m σ H) ∧ ∀ i m σ H, W i m σ H →
      ((Itt K a).stop i H ∧ D.nx σ H) ∨ ((Itt K a).go i H ∧ ∃ N : St → Hp → Prop, (∀ σ' H', N σ' H' → ∃ m', m' < m ∧ W (i + 1) m' σ' H') ∧ ∀ x H', (Itt K a).yld i H x H' → g x σ H' fun σ2 H2 => tb { D with nx := N, ct := N, bk := D.nx } σ2 H2) := by
  refine ⟨fun i m σ H => m = xs.length - i ∧ i ≤ xs.length ∧ Pv i σ H, ⟨xs.length, by simp, Nat.zero_le _, h0⟩, ?_⟩
  rintro i m σ H ⟨rfl, hi, p⟩
  have q := hl i σ H hi p
  by_cases hlt : i < xs.length
  · refine .inr ⟨⟨xs, xs[i], q, by simp [hlt]⟩, Pv (i + 1), fun σ' H' p' => ⟨xs.length - (i + 1), by omega, rfl, hlt, p'⟩, fun x H' y => ?_⟩
    obtain ⟨e, y⟩ := y
    subst e
    exact hs i x σ _ (y xs q) p
  · have e : i = xs.length := by omega
    subst e
    exact .inl ⟨⟨xs, q, Nat.le_refl _⟩, hd σ H p⟩
theorem for_range {lo : Int} {n : Nat} {g : TG} {tb : TS} {D : Ends} {σ : St} {H : Hp} (Pv : Nat → St → Hp → Prop) (h0 : Pv 0 σ H)
    (hs : ∀ i σ H, i < n → Pv i σ H → g (.int (lo + i)) σ H fun σ2 H2 => tb { D with nx := Pv (i + 1), ct := Pv (i + 1), bk := D.nx } σ2 H2) (hd : ∀ σ H, Pv n σ H → D.nx σ H) :
    ∃ W : Nat → Nat → St → Hp → Prop, (∃ m, W 0 m σ H) ∧ ∀ i m σ H, W i m σ H →
      ((Itr lo n).stop i H ∧ D.nx σ H) ∨ ((Itr lo n).go i H ∧ ∃ N : St → Hp → Prop, (∀ σ' H', N σ' H' → ∃ m', m' < m ∧ W (i + 1) m' σ' H') ∧ ∀ x H', (Itr lo n).yld i H x H' → g x σ H' fun σ2 H2 => tb { D with nx := N, ct := N, bk := D.nx } σ2 H2) := by
  refine ⟨fun i m σ H => m = n - i ∧ i ≤ n ∧ Pv i σ H, ⟨n, by simp, Nat.zero_le _, h0⟩, ?_⟩
  rintro i m σ H ⟨rfl, hi, p⟩
  by_cases hlt : i < n
  · refine .inr ⟨hlt, Pv (i + 1), fun σ' H' p' => ⟨n - (i + 1), by omega, rfl, hlt, p'⟩, fun x H' y => ?_⟩
    obtain ⟨e, y⟩ := y
    subst e y
    exact hs i σ _ hlt p
  · have e : i = n := by omega
    subst e
    exact .inl ⟨Nat.le_refl _, hd σ H p⟩
end L2

namespace L2
open PySem PySem.Spec PyProof.Rows

abbrev R2 := V → V → Hp → VK → Prop
/-- a two-place operation on values: f is binaryOp op, inplaceOp op or compareOp op -/
def OpR (X : Cx) (f : Value → Value → Sem Value) (r : R2) : Prop :=
  ∀ (pins : List (Addr × Obj)) (s : Shared) (σ : St) (H : Hp) (x y : V) (v u : Value) (Q : VK), Inv X pins σ H s → RelV x v → RelV y u → r x y H Q →
    wpAny (model X.prog X.w) X.A (f v u) (EP X pins σ Q) X.xe s
/-- a one-place operation -/
def UnR (X : Cx) (f : Value → Sem Value) (r : V → Hp → VK → Prop) : Prop :=
  ∀ (pins : List (Addr × Obj)) (s : Shared) (σ : St) (H : Hp) (x : V) (v : Value) (Q : VK), Inv X pins σ H s → RelV x v → r x H Q →
    wpAny (model X.prog X.w) X.A (f v) (EP X pins σ Q) X.xe s
/-- a call of a value that is known (a builtin, a type) with values -/
def CallR (X : Cx) (f : Value) (r : List V → Hp → VK → Prop) : Prop :=
  ∀ (pins : List (Addr × Obj)) (s : Shared) (σ : St) (H : Hp) (xs : List V) (us : List Value) (Q : VK), Inv X pins σ H s → Vals xs us → r xs H Q →
    wpAny (model X.prog X.w) X.A (call f us) (EP X pins σ Q) X.xe s
/-- a value's truth -/
def TruR (X : Cx) (r : V → Hp → (Bool → Hp → Prop) → Prop) : Prop :=
  ∀ (pins : List (Addr × Obj)) (s : Shared) (σ : St) (H : Hp) (x : V) (v : Value) (Q : Bool → Hp → Prop), Inv X pins σ H s → RelV x v → r x H Q →
    wpAny (model X.prog X.w) X.A (truthy v) (TP X pins σ Q) X.xe s

def tOp (r : R2) (ta tb : TE) : TE := fun σ H Q => ta σ H fun x H1 => tb σ H1 fun y H2 => r x y H2 Q
def tUn (r : V → Hp → VK → Prop) (ta : TE) : TE := fun σ H Q => ta σ H fun x H1 => r x H1 Q
/-- ints in, under C, and a value out -/
def rI (C : Int → Int → Prop) (g : Int → Int → V) : R2 := fun x y H Q => ∃ i j, x = .int i ∧ y = .int j ∧ C i j ∧ Q (g i j) H
def rI0 (g : Int → Int → V) : R2 := fun x y H Q => ∃ i j, x = .int i ∧ y = .int j ∧ Q (g i j) H
def rU (g : Int → V) : V → Hp → VK → Prop := fun x H Q => ∃ i, x = .int i ∧ Q (g i) H

section
variable {X : Cx} {a b c : Expr} {ta tb tc : TE} {pos : Pos}

theorem binT (ha : PE X a ta) (hb : PE X b tb) {pins : List (Addr × Obj)} {s : Shared} {σ : St} {H : Hp} {R : V → V → Hp → Prop} (I : Inv X pins σ H s)
    (h : ta σ H fun x H1 => tb σ H1 fun y H2 => R x y H2) {Q : Value → Shared → Prop} {f : Value → Value → Sem Value}
    (hf : ∀ v u s2 x y H2, Inv X pins σ H2 s2 → RelV x v → RelV y u → R x y H2 → wpAny (model X.prog X.w) X.A (f v u) Q X.xe s2) :
    wpAny (model X.prog X.w) X.A (eval a X.env) (fun v s₁ => wpAny (model X.prog X.w) X.A (eval b X.env) (fun u s₂ => wpAny (model X.prog X.w) X.A (f v u) Q X.xe s₂) X.xe s₁) X.xe s := by
  refine thn (ha pins s σ H _ I h) fun v s1 ⟨x, H1, I1, r1, q1⟩ => ?_
  refine thn (hb pins s1 σ H1 _ I1 q1) fun u s2 ⟨y, H2, I2, r2, q2⟩ => ?_
  exact hf v u s2 x y H2 I2 r1 r2 q2

theorem pe_op {op : Operator} {r : R2} (ho : OpR X (binaryOp op) r) (ha : PE X a ta) (hb : PE X b tb) : PE X (.BinOp a op b pos) (tOp r ta tb) := by
  intro pins s σ H Q I h
  exact wpAny_BinOp (binT ha hb I h fun v u s2 x y H2 I2 rx ry q => ho pins s2 σ H2 x y v u Q I2 rx ry q)
theorem pe_un {op : UnaryOp} {r : V → Hp → VK → Prop} (ho : UnR X (unaryOp op) r) (ha : PE X a ta) : PE X (.UnaryOp op a pos) (tUn r ta) := by
  intro pins s σ H Q I h
  exact UnaryOp_ (thn (ha pins s σ H _ I h) fun v s1 ⟨x, H1, I1, r1, q1⟩ => ho pins s1 σ H1 x v Q I1 r1 q1)

/-! ### ints -/
theorem opI {f : Value → Value → Sem Value} {C : Int → Int → Prop} {g : Int → Int → Int}
    (rule : ∀ (i j : Int) (t u : Tok) (s : Shared) (Q : Value → Shared → Prop) (E : Value → Shared → Prop), C i j → Q (.int (g i j) s.toks) { s with toks := s.toks + 1 } → wpAny (model X.prog X.w) X.A (f (.int i t) (.int j u)) Q E s) :
    OpR X f (rI C fun i j => .int (g i j)) := by
  intro pins s σ H x y v u Q I rx ry h
  obtain ⟨i, j, rfl, rfl, hc, q⟩ := h
  obtain ⟨t, rfl⟩ := rx
  obtain ⟨t', rfl⟩ := ry
  exact rule i j t t' s _ _ hc ⟨.int (g i j), H, I.tok _, ⟨_, rfl⟩, q⟩
theorem opI0 {f : Value → Value → Sem Value} {g : Int → Int → Int}
    (rule : ∀ (i j : Int) (t u : Tok) (s : Shared) (Q : Value → Shared → Prop) (E : Value → Shared → Prop), Q (.int (g i j) s.toks) { s with toks := s.toks + 1 } → wpAny (model X.prog X.w) X.A (f (.int i t) (.int j u)) Q E s) :
    OpR X f (rI0 fun i j => .int (g i j)) := by
  intro pins s σ H x y v u Q I rx ry h
  obtain ⟨i, j, rfl, rfl, q⟩ := h
  obtain ⟨t, rfl⟩ := rx
  obtain ⟨t', rfl⟩ := ry
  exact rule i j t t' s _ _ ⟨.int (g i j), H, I.tok _, ⟨_, rfl⟩, q⟩
theorem opB0 {f : Value → Value → Sem Value} {g : Int → Int → Bool}
    (rule : ∀ (i j : Int) (t u : Tok) (s : Shared) (Q : Value → Shared → Prop) (E : Value → Shared → Prop), Q (.bool (g i j)) s → wpAny (model X.prog X.w) X.A (f (.int i t) (.int j u)) Q E s) :
    OpR X f (rI0 fun i j => .bl (g i j)) := by
  intro pins s σ H x y v u Q I rx ry h
  obtain ⟨i, j, rfl, rfl, q⟩ := h
  obtain ⟨t, rfl⟩ := rx
  obtain ⟨t', rfl⟩ := ry
  exact rule i j t t' s _ _ ⟨.bl (g i j), H, I, rfl, q⟩

def CDiv (i j : Int) : Prop := 0 < j ∧ j < 1073741824
def CDivN (i j : Int) : Prop := j ≠ 0 ∧ j.natAbs < 1073741824
def CPow (i j : Int) : Prop := 0 ≤ j ∧ j ≤ 1000000 ∧ i.natAbs < 2 ^ 64
def CMul (i j : Int) : Prop := (-(2 ^ 64) < i ∧ i < 2 ^ 64) ∨ (-(2 ^ 64) < j ∧ j < 2 ^ 64)

theorem op_add : OpR X (binaryOp .Add) (rI0 fun i j => .int (i + j)) := opI0 fun _ _ _ _ _ _ _ q => add_int q
theorem op_sub : OpR X (binaryOp .Sub) (rI0 fun i j => .int (i - j)) := opI0 fun _ _ _ _ _ _ _ q => sub_int q
/-- % by a positive divisor of any size -/
theorem op_mod : OpR X (binaryOp .Mod) (rI (fun _ j => 0 < j) fun i j => .int (i % j)) := opI fun i j _ _ _ _ _ hc q => by
  have h1 : (0 : Int) < j := hc
  exact mod_int' (by omega) (by rw [Int.fmod_eq_emod_of_nonneg i (by omega)]; exact q)


theorem unI {f : Value → Sem Value} {g : Int → Int}
    (rule : ∀ (i : Int) (t : Tok) (s : Shared) (Q : Value → Shared → Prop) (E : Value → Shared → Prop), Q (.int (g i) s.toks) { s with toks := s.toks + 1 } → wpAny (model X.prog X.w) X.A (f (.int i t)) Q E s) :
    UnR X f (rU fun i => .int (g i)) := by
  intro pins s σ H x v Q I rx h
  obtain ⟨i, rfl, q⟩ := h
  obtain ⟨t, rfl⟩ := rx
  exact rule i t s _ _ ⟨.int (g i), H, I.tok _, ⟨_, rfl⟩, q⟩
theorem un_neg : UnR X (unaryOp .USub) (rU fun i => .int (-i)) := unI fun _ _ _ _ _ q => neg_int q

/-! ### bools among ints: n += (a < b) -/
end

/-! ### comparisons -/
/-- the scalars that == tells apart as data does -/
def scal : V → V → Bool
  | .non, .non => true | .non, .int _ => true | .int _, .non => true | .non, .bl _ => true | .bl _, .non => true | .non, .str _ => true | .str _, .non => true
  | .int _, .int _ => true | .bl _, .bl _ => true | .str _, .str _ => true | .byt _, .byt _ => true
  | .int _, .str _ => true | .str _, .int _ => true | .bl _, .str _ => true | .str _, .bl _ => true
  | _, _ => false
def rEq : R2 := fun x y H Q => scal x y = true ∧ Q (.bl (decide (x = y))) H
def rNe : R2 := fun x y H Q => scal x y = true ∧ Q (.bl (!decide (x = y))) H

theorem dec_int {i j : Int} : decide (V.int i = V.int j) = (i == j) := by
  rw [Bool.eq_iff_iff]
  simp
theorem dec_bl {i j : Bool} : decide (V.bl i = V.bl j) = (i == j) := by
  rw [Bool.eq_iff_iff]
  simp
theorem dec_str {i j : Str} : decide (V.str i = V.str j) = (i == j) := by
  rw [Bool.eq_iff_iff]
  simp
theorem dec_byt {i j : Array UInt8} : decide (V.byt i = V.byt j) = (i.toList == j.toList) := by
  rw [Bool.eq_iff_iff]
  cases i
  cases j
  simp

section
variable {X : Cx} {a b c : Expr} {ta tb tc : TE} {pos : Pos}
theorem fin_bl {pins : List (Addr × Obj)} {σ : St} {H : Hp} {s : Shared} {Q : VK} {k k' : Bool} (I : Inv X pins σ H s) (q : Q (.bl k) H) (e : k = k') : EP X pins σ Q (.bool k') s := by
  subst e
  exact ⟨.bl k, H, I, rfl, q⟩
theorem op_eq : OpR X (compareOp .Eq) rEq := by
  intro pins s σ H x y v u Q I rx ry h
  obtain ⟨hs, q⟩ := h
  cases x with
  | non =>
    cases rx
    cases y with
    | non => cases ry; exact PySem.EqNone.eq_none_none (fin_bl I q (by simp))
    | bl j => cases ry; exact PySem.EqNone.eq_none_bool (fin_bl I q (by simp))
    | int j => obtain ⟨t', rfl⟩ := ry; exact PySem.EqNone.eq_none_int (fin_bl I q (by simp))
    | str j => obtain ⟨t', rfl⟩ := ry; exact PySem.EqNone.eq_none_str (fin_bl I q (by simp))
    | _ => exact absurd (show false = true from hs) Bool.false_ne_true
  | bl i =>
    cases rx
    cases y with
    | non => cases ry; exact PySem.EqNone.eq_bool_none (fin_bl I q (by simp))
    | bl j => cases ry; exact eq_bool (fin_bl I q dec_bl)
    | str j => obtain ⟨t', rfl⟩ := ry; exact PySem.EqMixed.eq_bool_str (fin_bl I q (by simp))
    | _ => exact absurd (show false = true from hs) Bool.false_ne_true
  | int i =>
    obtain ⟨t, rfl⟩ := rx
    cases y with
    | non => cases ry; exact PySem.EqNone.eq_int_none (fin_bl I q (by simp))
    | int j => obtain ⟨t', rfl⟩ := ry; exact eq_int (fin_bl I q dec_int)
    | str j => obtain ⟨t', rfl⟩ := ry; exact PySem.EqMixed.eq_int_str (fin_bl I q (by simp))
    | _ => exact absurd (show false = true from hs) Bool.false_ne_true
  | str i =>
    obtain ⟨t, rfl⟩ := rx
    cases y with
    | non => cases ry; exact PySem.EqNone.eq_str_none (fin_bl I q (by simp))
    | bl j => cases ry; exact PySem.EqMixed.eq_str_bool (fin_bl I q (by simp))
    | int j => obtain ⟨t', rfl⟩ := ry; exact PySem.EqMixed.eq_str_int (fin_bl I q (by simp))
    | str j => obtain ⟨t', rfl⟩ := ry; exact eq_str (fin_bl I q dec_str)
    | _ => exact absurd (show false = true from hs) Bool.false_ne_true
  | byt i =>
    obtain ⟨t, rfl⟩ := rx
    cases y with
    | byt j => obtain ⟨t', rfl⟩ := ry; exact PySem.W.eq_bytes (fin_bl I q dec_byt)
    | _ => exact absurd (show false = true from hs) Bool.false_ne_true
  | _ => cases y <;> exact absurd (show false = true from hs) Bool.false_ne_true
theorem op_ne : OpR X (compareOp .NotEq) rNe := by
  intro pins s σ H x y v u Q I rx ry h
  obtain ⟨hs, q⟩ := h
  cases x with
  | non =>
    cases rx
    cases y with
    | non => cases ry; exact PySem.EqNone.ne_none_none (fin_bl I q (by simp))
    | bl j => cases ry; exact PySem.EqNone.ne_none_bool (fin_bl I q (by simp))
    | int j => obtain ⟨t', rfl⟩ := ry; exact PySem.EqNone.ne_none_int (fin_bl I q (by simp))
    | str j => obtain ⟨t', rfl⟩ := ry; exact PySem.EqNone.ne_none_str (fin_bl I q (by simp))
    | _ => exact absurd (show false = true from hs) Bool.false_ne_true
  | bl i =>
    cases rx
    cases y with
    | non => cases ry; exact PySem.EqNone.ne_bool_none (fin_bl I q (by simp))
    | bl j => cases ry; exact ne_bool (fin_bl I q (congrArg not dec_bl))
    | str j => obtain ⟨t', rfl⟩ := ry; exact PySem.EqMixed.ne_bool_str (fin_bl I q (by simp))
    | _ => exact absurd (show false = true from hs) Bool.false_ne_true
  | int i =>
    obtain ⟨t, rfl⟩ := rx
    cases y with
    | non => cases ry; exact PySem.EqNone.ne_int_none (fin_bl I q (by simp))
    | int j => obtain ⟨t', rfl⟩ := ry; exact ne_int (fin_bl I q (congrArg not dec_int))
    | str j => obtain ⟨t', rfl⟩ := ry; exact PySem.EqMixed.ne_int_str (fin_bl I q (by simp))
    | _ => exact absurd (show false = true from hs) Bool.false_ne_true
  | str i =>
    obtain ⟨t, rfl⟩ := rx
    cases y with
    | non => cases ry; exact PySem.EqNone.ne_str_none (fin_bl I q (by simp))
    | bl j => cases ry; exact PySem.EqMixed.ne_str_bool (fin_bl I q (by simp))
    | int j => obtain ⟨t', rfl⟩ := ry; exact PySem.EqMixed.ne_str_int (fin_bl I q (by simp))
    | str j => obtain ⟨t', rfl⟩ := ry; exact ne_str (fin_bl I q (congrArg not dec_str))
    | _ => exact absurd (show false = true from hs) Bool.false_ne_true
  | byt i =>
    obtain ⟨t, rfl⟩ := rx
    cases y with
    | byt j => obtain ⟨t', rfl⟩ := ry; exact PySem.W.ne_bytes (fin_bl I q (congrArg not dec_byt))
    | _ => exact absurd (show false = true from hs) Bool.false_ne_true
  | _ => cases y <;> exact absurd (show false = true from hs) Bool.false_ne_true

theorem op_lt : OpR X (compareOp .Lt) (rI0 fun i j => .bl (decide (i < j))) := opB0 fun _ _ _ _ _ _ _ q => lt_int q
theorem op_gt : OpR X (compareOp .Gt) (rI0 fun i j => .bl (decide (j < i))) := opB0 fun _ _ _ _ _ _ _ q => gt_int q

/-- is None, is not None: the right side a value none -/
theorem op_isN : OpR X (compareOp .Is) (fun x y H Q => y = .non ∧ Q (.bl (decide (x = .non))) H) := by
  intro pins s σ H x y v u Q I rx ry h
  obtain ⟨rfl, q⟩ := h
  cases ry
  refine is_none_gen (fin_bl I q ?_)
  cases x <;> first
    | (cases rx; rfl)
    | (obtain ⟨t, rfl⟩ := rx; rfl)
theorem op_notN : OpR X (compareOp .IsNot) (fun x y H Q => y = .non ∧ Q (.bl (!decide (x = .non))) H) := by
  intro pins s σ H x y v u Q I rx ry h
  obtain ⟨rfl, q⟩ := h
  cases ry
  refine isnot_none_gen (fin_bl I q ?_)
  cases x <;> first
    | (cases rx; rfl)
    | (obtain ⟨t, rfl⟩ := rx; rfl)

/-- is, is not of two objects that are tracked lists or instances -/
def isObj : HO → Bool
  | .lst _ => true
  | .ins _ _ _ => true
  | _ => false


theorem nomark (b : Expr) {op : CmpOp} (h : op ≠ .In := by decide) (h2 : op ≠ .NotIn := by decide) : behindInMarks op b = false := by
  have e1 : (op == CmpOp.In) = false := by cases op <;> first | rfl | exact absurd rfl h
  have e2 : (op == CmpOp.NotIn) = false := by cases op <;> first | rfl | exact absurd rfl h2
  cases b <;> simp [behindInMarks, e1, e2]
/-- a comparison as a value; hm: nomark b, or (for in, not in) by with_unfolding_all rfl -/
theorem pe_cmpR {op : CmpOp} {r : R2} (ho : OpR X (compareOp op) r) (ha : PE X a ta) (hb : PE X b tb) (hm : behindInMarks op b = false) : PE X (.Compare a [op] [b] pos) (tOp r ta tb) := by
  intro pins s σ H Q I h
  exact wpAny_Compare1 (binT ha hb I h fun v u s2 x y H2 I2 rx ry q => ho pins s2 σ H2 x y v u Q I2 rx ry q) hm
/-- a reading of a value as a test -/
def tTest (t : TE) : TT := fun σ H Q => t σ H fun x H' => ∃ k, x = .bl k ∧ Q k H'
theorem pt_cmpR {op : CmpOp} {r : R2} (ho : OpR X (compareOp op) r) (ha : PE X a ta) (hb : PE X b tb) (hm : behindInMarks op b = false) : PT X (.Compare a [op] [b] pos) (tTest (tOp r ta tb)) := by
  intro pins s σ H Q I h
  refine wpAny_isTrue_Compare1 (thn (ha pins s σ H _ I h) fun v s1 ⟨x, H1, I1, r1, q1⟩ => thn (hb pins s1 σ H1 _ I1 q1) fun u s2 ⟨y, H2, I2, r2, q2⟩ =>
    thn (ho pins s2 σ H2 x y v u _ I2 r1 r2 q2) fun c s3 ⟨z, H3, I3, r3, k, e, q3⟩ => ?_) hm
  subst e
  cases r3
  exact wpAny_truthy_bool ⟨H3, I3, q3⟩
/-- a op1 b op2 c -/
def tChain (r r' : R2) (ta tb tc : TE) : TE := fun σ H Q => ta σ H fun x H1 => tb σ H1 fun y H2 => r x y H2 fun z H3 => ∃ k, z = .bl k ∧
  (if k = true then tc σ H3 fun w' H4 => r' y w' H4 Q else Q (.bl false) H3)

/-! ### truth -/
/-- a value's truth by the abstract heap -/
def TruV (K : PySem.W.Frag) (x : V) (H : Hp) (k : Bool) : Prop :=
  match x with
  | .non => k = false
  | .bl b => k = b
  | .int i => k = (i != 0)
  | .str y => y.length ≤ sizeLine ∧ k = ((y.length : Int) != 0)
  | .byt y => y.size ≤ sizeLine ∧ k = ((y.size : Int) != 0)
  | .ref p => (∃ xs, SqL K H p xs ∧ k = !xs.isEmpty) ∨ (∃ xs, SqT K H p xs ∧ k = !xs.isEmpty) ∨ ∃ kvs, H p = some (.dK kvs) ∧ k = !kvs.isEmpty
  | _ => False
theorem isEmpty_kv {κ : Type} {kvs : List (κ × V)} {vs : List (κ × Value)} (r : KV kvs vs) : (!vs.isEmpty) = !kvs.isEmpty := by
  cases r <;> rfl
theorem isEmpty_of {xs : List V} {its : List Value} (r : Vals xs its) : (!its.toArray.isEmpty) = !xs.isEmpty := by
  cases r <;> simp
theorem line63 : (sizeLine : Nat) < 2 ^ 63 := by rw [sizeLine_eq]; decide
theorem tru_ok : TruR X (fun x H Q => ∃ k, TruV X.K x H k ∧ Q k H) := by
  intro pins s σ H x v Q I rx h
  obtain ⟨k, e, q⟩ := h
  have hl := line63
  have hs : sizeLine = 16777216 := sizeLine_eq
  cases x with
  | non =>
    cases rx
    have e' : k = false := e
    subst e'
    exact truthy_none ⟨H, I, q⟩
  | bl b =>
    cases rx
    have e' : k = b := e
    subst e'
    exact wpAny_truthy_bool ⟨H, I, q⟩
  | int i =>
    obtain ⟨t, rfl⟩ := rx
    have e' : k = (i != 0) := e
    subst e'
    exact PySem.P.truthy_int ⟨H, I, q⟩
  | str y =>
    obtain ⟨t, rfl⟩ := rx
    obtain ⟨hy, e'⟩ : y.length ≤ sizeLine ∧ k = ((y.length : Int) != 0) := e
    subst e'
    exact PySem.P.truthy_str (by omega) ⟨H, I.tok _, q⟩
  | byt y =>
    obtain ⟨t, rfl⟩ := rx
    obtain ⟨hy, e'⟩ : y.size ≤ sizeLine ∧ k = ((y.size : Int) != 0) := e
    subst e'
    exact PySem.W.truthy_bytes (by omega) ⟨H, I.tok _, q⟩
  | ref p =>
    cases rx
    have e' : (∃ xs, SqL X.K H p xs ∧ k = !xs.isEmpty) ∨ (∃ xs, SqT X.K H p xs ∧ k = !xs.isEmpty) ∨ ∃ kvs, H p = some (.dK kvs) ∧ k = !kvs.isEmpty := e
    rcases e' with ⟨xs, hx, e'⟩ | ⟨xs, hx, e'⟩ | ⟨kvs, hx, e'⟩
    · subst e'
      obtain ⟨its, r, pl, hz⟩ := I.list hx
      have hlen := r.length
      exact wpAny_truthy_list pl.isList (by simp only [List.size_toArray]; omega) ⟨H, I.tok _, by rw [isEmpty_of r]; exact q⟩
    · subst e'
      obtain ⟨its, r, pl, hz⟩ := I.tuple hx
      have hlen := r.length
      exact truthy_tuple pl (by simp only [List.size_toArray]; omega) ⟨H, I.tok _, by rw [isEmpty_of r]; exact q⟩
    · subst e'
      obtain ⟨hz, hS, vs, r, m⟩ : kvs.length ≤ sizeLine ∧ (p == sysModules) = false ∧ ∃ vs, KV kvs vs ∧ s.heap.DictOf (mixKind X.prog X.w) p vs := I.hok p _ hx
      have hlen : kvs.length = vs.length := Paired.length r
      exact wpAny_truthy_dict hS m (by omega) ⟨H, I.tok _, by rw [isEmpty_kv r]; exact q⟩
  | _ => exact (show False from e).elim
/-- any expression whose test is its value's truth (a name, a call, a subscript, a field ..: he by fun _ => rfl) -/
theorem pt_truth (ha : PE X a ta) (he : ∀ whole, isTrue a X.env whole = (do let v ← whole; standAt a.pos; holding [v] (truthy v))) :
    PT X a (fun σ H Q => ta σ H fun x H' => ∃ k, TruV X.K x H' k ∧ Q k H') := by
  intro pins s σ H Q I h
  exact isTrue_plain (thn (ha pins s σ H _ I h) fun v s1 ⟨x, H1, I1, r1, q1⟩ => tru_ok pins s1 σ H1 x v Q I1 r1 q1) (he _)

/-! ### strs and bytes -/
theorem op_add_str : OpR X (binaryOp .Add) (fun x y H Q => ∃ i j, x = .str i ∧ y = .str j ∧ i.length + j.length ≤ sizeLine ∧ Q (.str (i ++ j)) H) := by
  intro pins s σ H x y v u Q I rx ry h
  obtain ⟨i, j, rfl, rfl, hz, q⟩ := h
  obtain ⟨t, rfl⟩ := rx
  obtain ⟨t', rfl⟩ := ry
  exact add_str (fun t' tk => ⟨.str (i ++ j), H, I.tok _, ⟨_, rfl⟩, q⟩) hz

def PlainIxT (b : Expr) : Prop := ∀ o i, subscripted b false o i = operate [o, i] (getItem o i)

/-! ### scalar builtins, by CallR -/
theorem vals1 {x : V} {us : List Value} (r : Vals [x] us) : ∃ u, us = [u] ∧ RelV x u := by
  cases r with
  | cons r1 r2 => cases r2; exact ⟨_, rfl, r1⟩
theorem vals2 {x y : V} {us : List Value} (r : Vals [x, y] us) : ∃ u w', us = [u, w'] ∧ RelV x u ∧ RelV y w' := by
  cases r with
  | cons r1 r2 =>
    cases r2 with
    | cons r3 r4 => cases r4; exact ⟨_, _, rfl, r1, r3⟩
theorem call_abs : CallR X (.builtin "abs") (fun xs H Q => ∃ i, xs = [.int i] ∧ Q (.int (if i < 0 then -i else i)) H) := by
  intro pins s σ H xs us Q I r h
  obtain ⟨i, rfl, q⟩ := h
  obtain ⟨u, rfl, t, rfl⟩ := vals1 r
  exact call_abs_int fun u tk => ⟨.int (if i < 0 then -i else i), H, I.tok _, ⟨_, rfl⟩, q⟩
theorem call_max2 (hc : X.calm = true) : CallR X (.builtin "max") (fun xs H Q => ∃ i j, xs = [.int i, .int j] ∧ Q (.int (if j > i then j else i)) H) := by
  intro pins s σ H xs us Q I r h
  obtain ⟨i, j, rfl, q⟩ := h
  obtain ⟨u, w', rfl, ⟨t, rfl⟩, ⟨t', rfl⟩⟩ := vals2 r
  refine max_two_ints (I.ok.hd hc) fun h' tk k => ⟨_, H, I.kept k, ?_, q⟩
  by_cases hj : j > i
  · rw [if_pos hj, if_pos hj]; exact ⟨_, rfl⟩
  · rw [if_neg hj, if_neg hj]; exact ⟨_, rfl⟩
theorem call_min2 (hc : X.calm = true) : CallR X (.builtin "min") (fun xs H Q => ∃ i j, xs = [.int i, .int j] ∧ Q (.int (if j < i then j else i)) H) := by
  intro pins s σ H xs us Q I r h
  obtain ⟨i, j, rfl, q⟩ := h
  obtain ⟨u, w', rfl, ⟨t, rfl⟩, ⟨t', rfl⟩⟩ := vals2 r
  refine min_two_ints (I.ok.hd hc) fun h' tk k => ⟨_, H, I.kept k, ?_, q⟩
  by_cases hj : j < i
  · rw [if_pos hj, if_pos hj]; exact ⟨_, rfl⟩
  · rw [if_neg hj, if_neg hj]; exact ⟨_, rfl⟩
theorem call_int1 : CallR X (.type "int") (fun xs H Q => (∃ i, xs = [.int i] ∧ Q (.int i) H) ∨ ∃ k, xs = [.bl k] ∧ Q (.int (if k then 1 else 0)) H) := by
  intro pins s σ H xs us Q I r h
  rcases h with ⟨i, rfl, q⟩ | ⟨k, rfl, q⟩
  · obtain ⟨u, rfl, t, rfl⟩ := vals1 r
    exact call_int_int ⟨.int i, H, I, ⟨_, rfl⟩, q⟩
  · obtain ⟨u, rfl, r1⟩ := vals1 r
    cases r1
    exact call_int_bool ⟨.int (if k then 1 else 0), H, I.tok _, ⟨_, rfl⟩, q⟩
theorem call_str_int : CallR X (.type "str") (fun xs H Q => ∃ i, xs = [.int i] ∧ i.natAbs.log2 < 1920 ∧ Q (.str (toString i)) H) := by
  intro pins s σ H xs us Q I r h
  obtain ⟨i, rfl, hz, q⟩ := h
  obtain ⟨u, rfl, t, rfl⟩ := vals1 r
  exact PySem.P.str_of_int hz ⟨.str _, H, I.tok _, ⟨_, rfl⟩, q⟩
/-- len of a str, a bytes, a list, a tuple -/
def LenV (K : PySem.W.Frag) (x : V) (H : Hp) (n : Nat) : Prop :=
  match x with
  | .str y => y.length ≤ sizeLine ∧ n = y.length
  | .byt y => y.size ≤ sizeLine ∧ n = y.size
  | .ref p => (∃ xs, SqL K H p xs ∧ n = xs.length) ∨ ∃ xs, SqT K H p xs ∧ n = xs.length
  | _ => False
end
end L2

namespace L2
open PySem PySem.Spec PyProof.Rows

/-! ### an instance, its attributes a map -/
structure ObjM (h : Heap) (x dx C : Addr) (mA : Str → Option Value) : Prop where
  obj : h.get? x = some (PySem.W.instObj C dx)
  ns : h.Ns1 dx mA
  ne : dx ≠ x

theorem lookIn_ns {h : Heap} {dx : Addr} {mA : Str → Option Value} (n : h.Ns1 dx mA) : ∃ od, h.get? dx = some od ∧ ∀ name, PySem.W.lookIn name od = some (mA name) := by
  obtain ⟨o, es, ep, ho, hd, hk, _, hm⟩ := n
  refine ⟨o, ho, fun name => ?_⟩
  have e := hm name
  unfold nsFind findBy at e
  rw [← Array.find?_toList] at e
  unfold PySem.W.lookIn
  rw [hd]
  dsimp only
  split
  · rename_i y q
    rw [q] at e
    exact congrArg some e
  · rename_i q
    rw [q] at e
    have a : es.toList.any (·.refKey) = false := by
      rw [List.any_eq_false]
      intro y hy
      obtain ⟨z, t, hkey⟩ := hk y (Array.mem_toList_iff.mp hy)
      simp [DictEntry.refKey, hkey]
    have a' : ¬ es.toList.any (·.refKey) = true := by rw [a]; exact Bool.false_ne_true
    rw [if_neg a']
    exact congrArg some e

theorem ObjM.look {h : Heap} {x dx C : Addr} {mA : Str → Option Value} (I : ObjM h x dx C mA) : ∃ od, PySem.W.InstAt h x (PySem.W.instObj C dx) C (some od) ∧ ∀ name, PySem.W.lookIn name od = some (mA name) :=
  let ⟨od, ho, hl⟩ := lookIn_ns I.ns
  ⟨od, ⟨I.obj, rfl, rfl, ho⟩, hl⟩

section
variable {prog : Program} {w : World} {A : Around} {E : Value → Shared → Prop} {s : Shared} {K : PySem.W.Frag} {x dx C f : Addr} {mA : Str → Option Value} {name : Str} {v : Value}





end

/-! ### the attributes as a list of pairs -/
def putF (f : Str) (v : V) : List (Str × V) → List (Str × V)
  | [] => [(f, v)]
  | (g, x) :: r => if g = f then (g, v) :: r else (g, x) :: putF f v r


section
variable {P : Program} {w : World} {H H' : Hp} {h h' : Heap} {a C dx : Addr} {fs fs' : List (Str × V)}
theorem ins_get (hok : HOk P w H h) (e : H a = some (.ins C dx fs)) : ∃ mA, ObjM h a dx C mA ∧ (∀ f, RelO (fs.lookup f) (mA f)) ∧ PySem.Within mA (fs.map (·.1)) ∧ fs.length ≤ 1000 ∧ H dx = some (.own a) := by
  obtain ⟨d, z, ne, ob, mA, n, r, q⟩ := (show ObjOk P w H h a (.ins C dx fs) from hok a _ e)
  exact ⟨mA, ⟨ob, n, ne⟩, r, q, z, d⟩
end

/-! ### what of the text a class must have -/
structure Cls (K : PySem.W.Frag) (C : Addr) : Prop where
  pg : PySem.W.plainGet K C Str.empty = true
  hd : PySem.W.hasDictIn K C = true
  po : PySem.W.plainOver K C = true
  sa : PySem.W.findIn K (.ref C) "__setattr__" = some (some (.builtin "object.__setattr__"))
theorem Cls.get {K : PySem.W.Frag} {C : Addr} (c : Cls K C) (f : Str) : PySem.W.plainGet K C f = true := c.pg
/-- no class of it has the name -/
def NoAttr (K : PySem.W.Frag) (C : Addr) (f : Str) : Prop := PySem.W.findIn K (.ref C) f = some none
/-- a constant of the class -/
structure Con (K : PySem.W.Frag) (C : Addr) (f : Str) (v : V) (u : Value) : Prop where
  at_ : PySem.W.findIn K (.ref C) f = some (some u)
  rel : RelV v u
  get : PySem.W.specialIn K u "__get__" = some none
  cp : PySem.W.copiedNames.contains f = false
/-- a method: a plain def of the class or of one above it -/
structure Meth (K : PySem.W.Frag) (C : Addr) (m : Str) (f : Addr) : Prop where
  at_ : PySem.W.findIn K (.ref C) m = some (some (.ref f))
  fn : PySem.W.isFn K (.ref f) = true
  kp : PySem.W.keepIn K (.ref f) = true

section
variable {X : Cx} {pins : List (Addr × Obj)} {σ : St} {H : Hp} {s : Shared} {a C dx : Addr} {fs : List (Str × V)} {f : Str} {v : V} {A : Around} {E : Value → Shared → Prop}






end

/-! ### readings and rules -/
/-- e.f, an attribute of the instance -/
def tFld (K : PySem.W.Frag) (ta : TE) (f : Str) : TE := fun σ H Q => ta σ H fun x H1 => ∃ a C dx fs v, x = .ref a ∧ H1 a = some (.ins C dx fs) ∧ Cls K C ∧ NoAttr K C f ∧ fs.lookup f = some v ∧ Q v H1
/-- e.f, a constant of the class -/
def tCon (K : PySem.W.Frag) (ta : TE) (f : Str) : TE := fun σ H Q => ta σ H fun x H1 => ∃ a C dx fs v u, x = .ref a ∧ H1 a = some (.ins C dx fs) ∧ Cls K C ∧ Con K C f v u ∧ fs.lookup f = none ∧ Q v H1
/-- e.f = value -/
def sFld (K : PySem.W.Frag) (ta tv : TE) (f : Str) : TS := fun D σ H => tv σ H fun y H1 => ta σ H1 fun x H2 => ∃ a C dx fs, x = .ref a ∧ H2 a = some (.ins C dx fs) ∧ Cls K C ∧ NoAttr K C f ∧ fs.length < 1000 ∧
  D.nx σ (upd H2 a (.ins C dx (putF f y fs)))
/-- an augmented operator on two values -/
def InOp (X : Cx) (op : Operator) (rd : V → V → Hp → VK → Prop) : Prop :=
  ∀ (pins : List (Addr × Obj)) (s : Shared) (σ : St) (H : Hp) (x y : V) (u v : Value) (Q : VK), Inv X pins σ H s → RelV x u → RelV y v → rd x y H Q → wpAny (model X.prog X.w) X.A (inplaceOp op u v) (EP X pins σ Q) X.xe s
/-- e.f op= value -/
def sFldAug (K : PySem.W.Frag) (ta tv : TE) (rd : V → V → Hp → VK → Prop) (f : Str) : TS := fun D σ H => ta σ H fun x H1 => ∃ a C dx fs v, x = .ref a ∧ H1 a = some (.ins C dx fs) ∧ Cls K C ∧ NoAttr K C f ∧ fs.lookup f = some v ∧
  tv σ H1 fun y H2 => rd v y H2 fun z H3 => ∃ dx' fs', H3 a = some (.ins C dx' fs') ∧ fs'.length < 1000 ∧ D.nx σ (upd H3 a (.ins C dx' (putF f z fs')))

section
variable {X : Cx} {o e value : Expr} {f : Str} {pos pos' tpos : Pos} {ta tv : TE}
def rAdd : V → V → Hp → VK → Prop := fun x y H Q => ∃ i j, x = .int i ∧ y = .int j ∧ Q (.int (i + j)) H
def rSub : V → V → Hp → VK → Prop := fun x y H Q => ∃ i j, x = .int i ∧ y = .int j ∧ Q (.int (i - j)) H

end

/-! ### isinstance -/
section
variable {X : Cx} {pins : List (Addr × Obj)} {σ : St} {H : Hp} {s : Shared} {A : Around} {E : Value → Shared → Prop} {Q : Value → Shared → Prop} {c : Value} {b : Bool}
/-- the type of a value, as the fragment's deciders take it; for an instance its class -/
inductive TyOf (K : PySem.W.Frag) (H : Hp) : V → Value → Prop where
  | non : TyOf K H .non (.type "NoneType")
  | bl (x : Bool) : TyOf K H (.bl x) (.type "bool")
  | int (i : Int) : TyOf K H (.int i) (.type "int")
  | str (x : Str) : TyOf K H (.str x) (.type "str")
  | flt (x : UInt64) : TyOf K H (.flt x) (.type "float")
  | lst {a : Addr} {xs : List V} (e : H a = some (.lst xs)) : TyOf K H (.ref a) (.type "list")
  | frz {a : Addr} {o : Obj} {xs : List V} (e : H a = some (.frz o (.lst xs))) : TyOf K H (.ref a) (.type "list")
  | tup {a : Addr} {xs : List V} (e : H a = some (.tup xs)) : TyOf K H (.ref a) (.type "tuple")
  | dK {a : Addr} {kvs : List (Key × V)} (e : H a = some (.dK kvs)) : TyOf K H (.ref a) (.type "dict")
  | dT {a : Addr} {kvs : List (List Key × V)} (e : H a = some (.dT kvs)) : TyOf K H (.ref a) (.type "dict")
  | ins {a C dx : Addr} {fs : List (Str × V)} (e : H a = some (.ins C dx fs)) (cl : Cls K C) (ha : PySem.W.findIn K (.ref C) "__class__" = some (some (.builtin "object.__class__")))
      (hn : PySem.W.specialIn K (.builtin "object.__class__") "__get__" = some (some (.builtin "getset_descriptor.__get__"))) (htk : PySem.W.takesIn K (.builtin "object.__class__") = some true)
      (hm : PySem.W.mroIn K C (.type "object") = some true) : TyOf K H (.ref a) (.ref C)
/-- isinstance(x, c) for one class c, a built-in or an own one: kitOne's answer -/
theorem isinst_ok {x : V} {u t : Value} (I : Inv X pins σ H s) (rx : RelV x u) (ty : TyOf X.K H x t) (e : PySem.W.kitOne X.K t c = some b) (h : ∀ tk, Q (.bool b) { s with toks := tk }) :
    wpAny (model X.prog X.w) A (call (.builtin "isinstance") [u, c]) Q E s := by
  cases ty with
  | non => cases (show u = Value.none from rx); exact PySem.W.kia_one PySem.W.kitx_none I.kIn True.intro e (fun z => nomatch z) h
  | bl y => cases (show u = Value.bool y from rx); exact PySem.W.kia_one PySem.W.kitx_bool I.kIn True.intro e (fun z => nomatch z) h
  | int i => obtain ⟨t, q⟩ := (show ∃ t, u = Value.int i t from rx); cases q; exact PySem.W.kia_one PySem.W.kitx_int I.kIn True.intro e (fun z => nomatch z) h
  | str y => obtain ⟨t, q⟩ := (show ∃ t, u = Value.str y t from rx); cases q; exact PySem.W.kia_one PySem.W.kitx_str I.kIn True.intro e (fun z => nomatch z) h
  | flt y => obtain ⟨t, q⟩ := (show ∃ t, u = Value.float y t from rx); cases q; exact PySem.W.kia_one PySem.W.kitx_float I.kIn True.intro e (fun z => nomatch z) h
  | @lst a xs ea =>
    cases (show u = Value.ref a from rx)
    obtain ⟨_, _, n, _, h1⟩ := (show ObjOk X.prog X.w H s.heap a (.lst xs) from I.hok a _ ea)
    exact PySem.W.kia_one PySem.W.kitx_list I.kIn ⟨_, h1, rfl⟩ e (fun z => nomatch z) h
  | @frz a ob xs ea =>
    cases (show u = Value.ref a from rx)
    obtain ⟨_, _, _, n, _, h1⟩ := (show ObjOk X.prog X.w H s.heap a (.frz ob (.lst xs)) from I.hok a _ ea)
    exact PySem.W.kia_one PySem.W.kitx_list I.kIn ⟨_, h1, rfl⟩ e (fun z => nomatch z) h
  | @tup a xs ea =>
    cases (show u = Value.ref a from rx)
    obtain ⟨_, _, _, p⟩ := (show ObjOk X.prog X.w H s.heap a (.tup xs) from I.hok a _ ea)
    obtain ⟨o, h1, h2, _⟩ := p
    exact PySem.W.kia_one PySem.W.kitx_tuple I.kIn ⟨o, h1, h2⟩ e (fun z => nomatch z) h
  | @dK a kvs ea =>
    cases (show u = Value.ref a from rx)
    obtain ⟨_, _, vs, _, p⟩ := (show ObjOk X.prog X.w H s.heap a (.dK kvs) from I.hok a _ ea)
    obtain ⟨o, es, ep, h1, h2, _⟩ := p
    exact PySem.W.kia_one PySem.W.kitx_dict I.kIn ⟨o, h1, h2.1⟩ e (fun z => nomatch z) h
  | @dT a kvs ea =>
    cases (show u = Value.ref a from rx)
    obtain ⟨_, _, xs, _, o, es, ep, h1, h2, _⟩ := (show ObjOk X.prog X.w H s.heap a (.dT kvs) from I.hok a _ ea)
    exact PySem.W.kia_one PySem.W.kitx_dict I.kIn ⟨o, h1, h2.1⟩ e (fun z => nomatch z) h
  | @ins a C dx fs ea cl ha hn htk hm =>
    cases (show u = Value.ref a from rx)
    obtain ⟨mA, O, _⟩ := ins_get I.hok ea
    obtain ⟨od, J, _⟩ := O.look
    exact PySem.W.kia_one (PySem.W.kitx_own (cl.get _) cl.hd ha hn htk hm) I.kIn J e (fun z => nomatch z) h
end
end L2

namespace L2
open PySem PySem.Spec PyProof.Rows

/-! ### room -/
structure Room (k : Nat) (A : Around) : Prop where
  hd : A.handled = none
  dp : A.depth + 3 * k + 5 < recursionLimit
  un : A.units + 16 * k + 200 < cLine
theorem Room.mono {j k : Nat} {A : Around} (r : Room k A) (h : j ≤ k) : Room j A := ⟨r.hd, by have := r.dp; omega, by have := r.un; omega⟩
theorem Room.deeper {k : Nat} {A : Around} (r : Room (k + 1) A) (env : Env) : Room k (A.deeper env) :=
  ⟨r.hd, by have := r.dp; show A.depth + 1 + 3 * k + 5 < _; omega, by have := r.un; show A.units + 3 + 16 * k + 200 < _; omega⟩
theorem Room.depth {k : Nat} {A : Around} (r : Room k A) : A.depth < recursionLimit := by have := r.dp; omega
theorem Room.units {k : Nat} {A : Around} (r : Room k A) : A.units + 64 < cLine := by have := r.un; omega

/-! ### argument lists and displays -/
def tNil : TA := fun _ H Q => Q [] H
def tCons (ta : TE) (tr : TA) : TA := fun σ H Q => ta σ H fun x H1 => tr σ H1 fun xs H2 => Q (x :: xs) H2
section
variable {X : Cx} {e : Expr} {es : List Expr} {te : TE} {t : TA} {pos : Pos}
theorem pa_nil : PA X [] tNil := fun _ _ _ _ H Q I h => Calls.spliced_nil ⟨[], H, I, .nil, h⟩
theorem pa_cons (ha : PE X e te) (hr : PA X es t) (hs : starEach (e :: es) X.env = (false, eval e X.env) :: starEach es X.env := by rfl) : PA X (e :: es) (tCons te t) := by
  intro pos pins s σ H Q I h
  rw [hs]
  show wpAny _ _ (spliced ((false, eval e X.env) :: backTo pos (starEach es X.env))) _ _ s
  refine Calls.spliced_cons (thn (ha pins s σ H _ I h) fun u s1 ⟨x, H1, I1, r1, q1⟩ => ?_)
  exact thn (hr pos pins s1 σ H1 _ I1 q1) fun us s2 ⟨xs, H2, I2, r2, q2⟩ => ⟨x :: xs, H2, I2, .cons r1 r2, q2⟩

/-- a tuple, a list of written items -/
def tTup (t : TA) : TE := fun σ H Q => t σ H fun xs H1 => xs.length ≤ sizeLine ∧ ∀ p, H1 p = none → Q (.ref p) (upd H1 p (.tup xs))
def tLst (t : TA) : TE := fun σ H Q => t σ H fun xs H1 => xs.length ≤ sizeLine ∧ ∀ p, H1 p = none → Q (.ref p) (upd H1 p (.lst xs))
theorem pe_tup {x1} (h : PA X es t) : PE X (.Tuple es x1 pos) (tTup t) := by
  intro pins s σ H Q I hq
  refine wpAny_Tuple_spliced (thn (h pos pins s σ H _ I hq) fun us s1 ⟨xs, H1, I1, r, z, q⟩ => ⟨by rw [← r.length]; exact z, ?_⟩)
  have hf : H1 s1.heap.objs.size = none := I1.hok.fresh (Nat.le_refl _)
  refine ⟨.ref s1.heap.objs.size, upd H1 s1.heap.objs.size (.tup xs), I1.laid (t' := s1.toks) (fun b u e => Heap.get?_push_of_some _ e) (Nat.le_refl _) ?_, rfl, q _ hf⟩
  exact ⟨z, us, r, ⟨_, Heap.get?_push_size _ rfl, rfl, _, rfl⟩⟩
theorem pe_lst (h : PA X es t) : PE X (.List es pos) (tLst t) := by
  intro pins s σ H Q I hq
  refine wpAny_List_spliced (thn (h pos pins s σ H _ I hq) fun us s1 ⟨xs, H1, I1, r, z, q⟩ => ⟨by rw [← r.length]; exact z, ?_⟩)
  have hf : H1 s1.heap.objs.size = none := I1.hok.fresh (Nat.le_refl _)
  refine ⟨.ref s1.heap.objs.size, upd H1 s1.heap.objs.size (.lst xs), I1.laid (t' := s1.toks) (fun b u e => Heap.get?_push_of_some _ e) (Nat.le_refl _) ?_, rfl, q _ hf⟩
  exact ⟨z, us, 0, r, Heap.get?_push_size _ rfl⟩
end

/-! ### what a def promises -/
/-- a def's promise: the bound arguments in the parameters' order, the heap, the wanted end, the wanted exception -/
abbrev Sp := List V → Hp → VK → XK → Prop
/-- how an exception lies behind a call (file 08 gives it): the callers' frames, abstract heap and state ahead of the call, the wish, the exception, the state -/
abbrev CXT := List Env → Hp → Shared → XK → Value → Shared → Prop

/-- the state at a call -/
structure Env0 (P : Program) (w : World) (K : PySem.W.Frag) (mg : Str → Option Value) (base : Heap) (A : Around) (outer : List Env) (s : Shared) (H : Hp) : Prop where
  frames : A.frames = some outer
  mod : Mod K mg base
  bs : ∀ b o, base.get? b = some o → s.heap.get? b = some o ∧ H b = none
  bsz : base.objs.size ≤ s.heap.objs.size
  funs : s.heap.FunFrames base outer
  frf : ∀ b ∈ frs outer, H b = none
  hok : HOk P w H s.heap
  bare : AllBare s.gens
/-- a call's end -/
def CE (outer : List Env) (P : Program) (w : World) (H : Hp) (s : Shared) (Q : VK) (u : Value) (s' : Shared) : Prop :=
  ∃ v H', s'.os = s.os ∧ AllBare s'.gens ∧ Un (frs outer) [] H H' s.heap s'.heap ∧ HOk P w H' s'.heap ∧ RelV v u ∧ Q v H'
def CR (CX : CXT) (outer : List Env) (P : Program) (w : World) (H : Hp) (s : Shared) (Q : VK) (E : XK) (r : Result) (s' : Shared) : Prop :=
  match r with
  | .ok (.ret u) => CE outer P w H s Q u s'
  | .ok _ => False
  | .error e => CX outer H s E e s'
structure FnOk (P : Program) (w : World) (K : PySem.W.Frag) (mg : Str → Option Value) (base : Heap) (CX : CXT) (k : Nat) (f : Addr) (fd : FuncData) (ps : List Str) (sp : Sp) : Prop where
  len : ∀ vs H Q E, sp vs H Q E → vs.length = ps.length
  run : ∀ (A : Around) (outer : List Env) (s : Shared) (H : Hp) (args : Args) (us : List Value) (vs : List V) (Q : VK) (E : XK), Room k A → Env0 P w K mg base A outer s H → BindsTo s fd args (ps.zip us) → Vals vs us → sp vs H Q E →
    codeAny (model P w) A (.call (.ref f) args) (CR CX outer P w H s Q E) s


section
variable {X : Cx} {pins : List (Addr × Obj)} {σ : St} {H : Hp} {s s' : Shared}
/-- from a body: what a callee wants -/
theorem Inv.env0 (I : Inv X pins σ H s) : Env0 X.prog X.w X.K X.mg X.base X.A X.stack s H :=
  ⟨I.ok.frames, I.ok.mod, I.bs, Nat.le_trans I.ok.bsz I.sz, I.stack, I.stkFree, I.hok, I.bare⟩
/-- behind a call -/
theorem Inv.after {Q : VK} {u : Value} (I : Inv X pins σ H s) (h : CE X.stack X.prog X.w H s Q u s') : EP X pins σ Q u s' := by
  obtain ⟨v, H', os, bare, un, hok, r, q⟩ := h
  obtain ⟨hh, g, d, t, os'⟩ := s'
  obtain rfl : os' = s.os := os
  exact ⟨v, H', I.call (h' := hh) (g' := g) (d' := d) (t' := t) (ch := []) un hok bare (fun b z => absurd z (by simp)), r, q⟩
end

/-! ### calls -/
/-- f(..): the written arguments, then the defaults dvs; E: what is wanted of an exception -/
def tCall (sp : Sp) (dvs : List V) (E : XK) (t : TA) : TE := fun σ H Q => t σ H fun vs H1 => sp (vs ++ dvs) H1 Q E
/-- o.m(..) of an instance of the class at C -/
def tMeth (C : Addr) (m : Str) (sp : Sp) (dvs : List V) (E : XK) (ta : TE) (t : TA) : TE := fun σ H Q => ta σ H fun x H1 => ∃ a dx fs, x = .ref a ∧ H1 a = some (.ins C dx fs) ∧ fs.lookup m = none ∧
  t σ H1 fun vs H2 => sp (x :: (vs ++ dvs)) H2 Q E
/-- C(..): a new instance and its dict, then __init__ -/
def tMake (C : Addr) (sp : Sp) (dvs : List V) (E : XK) (t : TA) : TE := fun σ H Q => t σ H fun vs H1 => ∀ x dx, H1 x = none → H1 dx = none → dx ≠ x →
  sp (.ref x :: (vs ++ dvs)) (upd (upd H1 dx (.own x)) x (.ins C dx [])) (fun v H2 => v = .non ∧ Q (.ref x) H2) E

/-- how the parameters are bound: us the positional arguments, kw the keywords' values by name, ds the defaults that fill up -/
def Binds (K : PySem.W.Frag) (fd : FuncData) (ps : List Str) (ds : List Value) : Prop :=
  ∀ (s : Shared) (us : List Value), K.In s.heap → (us ++ ds).length = ps.length → BindsTo s fd ⟨us, []⟩ (ps.zip (us ++ ds))
/-- every parameter is given -/
theorem Binds.all {K : PySem.W.Frag} {fd : FuncData} {ps : List Str} (h : ∀ us : List Value, us.length = ps.length → bindArgs fd ⟨us, []⟩ = pure (ps.zip us)) : Binds K fd ps [] := fun s us _ hl => by
  rw [List.append_nil] at hl ⊢
  exact .of_eq (h us hl)

/-- an exception of a callee reaches what this body wants of exceptions -/
def Passes (CX : CXT) (X : Cx) (E : XK) : Prop := ∀ (pins : List (Addr × Obj)) (σ : St) (H : Hp) (s : Shared) (e : Value) (s' : Shared), Inv X pins σ H s → CX X.stack H s E e s' → X.xe e s'

section
variable {X : Cx} {CX : CXT} {k : Nat} {f C : Addr} {fd : FuncData} {ps : List Str} {sp : Sp} {dvs : List V} {ds : List Value} {E : XK} {x m : Str} {p pos apos : Pos} {e o : Expr} {es : List Expr} {ta : TE} {t : TA}

/-- the callee runs -/
theorem run_fn {pins : List (Addr × Obj)} {σ : St} {H : Hp} {s : Shared} {Q : VK} {us : List Value} {vs : List V} (F : FnOk X.prog X.w X.K X.mg X.base CX k f fd ps sp) (hr : Room k X.A) (hb : Binds X.K fd ps ds) (hd : Vals dvs ds) (hx : Passes CX X E)
    (I : Inv X pins σ H s) (r : Vals vs us) (h : sp (vs ++ dvs) H Q E) : wpAny (model X.prog X.w) X.A (call (.ref f) us) (EP X pins σ Q) X.xe s := by
  have r2 : Vals (vs ++ dvs) (us ++ ds) := r.append hd
  have hl : (us ++ ds).length = ps.length := by rw [← r2.length]; exact F.len _ _ _ _ h
  refine wpAny_call (codeAny_mono (F.run X.A X.stack s H ⟨us, []⟩ (us ++ ds) (vs ++ dvs) Q E hr I.env0 (hb s us I.kIn hl) r2 h) fun r s' hq => ?_)
  cases r with
  | error e => exact hx pins σ H s e s' I hq
  | ok fl =>
    cases fl with
    | ret u => exact I.after hq
    | next => exact False.elim hq
    | brk => exact False.elim hq
    | cont => exact False.elim hq

theorem pe_call (F : FnOk X.prog X.w X.K X.mg X.base CX k f fd ps sp) (hr : Room k X.A) (hg : Gl X x) (hm : X.mg x = some (.ref f)) (hk : PySem.W.keepIn X.K (.ref f) = true) (hb : Binds X.K fd ps ds) (hd : Vals dvs ds) (hx : Passes CX X E)
    (ha : PA X (e :: es) t) (hdb : (x == ("__debug__" : Str)) = false := by decide) (he : starEach (e :: es) X.env = (false, eval e X.env) :: starEach es X.env := by rfl) (hpl : (backTo pos (starEach es X.env)).any (·.1) = false := by rfl) :
    PE X (.Call (.Name x p) (e :: es) [] pos) (tCall sp dvs E t) := by
  intro pins s σ H Q I h
  refine wpAny_Call_Name_kw (ld_glob I hg hm ?_ hdb)
  refine PySem.W.callWith_K (h₀ := X.base) I.ok.mod.kin hk (thn (ha pos pins s σ H _ I h) fun us s1 ⟨vs, H1, I1, r, q⟩ => ⟨I1.kIn, ?_⟩) he hpl
  exact run_fn F hr hb hd hx I1 r q


/-- what a class must have to be made -/
structure Mk (K : PySem.W.Frag) (C f : Addr) : Prop where
  makes : PySem.W.makesIn K C = true
  init : PySem.W.findIn K (.ref C) "__init__" = some (some (.ref f))
  fn : PySem.W.isFn K (.ref f) = true
  kp : PySem.W.keepIn K (.ref C) = true

end

/-! ### keywords -/
/-- the values of the keywords, from the left -/
def PK (X : Cx) (kws : List Keyword) (t : TA) : Prop :=
  ∀ (pos : Pos) (pins : List (Addr × Obj)) (s : Shared) (σ : St) (H : Hp) (Q : List V → Hp → Prop), Inv X pins σ H s → t σ H Q → wpAny (model X.prog X.w) X.A (evalAll ((backToKw pos (keywordEach kws X.env)).map (·.2))) (AP X pins σ Q) X.xe s
section
variable {X : Cx} {CX : CXT} {k : Nat} {f C : Addr} {fd : FuncData} {ps ks : List Str} {sp : Sp} {E : XK} {x m : Str} {p pos apos kpos : Pos} {e o : Expr} {es : List Expr} {kws : List Keyword} {te ta : TE} {t tk : TA} {nm : Option Str}

/-- how a call with keywords binds: g puts the positional values us and the keywords' values ws (names ks) in the parameters' order, defaults among them -/
structure KBinds (K : PySem.W.Frag) (fd : FuncData) (ps ks : List Str) (g : List Value → List Value → List Value) (gV : List V → List V → List V) : Prop where
  to : ∀ (s : Shared) (us ws : List Value), K.In s.heap → (g us ws).length = ps.length → BindsTo s fd ⟨us, ks.zip ws⟩ (ps.zip (g us ws))
  rel : ∀ {vs : List V} {us : List Value} {zs : List V} {ws : List Value}, Vals vs us → Vals zs ws → Vals (gV vs zs) (g us ws)
def tCallK (sp : Sp) (gV : List V → List V → List V) (E : XK) (t tk : TA) : TE := fun σ H Q => t σ H fun vs H1 => tk σ H1 fun zs H2 => sp (gV vs zs) H2 Q E
variable {g : List Value → List Value → List Value} {gV : List V → List V → List V}
end

/-! ### a def's body keeps its promise -/
/-- names: the parameters first -/
structure FnScope (N P : List Str) (sc : Scope) : Prop where
  kind : sc.kind = .function
  co : sc.isCoroutine = false
  gen : sc.isGenerator = false
  nd : N.Nodup
  pre : N.take P.length = P
  par : ∀ x ∈ P, sc.names.lookup x = some .local ∨ sc.names.lookup x = some .cell
  nofree : ∀ y ∈ sc.names, y.2 ≠ .free

theorem bindL_out {kindOf : Str → Option NameKind} {x : Str} : ∀ {binds : List (Str × Value)} {m : Str → Option Value}, (∀ v, (x, v) ∉ binds) → bindL kindOf binds m x = m x
  | [], _, _ => rfl
  | (n, v) :: r, m, h => by
    unfold bindL
    rw [bindL_out fun w hw => h w (List.mem_cons_of_mem _ hw)]
    split
    · have : x ≠ n := by rintro rfl; exact h v List.mem_cons_self
      simp [this]
    · rfl
theorem bindC_out {kindOf : Str → Option NameKind} {x : Str} : ∀ {binds : List (Str × Value)} {m : Str → Option Value}, (∀ v, (x, v) ∉ binds) → bindC kindOf binds m x = m x
  | [], _, _ => rfl
  | (n, v) :: r, m, h => by
    unfold bindC
    rw [bindC_out fun w hw => h w (List.mem_cons_of_mem _ hw)]
    split
    · rfl
    · have : x ≠ n := by rintro rfl; exact h v List.mem_cons_self
      simp [this]
theorem bindL_get {kindOf : Str → Option NameKind} {x : Str} {v : Value} : ∀ {P : List Str} {vs : List Value} {i : Nat} {m : Str → Option Value}, P.Nodup → P[i]? = some x → vs[i]? = some v → kindOf x = some .local →
    bindL kindOf (P.zip vs) m x = some v
  | [], _, _, _, _, h, _, _ => by simp at h
  | _ :: _, [], _, _, _, _, h, _ => by simp at h
  | p :: P, w :: vs, 0, m, nd, h1, h2, hk => by
    simp at h1 h2; subst h1; subst h2
    show bindL kindOf ((p, w) :: P.zip vs) m p = _
    unfold bindL
    rw [bindL_out fun v hv => (List.nodup_cons.mp nd).1 (List.of_mem_zip hv).1, if_pos hk]
    simp
  | p :: P, w :: vs, i + 1, m, nd, h1, h2, hk => by
    show bindL kindOf ((p, w) :: P.zip vs) m x = _
    unfold bindL
    exact bindL_get (i := i) (List.nodup_cons.mp nd).2 (by simpa using h1) (by simpa using h2) hk
theorem bindC_get {kindOf : Str → Option NameKind} {x : Str} {v : Value} : ∀ {P : List Str} {vs : List Value} {i : Nat} {m : Str → Option Value}, P.Nodup → P[i]? = some x → vs[i]? = some v → kindOf x ≠ some .local →
    bindC kindOf (P.zip vs) m x = some v
  | [], _, _, _, _, h, _, _ => by simp at h
  | _ :: _, [], _, _, _, _, h, _ => by simp at h
  | p :: P, w :: vs, 0, m, nd, h1, h2, hk => by
    simp at h1 h2; subst h1; subst h2
    show bindC kindOf ((p, w) :: P.zip vs) m p = _
    unfold bindC
    rw [bindC_out fun v hv => (List.nodup_cons.mp nd).1 (List.of_mem_zip hv).1, if_neg hk]
    simp
  | p :: P, w :: vs, i + 1, m, nd, h1, h2, hk => by
    show bindC kindOf ((p, w) :: P.zip vs) m x = _
    unfold bindC
    exact bindC_get (i := i) (List.nodup_cons.mp nd).2 (by simpa using h1) (by simpa using h2) hk

/-- the names' values at the entry -/
def start (N : List Str) (vs : List V) : St := vs.map some ++ List.replicate (N.length - vs.length) none

/-- the context of a def's body, at its entry; an exception leaves the frame, then lies as CX says -/
def cxOf (CX : CXT) (P : Program) (w : World) (K : PySem.W.Frag) (mg : Str → Option Value) (base : Heap) (N : List Str) (qual : Str) (scope : Scope) (f : Addr) (cd : Value) (A : Around) (outer : List Env) (s : Shared) (H : Hp) (E : XK) : Cx where
  prog := P
  w := w
  K := K
  mg := mg
  base := base
  A := A.deeper (envOfC qual scope s.heap.objs.size f cd)
  N := N
  s₀ := s
  H₀ := H
  env := envOfC qual scope s.heap.objs.size f cd
  outer := outer
  stack := envOfC qual scope s.heap.objs.size f cd :: outer
  ex := []
  calm := true
  fn := fun _ => true
  pn := []
  xe := fun e s' => wpAny (model P w) (A.deeper (envOfC qual scope s.heap.objs.size f cd)) (leaving (envOfC qual scope s.heap.objs.size f cd) e) (fun _ s'' => CX outer H s E e s'') (fun e' s'' => CX outer H s E e' s'') s'

theorem cell_has {sc : Scope} {n : Nat} {x : Str} (h : sc.names.lookup x = some .cell) : ∃ c, (cellsFrom n sc.names []).lookup x = some c := by
  have q := PySem.W.cellsFrom_some sc.names n [] (.inl h)
  exact Option.isSome_iff_exists.mp q

theorem inv_start {CX : CXT} {P : Program} {w : World} {K : PySem.W.Frag} {mg : Str → Option Value} {base : Heap} {N ps : List Str} {qual : Str} {scope : Scope} {f : Addr} {cd : Value} {A : Around} {outer : List Env} {s s1 : Shared} {H : Hp} {E : XK} {us : List Value} {vs : List V}
    (S : FnScope N ps scope) (hd : A.handled = none) (e0 : Env0 P w K mg base A outer s H) (hl : vs.length = ps.length) (r : Vals vs us)
    (x : InCallC s s.heap.objs.size (bindL (envOfC qual scope s.heap.objs.size f cd).kindOf (ps.zip us) fun _ => none) (cellsFrom (s.heap.objs.size + 1) scope.names []) (bindC (envOfC qual scope s.heap.objs.size f cd).kindOf (ps.zip us) fun _ => none) s1) :
    Inv (cxOf CX P w K mg base N qual scope f cd A outer s H E) [] (start N vs) H s1 := by
  have hpl : ps.length ≤ N.length := by have := congrArg List.length S.pre; rw [List.length_take] at this; omega
  obtain ⟨h1, tk, rfl, hk⟩ := x.done
  have noA : ∀ b : Addr, b ∉ (cxOf CX P w K mg base N qual scope f cd A outer s H E).ex := fun b z => absurd (show b ∈ ([] : List Addr) from z) (by simp)
  refine ⟨⟨e0.mod, S.kind, rfl, rfl, Nat.le_refl _, fun y z c h1 h2 => ?_, fun y hy => ?_, fun y c _ h => ?_, fun _ => hd, Around.frames_deeper e0.frames, .inr ⟨rfl, rfl⟩, fun b z => absurd z (noA b), e0.bs, e0.bsz, fun b _ _ => noA b, fun b z => absurd z (noA b), e0.funs, e0.frf⟩,
    rfl, e0.bare, Un.kept hk, ⟨_, x.toInCall.ns, fun i y v h1 h2 h3 => ?_⟩, fun y c h => ⟨_, x.cell y c h⟩, e0.hok.fresh (Nat.le_refl _), fun y c h => ?_, fun p hp => absurd (show p ∈ ([] : List (Addr × Obj)) from hp) (by simp), e0.hok.kept hk, ?_⟩
  · exact name_of_addr x.apart (PySem.mem_of_lookup h1) (PySem.mem_of_lookup h2)
  · have hy : scope.names.lookup y = some .cell ∨ scope.names.lookup y = some .free := hy
    rcases hy with hy | hy
    · exact cell_has hy
    · exact absurd rfl (S.nofree _ (PySem.mem_of_lookup hy))
  · exact Nat.le_of_lt (x.above y c (PySem.mem_of_lookup h))
  · have hi : i < vs.length := by
      unfold start at h2
      by_cases hi : i < vs.length
      · exact hi
      · rw [List.getElem?_append_right (by simpa using hi)] at h2
        rw [List.getElem?_replicate] at h2
        split at h2 <;> cases h2
    have ha : vs[i]? = some v := by
      unfold start at h2
      rw [List.getElem?_append_left (by simpa using hi), List.getElem?_map] at h2
      cases e : vs[i]? with
      | none => rw [e] at h2; cases h2
      | some a => rw [e] at h2; cases h2; rfl
    obtain ⟨u, hu, rv⟩ := r.get ha
    have hp : ps[i]? = some y := by
      rw [← S.pre, List.getElem?_take_of_lt (by omega)]; exact h1
    have ndP : ps.Nodup := by rw [← S.pre]; exact S.nd.sublist (List.take_sublist _ _)
    refine ⟨u, rv, ?_⟩
    rcases S.par y (List.mem_of_getElem? hp) with k | k
    · exact .inl ⟨k, bindL_get ndP hp hu k⟩
    · obtain ⟨c, e⟩ := cell_has (n := s.heap.objs.size + 1) k
      refine .inr ⟨.inl k, c, e, ?_⟩
      have q := x.cell y c e
      rw [bindC_get ndP hp hu (by show scope.names.lookup y ≠ _; rw [k]; decide)] at q
      exact q
  · exact e0.hok.fresh (Nat.le_of_lt (x.above y c (PySem.mem_of_lookup h)))
  · unfold start
    show _ = N.length
    rw [List.length_append, List.length_map, List.length_replicate]
    omega

/-- THE RULE: a def (or a method) of the text, by its body. The body's reading t is chosen for each entry; it is run at the parameters' values -/
theorem fn_of {CX : CXT} {P : Program} {w : World} {K : PySem.W.Frag} {mg : Str → Option Value} {base : Heap} {k : Nat} {f : Addr} {name qual : Str} {params : Arguments} {body : List Stmt} {scope : Scope} {dV kV doc pm cdv ct oc : Value} {an od : Option Addr}
    {osl : Array (Option Value)} {N ps : List Str} {sp : Sp} (lk : K.lookup f = some ⟨oc, od, .func (PySem.W.fnOf name qual params body scope dV kV doc pm an cdv ct), osl⟩) (hcd : PySem.W.codeIn K cdv qual = true) (S : FnScope N ps scope)
    (len : ∀ vs H Q E, sp vs H Q E → vs.length = ps.length)
    (hbody : ∀ (A : Around) (outer : List Env) (s : Shared) (H : Hp) (vs : List V) (Q : VK) (E : XK), Room k (A.deeper (envOfC qual scope s.heap.objs.size f cdv)) → sp vs H Q E →
      ∃ t, PSs (cxOf CX P w K mg base N qual scope f cdv A outer s H E) body t ∧ t { nx := fun _ H' => Q .non H', rt := Q } (start N vs) H) :
    FnOk P w K mg base CX (k + 1) f (PySem.W.fnOf name qual params body scope dV kV doc pm an cdv ct) ps sp := by
  refine ⟨len, fun A outer s H args us vs Q E hr e0 hb r hsp => ?_⟩
  have hl := len _ _ _ _ hsp
  have KX : K.In s.heap := e0.mod.kin.keeps fun b o e => (e0.bs b o e).1
  have lim : s.heap.NoLimit := e0.mod.nolimit.keeps fun b o e => (e0.bs b o e).1
  have hkind : ∀ y ∈ ps.zip us, scope.names.lookup y.1 = some .local ∨ (scope.names.lookup y.1 = some .cell ∧ ((cellsFrom (s.heap.objs.size + 1) scope.names []).lookup y.1).isSome = true) := fun ⟨n, v⟩ hy => by
    rcases S.par n (List.of_mem_zip hy).1 with q | q
    · exact .inl q
    · exact .inr ⟨q, PySem.W.cellsFrom_some _ _ _ (.inl q)⟩
  refine codeAny_call_function hr.depth (KX _ _ lk) rfl S.co S.gen rfl (PySem.W.codeRec_of KX hcd) (hb _ _ _ _ ?_)
  refine wpAny_newFunctionEnv_cells S.kind hkind fun env he s1 x => ?_
  subst he
  refine ⟨lim.keeps x.toInCall.keep, codeAny_func ?_⟩
  obtain ⟨t, ht, hq⟩ := hbody A outer s H vs Q E (hr.deeper _) hsp
  have I : Inv (cxOf CX P w K mg base N qual scope f cdv A outer s H E) [] (start N vs) H s1 := inv_start S hr.hd e0 hl r x
  refine wpAny_mono (ht [] s1 (start N vs) H _ I hq) (fun fl s' hs => ?_) fun e s' hs => hs
  have fin : ∀ {σ' : St} {H' : Hp} {v : V} {u : Value}, Inv (cxOf CX P w K mg base N qual scope f cdv A outer s H E) [] σ' H' s' → RelV v u → Q v H' → CE outer P w H s Q u s' :=
    fun {σ' H' v u} J rv q => ⟨v, H', J.os, J.bare, J.base, J.hok, rv, q⟩
  cases fl with
  | ret u =>
    obtain ⟨v, σ', H', J, rv, q⟩ := hs
    exact fin J rv q
  | next =>
    obtain ⟨σ', H', J, q⟩ := hs
    exact fin (v := V.non) (u := Value.none) J rfl q
  | brk =>
    obtain ⟨_, _, _, q⟩ := hs
    exact False.elim q
  | cont =>
    obtain ⟨_, _, _, q⟩ := hs
    exact False.elim q
end L2

namespace L2
open PySem PySem.Spec PyProof.Rows
section
variable {X : Cx} {x : Str} {p pos : Pos} {e : Expr} {es : List Expr} {t : TA} {id T : String} {r : List V → Hp → VK → Prop}

def tCB (r : List V → Hp → VK → Prop) (t : TA) : TE := fun σ H Q => t σ H fun vs H1 => r vs H1 Q
/-- f(e, ..), f a built-in function -/
theorem pe_callB (hc : CallR X (.builtin id) r) (hg : Gl X x) (hm : X.mg x = none) (hv : bootBuiltins x = some (.builtin id)) (ha : PA X (e :: es) t) (hn : x ≠ "__name__" := by decide) (hdb : (x == ("__debug__" : Str)) = false := by decide)
    (he : starEach (e :: es) X.env = (false, eval e X.env) :: starEach es X.env := by rfl) (hpl : (backTo pos (starEach es X.env)).any (·.1) = false := by rfl) : PE X (.Call (.Name x p) (e :: es) [] pos) (tCB r t) := by
  intro pins s σ H Q I h
  refine wpAny_Call_Name_kw (ld_blt I hg hm hv ?_ hn hdb)
  exact PyProof.Rows.callWith_builtin1 (thn (ha pos pins s σ H _ I h) fun us s1 ⟨vs, H1, I1, r1, q1⟩ => hc pins s1 σ H1 vs us Q I1 r1 q1) he hpl
/-- T(e, ..), T a built-in type -/
theorem pe_callTy (hc : CallR X (.type T) r) (hg : Gl X x) (hm : X.mg x = none) (hv : bootBuiltins x = some (.type T)) (ha : PA X (e :: es) t) (hn : x ≠ "__name__" := by decide) (hdb : (x == ("__debug__" : Str)) = false := by decide)
    (he : starEach (e :: es) X.env = (false, eval e X.env) :: starEach es X.env := by rfl) (hpl : (backTo pos (starEach es X.env)).any (·.1) = false := by rfl) : PE X (.Call (.Name x p) (e :: es) [] pos) (tCB r t) := by
  intro pins s σ H Q I h
  refine wpAny_Call_Name_kw (ld_blt I hg hm hv ?_ hn hdb)
  exact PyProof.Rows.callWith_type1 (thn (ha pos pins s σ H _ I h) fun us s1 ⟨vs, H1, I1, r1, q1⟩ => hc pins s1 σ H1 vs us Q I1 r1 q1) he hpl
end
end L2

namespace HT
open PySem PyProof.Rows

/-- t < u of tuples of ints -/
def lexLt : List Int → List Int → Bool
  | [], [] => false
  | [], _ :: _ => true
  | _ :: _, [] => false
  | x :: xs, y :: ys => if x = y then lexLt xs ys else decide (x < y)


section
open PySem.SeqAt
open PySem.AutoSeq1 (wpAny_loadPart')
open PySem.MeetsSeq PySem.MeetsSeq2 PySem.MeetsSeq3

end

section
variable {prog : Program} {w : World} {A : Around} {E : Value → Shared → Prop} {s : Shared}



/-! ### t[a:b], not the whole -/
/-- a slice's bound as a place among n (d where it is left out) -/
def sIx (n d : Nat) : Option Int → Nat
  | none => d
  | some v => if v < 0 then (v + (n : Int)).toNat else min v.toNat n
theorem sIx_nat (n d k : Nat) : sIx n d (some (k : Int)) = min k n := by
  show (if (k : Int) < 0 then ((k : Int) + (n : Int)).toNat else min (k : Int).toNat n) = min k n
  rw [if_neg (by omega), Int.toNat_natCast]
theorem sIx_le (n d : Nat) (hd : d ≤ n) (o : Option Int) : sIx n d o ≤ n := by
  cases o with
  | none => exact hd
  | some v =>
    show (if v < 0 then (v + (n : Int)).toNat else min v.toNat n) ≤ n
    by_cases hv : v < 0
    · rw [if_pos hv]; omega
    · rw [if_neg hv]; exact Nat.min_le_right _ _

end
end HT

namespace L2
open PySem PySem.Spec PyProof.Rows

/-! ### the parts of a slice -/
abbrev TO := St → Hp → (Option Int → Hp → Prop) → Prop
/-- a slice's part (left out, or an int) -/
def PO (X : Cx) (e : Option Expr) (t : TO) : Prop :=
  ∀ (pins : List (Addr × Obj)) (s : Shared) (σ : St) (H : Hp) (Q : Option Int → Hp → Prop), Inv X pins σ H s → t σ H Q →
    wpAny (model X.prog X.w) X.A (evalPart e X.env) (fun u s' => ∃ o H', Inv X pins σ H' s' ∧ IsPart u o ∧ Q o H') X.xe s
def tNoPart : TO := fun _ H Q => Q none H
def tPart (t : TE) : TO := fun σ H Q => t σ H fun x H1 => ∃ i, x = .int i ∧ Q (some i) H1


section
variable {X : Cx} {e : Expr} {te : TE} {lo hi : Option Expr} {tl th : TO} {pos p2 : Pos}

theorem po_none : PO X none tNoPart := by
  intro pins s σ H Q I h
  rw [evalPart_none]
  exact wpAny_pure ⟨none, H, I, .none, h⟩
theorem po_some (h : PE X e te) : PO X (some e) (tPart te) := by
  intro pins s σ H Q I hw
  rw [evalPart_some]
  refine thn (h pins s σ H _ I hw) fun u s1 ⟨x, H1, I1, r1, q1⟩ => ?_
  obtain ⟨i, rfl, q⟩ := q1
  obtain ⟨t, rfl⟩ := r1
  exact ⟨some i, H1, I1, .int i t, q⟩

/-- what a slice of a value is, by values: the slice object stands at sl -/
def SlR (X : Cx) (r : V → Option Int → Option Int → Hp → VK → Prop) : Prop :=
  ∀ (pins : List (Addr × Obj)) (s : Shared) (σ : St) (H : Hp) (x : V) (v vl vu : Value) (lo hi : Option Int) (sl : Addr) (Q : VK), Inv X pins σ H s → RelV x v → s.heap.IsSliceOf sl vl vu .none → IsPart vl lo → IsPart vu hi → r x lo hi H Q →
    ∃ T id, typeLookup (.type T) "__getitem__" = pure (some (.builtin id)) ∧ s.TypeIs v T ∧ wpAny (model X.prog X.w) X.A (getItem v (.ref sl)) (EP X pins σ Q) X.xe s
def tSl (r : V → Option Int → Option Int → Hp → VK → Prop) (te : TE) (tl th : TO) : TE := fun σ H Q => te σ H fun x H1 => tl σ H1 fun l H2 => th σ H2 fun u H3 => r x l u H3 Q
/-- a[lo:hi], any a -/
theorem pe_slice {r : V → Option Int → Option Int → Hp → VK → Prop} (hr : SlR X r) (he : PE X e te) (hl : PO X lo tl) (hu : PO X hi th) : PE X (.Subscript e (.Slice lo hi none p2) pos) (tSl r te tl th) := by
  intro pins s σ H Q I h
  refine Subscript_ (thn (he pins s σ H _ I h) fun v s1 ⟨x, H1, I1, r1, q1⟩ => ?_)
  refine wpAny_Slice (thn (hl pins s1 σ H1 _ I1 q1) fun vl s2 ⟨l, H2, I2, pl, q2⟩ => thn (hu pins s2 σ H2 _ I2 q2) fun vu s3 ⟨u, H3, I3, pu, q3⟩ => ?_)
  rw [evalPart_none]
  refine wpAny_pure ?_
  have I4 : Inv X pins σ H3 { s3 with heap := s3.heap.push { cls := .type "slice", data := .fields #[vl, vu, .none] } } := I3.kept (t' := s3.toks) fun b ob q => Heap.get?_push_of_some _ q
  obtain ⟨T, id, hT, ht, hg⟩ := hr pins { s3 with heap := s3.heap.push { cls := .type "slice", data := .fields #[vl, vu, .none] } } σ H3 x v vl vu l u s3.heap.objs.size Q I4 r1 (Heap.IsSliceOf.new ..) pl pu q3
  show wpAny (model X.prog X.w) X.A (subscriptTail e (.Slice lo hi none p2) v (.ref s3.heap.objs.size)) (EP X pins σ Q) X.xe { s3 with heap := s3.heap.push { cls := .type "slice", data := .fields #[vl, vu, .none] } }
  exact tail_any (ops := [.ref s3.heap.objs.size, v]) ht hT hg (by with_unfolding_all rfl)

/-- the items of xs[lo:hi] -/
def cutV (xs : List V) (lo hi : Option Int) : List V := (xs.drop (HT.sIx xs.length 0 lo)).take (HT.sIx xs.length xs.length hi - HT.sIx xs.length 0 lo)
theorem cutV_length (xs : List V) (lo hi : Option Int) : (cutV xs lo hi).length ≤ xs.length := by
  unfold cutV
  rw [List.length_take, List.length_drop]
  omega
/-- t[lo:hi], not the whole of it (the whole would be t itself) -/
def rSlT (K : PySem.W.Frag) : V → Option Int → Option Int → Hp → VK → Prop := fun x lo hi H Q => ∃ a xs, x = .ref a ∧ SqT K H a xs ∧
  ¬ (HT.sIx xs.length 0 lo = 0 ∧ HT.sIx xs.length xs.length hi = xs.length) ∧ ∀ p, H p = none → Q (.ref p) (upd H p (.tup (cutV xs lo hi)))

/-! ### t < u, t + u -/
def rLtT (K : PySem.W.Frag) : R2 := fun x y H Q => ∃ a b ns ms, x = .ref a ∧ y = .ref b ∧ SqT K H a (ns.map V.int) ∧ SqT K H b (ms.map V.int) ∧ Q (.bl (HT.lexLt ns ms)) H
/-- t + u, t not empty: u empty gives t itself -/
def rCatT (K : PySem.W.Frag) : R2 := fun x y H Q => ∃ a b xs ys, x = .ref a ∧ y = .ref b ∧ SqT K H a xs ∧ SqT K H b ys ∧ xs ≠ [] ∧ xs.length + ys.length ≤ sizeLine ∧
  (ys = [] → Q (.ref a) H) ∧ (ys ≠ [] → ∀ p, H p = none → Q (.ref p) (upd H p (.tup (xs ++ ys))))
end
end L2

namespace L2
open PySem PySem.Spec PyProof.Rows

/-! ### places -/
/-- the place that an index of any sign means -/
def ixN (n : Nat) (i : Int) : Option Nat := if 0 ≤ i then (if i < n then some i.toNat else none) else if -(n : Int) ≤ i then some (i + n).toNat else none
def atI {α : Type} (xs : List α) (i : Int) : Option α := (ixN xs.length i).bind fun j => xs[j]?
theorem ixN_seq {n : Nat} {i : Int} {j : Nat} (h : ixN n i = some j) : seqIndex? i n = some j ∧ j < n ∧ -(n : Int) ≤ i ∧ i < n := by
  unfold ixN at h
  by_cases h0 : 0 ≤ i
  · rw [if_pos h0] at h
    by_cases h1 : i < n
    · rw [if_pos h1] at h
      have e : i.toNat = j := Option.some.inj h
      exact ⟨by rw [seqIndex_of h0 h1, e], by omega, by omega, h1⟩
    · rw [if_neg h1] at h; cases h
  · rw [if_neg h0] at h
    by_cases h1 : -(n : Int) ≤ i
    · rw [if_pos h1] at h
      have e : (i + n).toNat = j := Option.some.inj h
      exact ⟨by rw [seqIndex_neg (by omega) h1, e], by omega, h1, by omega⟩
    · rw [if_neg h1] at h; cases h
theorem atI_get {α : Type} {xs : List α} {i : Int} {v : α} (h : atI xs i = some v) : ∃ j, seqIndex? i xs.length = some j ∧ xs[j]? = some v ∧ j < xs.length ∧ -(xs.length : Int) ≤ i ∧ i < xs.length := by
  unfold atI at h
  cases e : ixN xs.length i with
  | none => rw [e] at h; cases h
  | some j =>
    rw [e] at h
    obtain ⟨h1, h2, h3, h4⟩ := ixN_seq e
    exact ⟨j, h1, h, h2, h3, h4⟩
theorem atI_nat {α : Type} {xs : List α} {j : Nat} {v : α} (h : xs[j]? = some v) : atI xs (j : Int) = some v := by
  have hj : j < xs.length := (List.getElem?_eq_some_iff.mp h).1
  have e : ixN xs.length (j : Int) = some j := by
    unfold ixN
    rw [if_pos (by omega), if_pos (by omega)]; simp
  unfold atI; rw [e]; exact h

/-! ### what may be subscripted -/
/-- what stands as an index of a plain subscript -/
def PlainIx (b : Expr) : Prop := ∀ o i, subscripted b false o i = operate [o, i] (getItem o i)
/-- a subscript by values -/
def IxR (X : Cx) (r : R2) : Prop :=
  ∀ (value slice : Expr) (pins : List (Addr × Obj)) (s : Shared) (σ : St) (H : Hp) (x y : V) (v u : Value) (Q : VK), Inv X pins σ H s → RelV x v → RelV y u → r x y H Q →
    subscripted slice false v u = operate [v, u] (getItem v u) → wpAny (model X.prog X.w) X.A (subscriptTail value slice v u) (EP X pins σ Q) X.xe s
/-- a call of a builtin's method by values: the receiver, the arguments -/
def MtR (X : Cx) (id : String) (r : V → List V → Hp → VK → Prop) : Prop :=
  ∀ (pins : List (Addr × Obj)) (s : Shared) (σ : St) (H : Hp) (x : V) (xs : List V) (v : Value) (us : List Value) (Q : VK), Inv X pins σ H s → RelV x v → Vals xs us → r x xs H Q →
    wpAny (model X.prog X.w) X.A (call (.builtin id) (v :: us)) (EP X pins σ Q) X.xe s
section
variable {X : Cx} {a b : Expr} {ta tb : TE} {pos : Pos}
/-- a[b] -/
theorem pe_ix {r : R2} (hr : IxR X r) (ha : PE X a ta) (hb : PE X b tb) (hs : PlainIx b) : PE X (.Subscript a b pos) (tOp r ta tb) := by
  intro pins s σ H Q I h
  exact Subscript_ (binT ha hb I h fun v u s2 x y H2 I2 rx ry q => hr a b pins s2 σ H2 x y v u Q I2 rx ry q (hs _ _))

def rIxL (K : PySem.W.Frag) : R2 := fun x y H Q => ∃ p xs i v, x = .ref p ∧ y = .int i ∧ SqL K H p xs ∧ atI xs i = some v ∧ Q v H
def rIxT (K : PySem.W.Frag) : R2 := fun x y H Q => ∃ p xs i v, x = .ref p ∧ y = .int i ∧ SqT K H p xs ∧ atI xs i = some v ∧ Q v H
def rIxS : R2 := fun x y H Q => ∃ z i c, x = .str z ∧ y = .int i ∧ z.length ≤ sizeLine ∧ atI z.cps.toList i = some c ∧ Q (.str ⟨#[c]⟩) H
theorem ix_list : IxR X (rIxL X.K) := by
  intro value slice pins s σ H x y v u Q I rx ry h hs
  obtain ⟨p, xs, i, z, rfl, rfl, hq, he, q⟩ := h
  cases rx
  obtain ⟨t, rfl⟩ := ry
  obtain ⟨its, r, pl, hz⟩ := I.list hq
  obtain ⟨j, h1, h2, h3, h4, h5⟩ := atI_get he
  obtain ⟨w, ew, rw'⟩ := r.get h2
  have hl := r.length
  have hn := line63
  have fin : EP X pins σ Q w s := ⟨z, H, I, rw', q⟩
  by_cases h0 : 0 ≤ i
  · have hj : i.toNat = j := by
      rw [seqIndex_of h0 h5] at h1
      exact Option.some.inj h1
    exact item_listR pl.isList h0 (by omega) (by rw [hj]; simpa using ew) fin hs
  · have hj : (i + (its.toArray.size : Int)).toNat = j := by
      rw [seqIndex_neg (by omega) h4] at h1
      rw [List.size_toArray, ← hl]
      exact Option.some.inj h1
    exact subscriptTail_builtinR (x := w) pl.isList.typeIs slot_list_getitem.lookup
      (wpAny_getItem_list_neg (Q := fun r s' => r = w ∧ EP X pins σ Q r s') pl.isList (by omega) (by rw [List.size_toArray] <;> omega) (by omega) (by rw [hj]; simpa using ew) ⟨rfl, fin⟩) hs
theorem ix_tup : IxR X (rIxT X.K) := by
  intro value slice pins s σ H x y v u Q I rx ry h hs
  obtain ⟨p, xs, i, z, rfl, rfl, hq, he, q⟩ := h
  cases rx
  obtain ⟨t, rfl⟩ := ry
  obtain ⟨its, r, pl, hz⟩ := I.tuple hq
  obtain ⟨j, h1, h2, h3, h4, h5⟩ := atI_get he
  obtain ⟨w, ew, rw'⟩ := r.get h2
  have hl := r.length
  have hn := line63
  have fin : EP X pins σ Q w s := ⟨z, H, I, rw', q⟩
  exact subscriptTail_builtinR (x := w) pl.typeIs slot_tuple_getitem.lookup
    (getItem_tuple (j := j) (Q := fun r s' => r = w ∧ EP X pins σ Q r s') pl (by omega) (by omega) (by rw [List.size_toArray, ← hl]; exact h1) (by simpa using ew) ⟨rfl, fin⟩) hs
theorem ix_str : IxR X rIxS := by
  intro value slice pins s σ H x y v u Q I rx ry h hs
  obtain ⟨z, i, c, rfl, rfl, hz, he, q⟩ := h
  obtain ⟨t, rfl⟩ := rx
  obtain ⟨t', rfl⟩ := ry
  obtain ⟨j, h1, h2, h3, h4, h5⟩ := atI_get he
  have hl : z.cps.toList.length = z.length := by simp [Str.length]
  rw [hl] at h1 h4 h5
  have hn := line63
  exact tail_any (typeIs_str s z t) slot_str_getitem.lookup (getItem_str (c := c) (by
    have e1 : decide (i < -(2 ^ 63 : Int)) = false := decide_eq_false (by omega)
    have e2 : decide (i ≥ 2 ^ 63) = false := decide_eq_false (by omega)
    rw [e1, e2, Bool.or_false]) (by rw [h1]; simpa using h2) ⟨.str ⟨#[c]⟩, H, I.tok _, ⟨_, rfl⟩, q⟩) hs
/-- list, tuple or str -/
def rIx (K : PySem.W.Frag) : R2 := fun x y H Q => rIxL K x y H Q ∨ rIxT K x y H Q ∨ rIxS x y H Q

/-! ### xs[i] = v, any sign -/
def rSetL : V → V → V → Hp → (Hp → Prop) → Prop := fun o i v H Q => ∃ p xs k j, o = .ref p ∧ i = .int k ∧ H p = some (.lst xs) ∧ ixN xs.length k = some j ∧ Q (upd H p (.lst (xs.set j v)))

/-! ### slices -/
theorem slice_bounds (lo hi : Option Int) (n : Nat) : (sliceBounds lo hi none n).1 = ((HT.sIx n 0 lo : Nat) : Int) ∧ (sliceBounds lo hi none n).2.1 = ((HT.sIx n n hi : Nat) : Int) ∧ (sliceBounds lo hi none n).2.2 = 1 := by
  refine ⟨?_, ?_, rfl⟩
  · cases lo with
    | none => simp [sliceBounds, HT.sIx]
    | some i =>
      simp only [sliceBounds, HT.sIx, Option.getD_none, show (1 : Int) > 0 by decide, if_true]
      by_cases h : i < 0
      · simp only [h, if_true] <;> omega
      · simp only [h, if_false] <;> omega
  · cases hi with
    | none => simp [sliceBounds, HT.sIx]
    | some i =>
      simp only [sliceBounds, HT.sIx, Option.getD_none, show (1 : Int) > 0 by decide, if_true]
      by_cases h : i < 0
      · simp only [h, if_true] <;> omega
      · simp only [h, if_false] <;> omega
theorem slicePick_cut (its : List Value) (lo hi : Option Int) : slicePick its.toArray lo hi none = ((its.drop (HT.sIx its.length 0 lo)).take (HT.sIx its.length its.length hi - HT.sIx its.length 0 lo)).toArray := by
  obtain ⟨h1, h2, h3⟩ := slice_bounds lo hi its.toArray.size
  unfold slicePick
  rw [h1, h2, h3]
  simp only [sliceRange_one, pick_run, List.size_toArray] <;> rfl
/-- xs[lo:hi] of a list: a new list -/
def rSlL (K : PySem.W.Frag) : V → Option Int → Option Int → Hp → VK → Prop := fun x lo hi H Q => ∃ a xs, x = .ref a ∧ SqL K H a xs ∧ ∀ p, H p = none → Q (.ref p) (upd H p (.lst (cutV xs lo hi)))
theorem sl_list : SlR X (rSlL X.K) := by
  intro pins s σ H x v vl vu lo hi sl Q I rx hs pl pu h
  obtain ⟨a, xs, rfl, hx, q⟩ := h
  cases rx
  obtain ⟨its, r, ht, hz⟩ := I.list hx
  have hlen := r.length
  refine ⟨"list", _, slot_list_getitem.lookup, ht.isList.typeIs, ?_⟩
  refine wpAny_getItem_list_slice ht.isList hs pl pu .none (by simp) ?_ (by rw [List.size_toArray] <;> omega)
  rw [slicePick_cut, ← hlen]
  refine ⟨.ref s.heap.objs.size, _, I.laid (t' := s.toks) (o := .lst (cutV xs lo hi)) (fun b ob q => Heap.get?_push_of_some _ q) (Nat.le_refl _) ?_, rfl, q _ (I.hok.fresh (Nat.le_refl _))⟩
  exact ⟨Nat.le_trans (cutV_length xs lo hi) hz, _, 0, (r.drop (HT.sIx xs.length 0 lo)).take (HT.sIx xs.length xs.length hi - HT.sIx xs.length 0 lo), Heap.get?_push_size _ rfl⟩

/-! ### in, not in: flat items -/
def flatV : V → Bool
  | .non => true
  | .bl _ => true
  | .int _ => true
  | .str _ => true
  | _ => false
/-- == of flat values -/
def eqV : V → V → Bool
  | .non, .non => true
  | .bl a, .bl b => a == b
  | .bl a, .int b => (if a then 1 else 0) == b
  | .int a, .bl b => a == (if b then 1 else 0)
  | .int a, .int b => a == b
  | .str a, .str b => a == b
  | _, _ => false
theorem eqAt_V {A : Around} {s : Shared} {y x : V} {u v : Value} (ry : RelV y u) (rx : RelV x v) (fy : flatV y = true) (fx : flatV x = true) : SeqAt.EqAt A s u v (eqV y x) := by
  cases y with
  | non =>
    cases ry
    cases x with
    | non => cases rx; exact SeqAt.EqAt.same _
    | bl b => cases rx; exact SeqAt.EqAt.none_bool b
    | int b => obtain ⟨t, rfl⟩ := rx; exact SeqAt.EqAt.none_int b t
    | str b => obtain ⟨t, rfl⟩ := rx; exact SeqAt.EqAt.none_str b t
    | _ => exact absurd (show false = true from fx) Bool.false_ne_true
  | bl a =>
    cases ry
    cases x with
    | non => cases rx; exact SeqAt.EqAt.bool_none a
    | bl b => cases rx; exact SeqAt.EqAt.bool_bool a b
    | int b => obtain ⟨t, rfl⟩ := rx; exact SeqAt.EqAt.bool_int a b t
    | str b => obtain ⟨t, rfl⟩ := rx; exact SeqAt.EqAt.bool_str a b t
    | _ => exact absurd (show false = true from fx) Bool.false_ne_true
  | int a =>
    obtain ⟨t', rfl⟩ := ry
    cases x with
    | non => cases rx; exact SeqAt.EqAt.int_none a t'
    | bl b => cases rx; exact SeqAt.EqAt.int_bool a t' b
    | int b => obtain ⟨t, rfl⟩ := rx; exact SeqAt.EqAt.int_int a t' b t
    | str b => obtain ⟨t, rfl⟩ := rx; exact SeqAt.EqAt.int_str a t' b t
    | _ => exact absurd (show false = true from fx) Bool.false_ne_true
  | str a =>
    obtain ⟨t', rfl⟩ := ry
    cases x with
    | non => cases rx; exact SeqAt.EqAt.str_none a t'
    | bl b => cases rx; exact SeqAt.EqAt.str_bool a t' b
    | int b => obtain ⟨t, rfl⟩ := rx; exact SeqAt.EqAt.str_int a t' b t
    | str b => obtain ⟨t, rfl⟩ := rx; exact SeqAt.EqAt.str_str a t' b t
    | _ => exact absurd (show false = true from fx) Bool.false_ne_true
  | _ => exact absurd (show false = true from fy) Bool.false_ne_true
/-- the items' answers, read off the values (a value's own answer does not lean on its token) -/
def eqU (x : V) (u : Value) : Bool := match u with
  | .none => eqV .non x
  | .bool b => eqV (.bl b) x
  | .int i _ => eqV (.int i) x
  | .str z _ => eqV (.str z) x
  | _ => false
theorem eqU_of {x y : V} {u : Value} (r : RelV y u) (f : flatV y = true) : eqU x u = eqV y x := by
  cases y with
  | non => cases r; rfl
  | bl b => cases r; rfl
  | int i => obtain ⟨t, rfl⟩ := r; rfl
  | str z => obtain ⟨t, rfl⟩ := r; rfl
  | _ => exact absurd (show false = true from f) Bool.false_ne_true
theorem any_eqU {x : V} : ∀ {xs : List V} {us : List Value}, Vals xs us → xs.all flatV = true → us.any (eqU x) = xs.any fun y => eqV y x
  | _, _, .nil, _ => rfl
  | y :: xs, u :: us, .cons r t, f => by
    rw [List.all_cons, Bool.and_eq_true] at f
    rw [List.any_cons, List.any_cons, eqU_of r f.1, any_eqU t f.2]
theorem mem_eqAt {A : Around} {s : Shared} {x : V} {v : Value} (rx : RelV x v) (fx : flatV x = true) : ∀ {xs : List V} {us : List Value}, Vals xs us → xs.all flatV = true → ∀ u ∈ us, SeqAt.EqAt A s u v (eqU x u)
  | _, _, .nil, _ => fun u hu => by cases hu
  | y :: xs, u :: us, .cons r t, f => fun u' hu => by
    rw [List.all_cons, Bool.and_eq_true] at f
    rcases List.mem_cons.mp hu with rfl | hu
    · rw [eqU_of r f.1]; exact eqAt_V r rx f.1 fx
    · exact mem_eqAt rx fx t f.2 u' hu
def inV (x : V) (xs : List V) : Bool := xs.any fun y => eqV y x
/-- x in a list or tuple of flat items -/
def rIn (K : PySem.W.Frag) (neg : Bool) : R2 := fun x y H Q => ∃ p xs, y = .ref p ∧ (SqL K H p xs ∨ SqT K H p xs) ∧ flatV x = true ∧ xs.all flatV = true ∧ Q (.bl (if neg then !inV x xs else inV x xs)) H
theorem op_in_seq : OpR X (compareOp .In) (rIn X.K false) := by
  intro pins s σ H x y v u Q I rx ry h
  obtain ⟨p, xs, rfl, hq, fx, fs, q⟩ := h
  cases ry
  rcases hq with hq | hq
  · obtain ⟨its, r, pl, hz⟩ := I.list hq
    refine SeqAt.in_listAt (eqU x) pl.isList (fun w hw => mem_eqAt rx fx r fs w (by simpa using hw)) ⟨.bl _, H, I, rfl, ?_⟩
    rw [show its.toArray.any (eqU x) = its.any (eqU x) by simp, any_eqU r fs]
    exact q
  · obtain ⟨its, r, pl, hz⟩ := I.tuple hq
    refine SeqAt.in_tupleAt (eqU x) pl (fun w hw => mem_eqAt rx fx r fs w (by simpa using hw)) ⟨.bl _, H, I, rfl, ?_⟩
    rw [show its.toArray.any (eqU x) = its.any (eqU x) by simp, any_eqU r fs]
    exact q

/-! ### len, list(x), tuple(x) of any list or tuple that is read -/
theorem call_len_seq : CallR X (.builtin "len") (fun xs H Q => ∃ p ys, xs = [.ref p] ∧ (SqL X.K H p ys ∨ SqT X.K H p ys) ∧ Q (.int ys.length) H) := by
  intro pins s σ H xs us Q I r h
  obtain ⟨p, ys, rfl, hq, q⟩ := h
  obtain ⟨u, rfl, rx⟩ := vals1 r
  cases rx
  have hn := line63
  rcases hq with hq | hq
  · obtain ⟨its, r', pl, hz⟩ := I.list hq
    have hlen := r'.length
    exact Calls.call_len_list pl.isList (by simp only [List.size_toArray] <;> omega) ⟨.int ys.length, H, I.tok _, ⟨s.toks + 1, by rw [List.size_toArray, hlen]⟩, q⟩
  · obtain ⟨its, r', pl, hz⟩ := I.tuple hq
    have hlen := r'.length
    exact len_tuple pl (by simp only [List.size_toArray] <;> omega) ⟨.int ys.length, H, I.tok _, ⟨s.toks + 1, by rw [List.size_toArray, hlen]⟩, q⟩
theorem call_len_str : CallR X (.builtin "len") (fun xs H Q => ∃ z, xs = [.str z] ∧ z.length ≤ sizeLine ∧ Q (.int z.length) H) := by
  intro pins s σ H xs us Q I r h
  obtain ⟨z, rfl, hz, q⟩ := h
  obtain ⟨u, rfl, t, rfl⟩ := vals1 r
  have hn := line63
  exact len_str (by omega) ⟨.int z.length, H, I.tok _, ⟨_, rfl⟩, q⟩
theorem call_list_of : CallR X (.type "list") (fun xs H Q => ∃ p ys, xs = [.ref p] ∧ (SqL X.K H p ys ∨ SqT X.K H p ys) ∧ ∀ l, H l = none → Q (.ref l) (upd H l (.lst ys))) := by
  intro pins s σ H xs us Q I r h
  obtain ⟨p, ys, rfl, hq, q⟩ := h
  obtain ⟨u, rfl, rx⟩ := vals1 r
  cases rx
  have fin : ∀ (its : List Value), Vals ys its → ys.length ≤ sizeLine → ∀ (h' : Heap) (c' : Nat), (∀ b o', s.heap.get? b = some o' → h'.get? b = some o') →
      h'.get? s.heap.objs.size = some { cls := .type "list", dict := none, data := .seq its.toArray c', slots := #[] } → EP X pins σ Q (.ref s.heap.objs.size) { s with heap := h' } := fun its r' hz h' c' kp e =>
    ⟨.ref s.heap.objs.size, _, I.laid (t' := s.toks) kp (Nat.le_refl _) (show ObjOk X.prog X.w _ h' _ (.lst ys) from ⟨hz, its, c', r', e⟩), rfl, q _ (I.hok.fresh (Nat.le_refl _))⟩
  rcases hq with hq | hq
  · obtain ⟨its, r', pl, hz⟩ := I.list hq
    have hlen := r'.length
    obtain ⟨o, ho, hc, n, hd⟩ := pl.isList
    exact call_list_seq p (.inl rfl) ho hc hd (fun h' c' kp e => fin its r' hz h' c' kp e) (by simp only [List.size_toArray] <;> omega)
  · obtain ⟨its, r', pl, hz⟩ := I.tuple hq
    have hlen := r'.length
    obtain ⟨o, ho, hc, n, hd⟩ := pl
    exact call_list_seq p (.inr rfl) ho hc hd (fun h' c' kp e => fin its r' hz h' c' kp e) (by simp only [List.size_toArray] <;> omega)

/-! ### the call of a builtin's method: o.m(..) -/
/-- the value is of that builtin type -/
def tyV (K : PySem.W.Frag) (T : String) (x : V) (H : Hp) : Prop := match x with
  | .str _ => T = "str"
  | .int _ => T = "int"
  | .ref p => (T = "list" ∧ ∃ xs, SqL K H p xs) ∨ (T = "tuple" ∧ ∃ o, K.lookup p = some o ∧ o.cls = .type "tuple" ∧ o.dict = none) ∨
      (T = "dict" ∧ ((∃ kvs, H p = some (.dK kvs)) ∨ ∃ kvs, H p = some (.dT kvs))) ∨ (T = "set" ∧ ∃ S n, H p = some (.set S n))
  | _ => False
theorem tyV_is {pins : List (Addr × Obj)} {σ : St} {H : Hp} {s : Shared} {T : String} {x : V} {v : Value} (I : Inv X pins σ H s) (r : RelV x v) (ty : tyV X.K T x H) :
    s.TypeIs v T ∧ ∀ a, v = .ref a → ∃ ob, s.heap.get? a = some ob ∧ ob.dict = none := by
  cases x with
  | str z =>
    obtain ⟨t, rfl⟩ := r
    cases (show T = "str" from ty)
    exact ⟨typeIs_str s z t, fun _ e => nomatch e⟩
  | int i =>
    obtain ⟨t, rfl⟩ := r
    cases (show T = "int" from ty)
    exact ⟨typeIs_int s i t, fun _ e => nomatch e⟩
  | ref p =>
    cases r
    rcases ty with ⟨rfl, xs, hq⟩ | ⟨rfl, o, hk, hc, hd⟩ | ⟨rfl, hk⟩ | ⟨rfl, S, n, hk⟩
    · obtain ⟨its, _, pl, _⟩ := I.list hq
      refine ⟨pl.isList.typeIs, fun a e => ?_⟩
      cases e
      obtain ⟨o, n, e, c, hd, _⟩ := pl
      exact ⟨o, e, hd⟩
    · refine ⟨⟨o, I.kIn p o hk, hc⟩, fun a e => ?_⟩
      cases e
      exact ⟨o, I.kIn _ o hk, hd⟩
    · have z : ∃ o, s.heap.get? p = some o ∧ o.ExactDict := by
        rcases hk with ⟨kvs, hk⟩ | ⟨kvs, hk⟩
        · obtain ⟨_, _, _, _, o, _, _, e, ex, _⟩ := I.hok p _ hk
          exact ⟨o, e, ex⟩
        · obtain ⟨_, _, _, _, o, _, _, e, ex, _⟩ := I.hok p _ hk
          exact ⟨o, e, ex⟩
      obtain ⟨o, e, ex⟩ := z
      refine ⟨⟨o, e, ex.1⟩, fun a e2 => ?_⟩
      cases e2
      exact ⟨o, e, ex.2.1⟩
    · obtain ⟨o, _, _, _, e, ex, _⟩ := I.hok p _ hk
      refine ⟨⟨o, e, ex.1⟩, fun a e2 => ?_⟩
      cases e2
      exact ⟨o, e, ex.2.1⟩
  | _ => exact False.elim ty
def tBM0 (K : PySem.W.Frag) (T : String) (r : V → List V → Hp → VK → Prop) (to : TE) : TE := fun σ H Q => to σ H fun x H1 => tyV K T x H1 ∧ r x [] H1 Q
def tBM (K : PySem.W.Frag) (T : String) (r : V → List V → Hp → VK → Prop) (to : TE) (t : TA) : TE := fun σ H Q => to σ H fun x H1 => tyV K T x H1 ∧ t σ H1 fun xs H2 => r x xs H2 Q
variable {o e : Expr} {es : List Expr} {to : TE} {t : TA} {name : Str} {apos cpos : Pos} {T id : String} {r : V → List V → Hp → VK → Prop}
theorem pe_bm (pa : PlainAttrs T) (slot : Slot T name id) (hty : typeOf (.builtin id) = pure (.type "method_descriptor")) (hm : MtR X id r) (ho : PE X o to) (ha : PA X (e :: es) t)
    (hbase : attributeBase o name X.env (eval o X.env) = eval o X.env := by rfl)
    (hfew : ((backTo cpos (starEach (e :: es) X.env)).all (fun x => !x.1) && (backToKw cpos (keywordEach [] X.env)).all (fun x => x.1.isSome)
      && decide ((e :: es).length + ([] : List Keyword).length + (if ([] : List Keyword).isEmpty then 0 else 1) < 30)) = true := by rfl)
    (hline : (apos.endLine == cpos.line) = true := by rfl) (hs : starEach (e :: es) X.env = (false, eval e X.env) :: starEach es X.env := by rfl) (hplain : (backTo cpos (starEach es X.env)).any (·.1) = false := by rfl) :
    PE X (.Call (.Attribute o name apos) (e :: es) [] cpos) (tBM X.K T r to t) := by
  intro pins s σ H Q I h
  refine wpAny_Call_method_late hbase hfew hline rfl (thn (ho pins s σ H _ I h) fun v s1 ⟨x, H1, I1, r1, ty, q1⟩ => ?_)
  obtain ⟨h1, h2⟩ := tyV_is I1 r1 ty
  refine ⟨T, id, pa, slot, hty, h1, h2, ?_⟩
  have hA := ha cpos pins s1 σ H1 _ I1 q1
  rw [hs] at hA ⊢
  refine Calls.callWith_builtin (by show (false || (backTo cpos (starEach es X.env)).any (·.1)) = false; rw [hplain] <;> rfl) (Calls.evalArgs_plain ?_)
  exact thn hA fun us s2 ⟨vs, H2, I2, r2, q2⟩ => hm pins s2 σ H2 x vs v us Q I2 r1 r2 q2
/- xs.append(e), list.index on a module's tuple .. are MtR facts of 06m -/
end
end L2

namespace L2
open PySem PySem.Spec PyProof.Rows

def MtM (X : Cx) (id : String) (r : V → List V → Hp → VK → Prop) : Prop :=
  ∀ (pins : List (Addr × Obj)) (s : Shared) (σ : St) (H : Hp) (x : V) (xs : List V) (v : Value) (us : List Value) (Q : VK), Inv X pins σ H s → RelV x v → Vals xs us → r x xs H Q →
    wpAny (model X.prog X.w) X.A (call (.builtin id) (v :: us)) (EP X pins σ Q) X.xe s

/-! ### lists of values -/
theorem Vals.one : ∀ {x : V} {us : List Value}, Vals [x] us → ∃ u, us = [u] ∧ RelV x u
  | _, _, .cons r .nil => ⟨_, rfl, r⟩
theorem Vals.reverse {xs : List V} {us : List Value} (h : Vals xs us) : Vals xs.reverse us.reverse := by
  induction h with
  | nil => exact .nil
  | cons r t ih => rw [List.reverse_cons, List.reverse_cons]; exact Vals.append ih (.cons r .nil)

section
variable {X : Cx} {pins : List (Addr × Obj)} {σ : St} {H : Hp} {s : Shared} {l b : Addr} {xs ys zs : List V}

/-! ### the two steps: a tracked list is rewritten, a new list is laid -/
theorem Inv.lset {its its' : List Value} {n : Nat} {f : Array Value → Array Value} {t' : Nat} (I : Inv X pins σ H s) (hH : H l = some (.lst xs))
    (e : s.heap.get? l = some { cls := .type "list", data := .seq its.toArray n }) (hf : f its.toArray = its'.toArray) (hv : Vals ys its') (hz : ys.length ≤ sizeLine) :
    Inv X pins σ (upd H l (.lst ys)) { s with heap := s.heap.update l (Obj.mapSeq f), toks := t' } := by
  have q := PySem.IsL.update e f
  rw [hf] at q
  refine I.write (x := l) (e := l) (by rw [hH]; exact trivial) (.inl rfl) (fun b' u hb hu => (Heap.get?_update_other s.heap (Obj.mapSeq f) (Ne.symm hb)).trans hu) ⟨_, q⟩ ?_
  exact ⟨hz, its', _, hv, q⟩
theorem Inv.lnew {its : List Value} {t' : Nat} (I : Inv X pins σ H s) (hv : Vals ys its) (hz : ys.length ≤ sizeLine) :
    Inv X pins σ (upd H s.heap.objs.size (.lst ys)) { s with heap := s.heap.push { cls := .type "list", data := .seq its.toArray }, toks := t' } :=
  I.laid (fun _ _ q => Heap.get?_push_of_some _ q) (Nat.le_refl _) ⟨hz, its, 0, hv, Heap.get?_push_size _ rfl⟩
theorem Inv.fresh (I : Inv X pins σ H s) : H s.heap.objs.size = none := I.hok.fresh (Nat.le_refl _)
theorem Inv.lstM (I : Inv X pins σ H s) (hH : H l = some (.lst xs)) : xs.length ≤ sizeLine ∧ ∃ (its : List Value) (n : Nat), Vals xs its ∧ xs.length = its.length ∧ s.heap.get? l = some { cls := .type "list", data := .seq its.toArray n } := by
  obtain ⟨z, its, n, r, e⟩ := I.hok l _ hH
  exact ⟨z, its, n, r, r.length, e⟩

theorem notLongL {n : Nat} (h : n ≤ sizeLine) : Builtin.List.listTooLong n = false := by
  unfold Builtin.List.listTooLong
  exact decide_eq_false (by omega)
end

section
variable {X : Cx}

/-! ### methods -/
def rAppend : V → List V → Hp → VK → Prop := fun x vs H Q => ∃ l xs y, x = .ref l ∧ vs = [y] ∧ H l = some (.lst xs) ∧ xs.length < sizeLine ∧ Q .non (upd H l (.lst (xs ++ [y])))
theorem mt_append : MtM X "list.append" rAppend := by
  intro pins s σ H x vs v us Q I rx rv h
  obtain ⟨l, xs, y, rfl, rfl, hH, hz, q⟩ := h
  cases rx
  obtain ⟨u, rfl, ru⟩ := rv.one
  obtain ⟨z, its, n, r, hl, e⟩ := I.lstM hH
  refine call_meets F.slot_list_append ⟨_, e, rfl⟩ F.entry_list_append (F.args_list_append_2 _ _) (PySem.list_append l its.toArray n u (by rw [List.size_toArray]; omega)) ⟨e, ?_⟩
  refine ⟨.non, _, I.lset (its' := its ++ [u]) hH e (by simp) (r.append (.cons ru .nil)) ?_, rfl, q⟩
  rw [List.length_append, List.length_singleton]
  omega

def rExtend : V → List V → Hp → VK → Prop := fun x vs H Q => ∃ l b xs zs, x = .ref l ∧ vs = [.ref b] ∧ H l = some (.lst xs) ∧ H b = some (.lst zs) ∧ xs.length + zs.length ≤ sizeLine ∧ Q .non (upd H l (.lst (xs ++ zs)))
theorem mt_extend : MtM X "list.extend" rExtend := by
  intro pins s σ H x vs v us Q I rx rv h
  obtain ⟨l, b, xs, zs, rfl, rfl, hH, hB, hz, q⟩ := h
  cases rx
  obtain ⟨u, rfl, ru⟩ := rv.one
  cases ru
  obtain ⟨z, its, n, r, hl, e⟩ := I.lstM hH
  obtain ⟨z2, its2, n2, r2, hl2, e2⟩ := I.lstM hB
  have hsz : its.toArray.size + its2.toArray.size ≤ sizeLine := by rw [List.size_toArray, List.size_toArray]; omega
  have hlong : ¬ (!its.toArray.isEmpty && Builtin.List.listTooLong (its.toArray.size + its2.toArray.size)) = true := by
    rw [notLongL hsz, Bool.and_false]
    exact Bool.false_ne_true
  refine call_meets F.slot_list_extend ⟨_, e, rfl⟩ F.entry_list_extend (F.args_list_extend_2 _ _)
    (AutoSeq1.list_extend_list_list_0 l its.toArray n b its2.toArray n2 hlong (by rw [List.size_toArray]; omega) (by omega)) ⟨e, e2, ?_⟩
  refine ⟨.non, _, I.lset (its' := its ++ its2) hH e (by simp) (r.append r2) ?_, rfl, q⟩
  rw [List.length_append]
  omega

def rPop : V → List V → Hp → VK → Prop := fun x vs H Q => ∃ l xs y, x = .ref l ∧ vs = [] ∧ H l = some (.lst xs) ∧ xs[xs.length - 1]? = some y ∧ Q y (upd H l (.lst xs.dropLast))

def rPopAt : V → List V → Hp → VK → Prop := fun x vs H Q => ∃ l xs i k y, x = .ref l ∧ vs = [.int i] ∧ H l = some (.lst xs) ∧ -(2 ^ 63) ≤ i ∧ i < 2 ^ 63 ∧ seqIndex? i xs.length = some k ∧ xs[k]? = some y ∧ Q y (upd H l (.lst (xs.eraseIdx k)))

def rReverse : V → List V → Hp → VK → Prop := fun x vs H Q => ∃ l xs, x = .ref l ∧ vs = [] ∧ H l = some (.lst xs) ∧ Q .non (upd H l (.lst xs.reverse))

def rClear : V → List V → Hp → VK → Prop := fun x vs H Q => ∃ l xs, x = .ref l ∧ vs = [] ∧ H l = some (.lst xs) ∧ Q .non (upd H l (.lst []))

/-! ### list + list, list += list, list * int -/
def rCat : R2 := fun x y H Q => ∃ l b xs zs, x = .ref l ∧ y = .ref b ∧ H l = some (.lst xs) ∧ H b = some (.lst zs) ∧ xs.length + zs.length ≤ sizeLine ∧ ∀ p, H p = none → Q (.ref p) (upd H p (.lst (xs ++ zs)))
theorem op_cat : OpR X (binaryOp .Add) rCat := by
  intro pins s σ H x y v u Q I rx ry h
  obtain ⟨l, b, xs, zs, rfl, rfl, hH, hB, hz, q⟩ := h
  cases rx
  cases ry
  obtain ⟨z, its, n, r, hl, e⟩ := I.lstM hH
  obtain ⟨z2, its2, n2, r2, hl2, e2⟩ := I.lstM hB
  refine PySem.P.add_list e e2 ?_ (by rw [List.size_toArray, List.size_toArray]; omega)
  have ea : its.toArray ++ its2.toArray = (its ++ its2).toArray := by simp
  rw [ea]
  exact ⟨.ref _, _, I.lnew (t' := s.toks) (r.append r2) (by rw [List.length_append]; omega), rfl, q _ I.fresh⟩
/-- a list times an int (a negative one is nothing) -/
def rRep : R2 := fun x y H Q => ∃ l k xs, x = .ref l ∧ y = .int k ∧ H l = some (.lst xs) ∧ -(2 ^ 63) ≤ k ∧ k < 2 ^ 63 ∧ xs.length * k.toNat ≤ sizeLine ∧
  ∀ p, H p = none → Q (.ref p) (upd H p (.lst (List.replicate k.toNat xs).flatten))

/-! ### del xs[i] -/
end

/-! ### xs[a:b] = ys -/
section
variable {prog : Program} {w : World} {A : Around} {E : Value → Shared → Prop} {s : Shared}
end

section
variable {X : Cx}
end
end L2

namespace Att
open PySem PySem.W PySem.Calls PyProof.Rows

/-! ### the script -/
theorem ints_of_wellAll {P : Params} {h : Heap} : ∀ (ns : List Int) (vs : List Value), WellAll P h vs (ns.map WData.int) → IntsAre vs ns := by
  intro ns
  induction ns with
  | nil =>
    intro vs w
    rw [List.map_nil] at w
    cases w
    exact .nil
  | cons n ns ih =>
    intro vs w
    rw [List.map_cons] at w
    cases w with
    | cons a b =>
      cases a
      exact .cons _ _ (ih _ b)

theorem script_of {l : OpenLaw} {n : Nat} (hn : l.most = some n) {P : Params} {h : Heap} {args : List WData} {vals : List Value}
    (hpre : l.row.toRowW.claim.pre args = true) (hwl : WellAll P h vals args) :
    ∃ a vs ns, vals = [Value.ref a] ∧ args = [WData.list (ns.map WData.int)] ∧ h.get? a = some { cls := .type "list", data := .seq vs.toArray } ∧ IntsAre vs ns ∧ ns.length ≤ n := by
  have hsh : WShape.hasAll [] args [.list .int] = true := (pre_splitW hpre).1
  have hc : l.pre.holds [] { args := args } = true := (pre_splitW hpre).2
  obtain ⟨d, r, rfl, h1, h2⟩ := hasAllW_cons hsh
  obtain rfl := hasAllW_nil h2
  obtain ⟨xs, rfl, h3⟩ := hasW_list h1
  obtain ⟨ns, rfl⟩ := items_int h3
  have hlen : ns.length ≤ n := by
    unfold OpenLaw.pre at hc
    have h4 : (WTm.not (.lt (.lit (.int (n : Int))) (.len (.arg 0)))).holds [] { args := [.list (ns.map .int)] } = true := by
      have h4 := (holds_andW hc).1
      rw [hn] at h4
      exact h4
    have h5 := condW_of h4 (w_not (w_lt w_lit (w_len_list (w_arg rfl))))
    rw [List.length_map] at h5
    refine Nat.le_of_not_lt fun q => ?_
    have q' : (n : Int) < ((ns.length : Nat) : Int) := by omega
    first
      | (rw [decide_eq_true q'] at h5; exact absurd h5 (by decide))
      | (simp at h5; omega)
  cases hwl with
  | cons w1 w2 =>
    cases w2
    cases w1 with
    | list ho hall => exact ⟨_, _, ns, rfl, rfl, ho, ints_of_wellAll ns _ hall, hlen⟩

theorem post_true (l : OpenLaw) (args : List WData) : l.row.toRowW.claim.post args (.bool true) args = true :=
  postW_of (r := l.row.toRowW) (X := (true == true))
    (show WShape.has [] (.bool true) .bool = true by first | rfl | decide | simp [WShape.has, WShape.arms, WShape.armsAll])
    (show (WTm.eq .res (.lit (.bool true))).value [] { args := args, res := some (.bool true), after := args } = some (.bool (true == true)) from w_eq_bool (w_res rfl) w_lit) rfl

/-! ### the attachment: holds_open's last premise (the goal 'hc' behind k_head) from a wpAny of the law's body -/

/-- the same from a codeAny of the CALL (for a layer whose function contracts speak of calls) -/
theorem attach_call {l : OpenLaw} {n : Nat} {q : Program} {loose : List Str} {XP : (Str → Option Value) → Heap → Prop} {YP : World → Heap → Prop} {d : DefRec}
    (hn : l.most = some n) (hdf : d.params.defaults = [])
    (call : ∀ (w : World) (s₀ s₁ : Shared) (mg mb : Str → Option Value) (fa : Addr) (o : Obj) (pm cd doc : Value) (a : Addr) (vs : List Value) (ns : List Int),
      Ground q loose [] XP w s₀ mg mb s₁.heap → YP w s₁.heap →
      s₁.heap.get? fa = some o → o.data = .func (docDef d.name d.params d.body d.scope pm cd doc) → s₁.heap.CodeRec cd d.name → mg d.name = some (.ref fa) →
      s₁.heap.get? a = some { cls := .type "list", data := .seq vs.toArray } → IntsAre vs ns → ns.length ≤ n → s₁.gens = #[] →
      codeAny (model l.prog w) callerA (.call (.ref fa) ⟨[.ref a], []⟩) (fun r s' => r = .ok (.ret (.bool true)) ∧ OldK s₁.heap s'.heap ∧ s'.os = s₁.os ∧ AllBare s'.gens) s₁) :
    WalkO q loose XP YP l.row.toRowW d [] (fun f vs => PySem.call f vs) := by
  intro w s₀ s₁ mg mb G Y fa o pm cd doc dV kV ho hd hcd hD hmg hg args vals as hpre hlay hrd hwl hlo
  obtain rfl : dV = .none := Dflts.none hD hdf
  obtain rfl : kV = .none := Dflts.noKw hD
  obtain ⟨a, vs, ns, rfl, rfl, hobj, hints, hlen⟩ := script_of hn hpre hwl
  refine enter_call (codeAny_mono (call w s₀ s₁ mg mb fa o pm cd doc a vs ns G Y ho (fd_plain hd) hcd hmg hobj hints hlen hg) fun r s' hq => ?_)
  obtain ⟨rfl, h2, h3, h4⟩ := hq
  exact ⟨.inl ⟨.bool true, .bool true, [], rfl, fun _ => rfl, .bool true, post_true l _, fun _ => ⟨List.Pairwise.nil, fun _ hm => (nomatch hm)⟩⟩, h2, h3, h4⟩


/-! ### rules over ANY heap (no ledger) from facts about the written part K: the library's own take a ledger (News) for what they write -/
section
variable {prog : Program} {w : World} {A : Around} {E : Value → Shared → Prop} {s : Shared} {K : Frag}





/-! the whole heap as the ledger: makes every rule that writes through a ledger a rule over any heap -/
def noObjs (h : Heap) : Heap := { h with objs := #[] }
def ledger (h : Heap) (L d : Addr) : List (Addr × Obj) := (List.range h.objs.size).filterMap fun a => if a = L ∨ a = d then none else (h.get? a).map fun o => (a, o)

end
end Att

namespace L2
open PySem PySem.Spec PyProof.Rows

theorem vals_ints : ∀ {vs : List Value} {ns : List Int}, IntsAre vs ns → Vals (ns.map V.int) vs
  | _, _, .nil => .nil
  | _, _, .cons n t h => .cons ⟨t, rfl⟩ (vals_ints h)

/-- nothing is tracked but the script, known to the object (or it is an object of the module) -/
def Only (H : Hp) : Prop := ∀ b, H b = none ∨ ∃ o xs, H b = some (.frz o (.lst xs))

/-- THE HEAD: the law's promise, at the heap behind the top. F, the promise of the law's def, may use that base is part of the heap (so K.In base, base.Ns mainGlobals mg stand in Mod) -/
theorem law_call {P : Program} {w : World} {K : PySem.W.Frag} {mg mb : Str → Option Value} {CX : CXT} {k : Nat} {fa a : Addr} {fd : FuncData} {x : Str} {sp : Sp} {s₁ : Shared} {vs : List Value} {ns : List Int}
    (KX : K.In s₁.heap) (hns : s₁.heap.Ns mainGlobals mg) (hb : s₁.heap.Ns builtinsNs mb) (hbb : ∀ x : Str, x ≠ "__name__" → mb x = bootBuiltins x) (hlim : s₁.heap.NoLimit) (hg : s₁.gens = #[])
    (ha : s₁.heap.get? a = some { cls := .type "list", data := .seq vs.toArray }) (hi : IntsAre vs ns) (hl : ns.length ≤ sizeLine) (hr : Room k callerA)
    (F : ∀ base : Heap, K.In base → base.Ns mainGlobals mg → FnOk P w K mg base CX k fa fd [x] sp) (hbind : ∀ (s : Shared) (u : Value), BindsTo s fd ⟨[u], []⟩ [(x, u)])
    (hsp : ∀ H : Hp, Only H → SqL K H a (ns.map V.int) → sp [.ref a] H (fun v _ => v = .bl true) fun _ _ _ => False)
    (hCX : ∀ H e s', CX [] H s₁ (fun _ _ _ => False) e s' → False) :
    codeAny (model P w) callerA (.call (.ref fa) ⟨[.ref a], []⟩) (fun r s' => r = .ok (.ret (.bool true)) ∧ OldK s₁.heap s'.heap ∧ s'.os = s₁.os ∧ AllBare s'.gens) s₁ := by
  have rv := vals_ints hi
  have lenV := hi.length
  -- from an abstract heap in which nothing but the script may be tracked
  have core : ∀ H : Hp, Only H → SqL K H a (ns.map V.int) → HOk P w H s₁.heap → (∀ b, H b ≠ none → b = a) → (H a ≠ none → K.lookup a = none) →
      codeAny (model P w) callerA (.call (.ref fa) ⟨[.ref a], []⟩) (fun r s' => r = .ok (.ret (.bool true)) ∧ OldK s₁.heap s'.heap ∧ s'.os = s₁.os ∧ AllBare s'.gens) s₁ := by
    intro H hO hS hok hA hK
    have base_of : ∀ {b : Addr} {o : Obj}, s₁.heap.get? b = some o → H b = none → (hidT s₁.heap H).get? b = some o := fun e n => hidT_get e n
    have noA : ∀ {b : Addr} {o : Obj} {es : Array DictEntry} {ep : Nat}, s₁.heap.get? b = some o → o.data = .dict es ep → H b = none := fun {b o es ep} e d => by
      cases q : H b with
      | none => rfl
      | some u =>
        have e' : b = a := hA b (by rw [q]; simp)
        subst e'
        rw [ha] at e; cases e
        have d' : Data.seq vs.toArray _ = Data.dict es ep := d
        cases d'
    have nsK : ∀ {b : Addr} {m : Str → Option Value}, s₁.heap.Ns b m → (hidT s₁.heap H).Ns b m := fun {b m} ⟨o, es, ep, e, d, r⟩ => ⟨o, es, ep, base_of e (noA e d), d, r⟩
    have hKb : K.In (hidT s₁.heap H) := fun b o e => base_of (KX b o e) (by
      cases q : H b with
      | none => rfl
      | some u =>
        have e' : b = a := hA b (by rw [q]; simp)
        subst e'
        rw [hK (by rw [q]; simp)] at e; cases e)
    have hM : Mod K mg (hidT s₁.heap H) := ⟨hKb, nsK hns, ⟨mb, nsK hb, hbb⟩, let ⟨mc, h1, h2⟩ := hlim; ⟨mc, nsK h1, h2⟩⟩
    have e0 : Env0 P w K mg (hidT s₁.heap H) callerA [] s₁ H := ⟨rfl, hM, fun b o e => of_hidT e, Nat.le_of_eq (hidT_size _ _), trivial, fun b hb => absurd (show b ∈ ([] : List Addr) from hb) (by simp), hok, .of_eq hg⟩
    refine codeAny_mono ((F _ hKb (nsK hns)).run callerA [] s₁ H ⟨[.ref a], []⟩ [.ref a] [.ref a] _ _ hr e0 (hbind s₁ (.ref a)) (.cons rfl .nil) (hsp H hO hS)) fun r s' h => ?_
    cases r with
    | error e => exact (hCX H e s' h).elim
    | ok fl =>
      cases fl with
      | next => exact False.elim h
      | brk => exact False.elim h
      | cont => exact False.elim h
      | ret u =>
        obtain ⟨v, H', os, bare, un, hok', r', q⟩ := h
        have q' : v = .bl true := q
        subst q'
        obtain rfl : u = Value.bool true := r'
        refine ⟨rfl, OldK.of_keep fun b o e => ?_, os, bare⟩
        cases q : H b with
        | none => exact un.keep b o e q (by intro z; exact absurd (show b ∈ ([] : List Addr) from z) (by simp)) (by simp)
        | some u =>
          rcases hO b with z | ⟨ob, xs, z⟩
          · rw [q] at z; cases z
          · have z2 := un.frzs b ob _ z
            obtain ⟨e1, _⟩ := hok b _ z
            obtain ⟨e2, _⟩ := hok' b _ z2
            rw [e] at e1; cases e1
            exact e2
  cases hk : K.lookup a with
  | some o =>
    -- the script is one of the module's own objects
    have e := KX a o hk
    rw [ha] at e
    cases e
    refine core (fun _ => none) (fun _ => .inl rfl) (.inr ⟨_, vs.toArray, _, hk, rfl, rfl, rfl, by rw [List.size_toArray, lenV]; exact hl, by simpa using rv⟩) (fun b u z => by have z' : (none : Option HO) = some u := z; cases z') (fun b z => absurd rfl z) fun z => absurd rfl z
  | none =>
    refine core (fun b => if b = a then some (.frz { cls := .type "list", data := .seq vs.toArray } (.lst (ns.map V.int))) else none) (fun b => ?_) (.inl (.inr ⟨{ cls := .type "list", data := .seq vs.toArray }, if_pos rfl⟩)) (fun b u z => ?_) (fun b z => ?_) fun _ => hk
    · by_cases hb : b = a
      · exact .inr ⟨_, _, if_pos hb⟩
      · exact .inl (if_neg hb)
    · by_cases hb : b = a
      · have z' := (if_pos hb).symm.trans z
        cases z'
        subst hb
        exact ⟨ha, by rw [List.length_map]; exact hl, vs, _, rv, ha⟩
      · have z' := (if_neg hb).symm.trans z
        cases z'
    · by_cases hb : b = a
      · exact hb
      · exact absurd (if_neg hb) z
end L2

namespace L2
open PySem PySem.Spec PyProof.Rows

abbrev KOf {K : PySem.W.Frag} {h : Heap} (_ : K.In h) : PySem.W.Frag := K

/-- the goal that k_head leaves (case hc), from the law's promise. F gives the function object fd (K's own) once, then the promise over every base -/
theorem walk_of {l : PySem.W.OpenLaw} {n k : Nat} {q : Program} {loose : List Str} {XP : (Str → Option Value) → Heap → Prop} {YP : World → Heap → Prop} {d : DefRec} {K : Params → PySem.W.Frag} {CX : World → CXT} {sp : World → Sp} {x : Str}
    (hn : l.most = some n) (hn2 : n ≤ sizeLine) (hdf : d.params.defaults = []) (hr : Room k callerA)
    (hY : ∀ (w : World) (h : Heap), YP w h → (K w.params).In h)
    (F : ∀ (w : World) (mg : Str → Option Value) (fa : Addr) (h : Heap), (K w.params).In h → h.Ns mainGlobals mg → mg d.name = some (.ref fa) →
      ∃ fd : FuncData, (∀ (s : Shared) (u : Value), BindsTo s fd ⟨[u], []⟩ [(x, u)]) ∧
        ∀ base : Heap, (K w.params).In base → base.Ns mainGlobals mg → FnOk l.prog w (K w.params) mg base (CX w) k fa fd [x] (sp w))
    (hsp : ∀ (w : World) (H : Hp) (a : Addr) (ns : List Int), ns.length ≤ n → Only H → SqL (K w.params) H a (ns.map V.int) → sp w [.ref a] H (fun v _ => v = .bl true) fun _ _ _ => False)
    (hCX : ∀ (w : World) (H : Hp) (s : Shared) (e : Value) (s' : Shared), CX w [] H s (fun _ _ _ => False) e s' → False) :
    PySem.W.WalkO q loose XP YP l.row.toRowW d [] (fun f vs => PySem.call f vs) := by
  refine Att.attach_call hn hdf fun w s₀ s₁ mg mb fa o pm cd doc a vs ns G Y ho hd hcd hmg hobj hints hlen hg => ?_
  have KX := hY w _ Y
  obtain ⟨fd, hb, hF⟩ := F w mg fa _ KX G.T.g hmg
  exact law_call KX G.T.g G.T.b G.T.builtins G.T.nolimit hg hobj hints (Nat.le_trans hlen hn2) hr hF hb (fun H hO hS => hsp w H a ns hlen hO hS) fun H e s' => hCX w H s₁ e s'
end L2

/- THE LAST THEOREM (shape; LID, My.* are yours):
   My.Adr: a structure of the addresses that your layer names (classes, functions); My.Txt K t: a structure (Prop) of the equations over K;
   My.txt_mk : {K} {implicit addresses ..} (e1 : nsIn K mainGlobals "law" = some (some (.ref f))) (e2 : K.lookup f = some ⟨oc, od, .func (fnOf "law" "law" params body scope dV kV doc pm an cdv ct), sl⟩) (e3 : codeIn K cdv "law" = true) .. : ∃ t, My.Txt K t

set_option maxRecDepth 100000 in
set_option maxHeartbeats 0 in
theorem PySem.Challenge.cw_LID_holds : PySem.Challenge.rw_LID.Holds := by
  w_on; o_law; k_head; (case hw => w_witness2)
  k_fill
  refine L2.walk_of (l := PySem.Challenge.rw_LID) (n := 63) (k := 40) (x := "script") (CX := fun w => ..) (sp := fun _ => My.sp_law) rfl (by decide) rfl ⟨rfl, by decide, by decide⟩ (fun w h Y => PySem.W.kIn_of Y) ?F ?S ?C
  case F =>
    intro w mg fa h KX G hmg
    have T : ∃ t, My.Txt (L2.KOf KX) t := by
      dsimp only [L2.KOf]                          -- K must stand as «<heap const> w.params» for k_is
      refine' My.txt_mk ?e1 ?e2 ?e3 ..
      (case e1 => PySem.W.k_is)                    -- in the order: a name -> its address -> its object -> its parts
      (case e2 => PySem.W.k_is)
      ..
    obtain ⟨t, T⟩ := T
    have e0 := hmg.symm.trans (PySem.W.mg_of KX G T.law)
    cases e0                                       -- fa is the law's own address
    exact ⟨_, fun s u => .of_eq rfl, fun base kb nb => My.law_fn T kb nb⟩     -- if «.of_eq rfl» comes too early: refine' ⟨_, ?b, fun base kb nb => My.law_fn T kb nb⟩; exact fun s u => .of_eq rfl
  case S => exact fun w H a ns hl hO hS => ..
  case C => exact ..
(the tactic k_is has no namespace: write k_is) -/

/-! SHORT WORDS over the layer: a def of the text, its body, what a loop and a test want. -/
namespace L2
open PySem PySem.Spec PyProof.Rows

/-! ### the text by places -/
/-- the j-th statement of a class's body -/
def inClass (s : Stmt) (j : Nat) : Stmt := match s with
  | .ClassDef _ _ _ body _ _ _ _ _ _ _ => body.getD j (.Pass ⟨0, 0, 0, 0⟩)
  | _ => .Pass ⟨0, 0, 0, 0⟩
def defArgs (s : Stmt) : Arguments := match s with
  | .FunctionDef _ a _ _ _ _ _ _ _ _ => a
  | _ => { posonlyargs := [], args := [], vararg := none, kwonlyargs := [], kw_defaults := [], kwarg := none, defaults := [] }
def defBody (s : Stmt) : List Stmt := match s with
  | .FunctionDef _ _ b _ _ _ _ _ _ _ => b
  | _ => []
def defScope (s : Stmt) : Scope := match s with
  | .FunctionDef _ _ _ _ _ _ sc _ _ _ => sc
  | _ => { kind := .function, names := [], isGenerator := false, isCoroutine := false }

/-! ### no exception leaves a def -/
abbrev CX0 : CXT := fun _ _ _ _ _ _ => False
abbrev E0 : XK := fun _ _ _ => False
theorem pass0 {X : Cx} : Passes CX0 X E0 := fun _ _ _ _ _ _ _ h => h.elim

/-! ### a def (or method) of the text as it stands behind the top -/
structure Fun (K : PySem.W.Frag) (x qual : Str) (st : Stmt) (f : Addr) (fd : FuncData) : Prop where
  ex : ∃ (oc : Value) (od : Option Addr) (kV doc pm : Value) (an : Option Addr) (cdv ct : Value) (osl : Array (Option Value)),
    fd = PySem.W.fnOf x qual (defArgs st) (defBody st) (defScope st) .none kV doc pm an cdv ct ∧ K.lookup f = some ⟨oc, od, .func fd, osl⟩ ∧ PySem.W.codeIn K cdv qual = true
  kp : PySem.W.keepIn K (.ref f) = true
section
variable {P : Program} {w : World} {K : PySem.W.Frag} {mg : Str → Option Value} {base : Heap}
/-- THE RULE for a def: its body as a term of rules, and the reading of that term -/
theorem Fun.ok {x qual : Str} {st : Stmt} {f : Addr} {fd : FuncData} {N ps : List Str} {k : Nat} {sp : Sp} (F : Fun K x qual st f fd) (S : FnScope N ps (defScope st)) (len : ∀ vs H Q E, sp vs H Q E → vs.length = ps.length)
    (hbody : ∀ (cdv : Value) (A : Around) (outer : List Env) (s : Shared) (H : Hp) (vs : List V) (Q : VK) (E : XK), Room k (A.deeper (envOfC qual (defScope st) s.heap.objs.size f cdv)) → sp vs H Q E →
      ∃ t, PSs (cxOf CX0 P w K mg base N qual (defScope st) f cdv A outer s H E).nox (defBody st) t ∧ t { nx := fun _ H' => Q .non H', rt := Q } (start N vs) H) : FnOk P w K mg base CX0 (k + 1) f fd ps sp := by
  obtain ⟨oc, od, kV, doc, pm, an, cdv, ct, osl, rfl, lk, hcd⟩ := F.ex
  refine fn_of lk hcd S len fun A outer s H vs Q E hr hsp => ?_
  obtain ⟨t, h, q⟩ := hbody cdv A outer s H vs Q E hr hsp
  exact ⟨t, h.nox, q⟩
/-- how its arguments bind (no defaults): h is «fun _ _ _ _ _ _ us hl => match us, hl with | [_, _], _ => rfl», one _ a parameter -/
theorem Fun.binds {x qual : Str} {st : Stmt} {f : Addr} {fd : FuncData} {ps : List Str} (F : Fun K x qual st f fd)
    (h : ∀ (kV doc pm : Value) (an : Option Addr) (cdv ct : Value) (us : List Value), us.length = ps.length → bindArgs (PySem.W.fnOf x qual (defArgs st) (defBody st) (defScope st) .none kV doc pm an cdv ct) ⟨us, []⟩ = pure (ps.zip us)) : Binds K fd ps [] := by
  obtain ⟨oc, od, kV, doc, pm, an, cdv, ct, osl, rfl, lk, hcd⟩ := F.ex
  exact .all (h kV doc pm an cdv ct)
theorem fun_mk {x qual : Str} {st : Stmt} {f : Addr} {oc : Value} {od an : Option Addr} {osl : Array (Option Value)} {kV doc pm cdv ct : Value} (l : K.lookup f = some ⟨oc, od, .func (PySem.W.fnOf x qual (defArgs st) (defBody st) (defScope st) .none kV doc pm an cdv ct), osl⟩)
    (c : PySem.W.codeIn K cdv qual = true) (k : PySem.W.keepIn K (.ref f) = true) : Fun K x qual st f (PySem.W.fnOf x qual (defArgs st) (defBody st) (defScope st) .none kV doc pm an cdv ct) := ⟨⟨oc, od, kV, doc, pm, an, cdv, ct, osl, rfl, l, c⟩, k⟩
end

/-! ### expressions in short: the name that stands in the i-th slot -/
section
variable {X : Cx}
theorem pv (i : Nat) {x : Str} {pos : Pos} (hN : X.N[i]? = some x := by rfl) (hv : Vis X.env.scope x := by first | exact Or.inl rfl | exact Or.inr (Or.inl rfl) | exact Or.inr (Or.inr rfl)) (hd : (x == ("__debug__" : Str)) = false := by decide)
    (hcd : (x == ("__classdict__" : Str)) = false := by decide) : PE X (.Name x pos) (tVar i) := pe_var hN hv hd hcd
end

/-! ### tests -/
theorem iteF {A B : Prop} (h : B) : if false = true then A else B := by
  rw [if_neg Bool.false_ne_true]
  exact h
theorem iteT {A B : Prop} (h : A) : if true = true then A else B := by
  rw [if_pos rfl]
  exact h
theorem ite2 {c A B : Prop} [Decidable c] (h1 : c → A) (h2 : ¬ c → B) : if c then A else B := by
  by_cases h : c
  · rw [if_pos h]
    exact h1 h
  · rw [if_neg h]
    exact h2 h
theorem iteNS {c A B : Prop} [Decidable c] (hc : c) (h : B) : if (!decide c) = true then A else B := by
  rw [decide_eq_true hc]
  exact iteF h

/-! ### heaps -/
/-- all that was tracked is as it was -/
def Same (H H' : Hp) : Prop := ∀ b o, H b = some o → H' b = some o
theorem Same.refl (H : Hp) : Same H H := fun _ _ h => h
theorem Same.trans {H H1 H2 : Hp} (a : Same H H1) (b : Same H1 H2) : Same H H2 := fun c o h => b c o (a c o h)
theorem Same.free {H H' : Hp} (e : Same H H') {l : Addr} (h : H' l = Option.none) : H l = Option.none := by
  cases q : H l with
  | none => rfl
  | some o =>
    rw [e l o q] at h
    cases h
theorem Same.seq {K : PySem.W.Frag} {H H' : Hp} {a : Addr} {xs : List V} (e : Same H H') (h : SqL K H a xs) : SqL K H' a xs := by
  rcases h with (h | ⟨o, h⟩) | h
  · exact .inl (.inl (e _ _ h))
  · exact .inl (.inr ⟨o, e _ _ h⟩)
  · exact .inr h

end L2

set_option maxHeartbeats 4000000
/-! Own rules over the layer: products and quotients of great numbers, isinstance of plain values, a def of the text with what binds it. -/
namespace L2
open PySem PySem.Spec PyProof.Rows
section
variable {X : Cx}
theorem op_mulG : OpR X (binaryOp .Mult) (rI IntMulOk fun i j => .int (i * j)) := opI fun _ _ _ _ _ _ _ hc q => mul_int q hc
def CDivG (_ j : Int) : Prop := 0 < j ∧ j.natAbs.log2 < 9000
theorem op_fdivG : OpR X (binaryOp .FloorDiv) (rI CDivG fun i j => .int (i / j)) := opI fun i j _ _ _ _ _ hc q => by
  have h1 : (0 : Int) < j := hc.1
  exact floordiv_int (by omega) (by rw [Int.fdiv_eq_ediv_of_nonneg i (by omega)]; exact q) (.inl (PyProof.noPylong_of_log2 hc.2))
theorem CDivG.small {i j : Int} (h : 0 < j) (h' : j < 1073741824) : CDivG i j := by
  refine ⟨h, ?_⟩
  have h0 : j.natAbs ≠ 0 := by omega
  have : j.natAbs.log2 < 30 := (Nat.log2_lt h0).mpr (by omega)
  omega
theorem mulS {i j : Int} (h1 : -(2 ^ 64) < j) (h2 : j < 2 ^ 64) : IntMulOk i j := IntMulOk.of_right (intBits_le_64 h1 h2)
theorem mulL {i j : Int} (h1 : -(2 ^ 64) < i) (h2 : i < 2 ^ 64) : IntMulOk i j := IntMulOk.of_left (intBits_le_64 h1 h2)
/-- isinstance(x, T), T a built-in type -/
def kitB (T U : String) : Option Bool := if (Value.type T == Value.type U) = true then some true else if PySem.W.kitMeta U = true then (fastBuiltinMro T).map (·.contains (.type U)) else none
theorem kit_of (K : PySem.W.Frag) {T U : String} {b : Bool} (e : kitB T U = some b) : PySem.W.kitOne K (.type T) (.type U) = some b := e
theorem call_isinst : CallR X (.builtin "isinstance") (fun xs H Q => ∃ x T U b, xs = [x, .ty U] ∧ TyOf X.K H x (.type T) ∧ kitB T U = some b ∧ Q (.bl b) H) := by
  intro pins s σ H xs us Q I r h
  obtain ⟨x, T, U, b, rfl, ty, e, q⟩ := h
  obtain ⟨u, w', rfl, rx, ru⟩ := vals2 r
  cases ru
  exact isinst_ok I rx ty (kit_of X.K e) fun tk => ⟨.bl b, H, I.tok tk, rfl, q⟩
end
theorem iteP {b : Bool} {A B : Prop} (e : b = true) (h : A) : if b = true then A else B := by
  rw [if_pos e]
  exact h
theorem iteN {b : Bool} {A B : Prop} (e : b = false) (h : B) : if b = true then A else B := by
  subst e
  exact iteF h
/-- a def of the top: its object, its name, how it binds -/
structure DefAt (K : PySem.W.Frag) (mg : Str → Option Value) (x : Str) (st : Stmt) (ps : List Str) (f : Addr) (fd : FuncData) : Prop where
  F : Fun K x x st f fd
  g : mg x = some (.ref f)
  b : Binds K fd ps []
theorem atI_lt {α : Type} {xs : List α} {i : Int} {v : α} (h : 0 ≤ i) (e : xs[i.toNat]? = some v) : atI xs i = some v := by
  have := atI_nat e
  rwa [Int.toNat_of_nonneg h] at this
/-- behind a statement what M says holds; then the rest from M alone -/
def tMid (t u : TS) : TS := fun D σ H => ∃ M : St → Hp → Prop, t { D with nx := M } σ H ∧ ∀ σ' H', M σ' H' → u D σ' H'
theorem pss_mid {X : Cx} {st : Stmt} {rest : List Stmt} {t u : TS} (h1 : PS X st t) (h2 : PSs X rest u) : PSs X (st :: rest) (tMid t u) := by
  intro pins s σ H D I h
  obtain ⟨M, h3, h4⟩ := h
  refine wpAny_execs_cons (thn (h1 pins s σ H _ I h3) fun f s1 q => ?_)
  cases f with
  | next =>
    obtain ⟨σ1, H1, I1, q1⟩ := q
    exact h2 pins s1 σ1 H1 D I1 (h4 σ1 H1 q1)
  | brk => exact q
  | cont => exact q
  | ret v => exact q
theorem same_new {H : Hp} {l : Addr} {o : HO} (h : H l = none) : Same H (upd H l o) := fun b u e => by rw [upd_ne (ne_of_none e h)]; exact e
end L2

/-! Own rules: a text walked sign by sign; == and in over whole data. -/
namespace L2
open PySem PySem.Spec PyProof.Rows
def Its (x : Str) : It := ⟨fun i _ => i < x.cps.size, fun i H v H' => H' = H ∧ ∃ c, x.cps[i]? = some c ∧ v = .str ⟨#[c]⟩, fun i _ => i = x.cps.size⟩
section
variable {X : Cx} {tg : Expr}
def iStr (tl : TE) : TI := fun σ H R => tl σ H fun x H1 => ∃ z, x = .str z ∧ R (Its z) H1
end
/-! ### whole data -/
mutual
inductive Rdv (K : PySem.W.Frag) (H : Hp) : V → PyData → Prop
  | non : Rdv K H .non .none
  | bl (b : Bool) : Rdv K H (.bl b) (.bool b)
  | int (i : Int) : Rdv K H (.int i) (.int i)
  | str (x : Str) : Rdv K H (.str x) (.str x)
  | lst {a : Addr} {xs : List V} {ds : List PyData} : SqL K H a xs → RdvAll K H xs ds → Rdv K H (.ref a) (.list ds)
  | tup {a : Addr} {xs : List V} {ds : List PyData} : SqT K H a xs → RdvAll K H xs ds → Rdv K H (.ref a) (.tuple ds)
inductive RdvAll (K : PySem.W.Frag) (H : Hp) : List V → List PyData → Prop
  | nil : RdvAll K H [] []
  | cons {x : V} {d : PyData} {xs : List V} {ds : List PyData} : Rdv K H x d → RdvAll K H xs ds → RdvAll K H (x :: xs) (d :: ds)
end
section
variable {X : Cx} {pins : List (Addr × Obj)} {σ : St} {H : Hp} {s : Shared}
mutual
theorem Rdv.reads (I : Inv X pins σ H s) : ∀ {v : V} {d : PyData} {u : Value}, Rdv X.K H v d → RelV v u → ∃ as, Reads s.heap u d as
  | _, _, _, .non, r => by cases r; exact ⟨_, .none⟩
  | _, _, _, .bl b, r => by cases r; exact ⟨_, .bool b⟩
  | _, _, _, .int i, r => by obtain ⟨t, rfl⟩ := r; exact ⟨_, .int i t⟩
  | _, _, _, .str x, r => by obtain ⟨t, rfl⟩ := r; exact ⟨_, .str x t⟩
  | _, _, _, .lst hq hr, r => by
    cases r
    obtain ⟨its, rv, p, hz⟩ := I.list hq
    obtain ⟨as, ra⟩ := RdvAll.reads I hr rv
    obtain ⟨o, ho, hc, n, hd⟩ := p.isList
    exact ⟨_, .list ho hc hd (by simpa using ra)⟩
  | _, _, _, .tup hq hr, r => by
    cases r
    obtain ⟨its, rv, p, hz⟩ := I.tuple hq
    obtain ⟨as, ra⟩ := RdvAll.reads I hr rv
    obtain ⟨o, ho, hc, n, hd⟩ := p
    exact ⟨_, .tuple ho hc hd (by simpa using ra)⟩
theorem RdvAll.reads (I : Inv X pins σ H s) : ∀ {vs : List V} {ds : List PyData} {us : List Value}, RdvAll X.K H vs ds → Vals vs us → ∃ as, ReadsAll s.heap us ds as
  | _, _, _, .nil, r => by cases r; exact ⟨_, .nil⟩
  | _, _, _, .cons h t, r => by
    cases r with
    | cons r1 r2 =>
      obtain ⟨as, ra⟩ := Rdv.reads I h r1
      obtain ⟨bs, rb⟩ := RdvAll.reads I t r2
      exact ⟨_, .cons ra rb⟩
end
/-- two wholes that may be compared -/
structure CmpD (x y : PyData) : Prop where
  l1 : x.canLay0 = true
  l2 : y.canLay0 = true
  dp : x.depth ≤ 64
def rEqD (K : PySem.W.Frag) (neg : Bool) : R2 := fun x y H Q => ∃ dx dy, Rdv K H x dx ∧ Rdv K H y dy ∧ CmpD dx dy ∧ Q (.bl (if neg then !PyData.eqv dx dy else PyData.eqv dx dy)) H
theorem op_eq_deep (hu : X.A.units + 64 < cLine) : OpR X (compareOp .Eq) (rEqD X.K false) := by
  intro pins s σ H x y v u Q I rx ry h
  obtain ⟨dx, dy, hx, hy, c, q⟩ := h
  obtain ⟨as, ra⟩ := hx.reads I rx
  obtain ⟨bs, rb⟩ := hy.reads I ry
  have := c.dp
  exact SeqAt.compareEq_reads ra rb c.l1 c.l2 (by omega) ⟨.bl _, H, I, rfl, q⟩
theorem op_ne_deep (hu : X.A.units + 64 < cLine) : OpR X (compareOp .NotEq) (rEqD X.K true) := by
  intro pins s σ H x y v u Q I rx ry h
  obtain ⟨dx, dy, hx, hy, c, q⟩ := h
  obtain ⟨as, ra⟩ := hx.reads I rx
  obtain ⟨bs, rb⟩ := hy.reads I ry
  have := c.dp
  exact SeqAt.compareNe_reads ra rb c.l1 c.l2 (by omega) ⟨.bl _, H, I, rfl, q⟩
def rInD (K : PySem.W.Frag) (neg : Bool) : R2 := fun x y H Q => ∃ d ds, Rdv K H x d ∧ Rdv K H y (.list ds) ∧ d.canLay0 = true ∧ PyData.canLayAll0 ds = true ∧ d.depth ≤ 60 ∧ Q (.bl (if neg then !ds.any (fun z => PyData.eqv z d) else ds.any fun z => PyData.eqv z d)) H
theorem op_in_deep (hu : X.A.units + 64 < cLine) : OpR X (compareOp .In) (rInD X.K false) := by
  intro pins s σ H x y v u Q I rx ry h
  obtain ⟨d, ds, hx, hy, c1, c2, c3, q⟩ := h
  obtain ⟨as, ra⟩ := hx.reads I rx
  obtain ⟨bs, rb⟩ := hy.reads I ry
  exact SeqAt.in_list_reads rb ra c2 c1 (by omega) ⟨.bl _, H, I, rfl, q⟩
theorem op_notIn_deep (hu : X.A.units + 64 < cLine) : OpR X (compareOp .NotIn) (rInD X.K true) := by
  intro pins s σ H x y v u Q I rx ry h
  obtain ⟨d, ds, hx, hy, c1, c2, c3, q⟩ := h
  obtain ⟨as, ra⟩ := hx.reads I rx
  obtain ⟨bs, rb⟩ := hy.reads I ry
  exact SeqAt.notIn_list_reads rb ra c2 c1 (by omega) ⟨.bl _, H, I, rfl, q⟩
end
end L2

/-! Own rule: a list comprehension of one clause, its block a context of its own. -/
namespace L2
open PySem PySem.Spec PyProof.Rows
def compCx (X : Cx) (N : List Str) (scope : Scope) (cl : List (Str × Addr)) (C : Addr) (fp : List Addr) (pins : List (Addr × Obj)) (s : Shared) (H : Hp) : Cx where
  prog := X.prog
  w := X.w
  K := X.K
  mg := X.mg
  base := X.base
  A := X.A
  N := N
  s₀ := s
  H₀ := H
  env := compEnvC scope cl C X.env
  outer := X.stack
  stack := X.stack
  ex := fp
  fn := fun _ => false
  calm := X.calm
  pn := X.pn ++ pins
  xe := fun _ _ => False
/-- the block's names, each from its slot around, or unset -/
def pull (src : List (Option Nat)) (σ : St) : St := src.map fun o => match o with
  | some j => (σ[j]?).getD none
  | none => none
structure CompOk (X : Cx) (N : List Str) (src : List (Option Nat)) (scope : Scope) (cl : List (Str × Addr)) : Prop where
  kind : scope.kind = .function
  nocell : ∀ y ∈ scope.names, y.2 ≠ .cell
  names : ∀ y ∈ scope.names, y.2 = .local → scope.names.lookup y.1 = some .local
  clos : closureFor scope X.env = pure cl
  sub : ∀ x c, cl.lookup x = some c → X.env.cells.lookup x = some c
  has : ∀ x, ((relabel scope X.env).names.lookup x = some .cell ∨ (relabel scope X.env).names.lookup x = some .free) → ∃ c, cl.lookup x = some c
  len : src.length = N.length
  pulls : ∀ (i j : Nat) (x : Str), N[i]? = some x → src[i]? = some (some j) → X.N[j]? = some x ∧ (X.env.kindOf x = some .cell ∨ X.env.kindOf x = some .free) ∧ ((relabel scope X.env).names.lookup x = some .cell ∨ (relabel scope X.env).names.lookup x = some .free)
theorem relabel_plain {scope : Scope} {env : Env} (nf : ∀ y ∈ scope.names, y.2 ≠ .free) : (relabel scope env).names = scope.names := by
  show scope.names.map _ = scope.names
  refine map_eq_self fun x hx => ?_
  obtain ⟨n, k⟩ := x
  have : (k == NameKind.free) = false := by simpa using nf _ hx
  simp [this]
theorem CompOk.plain {X : Cx} {N : List Str} {src : List (Option Nat)} {scope : Scope} (kind : scope.kind = .function) (nocell : ∀ y ∈ scope.names, y.2 ≠ .cell) (nofree : ∀ y ∈ scope.names, y.2 ≠ .free)
    (names : ∀ y ∈ scope.names, y.2 = .local → scope.names.lookup y.1 = some .local) (len : src.length = N.length) (none : ∀ o ∈ src, o = none) : CompOk X N src scope [] where
  kind := kind
  nocell := nocell
  names := names
  clos := closureFor_none nofree
  sub := fun x c h => nomatch h
  has := fun x h => by
    rw [relabel_plain nofree] at h
    rcases h with h | h
    · exact absurd rfl (nocell _ (PySem.mem_of_lookup h))
    · exact absurd rfl (nofree _ (PySem.mem_of_lookup h))
  len := len
  pulls := fun i j x _ h => by
    have := none _ (List.mem_of_getElem? h)
    cases this
/-- the tests of a clause -/
def PIfs (X : Cx) (ifs : List Expr) (t : TT) : Prop :=
  ∀ (pins : List (Addr × Obj)) (s : Shared) (σ : St) (H : Hp) (Q : Bool → Hp → Prop), Inv X pins σ H s → t σ H Q →
    wpAny (model X.prog X.w) X.A (forIn ifs true fun c r => if r = true then do let ok ← isTrue c X.env (eval c X.env); pure (ForInStep.yield ok) else pure (ForInStep.yield r)) (TP X pins σ Q) X.xe s
def tYes : TT := fun _ H Q => Q true H
theorem pifs_nil {X : Cx} : PIfs X [] tYes := fun _ _ _ H _ I h => wpAny_tests_nil ⟨H, I, h⟩
theorem pifs_one {X : Cx} {c : Expr} {t : TT} (h : PT X c t) : PIfs X [c] t := fun pins s σ H Q I hq => wpAny_tests_one (h pins s σ H Q I hq)
/-- what is asked of a comprehension's turns -/
def CompGoes (J : It) (g : TG) (tc : TT) (te : TE) (Q : VK) (D : Addr) (σ0 : St) (H0 : Hp) : Prop :=
  ∃ W : Nat → Nat → St → Hp → Prop, (∃ m, W 0 m σ0 H0) ∧ ∀ i m σ' H', W i m σ' H' →
    (J.stop i H' ∧ Q (.ref D) H') ∨ (J.go i H' ∧ ∃ N : St → Hp → Prop, (∀ σ'' H'', N σ'' H'' → ∃ m', m' < m ∧ W (i + 1) m' σ'' H'') ∧
      ∀ x H2, J.yld i H' x H2 → g x σ' H2 fun σ2 H3 => tc σ2 H3 fun b H4 => if b = true then te σ2 H4 fun y H5 => ∃ ys, H5 D = some (.lst ys) ∧ ys.length < sizeLine ∧ N σ2 (upd H5 D (.lst (ys ++ [y]))) else N σ2 H4)
def tComp (wi : TI) (src : List (Option Nat)) (g : TG) (tc : TT) (te : TE) : TE := fun σ H Q => wi σ H fun J H1 => ∀ D, H1 D = none → CompGoes J g tc te Q D (pull src σ) (upd H1 D (.lst []))
theorem Un.but {fs ex : List Addr} {H H1 : Hp} {h h1 h2 : Heap} {C : Addr} (u : Un fs ex H H1 h h1) (hC : h.objs.size ≤ C) (sb : Heap.SameBut C h1 h2) : Un fs ex H H1 h h2 := by
  have ne : ∀ b o, h.get? b = some o → b ≠ C := fun b o e => Nat.ne_of_lt (Nat.lt_of_lt_of_le (Heap.lt_size e) hC)
  refine ⟨fun b o e n hb hx => (sb.2 b (ne b o e)).trans (u.keep b o e n hb hx), fun b o e n hb hx => ?_, u.free, fun b o e hx => ?_, u.tups, u.frzs, u.tbls⟩
  · obtain ⟨sl, q⟩ := u.slot b o e n hb hx
    exact ⟨sl, (sb.2 b (ne b o e)).trans q⟩
  · obtain ⟨o', q⟩ := u.there b o e hx
    exact ⟨o', (sb.2 b (ne b o e)).trans q⟩
theorem HOk.but {P : Program} {w : World} {H : Hp} {h h' : Heap} {C : Addr} (ok : HOk P w H h) (hn : H C = none) (sb : Heap.SameBut C h h') : HOk P w H h' := fun b ob e => by
  refine (ok b ob e).stay (fun c w' hc q => (sb.2 c ?_).trans q) (fun _ q => q) fun _ _ q => q
  rintro rfl
  rcases hc with rfl | hc
  · rw [hn] at e; cases e
  · rw [hn] at hc; cases hc
section
variable {X : Cx} {tg iter elt : Expr} {ifs : List Expr} {scope : Scope} {pos : Pos} {N : List Str} {src : List (Option Nat)} {cl : List (Str × Addr)} {wi : TI} {g : TG} {tc : TT} {te : TE}
/-- the block's entry -/
theorem comp_start {pins : List (Addr × Obj)} {σ : St} {H : Hp} {s : Shared} {fp : List Addr} {h1 : Heap} {C : Addr} {tk : Nat} (ok : CompOk X N src scope cl) (I : Inv X pins σ H s) (hf : ∀ b ∈ fp, FpOk X pins H b) (ho : ∀ b ∈ fp, ∃ o, s.heap.get? b = some o)
    (hC : C = s.heap.objs.size + 1) (k : ∀ b u, s.heap.get? b = some u → h1.get? b = some u) (hD : h1.get? s.heap.objs.size = some { cls := .type "list", data := .seq #[] }) {m : Str → Option Value} (hn : h1.Ns C m) :
    Inv (compCx X N scope cl C fp pins s H) [] (pull src σ) (upd H s.heap.objs.size (.lst [])) { s with heap := h1, toks := tk } := by
  have lt : ∀ b o, s.heap.get? b = some o → b < s.heap.objs.size := fun b o e => Heap.lt_size e
  have nC : ∀ b o, s.heap.get? b = some o → b ≠ C := fun b o e => by rw [hC]; exact Nat.ne_of_lt (Nat.lt_succ_of_lt (lt b o e))
  have nD : ∀ b o, s.heap.get? b = some o → b ≠ s.heap.objs.size := fun b o e => Nat.ne_of_lt (lt b o e)
  have fr : ∀ b, s.heap.objs.size ≤ b → H b = none := fun b hb => I.hok.fresh hb
  have nst : ∀ b, b ≠ X.env.locals → b ∉ X.fs → b ∉ frs X.stack := fun b h1 h2 z => (List.mem_cons.mp (I.stkSub b z)).elim h1 h2
  have sub := ok.sub
  refine ⟨⟨I.ok.mod, ok.kind, I.ok.glob, I.ok.blt, by rw [show (compCx X N scope cl C fp pins s H).env.locals = C from rfl, hC]; exact Nat.le_succ _, fun x y c e1 e2 => I.ok.inj x y c (sub x c e1) (sub y c e2), ok.has, (fun x c z _ => nomatch z), I.ok.hd, I.ok.frames, .inl rfl, fun b hb => ?_, I.bs, Nat.le_trans I.ok.bsz I.sz, fun b o e hb => ?_, fun b hb hz => ?_, I.stack, I.stkFree⟩,
    rfl, I.bare, Un.laid k (Nat.le_refl _) (fr _ (Nat.le_refl _)), ⟨m, hn, fun i x v e1 e2 e3 => ?_⟩, fun x c e => ?_, ?_, fun x c e => ?_, fun p hp => ?_, I.hok.laid k (Nat.le_refl _) ⟨Nat.zero_le _, [], 0, .nil, hD⟩, ?_⟩
  · obtain ⟨o, e⟩ := ho b hb
    exact ⟨nC b o e, fun x c z => (hf b hb).2.2.2.2.1 x c (sub x c z)⟩
  · rcases (hf b hb).2.2.2.1 with z | z
    · exact I.ok.noex b o e z
    · exact absurd (Nat.lt_of_lt_of_le (Heap.lt_size (I.ok.bs b o e).1) z) (Nat.lt_irrefl _)
  · exact nst b (hf b hb).2.1 (hf b hb).2.2.1 hz
  · have hi : i < src.length := by
      have := (List.getElem?_eq_some_iff.mp e2).1
      unfold pull at this
      rw [List.length_map] at this
      exact this
    unfold pull at e2
    rw [List.getElem?_map, List.getElem?_eq_getElem hi] at e2
    cases q : src[i] with
    | none => rw [q] at e2; cases e2
    | some j =>
      rw [q] at e2
      have e2' : (σ[j]?).getD none = some v := Option.some.inj e2
      have e4 : σ[j]? = some (some v) := by
        cases z : σ[j]? with
        | none => rw [z] at e2'; cases e2'
        | some o => rw [z] at e2'; exact congrArg some e2'
      obtain ⟨p1, p2, p3⟩ := ok.pulls i j x e1 (by rw [List.getElem?_eq_getElem hi, q])
      obtain ⟨m', hn', hl⟩ := I.loc
      obtain ⟨u, r, l⟩ := hl j x v p1 e4 (by
        rcases p2 with z | z
        · exact .inr (.inl z)
        · exact .inr (.inr z))
      refine ⟨u, r, .inr ⟨p3, ?_⟩⟩
      obtain ⟨c, hc⟩ := ok.has x p3
      refine ⟨c, hc, ?_⟩
      rcases l with ⟨z, _⟩ | ⟨_, c', hc', o, ho', hd'⟩
      · rcases p2 with y | y <;> rw [z] at y <;> cases y
      · rw [sub x c hc] at hc'
        cases hc'
        exact ⟨o, k _ o ho', hd'⟩
  · obtain ⟨v, o, e1, e2⟩ := I.cell x c (sub x c e)
    exact ⟨v, o, k c o e1, e2⟩
  · show upd H s.heap.objs.size (.lst []) C = none
    rw [hC, upd_ne (Nat.succ_ne_self _)]
    exact fr _ (Nat.le_succ _)
  · show upd H s.heap.objs.size (.lst []) c = none
    obtain ⟨v, o, e1, e2⟩ := I.cell x c (sub x c e)
    rw [upd_ne (nD c o e1)]
    exact I.freeC x c (sub x c e)
  · have hp' : p ∈ X.pn ++ pins := by
      have : p ∈ (X.pn ++ pins) ++ [] := hp
      simpa using this
    obtain ⟨e1, e2, e3, e4, e5⟩ := I.pin p hp'
    refine ⟨k _ _ e1, ?_, nC _ _ e1, nst _ e3 e4, e5⟩
    show upd H s.heap.objs.size (.lst []) p.1 = none
    rw [upd_ne (nD _ _ e1)]
    exact e2
  · unfold pull
    rw [List.length_map]
    exact ok.len
theorem pe_comp (ok : CompOk X N src scope cl) (hcalm : X.calm = true) (hi : PI X tg iter wi)
    (hg : ∀ C fp pins s H, PG (compCx X N scope cl C fp pins s H) tg g) (hc : ∀ C fp pins s H, PIfs (compCx X N scope cl C fp pins s H) ifs tc) (he : ∀ C fp pins s H, PE (compCx X N scope cl C fp pins s H) elt te)
    (hs : ∀ x, foldedSetIterable iter X.env x = pure x := by intro _; rfl) : PE X (.ListComp elt [⟨tg, iter, ifs, 0⟩] scope pos) (tComp wi src g tc te) := by
  intro pins s σ H Q I h
  rw [eval_ListComp]
  refine wpAny_comprehension_free (use := none) rfl hs ok.clos ok.kind ok.names (thn (hi pins s σ H _ I h) fun xv s1 h1 => thn h1 fun itv s2 h2 => ?_)
  obtain ⟨it, fp, tn, J, H2, e, I2, T, st2, f2, q2⟩ := h2
  subst e
  refine wpAny_newObj_type (wpAny_newFunctionEnv ok.nocell (by intro y hy; simp at hy) (fun h₁ hns₁ hsb₁ => ?_) ok.kind)
  dsimp only at hns₁ hsb₁ ⊢
  generalize hP : s2.heap.push { cls := .type "list", dict := none, data := .seq ([] : List Value).toArray } = P2 at hns₁ hsb₁ ⊢
  have hC : P2.objs.size = s2.heap.objs.size + 1 := by rw [← hP, Heap.size_push]
  have k : ∀ b u, s2.heap.get? b = some u → h₁.get? b = some u := fun b u e => by
    have lt := Heap.lt_size e
    exact (hsb₁.2 b (by rw [hC]; exact Nat.ne_of_lt (Nat.lt_succ_of_lt lt))).trans (Heap.get?_push_of_some _ (hP ▸ Heap.get?_push_of_some _ e))
  have hD : h₁.get? s2.heap.objs.size = some { cls := .type "list", data := .seq #[] } := (hsb₁.2 _ (by rw [hC]; exact (Nat.succ_ne_self _).symm)).trans (Heap.get?_push_of_some _ (hP ▸ Heap.get?_push_size _ rfl))
  have ho : ∀ b ∈ fp, ∃ o, s2.heap.get? b = some o := fun b hb => let ⟨o, e, _⟩ := T.obj 0 _ st2 b hb; ⟨o, e⟩
  obtain ⟨W, ⟨m0, w0⟩, turn⟩ := q2 s2.heap.objs.size (I2.hok.fresh (Nat.le_refl _))
  have I0 := comp_start (tk := s2.toks + ([] : List (Str × Value)).length) ok I2 f2 ho hC k hD hns₁
  have st0 : tn 0 h₁ := T.keep 0 _ _ st2 fun b _ o e => k b o e
  have fr0 : ∀ b ∈ fp, upd H2 s2.heap.objs.size (.lst []) b = none := fun b hb => by
    obtain ⟨o, e⟩ := ho b hb
    rw [upd_ne (Nat.ne_of_lt (Heap.lt_size e))]
    exact (f2 b hb).1
  have stat : ∀ {H' : Hp}, (∀ b ∈ fp, H' b = none) → ∀ b ∈ fp, FpOk (compCx X N scope cl P2.objs.size fp pins s2 H2) [] H' b := fun {H'} hn b hb => by
    obtain ⟨o, e⟩ := ho b hb
    have lt := Heap.lt_size e
    refine ⟨hn b hb, ?_, fun z => (List.mem_cons.mp (I2.stkSub b z)).elim (f2 b hb).2.1 (f2 b hb).2.2.1, .inl hb, fun x c z => (f2 b hb).2.2.2.2.1 x c (ok.sub x c z), fun p hp => ?_⟩
    · show b ≠ P2.objs.size
      rw [hC]
      exact Nat.ne_of_lt (Nat.lt_succ_of_lt lt)
    · have hp' : p ∈ X.pn ++ pins := by
        have : p ∈ (X.pn ++ pins) ++ [] := hp
        simpa using this
      exact (f2 b hb).2.2.2.2.2 p hp'
  have loop : ∀ s₃ : Shared, s₃ = { s2 with heap := h₁, toks := s2.toks + ([] : List (Str × Value)).length } →
      codeAny (model X.prog X.w) X.A (.compLoop (.ListComp elt [⟨tg, iter, ifs, 0⟩] scope pos) 0 (.ref it) (.ref s2.heap.objs.size) (compEnvC scope cl P2.objs.size X.env))
        (compPost (model X.prog X.w) X.A X.xe none (EP X pins σ Q) (.ref s2.heap.objs.size) P2.objs.size) s₃ := by
    rintro s₃ rfl
    refine codeAny_loop rfl (fun n s' => ∃ i σ' H', Inv (compCx X N scope cl P2.objs.size fp pins s2 H2) [] σ' H' s' ∧ tn i s'.heap ∧ (∀ b ∈ fp, H' b = none) ∧ W i n σ' H') ?_ m0 ⟨0, _, _, I0, st0, fr0, w0⟩
    rintro n s3 ⟨i, σ3, H3, I3, st3, fr3, w3⟩
    show wpAny _ X.A ((compTurn (.ListComp elt [⟨tg, iter, ifs, 0⟩] scope pos) 0 (.ref it) (.ref s2.heap.objs.size) (compEnvC scope cl P2.objs.size X.env)).onRaise (fun x => do noteFrame x (compEnvC scope cl P2.objs.size X.env); theTreesLotGoes x)) _ _ s3
    refine wpAny_noted ?_
    rw [compTurn_list]
    rcases turn i n σ3 H3 w3 with ⟨stop, qn⟩ | ⟨go, N', hN, step⟩
    · refine wpAny_bind (wpAny_standAt (wpAny_bind (thn (T.done (compCx X N scope cl P2.objs.size fp pins s2 H2) rfl rfl rfl hcalm i [] s3 σ3 H3 _ I3 (stat fr3) st3 stop) fun r s4 ⟨hr, I4⟩ => ?_)))
      subst hr
      refine wpAny_pure ?_
      obtain ⟨m, hm, _⟩ := I4.loc
      refine ⟨m, hm, fun h' sb => ⟨.ref s2.heap.objs.size, H3, ?_, rfl, qn⟩⟩
      have un : Un (frs X.stack) fp H2 H3 s2.heap h' := Un.but I4.base (by show s2.heap.objs.size ≤ P2.objs.size; rw [hC]; exact Nat.le_succ _) sb
      have hok : HOk X.prog X.w H3 h' := HOk.but I4.hok I4.free sb
      exact I2.call' (s' := { s4 with heap := h' }) (ch := fp) I4.os un hok I4.bare fun b hb => ⟨(f2 b hb).2.2.2.1, (f2 b hb).2.1, (f2 b hb).2.2.2.2.1, (f2 b hb).2.2.2.2.2⟩
    · refine wpAny_bind (wpAny_standAt (wpAny_bind (thn (T.item (compCx X N scope cl P2.objs.size fp pins s2 H2) rfl rfl rfl hcalm i [] s3 σ3 H3 _ I3 (stat fr3) st3 go) fun r s4 ⟨u, hr, h4⟩ => ?_)))
      subst hr
      dsimp only
      refine wpAny_bind (thn h4 fun _ s5 ⟨x, H5, I5, r5, y5, st5, fr5⟩ => ?_)
      have I5' := I5.pinned (stat fr5) (T.obj _ _ st5)
      refine wpAny_bind (wpAny_mono (hg P2.objs.size fp pins s2 H2 _ s5 σ3 H5 x u _ I5' r5 (step x H5 y5)) (fun _ s6 ⟨σ6, H6, I6, q6⟩ => ?_) fun _ _ z => False.elim z)
      have again : ∀ {s7 : Shared} {σ7 : St} {H7 : Hp}, Inv (compCx X N scope cl P2.objs.size fp pins s2 H2) ([] ++ pinsAt fp s5.heap) σ7 H7 s7 → N' σ7 H7 → ∃ m, m < n ∧ ∃ i σ' H', Inv (compCx X N scope cl P2.objs.size fp pins s2 H2) [] σ' H' s7 ∧ tn i s7.heap ∧ (∀ b ∈ fp, H' b = none) ∧ W i m σ' H' := fun {s7 σ7 H7} I7 n7 => by
        obtain ⟨m', hm, w7⟩ := hN σ7 H7 n7
        refine ⟨m', hm, i + 1, σ7, H7, I7.unpinned, T.keep _ _ _ st5 fun b hb o e => (I7.pin (b, o) (List.mem_append_right _ (List.mem_append_right _ (mem_pinsAt hb e)))).1, fun b hb => ?_, w7⟩
        obtain ⟨o, e, d⟩ := T.obj _ _ st5 b hb
        exact (I7.pin (b, o) (List.mem_append_right _ (List.mem_append_right _ (mem_pinsAt hb e)))).2.1
      refine wpAny_bind (wpAny_mono (hc P2.objs.size fp pins s2 H2 _ s6 σ6 H6 _ I6 q6) (fun b s7 ⟨H7, I7, q7⟩ => ?_) fun _ _ z => False.elim z)
      cases b with
      | false =>
        rw [if_neg Bool.false_ne_true] at q7
        exact wpAny_pure ⟨rfl, again I7 q7⟩
      | true =>
        rw [if_pos rfl] at q7
        refine wpAny_bind (wpAny_bind (wpAny_mono (he P2.objs.size fp pins s2 H2 _ s7 σ6 H7 _ I7 q7) (fun y s8 ⟨v8, H8, I8, r8, ys, hys, hlen, q8⟩ => ?_) fun _ _ z => False.elim z))
        refine wpAny_bind (wpAny_mono (mt_append (X := compCx X N scope cl P2.objs.size fp pins s2 H2) _ s8 σ6 H8 (.ref s2.heap.objs.size) [v8] (.ref s2.heap.objs.size) [y] (fun _ H9 => N' σ6 H9) I8 rfl (.cons r8 .nil) ⟨_, ys, v8, rfl, rfl, hys, hlen, q8⟩) (fun _ s9 ⟨v9, H9, I9, _, q9⟩ => ?_) fun _ _ z => False.elim z)
        exact wpAny_pure (wpAny_pure ⟨rfl, again I9 q9⟩)
  exact codeAny_compStart_list (loop _ rfl) (T.self _ 0 _ _ _ st0 (loop _ rfl))
end
end L2
namespace L2
open PySem PySem.Spec PyProof.Rows
section
variable {K : PySem.W.Frag} {src : List (Option Nat)} {g : TG} {tc : TT} {te : TE} {Q : VK} {σ : St} {H : Hp} {D : Addr}
theorem comp_list {a : Addr} {xs : List V} (Pv : Nat → St → Hp → Prop) (h0 : Pv 0 σ H) (hl : ∀ i σ H, i ≤ xs.length → Pv i σ H → SqL K H a xs)
    (hs : ∀ i x σ H, xs[i]? = some x → Pv i σ H → g x σ H fun σ2 H3 => tc σ2 H3 fun b H4 => if b = true then te σ2 H4 fun y H5 => ∃ ys, H5 D = some (.lst ys) ∧ ys.length < sizeLine ∧ Pv (i + 1) σ2 (upd H5 D (.lst (ys ++ [y]))) else Pv (i + 1) σ2 H4)
    (hd : ∀ σ H, Pv xs.length σ H → Q (.ref D) H) : CompGoes (Itl K a) g tc te Q D σ H := by
  refine ⟨fun i m σ H => m = xs.length - i ∧ i ≤ xs.length ∧ Pv i σ H, ⟨xs.length, by simp, Nat.zero_le _, h0⟩, ?_⟩
  rintro i m σ H ⟨rfl, hi, p⟩
  have q := hl i σ H hi p
  by_cases hlt : i < xs.length
  · refine .inr ⟨⟨xs, xs[i], q, by simp [hlt]⟩, Pv (i + 1), fun σ' H' p' => ⟨xs.length - (i + 1), by omega, rfl, hlt, p'⟩, fun x H' y => ?_⟩
    obtain ⟨e, y⟩ := y
    subst e
    exact hs i x σ _ (y xs q) p
  · have e : i = xs.length := by omega
    subst e
    exact .inl ⟨⟨xs, q, Nat.le_refl _⟩, hd σ H p⟩
end
end L2

/-! The rules whose reading names the written part, with that part said (a comprehension's block bears no letter of its own in its reading). -/
namespace L2
open PySem PySem.Spec PyProof.Rows
section
variable {X : Cx} {K : PySem.W.Frag}
theorem pt_truthK {a : Expr} {ta : TE} (hK : X.K = K) (ha : PE X a ta) (he : ∀ whole, isTrue a X.env whole = (do let v ← whole; standAt a.pos; holding [v] (truthy v))) :
    PT X a (fun σ H Q => ta σ H fun x H' => ∃ k, TruV K x H' k ∧ Q k H') := by
  subst hK
  exact pt_truth ha he
theorem ix_tupK (hK : X.K = K) : IxR X (rIxT K) := by
  subst hK
  exact ix_tup
theorem call_len_seqK (hK : X.K = K) : CallR X (.builtin "len") (fun xs H Q => ∃ p ys, xs = [.ref p] ∧ (SqL K H p ys ∨ SqT K H p ys) ∧ Q (.int ys.length) H) := by
  subst hK
  exact call_len_seq
theorem op_eq_deepK (hK : X.K = K) (hu : X.A.units + 64 < cLine) : OpR X (compareOp .Eq) (rEqD K false) := by
  subst hK
  exact op_eq_deep hu
theorem op_in_deepK (hK : X.K = K) (hu : X.A.units + 64 < cLine) : OpR X (compareOp .In) (rInD K false) := by
  subst hK
  exact op_in_deep hu
theorem op_notIn_deepK (hK : X.K = K) (hu : X.A.units + 64 < cLine) : OpR X (compareOp .NotIn) (rInD K true) := by
  subst hK
  exact op_notIn_deep hu
theorem pg_tupK {es : List Expr} {k : Nat} {t : TGs} {n : Nat} {pos : Pos} (hK : X.K = K) (hc : X.calm = true) (h : PGs X es t)
    (hn : (assignEach es X.env).length = n := by rfl) (hst : (assignEach es X.env).findIdx? (·.1) = none := by rfl) : PG X (.Tuple es k pos) (gTup K n t) := by
  subst hK
  exact pg_tup hc h hn hst
end
end L2

/-! Own rules: what yields pairs (zip of two lists, enumerate of a list and of a text), int of a text, str of a text. -/
namespace L2
open PySem PySem.Spec PyProof.Rows
section
variable {fs ch : List Addr} {H : Hp} {h h' : Heap} {a : Addr} {o : HO}
theorem Un.laidX (k : ∀ b u, b ∉ ch → h.get? b = some u → h'.get? b = some u) (hp : h.objs.size ≤ a) (hn : H a = none) : Un fs ch H (upd H a o) h h' where
  keep := fun b u q _ _ hx => k b u hx q
  slot := fun b u q _ _ hx => ⟨u.slots, k b u hx q⟩
  free := fun b u q n _ => by rw [upd_ne (Nat.ne_of_lt (Nat.lt_of_lt_of_le (Heap.lt_size q) hp))]; exact n
  there := fun b u q hx => ⟨u, k b u hx q⟩
  tups := fun b xs q => by rw [upd_ne (ne_of_none q hn)]; exact q
  frzs := fun b u xs q => by rw [upd_ne (ne_of_none q hn)]; exact q
  tbls := fun b ps q => ⟨#[], by rw [upd_ne (ne_of_none q hn), q]; simp⟩
theorem Un.keptX (k : ∀ b u, b ∉ ch → h.get? b = some u → h'.get? b = some u) : Un fs ch H H h h' :=
  ⟨fun b ob q _ _ hx => k b ob hx q, fun b ob q _ _ hx => ⟨ob.slots, k b ob hx q⟩, fun _ _ _ n _ => n, fun b ob q hx => ⟨ob, k b ob hx q⟩, fun _ _ q => q, fun _ _ _ q => q, fun _ ps q => ⟨#[], by rw [q]; simp⟩⟩
theorem HOk.keptX {P : Program} {w : World} (x : HOk P w H h) (k : ∀ b u, b ∉ ch → h.get? b = some u → h'.get? b = some u) (hch : ∀ b ∈ ch, H b = none) : HOk P w H h' := fun b u e => by
  refine (x b u e).stay (fun c v hc q => k c v (fun z => ?_) q) (fun _ q => q) fun _ _ q => q
  have n := hch c z
  rcases hc with rfl | hc
  · rw [n] at e; cases e
  · rw [n] at hc; cases hc
theorem HOk.laidX {P : Program} {w : World} (x : HOk P w H h) (k : ∀ b u, b ∉ ch → h.get? b = some u → h'.get? b = some u) (hch : ∀ b ∈ ch, H b = none) (hp : h.objs.size ≤ a) (new : ObjOk P w (upd H a o) h' a o) : HOk P w (upd H a o) h' := fun b u e => by
  have hn := x.fresh hp
  by_cases hb : b = a
  · subst hb; rw [upd_same] at e; cases e; exact new
  · rw [upd_ne hb] at e
    refine (x b u e).stay (fun c v hc q => k c v (fun z => ?_) q) (fun c q => by rw [upd_ne (ne_of_none q hn)]; exact q) fun c xs q => by rw [upd_ne (ne_of_none q hn)]; exact q
    have n := hch c z
    rcases hc with rfl | hc
    · rw [n] at e; cases e
    · rw [n] at hc; cases hc
end
section
variable {X : Cx} {pins : List (Addr × Obj)} {s : Shared} {σ : St} {H : Hp} {E : Value → Shared → Prop} {fp wr FP : List Addr} {elts : List Expr} {k : Nat} {pos : Pos} {e : Addr} {n i : Nat} {Pt : Nat → Array Value → Prop} {Sn : Nat → Heap → Prop} {Mid : Nat → Addr → Heap → Prop} {J : It} {tn : Nat → Heap → Prop}
theorem item_T (I : Inv X pins σ H s) (hf : ∀ b ∈ fp, FpOk X pins H b) (ho : ∀ b ∈ fp, ∃ o, s.heap.get? b = some o) (hwr : ∀ b ∈ wr, b ∈ fp) (W : WalksT X.prog X.w X.A e FP wr n Pt Sn Mid) (hi : i < n) (st : Sn i s.heap)
    (y : ∀ T vals, H T = none → Pt i vals → ∃ vs, Vals vs vals.toList ∧ vs.length ≤ sizeLine ∧ J.yld i H (.ref T) (upd H T (.tup vs))) (nx : ∀ h'', Sn (i + 1) h'' → tn (i + 1) h'') :
    wpAny (model X.prog X.w) X.A (pyNext (.ref e)) (fun r s1 => ∃ u, r = some u ∧
      wpAny (model X.prog X.w) X.A (letOwnedTupleGo (.Tuple elts k pos) (.ref e) u) (fun _ s2 => ∃ x H', Inv X pins σ H' s2 ∧ RelV x u ∧ J.yld i H x H' ∧ tn (i + 1) s2.heap ∧ ∀ b ∈ fp, H' b = none) E s1) E s := by
  refine W.item i s _ E hi st fun T vals h' tk hP hT0 hT hm kk => ⟨.ref T, rfl, ?_⟩
  have hn : H T = none := I.hok.fresh hT0
  obtain ⟨vs, hv, hl, hy⟩ := y T vals hn hP
  refine W.go elts k pos i T { s with heap := h', toks := tk } _ E hm fun h'' st'' kk2 => ?_
  have k2 : ∀ b o, b ∉ wr → s.heap.get? b = some o → h''.get? b = some o := fun b o hb e => kk2 b o hb (kk b o hb e)
  have hTup : IsTup h'' T vals := by
    obtain ⟨o, e1, c, m, d⟩ := hT
    exact ⟨o, kk2 T o (W.apart i T _ hm) e1, c, m, d⟩
  have hch : ∀ b ∈ wr, H b = none := fun b hb => (hf b (hwr b hb)).1
  refine ⟨.ref T, upd H T (.tup vs), ?_, rfl, hy, nx _ st'', fun b hb => ?_⟩
  · exact I.call' (s' := { s with heap := h'', toks := tk }) (ch := wr) rfl (Un.laidX k2 hT0 hn) (HOk.laidX I.hok k2 hch hT0 ⟨hl, vals.toList, hv, by simpa using hTup⟩) I.bare fun b hb => let f := hf b (hwr b hb); ⟨f.2.2.2.1, f.2.1, f.2.2.2.2.1, f.2.2.2.2.2⟩
  · obtain ⟨o, e1⟩ := ho b hb
    rw [upd_ne (Nat.ne_of_lt (Nat.lt_of_lt_of_le (Heap.lt_size e1) hT0))]
    exact (hf b hb).1
theorem done_T (I : Inv X pins σ H s) (hf : ∀ b ∈ fp, FpOk X pins H b) (hwr : ∀ b ∈ wr, b ∈ fp) (W : WalksT X.prog X.w X.A e FP wr n Pt Sn Mid) (st : Sn n s.heap) :
    wpAny (model X.prog X.w) X.A (pyNext (.ref e)) (fun r s1 => r = none ∧ Inv X pins σ H s1) E s :=
  W.done s _ E st fun h' tk kk => ⟨rfl, I.call' (s' := { s with heap := h', toks := tk }) (ch := wr) rfl (Un.keptX kk) (HOk.keptX I.hok kk fun b hb => (hf b (hwr b hb)).1) I.bare fun b hb => let f := hf b (hwr b hb); ⟨f.2.2.2.1, f.2.1, f.2.2.2.2.1, f.2.2.2.2.2⟩⟩
end
theorem not_cell {h : Heap} {b : Addr} {o : Obj} {vs : Array Value} (e : h.get? b = some o) (d : o.data = .fields vs) : ∃ o, h.get? b = some o ∧ ∀ v, o.data ≠ .cell v := ⟨o, e, fun v z => by rw [d] at z; cases z⟩
/-! ### enumerate of a list -/
def Ite (K : PySem.W.Frag) (l : Addr) : It := ⟨fun i H => ∃ xs, SqL K H l xs ∧ i < xs.length, fun i H x H' => ∃ T, x = .ref T ∧ H T = none ∧ ∀ xs, SqL K H l xs → ∃ v, xs[i]? = some v ∧ H' = upd H T (.tup [.int i, v]), fun i H => ∃ xs, SqL K H l xs ∧ i = xs.length⟩
theorem turn_enum {P : Program} {w : World} {K : PySem.W.Frag} {elts : List Expr} {k : Nat} {pos : Pos} (e it l : Addr) (hei : e ≠ it) (hle : l ≠ e) (hli : l ≠ it) :
    Turn P w K (.Tuple elts k pos) (Ite K l) [e, it] e (fun i h => (∃ old, IsEnum h e it i old) ∧ h.IsListIter it l i) where
  mem := by simp
  obj := fun i h st b hb => by
    obtain ⟨⟨old, he⟩, o, e2, c, d⟩ := st
    rcases List.mem_cons.mp hb with rfl | hb
    · exact not_cell he rfl
    · have z : b = it := by simpa using hb
      subst z
      exact not_cell e2 d
  keep := fun i h h' st kk => by
    obtain ⟨⟨old, he⟩, o, e2, r⟩ := st
    exact ⟨⟨old, kk e (by simp) _ he⟩, o, kk it (by simp) o e2, r⟩
  item := by
    intro X hP hw hK hc i pins s σ H E I hf st hg
    subst hP hw hK
    obtain ⟨xs, hq, hlt⟩ := hg
    obtain ⟨its, rv, p, hz⟩ := I.list hq
    have hl := rv.length
    obtain ⟨⟨old, he⟩, o2, e2, c2, d2⟩ := id st
    refine item_T (wr := [e, it]) (J := Ite X.K l) (tn := fun i h => (∃ old, IsEnum h e it i old) ∧ h.IsListIter it l i) I hf (fun b hb => ?_) (fun b hb => hb) (WalksT.enumerate (I.ok.hd hc) e it l hei hle hli its.toArray) (by simp; omega) ⟨st.1, st.2, p.isList⟩ (fun T vals hn hp => ?_) fun h'' q => ⟨q.1, q.2.1⟩
    · rcases List.mem_cons.mp hb with rfl | hb
      · exact ⟨_, he⟩
      · have z : b = it := by simpa using hb
        subst z
        exact ⟨_, e2⟩
    · obtain ⟨t, x, hx, rfl⟩ := hp
      have hx' : its[i]? = some x := by simpa using hx
      obtain ⟨u, hu, ru⟩ := rv.get (i := i) (x := xs[i]) (by rw [List.getElem?_eq_getElem hlt])
      rw [hu] at hx'
      cases hx'
      exact ⟨[.int i, xs[i]], .cons ⟨t, rfl⟩ (.cons ru .nil), (by show 2 ≤ sizeLine; decide), T, rfl, hn, fun ys hy => ⟨xs[i], by rw [I.list_inj hy hq, List.getElem?_eq_getElem hlt], rfl⟩⟩
  done := by
    intro X hP hw hK hc i pins s σ H E I hf st hg
    subst hP hw hK
    obtain ⟨xs, hq, rfl⟩ := hg
    obtain ⟨its, rv, p, hz⟩ := I.list hq
    have hl : its.toArray.size = xs.length := by simp [rv.length]
    refine done_T (fp := [e, it]) (wr := [e, it]) I hf (fun b hb => hb) (WalksT.enumerate (I.ok.hd hc) e it l hei hle hli its.toArray) ?_
    rw [hl]
    exact ⟨st.1, st.2, p.isList⟩
  self := fun A i s Q E st h => by
    obtain ⟨⟨old, he⟩, _⟩ := st
    exact wpAny_pyIter_enum he h
/-! ### enumerate of a text -/
def Ites (x : Str) : It := ⟨fun i _ => i < x.cps.size, fun i H v H' => ∃ T c, v = .ref T ∧ H T = none ∧ x.cps[i]? = some c ∧ H' = upd H T (.tup [.int i, .str ⟨#[c]⟩]), fun i _ => i = x.cps.size⟩
theorem turn_enumS {P : Program} {w : World} {K : PySem.W.Frag} {elts : List Expr} {k : Nat} {pos : Pos} (e it : Addr) (x : Str) (t : Tok) (n : String) (hei : e ≠ it)
    (D : ∀ A : Around, A.handled = none → Draws P w A it [it] x.cps.size (fun i v => ∃ c u, x.cps[i]? = some c ∧ v = .str ⟨#[c]⟩ u) (fun i h => h.IsStrIter it n x t i)) :
    Turn P w K (.Tuple elts k pos) (Ites x) [e, it] e (fun i h => (∃ old, IsEnum h e it i old) ∧ h.IsStrIter it n x t i) where
  mem := by simp
  obj := fun i h st b hb => by
    obtain ⟨⟨old, he⟩, o, e2, c, d⟩ := st
    rcases List.mem_cons.mp hb with rfl | hb
    · exact not_cell he rfl
    · have z : b = it := by simpa using hb
      subst z
      exact not_cell e2 d
  keep := fun i h h' st kk => by
    obtain ⟨⟨old, he⟩, o, e2, r⟩ := st
    exact ⟨⟨old, kk e (by simp) _ he⟩, o, kk it (by simp) o e2, r⟩
  item := by
    intro X hP hw hK hc i pins s σ H E I hf st hg
    subst hP hw hK
    obtain ⟨⟨old, he⟩, o2, e2, c2, d2⟩ := id st
    refine item_T (wr := [e, it]) (J := Ites x) (tn := fun i h => (∃ old, IsEnum h e it i old) ∧ h.IsStrIter it n x t i) I hf (fun b hb => ?_) (fun b hb => hb) (WalksT.enumerateD (D X.A.in1 (I.ok.hd hc)) e hei (by simpa using hei) (by simp)) hg st (fun T vals hn hp => ?_) fun h'' q => q
    · rcases List.mem_cons.mp hb with rfl | hb
      · exact ⟨_, he⟩
      · have z : b = it := by simpa using hb
        subst z
        exact ⟨_, e2⟩
    · obtain ⟨t', v, ⟨c, u, hx, rfl⟩, rfl⟩ := hp
      exact ⟨[.int i, .str ⟨#[c]⟩], .cons ⟨t', rfl⟩ (.cons ⟨u, rfl⟩ .nil), (by show 2 ≤ sizeLine; decide), T, c, rfl, hn, hx, rfl⟩
  done := by
    intro X hP hw hK hc i pins s σ H E I hf st hg
    subst hP hw hK
    have z : i = x.cps.size := hg
    subst z
    exact done_T (fp := [e, it]) (wr := [e, it]) I hf (fun b hb => hb) (WalksT.enumerateD (D X.A.in1 (I.ok.hd hc)) e hei (by simpa using hei) (by simp)) st
  self := fun A i s Q E st h => by
    obtain ⟨⟨old, he⟩, _⟩ := st
    exact wpAny_pyIter_enum he h
/-! ### zip of two lists -/
def Itz (K : PySem.W.Frag) (l1 l2 : Addr) : It := ⟨fun i H => ∃ xs ys, SqL K H l1 xs ∧ SqL K H l2 ys ∧ i < xs.length ∧ i < ys.length,
  fun i H x H' => ∃ T, x = .ref T ∧ H T = none ∧ ∀ xs ys, SqL K H l1 xs → SqL K H l2 ys → ∃ v v', xs[i]? = some v ∧ ys[i]? = some v' ∧ H' = upd H T (.tup [v, v']), fun i H => ∃ xs ys, SqL K H l1 xs ∧ SqL K H l2 ys ∧ i = min xs.length ys.length⟩
section
variable {X : Cx} {elts : List Expr} {k : Nat} {tpos : Pos}
def iEnumL (K : PySem.W.Frag) (ta : TA) : TI := fun σ H R => ta σ H fun vs H1 => ∃ l, vs = [.ref l] ∧ (∃ xs, SqL K H1 l xs) ∧ R (Ite K l) H1
theorem pi_enumL {a : Expr} {ta : TA} {p pos : Pos} (hg : Gl X "enumerate") (hm : X.mg "enumerate" = none) (ha : PA X [a] ta) (hs : starEach [a] X.env = [(false, eval a X.env)] := by rfl) : PI X (.Tuple elts k tpos) (.Call (.Name "enumerate" p) [a] [] pos) (iEnumL X.K ta) := by
  intro pins s σ H R I h
  refine Call_ (ld_blt I hg hm boot_enumerate (PyProof.Rows.callWith_type1 (thn (ha pos pins s σ H _ I h) fun us s1 ⟨vs, H1, I1, r1, q1⟩ => ?_) hs rfl))
  obtain ⟨l, rfl, ⟨xs, hq⟩, q⟩ := q1
  obtain ⟨u, rfl, ru⟩ := vals1 r1
  cases ru
  obtain ⟨its, rv, pl, hz⟩ := I1.list hq
  obtain ⟨ol, hol, _⟩ := pl.isList
  have hlt := Heap.lt_size hol
  refine call_enumerate_list pl.isList fun h' he hit hsz kk => ?_
  have I2 : Inv X pins σ H1 { s1 with heap := h' } := I1.kept (t' := s1.toks) kk
  refine wpAny_pyIter_enum he ?_
  refine ⟨s1.heap.objs.size + 1, [s1.heap.objs.size + 1, s1.heap.objs.size], _, _, H1, rfl, I2, turn_enum (s1.heap.objs.size + 1) s1.heap.objs.size l (Nat.succ_ne_self _) (Nat.ne_of_lt (Nat.lt_succ_of_lt hlt)) (Nat.ne_of_lt hlt), ⟨⟨_, he⟩, hit⟩, fun b hb => ?_, q⟩
  have hb' : s1.heap.objs.size ≤ b := by
    rcases List.mem_cons.mp hb with e | hb
    · rw [e]; exact Nat.le_succ _
    · have e : b = s1.heap.objs.size := by simpa using hb
      rw [e]; exact Nat.le_refl _
  exact I1.fpOk hb' (I1.hok.fresh hb')
def iEnumS (ta : TA) : TI := fun σ H R => ta σ H fun vs H1 => ∃ z, vs = [.str z] ∧ R (Ites z) H1
theorem pi_enumS {a : Expr} {ta : TA} {p pos : Pos} (hg : Gl X "enumerate") (hm : X.mg "enumerate" = none) (ha : PA X [a] ta) (hs : starEach [a] X.env = [(false, eval a X.env)] := by rfl) : PI X (.Tuple elts k tpos) (.Call (.Name "enumerate" p) [a] [] pos) (iEnumS ta) := by
  intro pins s σ H R I h
  refine Call_ (ld_blt I hg hm boot_enumerate (PyProof.Rows.callWith_type1 (thn (ha pos pins s σ H _ I h) fun us s1 ⟨vs, H1, I1, r1, q1⟩ => ?_) hs rfl))
  obtain ⟨z, rfl, q⟩ := q1
  obtain ⟨u, rfl, t, rfl⟩ := vals1 r1
  refine call_enumerate_str fun h' he hit hsz kk => ?_
  have I2 : Inv X pins σ H1 { s1 with heap := h' } := I1.kept (t' := s1.toks) kk
  refine wpAny_pyIter_enum he ?_
  have fpk : ∀ b ∈ [s1.heap.objs.size + 1, s1.heap.objs.size], FpOk X pins H1 b := fun b hb => by
    have hb' : s1.heap.objs.size ≤ b := by
      rcases List.mem_cons.mp hb with e | hb
      · rw [e]; exact Nat.le_succ _
      · have e : b = s1.heap.objs.size := by simpa using hb
        rw [e]; exact Nat.le_refl _
    exact I1.fpOk hb' (I1.hok.fresh hb')
  unfold strIterType at hit
  by_cases ha : z.cps.all (· < 128) = true
  · rw [if_pos ha] at hit
    exact ⟨s1.heap.objs.size + 1, [s1.heap.objs.size + 1, s1.heap.objs.size], _, _, H1, rfl, I2, turn_enumS (s1.heap.objs.size + 1) s1.heap.objs.size z t "str_ascii_iterator" (Nat.succ_ne_self _) (fun A hA => Draws.strAscii hA _ z t), ⟨⟨_, he⟩, hit⟩, fpk, q⟩
  · rw [if_neg ha] at hit
    exact ⟨s1.heap.objs.size + 1, [s1.heap.objs.size + 1, s1.heap.objs.size], _, _, H1, rfl, I2, turn_enumS (s1.heap.objs.size + 1) s1.heap.objs.size z t "str_iterator" (Nat.succ_ne_self _) (fun A hA => Draws.strWide hA _ z t), ⟨⟨_, he⟩, hit⟩, fpk, q⟩
def iZip (K : PySem.W.Frag) (ta : TA) : TI := fun σ H R => ta σ H fun vs H1 => ∃ l1 l2, vs = [.ref l1, .ref l2] ∧ (∃ xs, SqL K H1 l1 xs) ∧ (∃ ys, SqL K H1 l2 ys) ∧ R (Itz K l1 l2) H1
theorem call_int_str : CallR X (.type "int") (fun xs H Q => ∃ x n, xs = [.str x] ∧ PySem.intText? x = some n ∧ x.length ≤ 640 ∧ Q (.int n) H) := by
  intro pins s σ H xs us Q I r h
  obtain ⟨x, n, rfl, hn, hl, q⟩ := h
  obtain ⟨u, rfl, t, rfl⟩ := vals1 r
  exact PySem.W.KIN.call_text hn hl ⟨.int n, H, I.tok _, ⟨_, rfl⟩, q⟩
end
/-! ### the forms one uses -/
theorem for_enumL {K : PySem.W.Frag} {l : Addr} {xs : List V} {g : TG} {tb : TS} {D : Ends} {σ : St} {H : Hp} (Pv : Nat → St → Hp → Prop) (h0 : Pv 0 σ H) (hl : ∀ i σ H, i ≤ xs.length → Pv i σ H → SqL K H l xs)
    (hs : ∀ i x T σ H, xs[i]? = some x → H T = none → Pv i σ H → g (.ref T) σ (upd H T (.tup [.int i, x])) fun σ2 H2 => tb { D with nx := Pv (i + 1), ct := Pv (i + 1), bk := D.nx } σ2 H2) (hd : ∀ σ H, Pv xs.length σ H → D.nx σ H) :
    ∃ W : Nat → Nat → St → Hp → Prop, (∃ m, W 0 m σ H) ∧ ∀ i m σ H, W i m σ H →
      ((Ite K l).stop i H ∧ D.nx σ H) ∨ ((Ite K l).go i H ∧ ∃ N : St → Hp → Prop, (∀ σ' H', N σ' H' → ∃ m', m' < m ∧ W (i + 1) m' σ' H') ∧ ∀ x H', (Ite K l).yld i H x H' → g x σ H' fun σ2 H2 => tb { D with nx := N, ct := N, bk := D.nx } σ2 H2) := by
  refine ⟨fun i m σ H => m = xs.length - i ∧ i ≤ xs.length ∧ Pv i σ H, ⟨xs.length, by simp, Nat.zero_le _, h0⟩, ?_⟩
  rintro i m σ H ⟨rfl, hi, p⟩
  have q := hl i σ H hi p
  by_cases hlt : i < xs.length
  · refine .inr ⟨⟨xs, q, hlt⟩, Pv (i + 1), fun σ' H' p' => ⟨xs.length - (i + 1), by omega, rfl, hlt, p'⟩, fun x H' y => ?_⟩
    obtain ⟨T, rfl, hT, y⟩ := y
    obtain ⟨v, hv, rfl⟩ := y xs q
    exact hs i v T σ H hv hT p
  · have e : i = xs.length := by omega
    subst e
    exact .inl ⟨⟨xs, q, rfl⟩, hd σ H p⟩
theorem comp_enumS {g : TG} {tc : TT} {te : TE} {Q : VK} {σ : St} {H : Hp} {D : Addr} {x : Str} (Pv : Nat → St → Hp → Prop) (h0 : Pv 0 σ H)
    (hs : ∀ i c T σ H, x.cps[i]? = some c → H T = none → Pv i σ H → g (.ref T) σ (upd H T (.tup [.int i, .str ⟨#[c]⟩])) fun σ2 H3 => tc σ2 H3 fun b H4 => if b = true then te σ2 H4 fun y H5 => ∃ ys, H5 D = some (.lst ys) ∧ ys.length < sizeLine ∧ Pv (i + 1) σ2 (upd H5 D (.lst (ys ++ [y]))) else Pv (i + 1) σ2 H4)
    (hd : ∀ σ H, Pv x.cps.size σ H → Q (.ref D) H) : CompGoes (Ites x) g tc te Q D σ H := by
  refine ⟨fun i m σ H => m = x.cps.size - i ∧ i ≤ x.cps.size ∧ Pv i σ H, ⟨x.cps.size, by simp, Nat.zero_le _, h0⟩, ?_⟩
  rintro i m σ H ⟨rfl, hi, p⟩
  by_cases hlt : i < x.cps.size
  · refine .inr ⟨hlt, Pv (i + 1), fun σ' H' p' => ⟨x.cps.size - (i + 1), by omega, rfl, hlt, p'⟩, fun v H' y => ?_⟩
    obtain ⟨T, c, rfl, hT, hc, rfl⟩ := y
    exact hs i c T σ H hc hT p
  · have e : i = x.cps.size := by omega
    subst e
    exact .inl ⟨rfl, hd σ H p⟩
end L2

/-! Own rule: a comprehension whose block names locals of the def around. -/
namespace L2
open PySem PySem.Spec PyProof.Rows
def clOf (look : Str → Option Addr) : List (Str × NameKind) → List (Str × Addr) → List (Str × Addr)
  | [], acc => acc
  | (n, k) :: r, acc => if k == .free then (match look n with
    | some c => clOf look r ((n, c) :: acc)
    | none => clOf look r acc) else clOf look r acc
theorem clOf_mem {look : Str → Option Addr} : ∀ (names : List (Str × NameKind)) (acc : List (Str × Addr)) (p : Str × Addr), p ∈ clOf look names acc → p ∈ acc ∨ look p.1 = some p.2
  | [], acc, p, h => .inl h
  | (n, k) :: r, acc, p, h => by
    unfold clOf at h
    split at h
    · cases e : look n with
      | none =>
        rw [e] at h
        exact clOf_mem r acc p h
      | some c =>
        rw [e] at h
        rcases clOf_mem r _ p h with h | h
        · rcases List.mem_cons.mp h with h | h
          · subst h
            exact .inr e
          · exact .inl h
        · exact .inr h
    · exact clOf_mem r acc p h
theorem lookup_cons_some {x n : Str} {c : Addr} {acc : List (Str × Addr)} (h : (acc.lookup x).isSome = true ∨ x = n) : (List.lookup x ((n, c) :: acc)).isSome = true := by
  rw [List.lookup_cons]
  cases e : x == n with
  | true => rfl
  | false =>
    rcases h with h | h
    · exact h
    · subst h
      simp at e
theorem clOf_has {look : Str → Option Addr} {x : Str} : ∀ (names : List (Str × NameKind)) (acc : List (Str × Addr)), ((acc.lookup x).isSome = true ∨ ((x, NameKind.free) ∈ names ∧ (look x).isSome = true)) → ((clOf look names acc).lookup x).isSome = true
  | [], acc, h => by
    rcases h with h | h
    · exact h
    · cases h.1
  | (n, k) :: r, acc, h => by
    unfold clOf
    split
    · rename_i hk
      cases e : look n with
      | none =>
        refine clOf_has r acc ?_
        rcases h with h | ⟨h, h2⟩
        · exact .inl h
        · rcases List.mem_cons.mp h with h | h
          · cases h
            rw [e] at h2
            cases h2
          · exact .inr ⟨h, h2⟩
      | some c =>
        refine clOf_has r _ ?_
        rcases h with h | ⟨h, h2⟩
        · exact .inl (lookup_cons_some (.inl h))
        · rcases List.mem_cons.mp h with h | h
          · cases h
            exact .inl (lookup_cons_some (.inr rfl))
          · exact .inr ⟨h, h2⟩
    · rename_i hk
      refine clOf_has r acc ?_
      rcases h with h | ⟨h, h2⟩
      · exact .inl h
      · rcases List.mem_cons.mp h with h | h
        · cases h
          exact absurd rfl hk
        · exact .inr ⟨h, h2⟩
theorem closureFor_free {scope : Scope} {env : Env} (h : ∀ y ∈ scope.names, y.2 = .free → (env.cells.lookup y.1).isSome = true) : closureFor scope env = pure (clOf (fun x => env.cells.lookup x) scope.names []) := by
  have go : ∀ (names : List (Str × NameKind)) (acc : List (Str × Addr)), (∀ y ∈ names, y.2 = .free → (env.cells.lookup y.1).isSome = true) →
      (forIn names acc fun x cs => (match x with
        | (name, kind) => if (kind == .free) = true then do let a ← cellOf env name; pure (ForInStep.yield ((name, a) :: cs)) else pure (ForInStep.yield cs) : Sem (ForInStep (List (Str × Addr))))) = (pure (clOf (fun x => env.cells.lookup x) names acc) : Sem _) := by
    intro names
    induction names with
    | nil => intro acc _; rfl
    | cons y r ih =>
      intro acc hy
      obtain ⟨n, k⟩ := y
      have hr : ∀ y ∈ r, y.2 = .free → (env.cells.lookup y.1).isSome = true := fun y hm => hy y (List.mem_cons_of_mem _ hm)
      rw [List.forIn_cons]
      unfold clOf
      by_cases hk : (k == NameKind.free) = true
      · have hk' : k = .free := by simpa using hk
        have hs := hy (n, k) List.mem_cons_self hk'
        obtain ⟨c, hc⟩ := Option.isSome_iff_exists.mp hs
        have hc' : List.lookup n env.cells = some c := hc
        have e1 : cellOf env n = pure c := by
          unfold cellOf
          rw [hc']
        simp only [hk, if_true, e1, hc', pure_bind]
        exact ih _ hr
      · simp only [hk, Bool.false_eq_true, if_false, pure_bind]
        exact ih _ hr
  simp only [closureFor]
  exact Eq.trans (congrArg (fun m : Sem (List (Str × Addr)) => m >>= fun cs => pure cs) (go scope.names [] h)) rfl
theorem relabel_mem {scope : Scope} {env : Env} {x : Str} {k : NameKind} (h : (x, k) ∈ (relabel scope env).names) (hk : k = .cell ∨ k = .free) : (x, NameKind.cell) ∈ scope.names ∨ (x, NameKind.free) ∈ scope.names := by
  obtain ⟨y, hy, e⟩ := List.mem_map.mp h
  obtain ⟨n, k0⟩ := y
  by_cases c : (k0 == NameKind.free && env.scope.kind == .function && env.kindOf n == some .cell) = true
  · have e' : (if (k0 == NameKind.free && env.scope.kind == .function && env.kindOf n == some .cell) = true then (n, NameKind.cell) else (n, k0)) = (x, k) := e
    rw [if_pos c] at e'
    cases e'
    have c1 : k0 = .free := by
      have := (Bool.and_eq_true_iff.mp (Bool.and_eq_true_iff.mp c).1).1
      simpa using this
    subst c1
    exact .inr hy
  · have e' : (if (k0 == NameKind.free && env.scope.kind == .function && env.kindOf n == some .cell) = true then (n, NameKind.cell) else (n, k0)) = (x, k) := e
    rw [if_neg c] at e'
    cases e'
    rcases hk with rfl | rfl
    · exact .inl hy
    · exact .inr hy
theorem relabel_free {scope : Scope} {env : Env} {x : Str} (hk : env.scope.kind = .function) (ho : env.kindOf x = some .cell) (h : scope.names.lookup x = some .free) : (relabel scope env).names.lookup x = some .cell := by
  have go : ∀ names : List (Str × NameKind), names.lookup x = some .free → (names.map fun (n, k) => if (k == NameKind.free && env.scope.kind == .function && env.kindOf n == some .cell) = true then (n, NameKind.cell) else (n, k)).lookup x = some .cell := by
    intro names
    induction names with
    | nil => intro h; cases h
    | cons y r ih =>
      obtain ⟨n, k⟩ := y
      intro h
      show List.lookup x ((if (k == NameKind.free && env.scope.kind == .function && env.kindOf n == some .cell) = true then (n, NameKind.cell) else (n, k)) :: _) = _
      rw [List.lookup_cons] at h
      cases e : x == n with
      | true =>
        rw [e] at h
        have hk' : k = .free := Option.some.inj h
        have hn : x = n := by simpa using e
        subst hk' hn
        rw [if_pos (by rw [hk, ho]; rfl), List.lookup_cons, beq_self_eq_true]
      | false =>
        rw [e] at h
        by_cases c : (k == NameKind.free && env.scope.kind == .function && env.kindOf n == some .cell) = true
        · rw [if_pos c, List.lookup_cons, e]
          exact ih h
        · rw [if_neg c, List.lookup_cons, e]
          exact ih h
  exact go scope.names h
theorem CompOk.free {X : Cx} {N : List Str} {src : List (Option Nat)} {scope : Scope} {O : List (Str × NameKind)} {XN : List Str} (hO : X.env.scope.names = O) (hK : X.env.scope.kind = .function) (hC : ∃ n, X.env.cells = cellsFrom n O []) (hX : X.N = XN)
    (kind : scope.kind = .function) (nocell : ∀ y ∈ scope.names, y.2 ≠ .cell) (names : ∀ y ∈ scope.names, y.2 = .local → scope.names.lookup y.1 = some .local) (fr : ∀ y ∈ scope.names, y.2 = .free → O.lookup y.1 = some .cell) (len : src.length = N.length)
    (pc : ∀ q ∈ N.zip src, q.2 = none ∨ (∃ j ∈ List.range XN.length, q.2 = some j ∧ XN[j]? = some q.1 ∧ O.lookup q.1 = some .cell ∧ scope.names.lookup q.1 = some .free)) : CompOk X N src scope (clOf (fun x => X.env.cells.lookup x) scope.names []) := by
  have hs : ∀ y ∈ scope.names, y.2 = .free → (X.env.cells.lookup y.1).isSome = true := fun y hy e => by
    obtain ⟨n, hn⟩ := hC
    rw [hn]
    exact PySem.W.cellsFrom_some O n [] (.inl (fr y hy e))
  refine ⟨kind, nocell, names, closureFor_free hs, fun x c h => ?_, fun x h => ?_, len, fun i j x h1 h2 => ?_⟩
  · rcases clOf_mem _ _ _ (PySem.mem_of_lookup h) with z | z
    · cases z
    · exact z
  · refine Option.isSome_iff_exists.mp (clOf_has _ _ (.inr ?_))
    have hm : (x, NameKind.cell) ∈ scope.names ∨ (x, NameKind.free) ∈ scope.names := by
      rcases h with h | h
      · exact relabel_mem (PySem.mem_of_lookup h) (.inl rfl)
      · exact relabel_mem (PySem.mem_of_lookup h) (.inr rfl)
    rcases hm with hm | hm
    · exact absurd rfl (nocell _ hm)
    · exact ⟨hm, hs _ hm rfl⟩
  · have hm : (x, some j) ∈ N.zip src := by
      refine List.mem_of_getElem? (i := i) ?_
      rw [List.getElem?_zip_eq_some]
      exact ⟨h1, h2⟩
    rcases pc _ hm with z | ⟨j', _, e, e1, e2, e3⟩
    · cases z
    · cases e
      have ko : X.env.kindOf x = some .cell := by
        show X.env.scope.names.lookup x = some .cell
        rw [hO]
        exact e2
      exact ⟨by rw [hX]; exact e1, .inl ko, .inl (relabel_free hK ko e3)⟩
end L2

/-! Own rule: sorted of a list whose keys are asked by a comparison that changes nothing; a list of cells that rises already. -/
namespace L2
open PySem PySem.Spec PyProof.Rows PySem.W
section
variable {prog : Program} {w : World} {A : Around} {E : Value → Shared → Prop} {s : Shared}
theorem srt_list {a : Addr} {vs : List Value} {n : Nat} {P : PySem.Fin → Shared → Prop} (ho : s.heap.get? a = some (seqObj "list" vs.toArray n)) (h64 : vs.length < 64) (Good : Array Nat → Prop) (h1 : vs.length < 2 → Good (List.toArray (List.range vs.length)))
    (hk : 2 ≤ vs.length → ∀ s' : Shared, (∀ b o, b ≠ a → s.heap.get? b = some o → s'.heap.get? b = some o) → wpAny (model prog w) A (keyKind' vs.toArray) (fun κ s2 => s2 = s' ∧ (kas_sort vs.length).kasWp (kas_cmp prog w A κ (pairsOf vs)) (fun p s3 => s3 = s' ∧ Good p) s') (fun _ _ => False) s')
    (h : ∀ (p : Array Nat) (h' : Heap) (c : Nat), p.size = vs.length → Good p → (∀ b o, b ≠ a → s.heap.get? b = some o → h'.get? b = some o) → h'.get? a = some (seqObj "list" (List.toArray (p.toList.map fun i => vs.getD i Value.none)) c) → P (.done (.ret .none)) { s with heap := h' }) :
    wpAny (model prog w) A (Builtin.«list.sort» ⟨[.ref a], []⟩) P E s := by
  have lta : a < s.heap.objs.size := Heap.lt_size ho
  have small : vs.length ≤ sizeLine := by rw [sizeLine_eq]; omega
  have hu1 := get?_update_seq ho fun _ => (#[] : Array Value)
  generalize hX : s.heap.update a (Obj.mapSeq fun _ => (#[] : Array Value)) = X1 at hu1
  have zX : X1.objs.size = s.heap.objs.size := by rw [← hX, Heap.size_update]
  have kX : ∀ b o, b ≠ a → s.heap.get? b = some o → X1.get? b = some o := fun b o hb e => by
    rw [← hX, Heap.get?_update_ne _ _ _ _ hb]
    exact e
  obtain ⟨e1, hu⟩ : ∃ e1, X1.get? a = some (seqObj "list" #[] e1) := ⟨_, hu1⟩
  generalize hY : (X1.push (seqObj "tuple" vs.toArray 0)).push (seqObj "list" #[] 0) = Y
  have hYa : Y.get? a = some (seqObj "list" #[] e1) := by
    rw [← hY]
    exact Heap.get?_push_of_some _ (Heap.get?_push_of_some _ hu)
  have kY : ∀ b o, b ≠ a → s.heap.get? b = some o → Y.get? b = some o := fun b o hb e => by
    rw [← hY]
    exact Heap.get?_push_of_some _ (Heap.get?_push_of_some _ (kX b o hb e))
  have last : ∀ (p : Array Nat) (st : SortSt), p.size = vs.length → Good p → arrOf st = p.map (kas_item (pairsOf vs)) → failedOf st = none →
      wpAny (model prog w) A (do
        let touched := (← seqEpoch a) != e1
        Builtin.List.listUpdate (.ref a) fun _ => (arrOf st).map (·.2)
        if let some e := failedOf st then rule "list.sort.comparison-raised"; throw e
        if touched then rule "list.sort.modified"; raiseError "ValueError" "list modified during sort"
        ret .none) P E { s with heap := Y } := by
    intro p st hp hg har hf
    have hout : (arrOf st).map (·.2) = List.toArray (p.toList.map fun i => vs.getD i Value.none) := by
      apply Array.toList_inj.mp
      rw [har, Array.map_map, Array.toList_map]
      refine List.map_congr_left fun i _ => ?_
      show (kas_item (pairsOf vs) i).2 = _
      rw [kas_item_eq]
    have hlen : (List.toArray (p.toList.map fun i => vs.getD i Value.none)).size = vs.length := by rw [List.size_toArray, List.length_map, Array.length_toList, hp]
    rw [hout, hf]
    have hu2 := get?_update_seq hYa fun _ => List.toArray (p.toList.map fun i => vs.getD i Value.none)
    refine wpAny_bind (seqEpoch_at hYa rfl (wpAny_bind (listUpdate_at hYa rfl ?_ (Nat.zero_le _) (by rw [hlen]; omega))))
    simp only [bne_self_eq_false, Bool.false_eq_true, if_false]
    refine wpAny_pure (h p _ _ hp hg (fun b o hb e => ?_) hu2)
    rw [Heap.get?_update_ne _ _ _ _ hb]
    exact kY b o hb e
  rw [list_sort_plain]
  refine wpAny_bind (listItems_at ho rfl (wpAny_bind (listUpdate_at ho rfl ?_ (by rw [List.size_toArray]; exact small) (Nat.zero_le _))))
  rw [hX]
  refine wpAny_bind (seqEpoch_at hu rfl (wpAny_bind (wpAny_newTuple (wpAny_bind (wpAny_newList ?_ (Nat.zero_le _))) small)))
  show wpAny (model prog w) A _ P E { s with heap := (X1.push (seqObj "tuple" vs.toArray 0)).push (seqObj "list" #[] 0) }
  rw [hY]
  refine wpAny_holding ?_
  dsimp only
  by_cases c2 : vs.toArray.size < 2
  · have c2' : vs.length < 2 := by rw [List.size_toArray] at c2; exact c2
    rw [if_pos c2, if_pos c2]
    refine wpAny_bind (wpAny_pure ?_)
    rw [StateT.run_pure]
    refine wpAny_bind (wpAny_pure ?_)
    refine last (List.toArray (List.range vs.length)) _ (by simp) (h1 c2') ?_ rfl
    have e := kas_range (pairsOf vs)
    rw [pairsOf_size] at e
    rw [e]
    rfl
  · have c2' : 2 ≤ vs.length := by rw [List.size_toArray] at c2; omega
    rw [if_neg c2, if_neg c2]
    refine wpAny_bind (wpAny_mono (hk c2' { s with heap := Y } kY) (fun κ s2 ⟨e2, hw⟩ => ?_) fun _ _ x => x.elim)
    subst e2
    have run := kas_runs (E := E) (Q := fun _ st' s' => ∃ p : Array Nat, s' = { s with heap := Y } ∧ p.size = vs.length ∧ Good p ∧ arrOf st' = p.map (kas_item (pairsOf vs)) ∧ failedOf st' = none) c2' h64 (fun p' st' s' x1 x2 x3 x4 => ⟨p', x4.1, x1, x4.2, x2, x3⟩) hw
    have est : SortSt.mk' κ (vs.toArray.zip vs.toArray) #[] 7 none = kas_st κ (pairsOf vs) (List.toArray (List.range vs.length)) := by
      have e := kas_range (pairsOf vs)
      rw [pairsOf_size] at e
      unfold kas_st
      rw [e]
      rfl
    rw [← est] at run
    refine wpAny_bind (wpAny_mono run ?_ fun _ _ z => z)
    rintro ⟨⟨⟩, st'⟩ s' ⟨p, rfl, hp, hg, har, hf⟩
    exact last p st' hp hg har hf
theorem srt_call {l : Addr} {vs : List Value} {Q : Value → Shared → Prop} (hl : s.heap.IsList l vs.toArray) (h64 : vs.length < 64) (Good : Array Nat → Prop) (h1 : vs.length < 2 → Good (List.toArray (List.range vs.length)))
    (hk : 2 ≤ vs.length → ∀ s' : Shared, (∀ b o, s.heap.get? b = some o → s'.heap.get? b = some o) → wpAny (model prog w) A.in1.in1 (keyKind' vs.toArray) (fun κ s2 => s2 = s' ∧ (kas_sort vs.length).kasWp (kas_cmp prog w A.in1.in1 κ (pairsOf vs)) (fun p s3 => s3 = s' ∧ Good p) s') (fun _ _ => False) s')
    (h : ∀ (p : Array Nat) (h' : Heap) (c : Nat), p.size = vs.length → Good p → (∀ b o, s.heap.get? b = some o → h'.get? b = some o) → h'.get? (s.heap.objs.size + 1) = some (seqObj "list" (List.toArray (p.toList.map fun i => vs.getD i Value.none)) c) → Q (.ref (s.heap.objs.size + 1)) { s with heap := h' }) :
    wpAny (model prog w) A (call (.builtin "sorted") [.ref l]) Q E s := by
  have small : vs.length ≤ sizeLine := by rw [sizeLine_eq]; omega
  generalize hX : (s.heap.push (seqObj "list" #[] 0)).update s.heap.objs.size (Obj.mapSeq (· ++ vs.toArray)) = X1
  have zX : X1.objs.size = s.heap.objs.size + 1 := by rw [← hX, Heap.size_update, Heap.size_push]
  have kX : ∀ b o, s.heap.get? b = some o → X1.get? b = some o := fun b o e => by
    have lt := Heap.lt_size e
    rw [← hX, Heap.get?_update_ne _ _ _ _ (Nat.ne_of_lt lt)]
    exact Heap.get?_push_of_some _ e
  apply Calls.call_function_entry kind_sorted plain_sorted entry_sorted (args_sorted1 _)
  unfold Builtin.«sorted»
  refine wpAny_bind (m := checkCount "sorted" 1 1 _) (wpAny_pure (wpAny_bind (collect_list hl ?_ small)))
  rw [hX]
  refine wpAny_bind (wpAny_newList ?_ small)
  show wpAny _ _ _ _ _ { s with heap := X1.push (seqObj "list" vs.toArray 0) }
  have hoL : (X1.push (seqObj "list" vs.toArray 0)).get? (s.heap.objs.size + 1) = some (seqObj "list" vs.toArray 0) := by
    rw [← zX]
    exact Heap.get?_push_size _ rfl
  have kL : ∀ b o, s.heap.get? b = some o → (X1.push (seqObj "list" vs.toArray 0)).get? b = some o := fun b o e => Heap.get?_push_of_some _ (kX b o e)
  have ne : ∀ b o, s.heap.get? b = some o → b ≠ s.heap.objs.size + 1 := fun b o e => Nat.ne_of_lt (Nat.lt_succ_of_lt (Heap.lt_size e))
  rw [zX]
  refine wpAny_bind (wpAny_holding (wpAny_call_entry slot_list_sort ⟨_, hoL, rfl⟩ entry_list_sort (srt_list (s := { s with heap := X1.push (seqObj "list" vs.toArray 0) }) hoL h64 Good h1 (fun c s' k => hk c s' fun b o e => k b o (ne b o e) (kL b o e)) ?_) (args_list_sort _)))
  intro p h' c hp hg kk ha
  exact ⟨_, rfl, wpAny_pure ⟨_, rfl, h p h' c hp hg (fun b o e => kk b o (ne b o e) (kL b o e)) ha⟩⟩
end
end L2

/-! Own rule: sorted of a list of pairs of numbers that rises already. -/
namespace L2
open PySem PySem.Spec PyProof.Rows PySem.W
/-- a list of tuples of two numbers -/
def Tup2 (H : Hp) : List V → List (Int × Int) → Prop := Paired fun v p => ∃ a, v = V.ref a ∧ H a = some (.tup [.int p.1, .int p.2])
def lt2 (p q : Int × Int) : Bool := if p.1 = q.1 then decide (p.2 < q.2) else decide (p.1 < q.1)
structure IntPair (h : Heap) (v : Value) (p : Int × Int) : Prop where
  ex : ∃ a o n t u, v = .ref a ∧ h.get? a = some o ∧ o.cls = .type "tuple" ∧ o.data = .seq #[.int p.1 t, .int p.2 u] n
section
variable {X : Cx} {pins : List (Addr × Obj)} {σ : St} {H : Hp} {s : Shared}
theorem Tup2.pairs (I : Inv X pins σ H s) : ∀ {us : List V} {ps : List (Int × Int)} {its : List Value}, Tup2 H us ps → Vals us its → Paired (IntPair s.heap) its ps
  | _, _, _, .nil, r => by
    cases r
    exact .nil
  | _, _, _, .cons ⟨a, e, h⟩ t, r => by
    subst e
    cases r with
    | cons r1 r2 =>
      cases r1
      refine .cons ?_ (Tup2.pairs I t r2)
      obtain ⟨items, rv, tp, _⟩ := I.tuple (SqT.of h)
      obtain ⟨u1, u2, rfl, ⟨t1, rfl⟩, ⟨t2, rfl⟩⟩ := vals2 rv
      obtain ⟨ob, e1, c1, n, d1⟩ := tp
      exact ⟨a, ob, n, t1, t2, rfl, e1, c1, d1⟩
end
theorem pairs_kept {h h' : Heap} (k : ∀ b o, h.get? b = some o → h'.get? b = some o) : ∀ {its : List Value} {ps : List (Int × Int)}, Paired (IntPair h) its ps → Paired (IntPair h') its ps
  | _, _, .nil => .nil
  | _, _, .cons ⟨a, o, n, t, u, e, e1, r⟩ tl => .cons ⟨a, o, n, t, u, e, k _ _ e1, r⟩ (pairs_kept k tl)
theorem pairs_firsts {h : Heap} : ∀ {its : List Value} {ps : List (Int × Int)}, Paired (IntPair h) its ps → ∃ fs : List Value, KatTups h its fs ∧ fs.length = its.length ∧ ∀ v ∈ fs, ∃ x t, v = Value.int x t
  | _, _, .nil => ⟨[], .nil, rfl, fun _ z => nomatch z⟩
  | _, _, .cons ⟨a, o, n, t, u, e, e1, c, d⟩ tl => by
    obtain ⟨fs, k, l, q⟩ := pairs_firsts tl
    subst e
    refine ⟨.int _ t :: fs, KatTups.cons e1 c d rfl k, by simp [l], fun v hv => ?_⟩
    rcases List.mem_cons.mp hv with rfl | hv
    · exact ⟨_, t, rfl⟩
    · exact q v hv
theorem pairs_get {h : Heap} : ∀ {its : List Value} {ps : List (Int × Int)} {i : Nat} {p : Int × Int}, Paired (IntPair h) its ps → ps[i]? = some p → IntPair h (its.getD i Value.none) p
  | _, _, _, _, .nil, e => by simp at e
  | _, _, 0, _, .cons r _, e => by
    simp at e
    subst e
    exact r
  | _, _, i + 1, p, .cons _ t, e => by
    have := pairs_get (i := i) (p := p) t (by simpa using e)
    simpa using this
section
variable {prog : Program} {w : World} {A : Around} {E : Value → Shared → Prop} {s : Shared}
theorem pair_lt {v v' : Value} {p q : Int × Int} {C : Bool → Shared → Prop} (hv : IntPair s.heap v p) (hv' : IntPair s.heap v' q) (h : C (lt2 p q) s) : wpAny (model prog w) A (keyLt' (tuples' true) v v') C E s := by
  obtain ⟨a, o, n, t, u, rfl, e1, c1, d1⟩ := hv
  obtain ⟨a', o', n', t', u', rfl, e1', c1', d1'⟩ := hv'
  refine kat_lt e1 d1 e1' d1' ?_
  show KatLex prog w A true _ C [(Value.int p.1 t, Value.int q.1 t'), (Value.int p.2 u, Value.int q.2 u')] 0 s
  unfold lt2 at h
  refine kat_cons (SeqAt.EqAt.int_int _ _ _ _ prog w _ _ (kat_go (fun ee => kat_yes ?_) fun ee => kat_no ?_))
  · have e : p.1 = q.1 := by simpa using ee
    rw [if_pos e] at h
    refine kat_cons (SeqAt.EqAt.int_int _ _ _ _ prog w _ _ (kat_go (fun e2 => kat_yes (kat_nil ?_)) fun e2 => kat_no ?_))
    · have e3 : p.2 = q.2 := by simpa using e2
      have e4 : decide (p.2 < q.2) = false := decide_eq_false (by omega)
      rw [e4] at h
      exact h
    · exact kat_one _ _ (lt_int h)
  · have e : ¬ p.1 = q.1 := by simpa using ee
    rw [if_neg e] at h
    exact oneLt_int h
end
section
variable {X : Cx}
end
end L2

/-! Own rules: xs[i] op= e, sum of a list of ints, any and all of a list of truths. -/
namespace L2
open PySem PySem.Spec PyProof.Rows
section
variable {X : Cx}
theorem ints_are : ∀ {ns : List Int} {its : List Value}, Vals (ns.map V.int) its → IntsAre its ns
  | [], _, r => by cases r; exact .nil
  | n :: ns, _, r => by
    cases r with
    | cons r1 r2 =>
      obtain ⟨t, rfl⟩ := r1
      exact .cons n t (ints_are r2)
theorem call_sum (hc : X.calm = true) : CallR X (.builtin "sum") (fun xs H Q => ∃ (l : Addr) (ns : List Int), xs = [.ref l] ∧ SqL X.K H l (ns.map V.int) ∧ Q (.int ns.sum) H) := by
  intro pins s σ H xs us Q I r h
  obtain ⟨l, ns, rfl, hq, q⟩ := h
  obtain ⟨u, rfl, ru⟩ := vals1 r
  cases ru
  obtain ⟨its, rv, pl, hz⟩ := I.list hq
  have hi : IntsAre its ns := ints_are rv
  obtain ⟨ys, ey⟩ := hi.allInts.items
  refine sum_intListG (I.ok.hd hc) (xs := ys) (ey ▸ pl.isList) fun h' tk t' hk => ?_
  have f1 : ns = ys.toList.map (·.1) := by
    rw [← nums_intItems, ← ey]
    exact (show numsOf its.toArray.toList = ns from hi.numsOf).symm
  have f2 : preSum (numAt ys) ys.size = ns.sum := by
    rw [f1, preSum_eq, List.take_of_length_le (by simp)]
  rw [f2]
  exact ⟨.int _, H, I.kept hk, ⟨_, rfl⟩, q⟩
end
end L2

/-! Own rules: what is read as whole data, its lists known apart (N says which); comprehensions by what each turn gives. -/
namespace L2
open PySem PySem.Spec PyProof.Rows
mutual
inductive Rdn (N : Addr → Prop) (H : Hp) : V → PyData → Prop
  | non : Rdn N H .non .none
  | bl (b : Bool) : Rdn N H (.bl b) (.bool b)
  | int (i : Int) : Rdn N H (.int i) (.int i)
  | str (x : Str) : Rdn N H (.str x) (.str x)
  | lst {a : Addr} {xs : List V} {ds : List PyData} : N a → H a = some (.lst xs) → RdnAll N H xs ds → Rdn N H (.ref a) (.list ds)
  | tup {a : Addr} {xs : List V} {ds : List PyData} : H a = some (.tup xs) → RdnAll N H xs ds → Rdn N H (.ref a) (.tuple ds)
inductive RdnAll (N : Addr → Prop) (H : Hp) : List V → List PyData → Prop
  | nil : RdnAll N H [] []
  | cons {x : V} {d : PyData} {xs : List V} {ds : List PyData} : Rdn N H x d → RdnAll N H xs ds → RdnAll N H (x :: xs) (d :: ds)
end
section
variable {K : PySem.W.Frag} {N N' : Addr → Prop} {H H' : Hp}
mutual
theorem Rdn.rdv : ∀ {v : V} {d : PyData}, Rdn N H v d → Rdv K H v d
  | _, _, .non => .non
  | _, _, .bl b => .bl b
  | _, _, .int i => .int i
  | _, _, .str x => .str x
  | _, _, .lst _ h t => .lst (SqL.of h) (RdnAll.rdv t)
  | _, _, .tup h t => .tup (SqT.of h) (RdnAll.rdv t)
theorem RdnAll.rdv : ∀ {vs : List V} {ds : List PyData}, RdnAll N H vs ds → RdvAll K H vs ds
  | _, _, .nil => .nil
  | _, _, .cons h t => .cons (Rdn.rdv h) (RdnAll.rdv t)
end
mutual
theorem Rdn.mono (s : Same H H') (i : ∀ a, N a → N' a) : ∀ {v : V} {d : PyData}, Rdn N H v d → Rdn N' H' v d
  | _, _, .non => .non
  | _, _, .bl b => .bl b
  | _, _, .int i => .int i
  | _, _, .str x => .str x
  | _, _, .lst n h t => .lst (i _ n) (s _ _ h) (RdnAll.mono s i t)
  | _, _, .tup h t => .tup (s _ _ h) (RdnAll.mono s i t)
theorem RdnAll.mono (s : Same H H') (i : ∀ a, N a → N' a) : ∀ {vs : List V} {ds : List PyData}, RdnAll N H vs ds → RdnAll N' H' vs ds
  | _, _, .nil => .nil
  | _, _, .cons h t => .cons (Rdn.mono s i h) (RdnAll.mono s i t)
end
mutual
theorem Rdn.into {D : Addr} {o : HO} {old : List V} (hD : H D = some (.lst old)) (i : ∀ a, N a → a ≠ D) : ∀ {v : V} {d : PyData}, Rdn N H v d → Rdn N (upd H D o) v d
  | _, _, .non => .non
  | _, _, .bl b => .bl b
  | _, _, .int i => .int i
  | _, _, .str x => .str x
  | _, _, .lst n h t => .lst n (by rw [upd_ne (i _ n)]; exact h) (RdnAll.into hD i t)
  | _, _, .tup h t => .tup (by rw [upd_ne (ne_of h hD (by intro z; cases z))]; exact h) (RdnAll.into hD i t)
theorem RdnAll.into {D : Addr} {o : HO} {old : List V} (hD : H D = some (.lst old)) (i : ∀ a, N a → a ≠ D) : ∀ {vs : List V} {ds : List PyData}, RdnAll N H vs ds → RdnAll N (upd H D o) vs ds
  | _, _, .nil => .nil
  | _, _, .cons h t => .cons (Rdn.into hD i h) (RdnAll.into hD i t)
end
theorem Rdn.keep (s : Same H H') {v : V} {d : PyData} (h : Rdn N H v d) : Rdn N H' v d := h.mono s fun _ n => n
theorem RdnAll.keep (s : Same H H') {vs : List V} {ds : List PyData} (h : RdnAll N H vs ds) : RdnAll N H' vs ds := h.mono s fun _ n => n
theorem RdnAll.snoc : ∀ {vs : List V} {ds : List PyData} {v : V} {d : PyData}, RdnAll N H vs ds → Rdn N H v d → RdnAll N H (vs ++ [v]) (ds ++ [d])
  | _, _, _, _, .nil, h => .cons h .nil
  | _, _, _, _, .cons a t, h => .cons a (RdnAll.snoc t h)
theorem RdnAll.length : ∀ {vs : List V} {ds : List PyData}, RdnAll N H vs ds → vs.length = ds.length
  | _, _, .nil => rfl
  | _, _, .cons _ t => by rw [List.length_cons, List.length_cons, RdnAll.length t]
theorem RdnAll.get : ∀ {vs : List V} {ds : List PyData} {i : Nat} {v : V}, RdnAll N H vs ds → vs[i]? = some v → ∃ d, ds[i]? = some d ∧ Rdn N H v d
  | _, _, _, _, .nil, e => by simp at e
  | _, _, 0, _, .cons r _, e => by
    simp at e
    subst e
    exact ⟨_, rfl, r⟩
  | _, _, i + 1, v, .cons _ t, e => by
    obtain ⟨d, h1, h2⟩ := RdnAll.get (i := i) (v := v) t (by simpa using e)
    exact ⟨d, by simpa using h1, h2⟩
end
section
variable {K : PySem.W.Frag} {g : TG} {tc : TT} {te : TE} {Q : VK} {σ0 : St} {H1 : Hp} {D : Addr}
/-- what a comprehension's turn leaves -/
def TurnYes (N : Addr → Prop) (inv : St → Prop) (H : Hp) (o : Option PyData) (Y : St → V → Hp → Prop) : Prop := ∀ d y σ2 H5, o = some d → inv σ2 → Same H H5 → Rdn N H5 y d → Y σ2 y H5
def TurnNo (inv : St → Prop) (H : Hp) (o : Option PyData) (Z : St → Hp → Prop) : Prop := ∀ σ2 H4, o = none → inv σ2 → Same H H4 → Z σ2 H4
theorem comp_data {a : Addr} {xs : List V} (N : Addr → Prop) (outs : List (Option PyData)) (inv : St → Prop) (hD : H1 D = none) (hN : ∀ a, N a → a ≠ D) (h0 : inv σ0) (hlen : outs.length = xs.length) (hz : xs.length ≤ 100000)
    (hl : SqL K H1 a xs)
    (hs : ∀ (i : Nat) (x : V) (o : Option PyData) (σ : St) (H : Hp), xs[i]? = some x → outs[i]? = some o → Same H1 H → H D ≠ none → inv σ → ∀ Y Z, TurnYes N inv H o Y → TurnNo inv H o Z →
      g x σ H fun σ2 H3 => tc σ2 H3 fun b H4 => if b = true then te σ2 H4 fun y H5 => Y σ2 y H5 else Z σ2 H4)
    (hd : ∀ ys H', Same H1 H' → H' D = some (.lst ys) → RdnAll N H' ys (outs.filterMap id) → Q (.ref D) H') : CompGoes (Itl K a) g tc te Q D σ0 (upd H1 D (.lst [])) := by
  refine comp_list (K := K) (a := a) (xs := xs) (fun i σ H' => inv σ ∧ Same H1 H' ∧ ∃ ys, H' D = some (.lst ys) ∧ ys.length ≤ i ∧ RdnAll N H' ys ((outs.take i).filterMap id)) ⟨h0, same_new hD, [], upd_same, Nat.le_refl _, .nil⟩ (fun i σ H' _ ⟨_, s, _⟩ => s.seq hl) ?_ ?_
  · rintro i x σ H hx ⟨hi, s, ys, hy, yl, hr⟩
    have hil : i < xs.length := (List.getElem?_eq_some_iff.mp hx).1
    obtain ⟨o, ho⟩ : ∃ o, outs[i]? = some o := ⟨outs[i]'(by omega), List.getElem?_eq_getElem (by omega)⟩
    have step : (outs.take (i + 1)).filterMap id = (outs.take i).filterMap id ++ o.toList := by
      rw [List.take_add_one, ho, List.filterMap_append]
      cases o <;> rfl
    refine hs i x o σ H hx ho s (by rw [hy]; exact fun z => nomatch z) hi _ _ (fun d y σ2 H5 e hi2 s5 hr5 => ?_) (fun σ2 H4 e hi2 s4 => ?_)
    · subst e
      refine ⟨ys, s5 _ _ hy, Nat.lt_of_le_of_lt yl (Nat.lt_of_lt_of_le hil (Nat.le_trans hz (by decide))), hi2, fun b ob e => ?_, ys ++ [y], upd_same, ?_, ?_⟩
      · rw [upd_ne (ne_of_none e hD)]
        exact s5 _ _ (s _ _ e)
      · rw [List.length_append]
        exact Nat.add_le_add_right yl 1
      · rw [step]
        exact RdnAll.into (s5 _ _ hy) hN (RdnAll.snoc (hr.keep s5) hr5)
    · subst e
      refine ⟨hi2, s.trans s4, ys, s4 _ _ hy, Nat.le_succ_of_le yl, ?_⟩
      rw [step]
      simpa using hr.keep s4
  · rintro σ H ⟨_, s, ys, hy, _, hr⟩
    rw [← hlen, List.take_length] at hr
    exact hd ys H s hy hr
/-- a turn of a comprehension without a test -/
theorem tYes_it {i : Nat} {v : V} {σ : St} {H : Hp} {A B : St → Hp → Prop} (h : A (σ.set i (some v)) H) : gName i v σ H fun σ2 H3 => tYes σ2 H3 fun b H4 => if b = true then A σ2 H4 else B σ2 H4 := by
  show if true = true then A (σ.set i (some v)) H else B (σ.set i (some v)) H
  exact iteT h
end
end L2

/-! Own rules: slices of texts, a text times a number. -/
namespace L2
open PySem PySem.Spec PyProof.Rows
def cutS (z : Str) (lo hi : Option Int) : Str := ⟨((z.cps.toList.drop (HT.sIx z.length 0 lo)).take (HT.sIx z.length z.length hi - HT.sIx z.length 0 lo)).toArray⟩
theorem slice_ix (lo hi : Option Int) (n : Nat) : Builtin.Str.strSliceIndices lo hi 1 n = (List.range (HT.sIx n n hi - HT.sIx n 0 lo)).map (HT.sIx n 0 lo + ·) := by
  rw [← sliceRange_one]
  unfold Builtin.Str.strSliceIndices
  simp only [show (1 : Int) > 0 by decide, if_true]
  have clip : ∀ (v : Option Int) (d : Nat), (match v with | none => (d : Int) | some i => max 0 (min (if i < 0 then i + (n : Int) else i) (n : Int))) = ((HT.sIx n d v : Nat) : Int) := fun v d => by
    cases v with
    | none => rfl
    | some i =>
      simp only [HT.sIx]
      by_cases h : i < 0
      · simp only [h, if_true]
        omega
      · simp only [h, if_false]
        omega
  have e1 := clip lo 0
  have e2 := clip hi n
  rw [← e1, ← e2]
  rfl
theorem sIx_top (n : Nat) (hi : Option Int) : HT.sIx n n hi ≤ n := HT.sIx_le n n (Nat.le_refl _) hi
theorem slice_is (z : Str) (lo hi : Option Int) : Txt.slice z lo hi = cutS z lo hi := by
  unfold Txt.slice cutS
  rw [slice_ix, pick_run]
  by_cases c : ((1 : Int) == 1 && ((List.range (HT.sIx z.length z.length hi - HT.sIx z.length 0 lo)).map (HT.sIx z.length 0 lo + ·)).length == z.length) = true
  · rw [if_pos c]
    have c2 : HT.sIx z.length z.length hi - HT.sIx z.length 0 lo = z.length := by
      simp only [List.length_map, List.length_range] at c
      simpa using c
    have h1 := sIx_top z.length hi
    have e1 : HT.sIx z.length z.length hi = z.length := by omega
    have e0 : HT.sIx z.length 0 lo = 0 ∨ z.length = 0 := by omega
    have el : z.cps.toList.length = z.length := Array.length_toList
    rw [c2]
    rcases e0 with e0 | e0
    · rw [e0, List.drop_zero, List.take_of_length_le (by omega)]
    · have e2 : z.cps.toList = [] := List.length_eq_zero_iff.mp (by omega)
      rw [e2]
      simp only [List.drop_nil, List.take_nil]
      cases z with
      | mk cps =>
        have e3 : cps = #[] := by simpa using e2
        rw [e3]
  · rw [if_neg c]
section
variable {X : Cx}
def rSlS : V → Option Int → Option Int → Hp → VK → Prop := fun x lo hi H Q => ∃ z, x = .str z ∧ z.length ≤ sizeLine ∧ Q (.str (cutS z lo hi)) H
theorem part_tok {v : Value} {o : Option Int} (h : IsPart v o) : ∃ p : Option (Int × Tok), v = partValue p ∧ p.map (·.1) = o := by
  cases h with
  | none => exact ⟨none, rfl, rfl⟩
  | int i t => exact ⟨some (i, t), rfl, rfl⟩
theorem sl_str : SlR X rSlS := by
  intro pins s σ H x v vl vu lo hi sl Q I rx hs pl pu h
  obtain ⟨z, rfl, hz, q⟩ := h
  obtain ⟨t, rfl⟩ := rx
  obtain ⟨p1, rfl, e1⟩ := part_tok pl
  obtain ⟨p2, rfl, e2⟩ := part_tok pu
  refine ⟨"str", _, F.slot_str_getitem.lookup, typeIs_str _ _ _, wpAny_getItem_str_slice (l := p1) (u := p2) (st := none) hs rfl ?_⟩
  have e : sliceMade z t p1 p2 none = if ((1 : Int) == 1 && (Builtin.Str.strSliceIndices lo hi 1 z.length).length == z.length) = true then Made.val (.str z t) else Made.str ⟨((Builtin.Str.strSliceIndices lo hi 1 z.length).filterMap (z.cps[·]?)).toArray⟩ := by
    rw [← e1, ← e2]
    rfl
  rw [e]
  refine post_val_or_str ⟨Nat.le_trans (Txt.slice_le z lo hi) hz, fun t' k => ?_⟩
  rw [← slice_is] at q
  exact ⟨.str (Txt.slice z lo hi), H, I.tok k, ⟨_, rfl⟩, q⟩
end
end L2

/-! Own rules: raise, an exception that passes through frames. -/
namespace L2
open PySem PySem.Spec PyProof.Rows
def vmro : List Value := [.type "ValueError", .type "Exception", .type "BaseException", .type "object"]
/-- an exception e of the class at C flies over the frames outer, all that was there ahead of the call (H, s) being kept in B, with the tracked things H' -/
structure Fly (P : Program) (w : World) (outer : List Env) (H : Hp) (s : Shared) (e C : Addr) (a0 : Value) (B : Heap) (H' : Hp) (s' : Shared) : Prop where
  fly : Heap.FlyingW B outer e (.ref C) a0 s'.heap
  os : s'.os = s.os
  bare : AllBare s'.gens
  un : Un (frs outer) [] H H' s.heap s'.heap
  ok : HOk P w H' B
  kB : ∀ b o, s.heap.get? b = some o → H b = none → b ∉ frs outer → B.get? b = some o
  tB : ∀ b o, s.heap.get? b = some o → b ∉ frs outer → ∃ o', B.get? b = some o'
  new : s.heap.get? e = none
  free : H' e = none
def CXE (P : Program) (w : World) : CXT := fun outer H s E x s' => ∃ (e C : Addr) (a0 : Value) (B : Heap) (H' : Hp), x = .ref e ∧ Fly P w outer H s e C a0 B H' s' ∧ E (.ref C) none H'
/-- what is tracked is there -/
theorem objThere {P : Program} {w : World} {H : Hp} {h : Heap} {a : Addr} : ∀ {o : HO}, ObjOk P w H h a o → ∃ ob, h.get? a = some ob
  | .lst _, x => by obtain ⟨_, _, _, _, q⟩ := x; exact ⟨_, q⟩
  | .tup _, x => by obtain ⟨_, _, _, ob, q, _⟩ := x; exact ⟨ob, q⟩
  | .dK _, x => by obtain ⟨_, _, _, _, ob, _, _, q, _⟩ := x; exact ⟨ob, q⟩
  | .dT _, x => by obtain ⟨_, _, _, _, ob, _, _, q, _⟩ := x; exact ⟨ob, q⟩
  | .set _ _, x => by obtain ⟨ob, _, _, _, q, _⟩ := x; exact ⟨ob, q⟩
  | .ins _ _ _, x => by obtain ⟨_, _, _, q, _⟩ := x; exact ⟨_, q⟩
  | .own _, x => x
  | .xd _, x => by obtain ⟨_, ⟨ob, _, _, q, _⟩, _⟩ := x; exact ⟨ob, q⟩
  | .met _ _, x => ⟨_, x⟩
  | .rng _ _, x => by obtain ⟨_, _, _, q⟩ := x; exact ⟨_, q⟩
  | .frz _ _, x => ⟨_, x.1⟩
  | .tbl _, x => ⟨_, x⟩
  | .ext _, x => x.2.1
section
variable {X : Cx} {pins : List (Addr × Obj)} {σ : St} {H H' : Hp} {s s' : Shared} {e C : Addr} {a0 : Value} {B h2 : Heap}
theorem Inv.notLoc (I : Inv X pins σ H s) {b : Addr} {o : Obj} (q : X.s₀.heap.get? b = some o) : b ≠ X.env.locals := fun z => Nat.lt_irrefl _ (Nat.lt_of_lt_of_le (z ▸ Heap.lt_size q) I.ok.above)
theorem Inv.notStk (I : Inv X pins σ H s) {b : Addr} {o : Obj} (q : X.s₀.heap.get? b = some o) (hb : b ∉ X.fs) : b ∉ frs X.stack := fun z => by
  rcases List.mem_cons.mp (I.stkSub b z) with r | r
  · exact I.notLoc q r
  · exact hb r
/-- the frame of X is left: what flies over the callers -/
theorem Inv.flies (I : Inv X pins σ H s) (hex : X.ex = []) (F : Heap.FlyingW B X.outer e (.ref C) a0 h2) (up : s'.heap.UpToSlots h2) (os : s'.os = s.os) (bare : AllBare s'.gens) (un : Un (frs X.stack) [] H H' s.heap s'.heap) (ok : HOk X.prog X.w H' B)
    (kB : ∀ b o, s.heap.get? b = some o → H b = none → b ∉ frs X.stack → B.get? b = some o) (tB : ∀ b o, s.heap.get? b = some o → b ∉ frs X.stack → ∃ o', B.get? b = some o') (new : s.heap.get? e = none) (free : H' e = none) :
    Fly X.prog X.w X.outer X.H₀ X.s₀ e C a0 B H' { s' with heap := h2 } := by
  have nx : ∀ b, b ∉ X.ex := fun b z => by rw [hex] at z; cases z
  have keep : ∀ b o, X.s₀.heap.get? b = some o → X.H₀ b = none → b ∉ X.fs → B.get? b = some o := fun b o q n hb =>
    kB b o (I.base.keep b o q n hb (nx b)) (I.base.free b o q n (nx b)) (I.notStk q hb)
  have there : ∀ b o, X.s₀.heap.get? b = some o → b ∉ X.fs → ∃ o', B.get? b = some o' := fun b o q hb => by
    obtain ⟨o', q'⟩ := I.base.there b o q (nx b)
    exact tB b o' q' (I.notStk q hb)
  have slot : ∀ b o, X.s₀.heap.get? b = some o → b ∈ X.fs → ∃ sl, h2.get? b = some { o with slots := sl } := fun b o q hb => by
    obtain ⟨_, o1, q1, nf⟩ := I.ok.funs.mem hb
    rw [q] at q1
    cases q1
    obtain ⟨sl, q2⟩ := I.base.slot b o q (I.ok.frf b hb) hb (nx b)
    obtain ⟨sl2, q3⟩ := un.any q2 (I.base.free b o q (I.ok.frf b hb) (nx b)) (fun z => nomatch z)
    obtain ⟨sl3, q4⟩ := up b _ q3 nf
    exact ⟨sl3, q4⟩
  refine ⟨F, os.trans I.os, bare, ⟨fun b o q n hb _ => F.1 b o (keep b o q n hb), fun b o q _ hb _ => slot b o q hb, fun b o q n _ => ?_, fun b o q _ => ?_, fun b xs q => un.tups b xs (I.base.tups b xs q), fun b o u q => un.frzs b o u (I.base.frzs b o u q), fun b ps q => ?_⟩, ok, keep, there, ?_, free⟩
  · obtain ⟨o', q'⟩ := I.base.there b o q (nx b)
    exact un.free b o' q' (I.base.free b o q n (nx b)) fun z => nomatch z
  · by_cases hb : b ∈ X.fs
    · obtain ⟨sl, r⟩ := slot b o q hb
      exact ⟨_, r⟩
    · obtain ⟨o', r⟩ := there b o q hb
      exact ⟨o', F.1 b o' r⟩
  · obtain ⟨m1, r1⟩ := I.base.tbls b ps q
    obtain ⟨m2, r2⟩ := un.tbls b _ r1
    exact ⟨m1 ++ m2, by rw [r2, Array.append_assoc]⟩
  · cases q : X.s₀.heap.get? e with
    | none => rfl
    | some o =>
      obtain ⟨o', q'⟩ := I.base.there e o q (nx e)
      rw [new] at q'
      cases q'
/-- what a body of X may do with an exception of its own -/
structure Leaves (X : Cx) (E : XK) : Prop where
  stk : X.stack = X.env :: X.outer
  fr : X.env.frame = some X.env.locals
  ex : X.ex = []
  xe : X.xe = fun x s' => wpAny (model X.prog X.w) X.A (leaving X.env x) (fun _ s'' => CXE X.prog X.w X.outer X.H₀ X.s₀ E x s'') (fun x' s'' => CXE X.prog X.w X.outer X.H₀ X.s₀ E x' s'') s'
theorem leaves_of {P : Program} {w : World} {K : PySem.W.Frag} {mg : Str → Option Value} {base : Heap} {N : List Str} {qual : Str} {scope : Scope} {f : Addr} {cd : Value} {A : Around} {outer : List Env} {s : Shared} {H : Hp} {E : XK} :
    Leaves (cxOf (CXE P w) P w K mg base N qual scope f cd A outer s H E) E := ⟨rfl, rfl, rfl, rfl⟩
theorem stk_in {l : List Env} : ∀ env ∈ l, ∀ a, env.frame = some a → a ∈ frs l := fun env he a hf => List.mem_filterMap.mpr ⟨env, he, hf⟩
/-- an exception is made here -/
theorem Leaves.made {E : XK} (L : Leaves X E) (I : Inv X pins σ H s) {h1 : Heap} {vs : List Value} (hx : Heap.MadeExcOf s.heap h1 e (.ref C) vs) (hE : E (.ref C) none H) : X.xe (.ref e) { s with heap := h1 } := by
  rw [L.xe]
  have hs := I.stack
  have nb : ∀ a o, H a = some o → a ∉ frs X.stack := fun a o q z => by
    rw [I.stkFree a z] at q
    cases q
  have own : ∀ a b, H b = some (.own a) → b ∉ frs X.stack := fun a b q => nb b _ q
  have fresh : H e = none := by
    cases q : H e with
    | none => rfl
    | some o =>
      obtain ⟨o', q'⟩ : ∃ o', s.heap.get? e = some o' := by
        exact objThere (I.hok e o q)
      rw [hx.new] at q'
      cases q'
  refine wpAny_leaves_madeW (base := PySem.W.hideAll s.heap (frs X.stack)) (L := X.env.locals) (by rw [I.ok.frames, L.stk]) L.fr (fun b o q => PySem.W.of_hideAll _ q) (PySem.W.funFrames_hide (by rw [← L.stk]; exact hs) (by rw [← L.stk]; exact stk_in)) hx fun h' t x1 x2 x3 x4 => ?_
  refine ⟨e, C, _, _, H, rfl, I.flies (s' := { s with heap := h1 }) L.ex x1 x4 rfl I.bare (Un.kept hx.keeps) ?_ (fun b o q _ hb => PySem.W.hideAll_get _ q hb) (fun b o q hb => ⟨o, PySem.W.hideAll_get _ q hb⟩) hx.new fresh, hE⟩
  exact fun a o q => (I.hok a o q).stay (fun b u hb r => PySem.W.hideAll_get _ r (by
    rcases hb with hb | hb
    · rw [hb]
      exact nb a o q
    · exact own a b hb)) (fun _ r => r) fun _ _ r => r
/-- an exception of a callee passes -/
theorem Leaves.passes {E : XK} (L : Leaves X E) : Passes (CXE X.prog X.w) X E := by
  intro pins σ H s x s' I h
  obtain ⟨e, C, a0, B, H', rfl, F, hE⟩ := h
  rw [L.xe]
  have ff := F.fly
  rw [L.stk] at ff
  refine wpAny_leaves_onW (by rw [I.ok.frames, L.stk]) L.fr ff fun h2 x1 x2 => ?_
  exact ⟨e, C, a0, B, H', rfl, I.flies L.ex x1 x2 F.os F.bare F.un F.ok F.kB F.tB F.new F.free, hE⟩
end
end L2

/-! Own rules: the raise statement, try .. except C as n around one call, isinstance of what was caught. -/
namespace L2
open PySem PySem.Spec PyProof.Rows
/-- an own exception class of the text, under ValueError -/
structure ExCls (K : PySem.W.Frag) (mg : Str → Option Value) (x : Str) (C : Addr) : Prop where
  g : mg x = some (.ref C)
  q : PySem.W.excIn K C vmro "ValueError.__new__" = true
/-- its object -/
structure ExObj (h : Heap) (C : Addr) (bm : List Value) : Prop where
  ex : ∃ N nm qn bs hdct sn sub ab col dd k0 k1 k2 k3 k5 mN, h.get? C = some (excClassObj nm qn C N bs bm hdct sn sub ab col dd k0 k1 k2 k3 k5 "ValueError.__new__") ∧ h.Ns N mN ∧ mN "__init__" = none
  tl : OwnTail h vmro bm
theorem exObj {K : PySem.W.Frag} {h : Heap} {C : Addr} (kin : K.In h) (hq : PySem.W.excIn K C vmro "ValueError.__new__" = true) : ∃ bm, ExObj h C bm := by
  unfold PySem.W.excIn at hq
  split at hq
  · rename_i dd cd sl look
    split at hq
    · rename_i C' bm k0 k1 k2 k3 n k5 em es
      simp only [Bool.and_eq_true, beq_iff_eq, Bool.not_eq_true'] at hq
      obtain ⟨⟨⟨⟨⟨rfl, rfl⟩, nodel⟩, tailok⟩, nsok⟩, noinit⟩ := hq
      obtain ⟨nm, bs, mro, ns, qn, hd, sn, sub, ab, col, del⟩ := cd
      dsimp only at em nodel nsok noinit
      subst em nodel
      have esl : sl = #[k0, k1, k2, k3, some (.builtin "ValueError.__new__"), k5] := by
        obtain ⟨l⟩ := sl
        simp only at es
        rw [es]
      subst esl
      exact ⟨bm, ⟨ns, nm, qn, bs, hd, sn, sub, ab, col, dd, k0, k1, k2, k3, k5, _, kin _ _ look, .of_isNs (PySem.W.isNs_of_in kin nsok), PySem.W.nsMap_none_of_in kin nsok noinit⟩, PySem.W.tail_of_in kin tailok⟩
    · cases hq
  · cases hq
section
variable {X : Cx}
def tRaise (E : XK) (C : Addr) (t : TA) : TS := fun _ σ H => t σ H fun vs H1 => vs.length ≤ sizeLine ∧ E (.ref C) none H1
theorem ps_raise {x : Str} {C : Addr} {np cpos pos : Pos} {e0 : Expr} {rest : List Expr} {t : TA} {E : XK} (L : Leaves X E) (O : ExCls X.K X.mg x C) (hg : Gl X x) (hc : X.calm = true) (ha : PA X (e0 :: rest) t)
    (he : starEach (e0 :: rest) X.env = (false, eval e0 X.env) :: starEach rest X.env := by rfl) (hp : (backTo cpos (starEach rest X.env)).any (·.1) = false := by rfl) (hdb : (x == ("__debug__" : Str)) = false := by decide) :
    PS X (.Raise (some (.Call (.Name x np) (e0 :: rest) [] cpos)) none pos) (tRaise E C t) := by
  intro pins s σ H D I h
  obtain ⟨bm, ⟨N, nm, qn, bs, hdct, sn, sub, ab, col, dd, k0, k1, k2, k3, k5, mN, hC, hN, hni⟩, T⟩ := exObj I.ok.mod.kin O.q
  refine wpAny_Raise_call_subU (C := C) (nm := nm) (q := qn) (N := N) (bs := bs) (bm := bm) (hdct := hdct) (sn := sn) (sub := sub) (ab := ab) (col := col) (dd := dd) (k0 := k0) (k1 := k1) (k2 := k2) (k3 := k3) (k5 := k5)
    PySem.F.excBase_ValueError (by decide) PySem.F.excBase_ValueError (mN := mN) (T.hasType PySem.F.excBase_ValueError.hasBase) (I.ok.hd hc) (by rw [he]; show (false || (backTo cpos (starEach rest X.env)).any (·.1)) = false; rw [hp]; rfl) hni (ld_glob I hg O.g ⟨rfl, ?_⟩ hdb)
  have a := ha cpos pins s σ H _ I h
  rw [he] at a ⊢
  refine Calls.evalArgs_plain (thn a fun us s2 ⟨vs, H1, I1, r, hz, q⟩ => ?_)
  exact ⟨rfl, by rw [← r.length]; exact hz, I1.bk _ _ hC, hN.keeps I1.bk, T.keeps I1.bk, fun h' e hx => L.made I1 hx q⟩
/-! ### within an except suite -/
def markX (X : Cx) (e : Addr) : Cx := { X with A := X.A.mark (some (.ref e)), calm := false, xe := fun _ _ => False }
variable {pins : List (Addr × Obj)} {σ : St} {H : Hp} {s : Shared}
theorem Cx.Ok.mark (ok : X.Ok) (e : Addr) : (markX X e).Ok :=
  ⟨ok.mod, ok.kind, ok.glob, ok.blt, ok.above, ok.inj, ok.has, ok.cab, (fun z => nomatch z), ok.frames, ok.stk, ok.exf, ok.bs, ok.bsz, ok.noex, ok.exfs, ok.funs, ok.frf⟩
theorem Inv.mark (I : Inv X pins σ H s) (e : Addr) : Inv (markX X e) pins σ H s := ⟨I.ok.mark e, I.os, I.bare, I.base, I.loc, I.cell, I.free, I.freeC, I.pin, I.hok, I.len⟩
theorem Inv.unmark {e : Addr} (I : Inv (markX X e) pins σ H s) (ok : X.Ok) : Inv X pins σ H s := ⟨ok, I.os, I.bare, I.base, I.loc, I.cell, I.free, I.freeC, I.pin, I.hok, I.len⟩
/-- what was caught: an exception of the class at C -/
def exAt (e C : Addr) (h : Heap) : Prop := ∃ ob vs, h.get? e = some ob ∧ ob.cls = .ref C ∧ ob.data = .fields vs
def exO (e C : Addr) : HO := .ext (exAt e C)
/-- the exception is caught: the state, with it tracked -/
theorem Fly.caught {H1 H' : Hp} {s1 s' : Shared} {e C : Addr} {a0 : Value} {B h : Heap} (I : Inv X pins σ H1 s1) (F : Fly X.prog X.w X.stack H1 s1 e C a0 B H' s') (fl : Heap.FlyingW B X.stack e (.ref C) a0 h) (up : s'.heap.UpToSlots h) :
    Inv X pins σ (upd H' e (exO e C)) { s' with heap := h } := by
  have ne : ∀ b o, s1.heap.get? b = some o → b ≠ e := fun b o q z => by
    rw [z, F.new] at q
    cases q
  have nt : ∀ b u, H' b = some u → b ≠ e := fun b u q => ne_of_none q F.free
  have slot : ∀ b o, s1.heap.get? b = some o → H1 b = none → b ∈ frs X.stack → ∃ sl, h.get? b = some { o with slots := sl } := fun b o q n hb => by
    obtain ⟨_, o1, q1, nf⟩ := I.stack.mem hb
    rw [q] at q1
    cases q1
    obtain ⟨sl, q2⟩ := F.un.slot b o q n hb (fun z => nomatch z)
    obtain ⟨sl2, q3⟩ := up b _ q2 nf
    exact ⟨sl2, q3⟩
  refine I.call' (ch := []) F.os ⟨fun b o q n hb _ => fl.1 b o (F.kB b o q n hb), fun b o q n hb _ => slot b o q n hb, fun b o q n _ => ?_, fun b o q _ => ?_, fun b xs q => ?_, fun b o u q => ?_, fun b ps q => ?_⟩ (fun b ob q => ?_) F.bare fun b z => nomatch z
  · rw [upd_ne (ne b o q)]
    exact F.un.free b o q n fun z => nomatch z
  · by_cases hb : b ∈ frs X.stack
    · obtain ⟨sl, r⟩ := slot b o q (I.stkFree b hb) hb
      exact ⟨_, r⟩
    · obtain ⟨o', r⟩ := F.tB b o q hb
      exact ⟨o', fl.1 b o' r⟩
  · have r := F.un.tups b xs q
    rw [upd_ne (nt b _ r)]
    exact r
  · have r := F.un.frzs b o u q
    rw [upd_ne (nt b _ r)]
    exact r
  · obtain ⟨m, r⟩ := F.un.tbls b ps q
    exact ⟨m, by rw [upd_ne (nt b _ r)]; exact r⟩
  · by_cases hb : b = e
    · subst hb
      rw [upd_same] at q
      cases q
      obtain ⟨oe, vs, q1, q2, q3, _⟩ := fl.first
      exact ⟨⟨oe, vs, q1, q2, q3⟩, ⟨oe, q1⟩, fun g1 g2 ⟨o1, v1, r1, r2, r3⟩ k => ⟨o1, v1, k _ r1, r2, r3⟩⟩
    · rw [upd_ne hb] at q
      refine (F.ok b ob q).stay (fun c u _ r => fl.1 c u r) (fun c r => ?_) fun c xs r => ?_
      · rw [upd_ne (nt c _ r)]
        exact r
      · rw [upd_ne (nt c _ r)]
        exact r
theorem exc_hit {M : Model} {A : Around} {E : Value → Shared → Prop} {s : Shared} {S e C : Addr} {bm : List Value} {oe : Obj} {Q : Bool → Shared → Prop} (O : ExObj s.heap S bm) (he : s.heap.get? e = some oe) (hcls : oe.cls = .ref C)
    (hL : PySem.W.Looks M s.heap (isSubtype (.ref C) (.ref S)) true) (hq : Q true s) : wpAny M A (excMatches (.ref e) (.ref S)) Q E s := by
  obtain ⟨⟨N, nm, qn, bs, hdct, sn, sub, ab, col, dd, k0, k1, k2, k3, k5, mN, hS, hN, hni⟩, T⟩ := O
  have hb := T.hasType PySem.F.excBase_ValueError.hasBase
  obtain ⟨h, g, d, t, os⟩ := s
  have hcB : (Value.ref S :: bm).contains (.type "BaseException") = true := by rw [List.contains_cons, hb, Bool.or_true]
  have f := tc_notTuple
  unfold excMatches
  repeat (first | (with_reducible refine wpAny_loadPart_at he ?_; rw [hcls]) | with_reducible refine wpAny_loadPart_at hS ?_ | (with_reducible refine wpAny_isSubtype_exc hS ?_; rw [hcB]) | wp_step)
  refine hL A _ E _ (fun _ _ q => q) ?_
  rw [if_pos rfl]
  exact wpAny_pure (wpAny_pure (wpAny_pure hq))
/-- try: x = f(..) except S as n: suite -/
def tTry (K : PySem.W.Frag) (S : Addr) (i j : Nat) (sp : Sp) (ta : TA) (ts : TS) : TS := fun D σ H => ta σ H fun vs H1 => sp vs H1 (fun v H2 => D.nx (σ.set i (some v)) H2)
  (fun c _ H2 => ∃ C, c = .ref C ∧ PySem.W.mroIn K C (.ref S) = some true ∧ ∀ e, H2 e = none →
    ts { nx := fun σ3 H3 => D.nx (σ3.set j none) H3, rt := D.rt, bk := fun σ3 H3 => D.bk (σ3.set j none) H3, ct := fun σ3 H3 => D.ct (σ3.set j none) H3 } (σ.set j (some (.ref e))) (upd H2 e (exO e C)))
end
/-- a def of the text that may refuse -/
theorem Fun.okX {P : Program} {w : World} {K : PySem.W.Frag} {mg : Str → Option Value} {base : Heap} {x qual : Str} {st : Stmt} {f : Addr} {fd : FuncData} {N ps : List Str} {k : Nat} {sp : Sp} (F : Fun K x qual st f fd) (S : FnScope N ps (defScope st)) (len : ∀ vs H Q E, sp vs H Q E → vs.length = ps.length)
    (hbody : ∀ (cdv : Value) (A : Around) (outer : List Env) (s : Shared) (H : Hp) (vs : List V) (Q : VK) (E : XK), Room k (A.deeper (envOfC qual (defScope st) s.heap.objs.size f cdv)) → sp vs H Q E →
      ∃ t, PSs (cxOf (CXE P w) P w K mg base N qual (defScope st) f cdv A outer s H E) (defBody st) t ∧ t { nx := fun _ H' => Q .non H', rt := Q } (start N vs) H) : FnOk P w K mg base (CXE P w) (k + 1) f fd ps sp := by
  obtain ⟨oc, od, kV, doc, pm, an, cdv, ct, osl, rfl, lk, hcd⟩ := F.ex
  exact fn_of lk hcd S len fun A outer s H vs Q E hr hsp => hbody cdv A outer s H vs Q E hr hsp
/-! ### isinstance of what was caught -/
structure ExFind (K : PySem.W.Frag) (C : Addr) : Prop where
  ga : PySem.W.findIn K (.ref C) "__getattribute__" = some (some (.builtin "BaseException.__getattribute__"))
  gh : PySem.W.findIn K (.ref C) "__getattr__" = some none
  cl : PySem.W.findIn K (.ref C) "__class__" = some (some (.builtin "object.__class__"))
  mb : PySem.W.mroIn K C (.type "BaseException") = some true
  mo : PySem.W.mroIn K C (.type "object") = some true
  ci : PySem.W.isClsIn K C = true
section
variable {prog : Program} {w : World} {A : Around} {E : Value → Shared → Prop} {K : PySem.W.Frag} {e C : Addr}
def clsVal : V → Value
  | .ref D => .ref D
  | .ty n => .type n
  | _ => .none
end
end L2

/-! Own rules: a text times a number. -/
namespace L2
open PySem PySem.Spec PyProof.Rows
/-- a text times a number from 1 on: some text of that length, of the same signs -/
def rRepS : R2 := fun x y H Q => ∃ z k, x = .str z ∧ y = .int k ∧ 1 ≤ k ∧ k ≤ 1000 ∧ z.length ≤ 1000 ∧ ∀ z' : Str, z'.length = z.length * k.toNat → (∀ c ∈ z'.cps.toList, c ∈ z.cps.toList) → Q (.str z') H
section
variable {X : Cx}
end
end L2

/-! Own rules: a comprehension over a text. -/
namespace L2
open PySem PySem.Spec PyProof.Rows
theorem Same.tuple {K : PySem.W.Frag} {H H' : Hp} {a : Addr} {xs : List V} (e : Same H H') (h : SqT K H a xs) : SqT K H' a xs := by
  rcases h with (h | ⟨o, h⟩) | h
  · exact .inl (.inl (e _ _ h))
  · exact .inl (.inr ⟨o, e _ _ h⟩)
  · exact .inr h
mutual
theorem Rdv.kept {K : PySem.W.Frag} {H H' : Hp} (s : Same H H') : ∀ {v : V} {d : PyData}, Rdv K H v d → Rdv K H' v d
  | _, _, .non => .non
  | _, _, .bl b => .bl b
  | _, _, .int i => .int i
  | _, _, .str x => .str x
  | _, _, .lst h t => .lst (s.seq h) (RdvAll.kept s t)
  | _, _, .tup h t => .tup (s.tuple h) (RdvAll.kept s t)
theorem RdvAll.kept {K : PySem.W.Frag} {H H' : Hp} (s : Same H H') : ∀ {vs : List V} {ds : List PyData}, RdvAll K H vs ds → RdvAll K H' vs ds
  | _, _, .nil => .nil
  | _, _, .cons h t => .cons (Rdv.kept s h) (RdvAll.kept s t)
end
end L2

/-! Own rule: name = [..], the comprehension's value stored ahead of its names' going. -/
namespace L2
open PySem PySem.Spec PyProof.Rows
section
variable {X : Cx} {tg iter elt : Expr} {ifs : List Expr} {scope : Scope} {pos : Pos} {N : List Str} {src : List (Option Nat)} {cl : List (Str × Addr)} {wi : TI} {g : TG} {tc : TT} {te : TE}
theorem ps_setC {i : Nat} {x : Str} {xpos spos : Pos} (hN : X.N.Nodup) (hix : X.N[i]? = some x) (hlx : X.env.scope.names.lookup x = some .local) (ok : CompOk X N src scope cl) (hcalm : X.calm = true) (hi : PI X tg iter wi)
    (hg : ∀ C fp pins s H, PG (compCx X N scope cl C fp pins s H) tg g) (hc : ∀ C fp pins s H, PIfs (compCx X N scope cl C fp pins s H) ifs tc) (he : ∀ C fp pins s H, PE (compCx X N scope cl C fp pins s H) elt te)
    (hs : ∀ x, foldedSetIterable iter X.env x = pure x := by intro _; rfl) (hsw : swapsWith (.ListComp elt [⟨tg, iter, ifs, 0⟩] scope pos) (some (.Name x xpos)) spos.line X.env = pure true := by rfl) :
    PS X (.Assign [.Name x xpos] (.ListComp elt [⟨tg, iter, ifs, 0⟩] scope pos) spos) (tAsg (tComp wi src g tc te) (gName i)) := by
  intro pins s σ H D I h
  rw [exec_Assign_Name_used _ _ _ _ hsw]
  refine wpAny_bind (wpAny_standAt (wpAny_bind ?_))
  unfold evalThenUse
  refine wpAny_bind (wpAny_mono (Q := fun _ s'' => ∃ σ' H', Inv X pins σ' H' s'' ∧ D.nx σ' H') ?_ (fun _ s'' ⟨σ', H', I', q'⟩ => wpAny_pure (wpAny_pure ⟨σ', H', I', q'⟩)) fun _ _ z => z)
  refine wpAny_comprehension_free (use := some (assign (.Name x xpos) X.env)) rfl hs ok.clos ok.kind ok.names (thn (hi pins s σ H _ I h) fun xv s1 h1 => thn h1 fun itv s2 h2 => ?_)
  obtain ⟨it, fp, tn, J, H2, e, I2, T, st2, f2, q2⟩ := h2
  subst e
  refine wpAny_newObj_type (wpAny_newFunctionEnv ok.nocell (by intro y hy; simp at hy) (fun h₁ hns₁ hsb₁ => ?_) ok.kind)
  dsimp only at hns₁ hsb₁ ⊢
  generalize hP : s2.heap.push { cls := .type "list", dict := none, data := .seq ([] : List Value).toArray } = P2 at hns₁ hsb₁ ⊢
  have hC : P2.objs.size = s2.heap.objs.size + 1 := by rw [← hP, Heap.size_push]
  have k : ∀ b u, s2.heap.get? b = some u → h₁.get? b = some u := fun b u e => by
    have lt := Heap.lt_size e
    exact (hsb₁.2 b (by rw [hC]; exact Nat.ne_of_lt (Nat.lt_succ_of_lt lt))).trans (Heap.get?_push_of_some _ (hP ▸ Heap.get?_push_of_some _ e))
  have hD : h₁.get? s2.heap.objs.size = some { cls := .type "list", data := .seq #[] } := (hsb₁.2 _ (by rw [hC]; exact (Nat.succ_ne_self _).symm)).trans (Heap.get?_push_of_some _ (hP ▸ Heap.get?_push_size _ rfl))
  have ho : ∀ b ∈ fp, ∃ o, s2.heap.get? b = some o := fun b hb => let ⟨o, e, _⟩ := T.obj 0 _ st2 b hb; ⟨o, e⟩
  obtain ⟨W, ⟨m0, w0⟩, turn⟩ := q2 s2.heap.objs.size (I2.hok.fresh (Nat.le_refl _))
  have I0 := comp_start (tk := s2.toks + ([] : List (Str × Value)).length) ok I2 f2 ho hC k hD hns₁
  have st0 : tn 0 h₁ := T.keep 0 _ _ st2 fun b _ o e => k b o e
  have fr0 : ∀ b ∈ fp, upd H2 s2.heap.objs.size (.lst []) b = none := fun b hb => by
    obtain ⟨o, e⟩ := ho b hb
    rw [upd_ne (Nat.ne_of_lt (Heap.lt_size e))]
    exact (f2 b hb).1
  have stat : ∀ {H' : Hp}, (∀ b ∈ fp, H' b = none) → ∀ b ∈ fp, FpOk (compCx X N scope cl P2.objs.size fp pins s2 H2) [] H' b := fun {H'} hn b hb => by
    obtain ⟨o, e⟩ := ho b hb
    have lt := Heap.lt_size e
    refine ⟨hn b hb, ?_, fun z => (List.mem_cons.mp (I2.stkSub b z)).elim (f2 b hb).2.1 (f2 b hb).2.2.1, .inl hb, fun x c z => (f2 b hb).2.2.2.2.1 x c (ok.sub x c z), fun p hp => ?_⟩
    · show b ≠ P2.objs.size
      rw [hC]
      exact Nat.ne_of_lt (Nat.lt_succ_of_lt lt)
    · have hp' : p ∈ X.pn ++ pins := by
        have : p ∈ (X.pn ++ pins) ++ [] := hp
        simpa using this
      exact (f2 b hb).2.2.2.2.2 p hp'
  have loop : ∀ s₃ : Shared, s₃ = { s2 with heap := h₁, toks := s2.toks + ([] : List (Str × Value)).length } →
      codeAny (model X.prog X.w) X.A (.compLoop (.ListComp elt [⟨tg, iter, ifs, 0⟩] scope pos) 0 (.ref it) (.ref s2.heap.objs.size) (compEnvC scope cl P2.objs.size X.env))
        (compPost (model X.prog X.w) X.A X.xe (some (assign (.Name x xpos) X.env)) (fun _ s'' => ∃ σ' H', Inv X pins σ' H' s'' ∧ D.nx σ' H') (.ref s2.heap.objs.size) P2.objs.size) s₃ := by
    rintro s₃ rfl
    refine codeAny_loop rfl (fun n s' => ∃ i σ' H', Inv (compCx X N scope cl P2.objs.size fp pins s2 H2) [] σ' H' s' ∧ tn i s'.heap ∧ (∀ b ∈ fp, H' b = none) ∧ W i n σ' H') ?_ m0 ⟨0, _, _, I0, st0, fr0, w0⟩
    rintro n s3 ⟨i, σ3, H3, I3, st3, fr3, w3⟩
    show wpAny _ X.A ((compTurn (.ListComp elt [⟨tg, iter, ifs, 0⟩] scope pos) 0 (.ref it) (.ref s2.heap.objs.size) (compEnvC scope cl P2.objs.size X.env)).onRaise (fun x => do noteFrame x (compEnvC scope cl P2.objs.size X.env); theTreesLotGoes x)) _ _ s3
    refine wpAny_noted ?_
    rw [compTurn_list]
    rcases turn i n σ3 H3 w3 with ⟨stop, qn⟩ | ⟨go, N', hN, step⟩
    · refine wpAny_bind (wpAny_standAt (wpAny_bind (thn (T.done (compCx X N scope cl P2.objs.size fp pins s2 H2) rfl rfl rfl hcalm i [] s3 σ3 H3 _ I3 (stat fr3) st3 stop) fun r s4 ⟨hr, I4⟩ => ?_)))
      subst hr
      refine wpAny_pure ?_
      obtain ⟨m, hm, _⟩ := I4.loc
      have leC : s2.heap.objs.size ≤ P2.objs.size := by rw [hC]; exact Nat.le_succ _
      have IX : Inv X pins σ H3 s4 := I2.call' (s' := s4) (ch := fp) I4.os I4.base I4.hok I4.bare fun b hb => ⟨(f2 b hb).2.2.2.1, (f2 b hb).2.1, (f2 b hb).2.2.2.2.1, (f2 b hb).2.2.2.2.2⟩
      have cellLt : ∀ y c, X.env.cells.lookup y = some c → c ≠ P2.objs.size := fun y c e z => by
        obtain ⟨_, o, e1, _⟩ := I2.cell y c e
        have := Heap.lt_size e1
        rw [z] at this
        exact Nat.lt_irrefl _ (Nat.lt_of_lt_of_le this leC)
      have locNe : X.env.locals ≠ P2.objs.size := fun z => by
        have := I2.lt
        rw [z] at this
        exact Nat.lt_irrefl _ (Nat.lt_of_lt_of_le this leC)
      refine wpAny_assign_Name (store_ok2 IX hN hix (.inl hlx) (v := .ref s2.heap.objs.size) rfl (fun s5 I5 ⟨a5, sb5, ha5⟩ => ?_) (.inr hlx))
      have na : a5 ≠ P2.objs.size := by
        rcases ha5 with z | z
        · rw [z]
          exact locNe
        · exact cellLt _ _ z
      refine ⟨m, hm.sameBut sb5 (Ne.symm na), fun h' sb => ⟨_, H3, ?_, qn⟩⟩
      exact I5.turned (t' := s5.toks) (it := P2.objs.size) (fun b o hb e => (sb.2 b hb).trans e) I4.free (Ne.symm locNe) (.inr (Nat.le_trans I2.sz leC)) cellLt fun p hp z => by
        obtain ⟨e1, _⟩ := I2.pin p hp
        have := Heap.lt_size e1
        rw [z] at this
        exact Nat.lt_irrefl _ (Nat.lt_of_lt_of_le this leC)
    · refine wpAny_bind (wpAny_standAt (wpAny_bind (thn (T.item (compCx X N scope cl P2.objs.size fp pins s2 H2) rfl rfl rfl hcalm i [] s3 σ3 H3 _ I3 (stat fr3) st3 go) fun r s4 ⟨u, hr, h4⟩ => ?_)))
      subst hr
      dsimp only
      refine wpAny_bind (thn h4 fun _ s5 ⟨x, H5, I5, r5, y5, st5, fr5⟩ => ?_)
      have I5' := I5.pinned (stat fr5) (T.obj _ _ st5)
      refine wpAny_bind (wpAny_mono (hg P2.objs.size fp pins s2 H2 _ s5 σ3 H5 x u _ I5' r5 (step x H5 y5)) (fun _ s6 ⟨σ6, H6, I6, q6⟩ => ?_) fun _ _ z => False.elim z)
      have again : ∀ {s7 : Shared} {σ7 : St} {H7 : Hp}, Inv (compCx X N scope cl P2.objs.size fp pins s2 H2) ([] ++ pinsAt fp s5.heap) σ7 H7 s7 → N' σ7 H7 → ∃ m, m < n ∧ ∃ i σ' H', Inv (compCx X N scope cl P2.objs.size fp pins s2 H2) [] σ' H' s7 ∧ tn i s7.heap ∧ (∀ b ∈ fp, H' b = none) ∧ W i m σ' H' := fun {s7 σ7 H7} I7 n7 => by
        obtain ⟨m', hm, w7⟩ := hN σ7 H7 n7
        refine ⟨m', hm, i + 1, σ7, H7, I7.unpinned, T.keep _ _ _ st5 fun b hb o e => (I7.pin (b, o) (List.mem_append_right _ (List.mem_append_right _ (mem_pinsAt hb e)))).1, fun b hb => ?_, w7⟩
        obtain ⟨o, e, d⟩ := T.obj _ _ st5 b hb
        exact (I7.pin (b, o) (List.mem_append_right _ (List.mem_append_right _ (mem_pinsAt hb e)))).2.1
      refine wpAny_bind (wpAny_mono (hc P2.objs.size fp pins s2 H2 _ s6 σ6 H6 _ I6 q6) (fun b s7 ⟨H7, I7, q7⟩ => ?_) fun _ _ z => False.elim z)
      cases b with
      | false =>
        rw [if_neg Bool.false_ne_true] at q7
        exact wpAny_pure ⟨rfl, again I7 q7⟩
      | true =>
        rw [if_pos rfl] at q7
        refine wpAny_bind (wpAny_bind (wpAny_mono (he P2.objs.size fp pins s2 H2 _ s7 σ6 H7 _ I7 q7) (fun y s8 ⟨v8, H8, I8, r8, ys, hys, hlen, q8⟩ => ?_) fun _ _ z => False.elim z))
        refine wpAny_bind (wpAny_mono (mt_append (X := compCx X N scope cl P2.objs.size fp pins s2 H2) _ s8 σ6 H8 (.ref s2.heap.objs.size) [v8] (.ref s2.heap.objs.size) [y] (fun _ H9 => N' σ6 H9) I8 rfl (.cons r8 .nil) ⟨_, ys, v8, rfl, rfl, hys, hlen, q8⟩) (fun _ s9 ⟨v9, H9, I9, _, q9⟩ => ?_) fun _ _ z => False.elim z)
        exact wpAny_pure (wpAny_pure ⟨rfl, again I9 q9⟩)
  exact codeAny_compStart_list (loop _ rfl) (T.self _ 0 _ _ _ st0 (loop _ rfl))
end
end L2

/-! Own rules: a comprehension whose own name another one within it takes; one within it. -/
namespace L2
open PySem PySem.Spec PyProof.Rows
/-- names by boolean looks: what may be said by rfl of a written scope -/
theorem CompOk.byRfl {X : Cx} {N : List Str} {src : List (Option Nat)} {scope : Scope} (kind : scope.kind = .function) (nocell : ∀ y ∈ scope.names, y.2 ≠ .cell) (names : ∀ y ∈ scope.names, y.2 = .local → scope.names.lookup y.1 = some .local)
    (hs : (scope.names.all fun y => y.2 != .free || (X.env.cells.lookup y.1).isSome) = true) (len : src.length = N.length)
    (pc : ((N.zip src).all fun q => match q.2 with | none => true | some j => X.N[j]? == some q.1 && X.env.kindOf q.1 == some .cell && (relabel scope X.env).names.lookup q.1 == some .cell) = true) : CompOk X N src scope (clOf (fun x => X.env.cells.lookup x) scope.names []) := by
  have hs' : ∀ y ∈ scope.names, y.2 = .free → (X.env.cells.lookup y.1).isSome = true := fun y hy e => by
    have z := List.all_eq_true.mp hs y hy
    rw [e] at z
    simpa using z
  refine ⟨kind, nocell, names, closureFor_free hs', fun x c h => ?_, fun x h => ?_, len, fun i j x h1 h2 => ?_⟩
  · rcases clOf_mem _ _ _ (PySem.mem_of_lookup h) with z | z
    · cases z
    · exact z
  · refine Option.isSome_iff_exists.mp (clOf_has _ _ (.inr ?_))
    have hm : (x, NameKind.cell) ∈ scope.names ∨ (x, NameKind.free) ∈ scope.names := by
      rcases h with h | h
      · exact relabel_mem (PySem.mem_of_lookup h) (.inl rfl)
      · exact relabel_mem (PySem.mem_of_lookup h) (.inr rfl)
    rcases hm with hm | hm
    · exact absurd rfl (nocell _ hm)
    · exact ⟨hm, hs' _ hm rfl⟩
  · have hm : (x, some j) ∈ N.zip src := List.mem_of_getElem? (i := i) (by rw [List.getElem?_zip_eq_some]; exact ⟨h1, h2⟩)
    have z := List.all_eq_true.mp pc _ hm
    simp only [Bool.and_eq_true, beq_iff_eq] at z
    exact ⟨z.1.1, .inl z.1.2, .inl z.2⟩
/-- the own name y stands in a cell -/
structure CompOk1 (X : Cx) (N : List Str) (src : List (Option Nat)) (scope : Scope) (cl : List (Str × Addr)) (y : Str) : Prop where
  kind : scope.kind = .function
  one : ∀ n acc, cellsFrom n scope.names acc = (y, n) :: acc
  push : ∀ h, pushCells h scope.names = h.push { cls := .type "cell", data := .cell none }
  names : ∀ y ∈ scope.names, y.2 = .local → scope.names.lookup y.1 = some .local
  clos : closureFor scope X.env = pure cl
  sub : ∀ x c, cl.lookup x = some c → X.env.cells.lookup x = some c
  has : ∀ x, ((relabel scope X.env).names.lookup x = some .cell ∨ (relabel scope X.env).names.lookup x = some .free) → x = y ∨ ∃ c, cl.lookup x = some c
  len : src.length = N.length
  pulls : ∀ (i j : Nat) (x : Str), N[i]? = some x → src[i]? = some (some j) → X.N[j]? = some x ∧ (X.env.kindOf x = some .cell ∨ X.env.kindOf x = some .free) ∧ ((relabel scope X.env).names.lookup x = some .cell ∨ (relabel scope X.env).names.lookup x = some .free)
  pny : ∀ (i j : Nat) (x : Str), N[i]? = some x → src[i]? = some (some j) → x ≠ y
theorem CompOk1.has1 {X : Cx} {N : List Str} {src : List (Option Nat)} {scope : Scope} {cl : List (Str × Addr)} {y : Str} {C : Addr} (ok : CompOk1 X N src scope cl y) (x : Str) (h : (relabel scope X.env).names.lookup x = some .cell ∨ (relabel scope X.env).names.lookup x = some .free) : ∃ c, List.lookup x ((y, C) :: cl) = some c := by
  rw [List.lookup_cons]
  cases q : x == y with
  | true => exact ⟨_, rfl⟩
  | false =>
    rcases ok.has x h with z | z
    · rw [z] at q
      simp at q
    · exact z
theorem CompOk1.byRfl {X : Cx} {N : List Str} {src : List (Option Nat)} {scope : Scope} {y : Str} (kind : scope.kind = .function) (one : ∀ n acc, cellsFrom n scope.names acc = (y, n) :: acc) (push : ∀ h, pushCells h scope.names = h.push { cls := .type "cell", data := .cell none })
    (only : ∀ z ∈ scope.names, z.2 = .cell → z.1 = y) (names : ∀ y ∈ scope.names, y.2 = .local → scope.names.lookup y.1 = some .local)
    (hs : (scope.names.all fun y => y.2 != .free || (X.env.cells.lookup y.1).isSome) = true) (len : src.length = N.length)
    (pc : ((N.zip src).all fun q => match q.2 with | none => true | some j => X.N[j]? == some q.1 && X.env.kindOf q.1 == some .cell && (relabel scope X.env).names.lookup q.1 == some .cell && q.1 != y) = true) : CompOk1 X N src scope (clOf (fun x => X.env.cells.lookup x) scope.names []) y := by
  have hs' : ∀ y ∈ scope.names, y.2 = .free → (X.env.cells.lookup y.1).isSome = true := fun y hy e => by
    have z := List.all_eq_true.mp hs y hy
    rw [e] at z
    simpa using z
  have pk : ∀ (i j : Nat) (x : Str), N[i]? = some x → src[i]? = some (some j) → (X.N[j]? = some x ∧ X.env.kindOf x = some .cell ∧ (relabel scope X.env).names.lookup x = some .cell) ∧ x ≠ y := fun i j x h1 h2 => by
    have hm : (x, some j) ∈ N.zip src := List.mem_of_getElem? (i := i) (by rw [List.getElem?_zip_eq_some]; exact ⟨h1, h2⟩)
    have z := List.all_eq_true.mp pc _ hm
    simp only [Bool.and_eq_true, beq_iff_eq, bne_iff_ne] at z
    exact ⟨⟨z.1.1.1, z.1.1.2, z.1.2⟩, z.2⟩
  refine ⟨kind, one, push, names, closureFor_free hs', fun x c h => ?_, fun x h => ?_, len, fun i j x h1 h2 => ⟨(pk i j x h1 h2).1.1, .inl (pk i j x h1 h2).1.2.1, .inl (pk i j x h1 h2).1.2.2⟩, fun i j x h1 h2 => (pk i j x h1 h2).2⟩
  · rcases clOf_mem _ _ _ (PySem.mem_of_lookup h) with z | z
    · cases z
    · exact z
  · have hm : (x, NameKind.cell) ∈ scope.names ∨ (x, NameKind.free) ∈ scope.names := by
      rcases h with h | h
      · exact relabel_mem (PySem.mem_of_lookup h) (.inl rfl)
      · exact relabel_mem (PySem.mem_of_lookup h) (.inr rfl)
    rcases hm with hm | hm
    · exact .inl (only _ hm rfl)
    · exact .inr (Option.isSome_iff_exists.mp (clOf_has _ _ (.inr ⟨hm, hs' _ hm rfl⟩)))
def compCx1 (X : Cx) (N : List Str) (scope : Scope) (cl : List (Str × Addr)) (y : Str) (C : Addr) (fp : List Addr) (pins : List (Addr × Obj)) (s : Shared) (H : Hp) : Cx :=
  { compCx X N scope ((y, C + 1) :: cl) C fp pins s H with fn := fun x => decide (x = y) }
theorem newEnv1 {M : Model} {A : Around} {E : Value → Shared → Prop} {s : Shared} {scope : Scope} {globals : Addr} {cl : List (Str × Addr)} {qual : Str} {env : Env} {y : Str} {Q : Env → Shared → Prop} (one : ∀ n acc, cellsFrom n scope.names acc = (y, n) :: acc) (push : ∀ h, pushCells h scope.names = h.push { cls := .type "cell", data := .cell none })
    (hQ : Q (newEnv scope s.heap.objs.size globals ((y, s.heap.objs.size + 1) :: cl) qual none .none (some env) builtinsNs) { s with heap := (s.heap.push { cls := .type "dict", data := .dict #[] }).push { cls := .type "cell", data := .cell none } }) :
    wpAny M A (newFunctionEnv scope globals cl [] qual none .none (some env)) Q E s := by
  simp only [newFunctionEnv, Option.isSome_some, if_true]
  refine wpAny_bind (wpAny_alloc ?_)
  refine wpAny_bind (wpAny_layCells _ (fun name kind cells => by cases hkc : kind == NameKind.cell <;> simp [hkc]) _ _ _ _ ?_)
  rw [push, one, show ({ s with heap := s.heap.push { cls := .type "dict", data := .dict #[] } } : Shared).heap.objs.size = s.heap.objs.size + 1 from Heap.size_push ..]
  exact wpAny_bind (wpAny_pure (wpAny_pure hQ))
section
variable {X : Cx} {tg iter elt : Expr} {ifs : List Expr} {scope : Scope} {pos : Pos} {N : List Str} {src : List (Option Nat)} {cl : List (Str × Addr)} {wi : TI} {g : TG} {tc : TT} {te : TE} {y : Str}
theorem comp_start1 {pins : List (Addr × Obj)} {σ : St} {H : Hp} {s : Shared} {fp : List Addr} {h1 : Heap} {C : Addr} {tk : Nat} (ok : CompOk1 X N src scope cl y) (I : Inv X pins σ H s) (hf : ∀ b ∈ fp, FpOk X pins H b) (ho : ∀ b ∈ fp, ∃ o, s.heap.get? b = some o)
    (hC : C = s.heap.objs.size + 1) (k : ∀ b u, s.heap.get? b = some u → h1.get? b = some u) (hD : h1.get? s.heap.objs.size = some { cls := .type "list", data := .seq #[] }) {m : Str → Option Value} (hn : h1.Ns C m) (hcc : h1.IsCell (C + 1) none) :
    Inv (compCx1 X N scope cl y C fp pins s H) [] (pull src σ) (upd H s.heap.objs.size (.lst [])) { s with heap := h1, toks := tk } := by
  have lt : ∀ b o, s.heap.get? b = some o → b < s.heap.objs.size := fun b o e => Heap.lt_size e
  have nC : ∀ b o, s.heap.get? b = some o → b ≠ C := fun b o e => by rw [hC]; exact Nat.ne_of_lt (Nat.lt_succ_of_lt (lt b o e))
  have nD : ∀ b o, s.heap.get? b = some o → b ≠ s.heap.objs.size := fun b o e => Nat.ne_of_lt (lt b o e)
  have fr : ∀ b, s.heap.objs.size ≤ b → H b = none := fun b hb => I.hok.fresh hb
  have nst : ∀ b, b ≠ X.env.locals → b ∉ X.fs → b ∉ frs X.stack := fun b h1 h2 z => (List.mem_cons.mp (I.stkSub b z)).elim h1 h2
  have nC1 : ∀ b o, s.heap.get? b = some o → b ≠ C + 1 := fun b o e => by rw [hC]; exact Nat.ne_of_lt (Nat.lt_succ_of_lt (Nat.lt_succ_of_lt (lt b o e)))
  have own : ∀ x c, List.lookup x ((y, C + 1) :: cl) = some c → (x = y ∧ c = C + 1) ∨ (x ≠ y ∧ X.env.cells.lookup x = some c) := fun x c e => by
    rw [List.lookup_cons] at e
    cases q : x == y with
    | true =>
      rw [q] at e
      exact .inl ⟨by simpa using q, (Option.some.inj e).symm⟩
    | false =>
      rw [q] at e
      exact .inr ⟨by simpa using q, ok.sub x c e⟩
  have oldc : ∀ x c, X.env.cells.lookup x = some c → c ≠ C + 1 := fun x c e => by
    obtain ⟨_, o, e1, _⟩ := I.cell x c e
    exact nC1 c o e1
  refine ⟨⟨I.ok.mod, ok.kind, I.ok.glob, I.ok.blt, by rw [show (compCx1 X N scope cl y C fp pins s H).env.locals = C from rfl, hC]; exact Nat.le_succ _, ?inj, ok.has1, ?cab, I.ok.hd, I.ok.frames, .inl rfl, fun b hb => ?_, I.bs, Nat.le_trans I.ok.bsz I.sz, fun b o e hb => ?_, fun b hb hz => ?_, I.stack, I.stkFree⟩,
    rfl, I.bare, Un.laid k (Nat.le_refl _) (fr _ (Nat.le_refl _)), ⟨m, hn, fun i x v e1 e2 e3 => ?_⟩, fun x c e => ?_, ?_, fun x c e => ?_, fun p hp => ?_, I.hok.laid k (Nat.le_refl _) ⟨Nat.zero_le _, [], 0, .nil, hD⟩, ?_⟩
  case inj =>
    intro x x' c e1 e2
    rcases own x c e1 with ⟨a1, a2⟩ | ⟨a1, a2⟩
    · rcases own x' c e2 with ⟨b1, b2⟩ | ⟨b1, b2⟩
      · rw [a1, b1]
      · exact absurd a2 (oldc x' c b2)
    · rcases own x' c e2 with ⟨b1, b2⟩ | ⟨b1, b2⟩
      · exact absurd b2 (oldc x c a2)
      · exact I.ok.inj x x' c a2 b2
  case cab =>
    intro x c z e
    have zy : x = y := of_decide_eq_true z
    rcases own x c e with ⟨_, a2⟩ | ⟨a1, _⟩
    · rw [a2, hC]
      exact Nat.le_succ_of_le (Nat.le_succ _)
    · exact absurd zy a1
  · obtain ⟨o, e⟩ := ho b hb
    refine ⟨nC b o e, fun x c z => ?_⟩
    rcases own x c z with ⟨_, a2⟩ | ⟨_, a2⟩
    · rw [a2]
      exact Ne.symm (nC1 b o e)
    · exact (hf b hb).2.2.2.2.1 x c a2
  · rcases (hf b hb).2.2.2.1 with z | z
    · exact I.ok.noex b o e z
    · exact absurd (Nat.lt_of_lt_of_le (Heap.lt_size (I.ok.bs b o e).1) z) (Nat.lt_irrefl _)
  · exact nst b (hf b hb).2.1 (hf b hb).2.2.1 hz
  · have hi : i < src.length := by
      have := (List.getElem?_eq_some_iff.mp e2).1
      unfold pull at this
      rw [List.length_map] at this
      exact this
    unfold pull at e2
    rw [List.getElem?_map, List.getElem?_eq_getElem hi] at e2
    cases q : src[i] with
    | none => rw [q] at e2; cases e2
    | some j =>
      rw [q] at e2
      have e2' : (σ[j]?).getD none = some v := Option.some.inj e2
      have e4 : σ[j]? = some (some v) := by
        cases z : σ[j]? with
        | none => rw [z] at e2'; cases e2'
        | some o => rw [z] at e2'; exact congrArg some e2'
      obtain ⟨p1, p2, p3⟩ := ok.pulls i j x e1 (by rw [List.getElem?_eq_getElem hi, q])
      obtain ⟨m', hn', hl⟩ := I.loc
      obtain ⟨u, r, l⟩ := hl j x v p1 e4 (by
        rcases p2 with z | z
        · exact .inr (.inl z)
        · exact .inr (.inr z))
      refine ⟨u, r, .inr ⟨p3, ?_⟩⟩
      obtain ⟨c, hc⟩ := ok.has1 x p3
      refine ⟨c, hc, ?_⟩
      rcases l with ⟨z, _⟩ | ⟨_, c', hc', o, ho', hd'⟩
      · rcases p2 with y | y <;> rw [z] at y <;> cases y
      · rcases own x c hc with ⟨a1, _⟩ | ⟨_, a2⟩
        · exact absurd a1 (ok.pny i j x e1 (by rw [List.getElem?_eq_getElem hi, q]))
        · rw [a2] at hc'
          cases hc'
          exact ⟨o, k _ o ho', hd'⟩
  · rcases own x c e with ⟨_, a2⟩ | ⟨_, a2⟩
    · rw [a2]
      exact ⟨_, hcc⟩
    · obtain ⟨v, o, e1, e2⟩ := I.cell x c a2
      exact ⟨v, o, k c o e1, e2⟩
  · show upd H s.heap.objs.size (.lst []) C = none
    rw [hC, upd_ne (Nat.succ_ne_self _)]
    exact fr _ (Nat.le_succ _)
  · show upd H s.heap.objs.size (.lst []) c = none
    rcases own x c e with ⟨_, a2⟩ | ⟨_, a2⟩
    · rw [a2, hC, upd_ne (Nat.ne_of_gt (Nat.lt_succ_of_lt (Nat.lt_succ_self _)))]
      exact fr _ (Nat.le_succ_of_le (Nat.le_succ _))
    · obtain ⟨v, o, e1, e2⟩ := I.cell x c a2
      rw [upd_ne (nD c o e1)]
      exact I.freeC x c a2
  · have hp' : p ∈ X.pn ++ pins := by
      have : p ∈ (X.pn ++ pins) ++ [] := hp
      simpa using this
    obtain ⟨e1, e2, e3, e4, e5⟩ := I.pin p hp'
    refine ⟨k _ _ e1, ?_, nC _ _ e1, nst _ e3 e4, e5⟩
    show upd H s.heap.objs.size (.lst []) p.1 = none
    rw [upd_ne (nD _ _ e1)]
    exact e2
  · unfold pull
    rw [List.length_map]
    exact ok.len
theorem pe_comp1 {y : Str} (ok : CompOk1 X N src scope cl y) (hcalm : X.calm = true) (hi : PI X tg iter wi)
    (hg : ∀ C fp pins s H, PG (compCx1 X N scope cl y C fp pins s H) tg g) (hc : ∀ C fp pins s H, PIfs (compCx1 X N scope cl y C fp pins s H) ifs tc) (he : ∀ C fp pins s H, PE (compCx1 X N scope cl y C fp pins s H) elt te)
    (hs : ∀ x, foldedSetIterable iter X.env x = pure x := by intro _; rfl) : PE X (.ListComp elt [⟨tg, iter, ifs, 0⟩] scope pos) (tComp wi src g tc te) := by
  intro pins s σ H Q I h
  rw [eval_ListComp]
  refine wpAny_comprehension_free (use := none) rfl hs ok.clos ok.kind ok.names (thn (hi pins s σ H _ I h) fun xv s1 h1 => thn h1 fun itv s2 h2 => ?_)
  obtain ⟨it, fp, tn, J, H2, e, I2, T, st2, f2, q2⟩ := h2
  subst e
  refine wpAny_newObj_type (newEnv1 ok.one ok.push ?_)
  generalize hP : s2.heap.push { cls := .type "list", dict := none, data := .seq ([] : List Value).toArray } = P2
  have hC : P2.objs.size = s2.heap.objs.size + 1 := by rw [← hP, Heap.size_push]
  have sz1 : (P2.push { cls := .type "dict", data := .dict #[] }).objs.size = P2.objs.size + 1 := Heap.size_push ..
  generalize hh1 : (P2.push { cls := .type "dict", data := .dict #[] }).push { cls := .type "cell", data := .cell none } = h₁
  have hns₁ : h₁.Ns P2.objs.size (fun _ => none) := by
    rw [← hh1]
    exact (Heap.Ns.new P2 _).push _
  have hcc : h₁.IsCell (P2.objs.size + 1) none := by
    rw [← hh1, ← sz1]
    exact ⟨_, Heap.get?_push_size _ rfl, rfl⟩
  have k : ∀ b u, s2.heap.get? b = some u → h₁.get? b = some u := fun b u e => by
    rw [← hh1]
    exact Heap.get?_push_of_some _ (Heap.get?_push_of_some _ (hP ▸ Heap.get?_push_of_some _ e))
  have hD : h₁.get? s2.heap.objs.size = some { cls := .type "list", data := .seq #[] } := by
    rw [← hh1]
    exact Heap.get?_push_of_some _ (Heap.get?_push_of_some _ (hP ▸ Heap.get?_push_size _ rfl))
  have ho : ∀ b ∈ fp, ∃ o, s2.heap.get? b = some o := fun b hb => let ⟨o, e, _⟩ := T.obj 0 _ st2 b hb; ⟨o, e⟩
  obtain ⟨W, ⟨m0, w0⟩, turn⟩ := q2 s2.heap.objs.size (I2.hok.fresh (Nat.le_refl _))
  have I0 := comp_start1 (tk := s2.toks) ok I2 f2 ho hC k hD hns₁ hcc
  have st0 : tn 0 h₁ := T.keep 0 _ _ st2 fun b _ o e => k b o e
  have fr0 : ∀ b ∈ fp, upd H2 s2.heap.objs.size (.lst []) b = none := fun b hb => by
    obtain ⟨o, e⟩ := ho b hb
    rw [upd_ne (Nat.ne_of_lt (Heap.lt_size e))]
    exact (f2 b hb).1
  have stat : ∀ {H' : Hp}, (∀ b ∈ fp, H' b = none) → ∀ b ∈ fp, FpOk (compCx1 X N scope cl y P2.objs.size fp pins s2 H2) [] H' b := fun {H'} hn b hb => by
    obtain ⟨o, e⟩ := ho b hb
    have lt := Heap.lt_size e
    refine ⟨hn b hb, ?_, fun z => (List.mem_cons.mp (I2.stkSub b z)).elim (f2 b hb).2.1 (f2 b hb).2.2.1, .inl hb, fun x c z => ?own, fun p hp => ?_⟩
    case own =>
      have z' : List.lookup x ((y, P2.objs.size + 1) :: cl) = some c := z
      rw [List.lookup_cons] at z'
      cases q : x == y with
      | true =>
        rw [q] at z'
        rw [← Option.some.inj z', hC]
        exact Nat.ne_of_gt (Nat.lt_succ_of_lt (Nat.lt_succ_of_lt lt))
      | false =>
        rw [q] at z'
        exact (f2 b hb).2.2.2.2.1 x c (ok.sub x c z')
    · show b ≠ P2.objs.size
      rw [hC]
      exact Nat.ne_of_lt (Nat.lt_succ_of_lt lt)
    · have hp' : p ∈ X.pn ++ pins := by
        have : p ∈ (X.pn ++ pins) ++ [] := hp
        simpa using this
      exact (f2 b hb).2.2.2.2.2 p hp'
  have loop : ∀ s₃ : Shared, s₃ = { s2 with heap := h₁, toks := s2.toks } →
      codeAny (model X.prog X.w) X.A (.compLoop (.ListComp elt [⟨tg, iter, ifs, 0⟩] scope pos) 0 (.ref it) (.ref s2.heap.objs.size) (compEnvC scope ((y, P2.objs.size + 1) :: cl) P2.objs.size X.env))
        (compPost (model X.prog X.w) X.A X.xe none (EP X pins σ Q) (.ref s2.heap.objs.size) P2.objs.size) s₃ := by
    rintro s₃ rfl
    refine codeAny_loop rfl (fun n s' => ∃ i σ' H', Inv (compCx1 X N scope cl y P2.objs.size fp pins s2 H2) [] σ' H' s' ∧ tn i s'.heap ∧ (∀ b ∈ fp, H' b = none) ∧ W i n σ' H') ?_ m0 ⟨0, _, _, I0, st0, fr0, w0⟩
    rintro n s3 ⟨i, σ3, H3, I3, st3, fr3, w3⟩
    show wpAny _ X.A ((compTurn (.ListComp elt [⟨tg, iter, ifs, 0⟩] scope pos) 0 (.ref it) (.ref s2.heap.objs.size) (compEnvC scope ((y, P2.objs.size + 1) :: cl) P2.objs.size X.env)).onRaise (fun x => do noteFrame x (compEnvC scope ((y, P2.objs.size + 1) :: cl) P2.objs.size X.env); theTreesLotGoes x)) _ _ s3
    refine wpAny_noted ?_
    rw [compTurn_list]
    rcases turn i n σ3 H3 w3 with ⟨stop, qn⟩ | ⟨go, N', hN, step⟩
    · refine wpAny_bind (wpAny_standAt (wpAny_bind (thn (T.done (compCx1 X N scope cl y P2.objs.size fp pins s2 H2) rfl rfl rfl hcalm i [] s3 σ3 H3 _ I3 (stat fr3) st3 stop) fun r s4 ⟨hr, I4⟩ => ?_)))
      subst hr
      refine wpAny_pure ?_
      obtain ⟨m, hm, _⟩ := I4.loc
      refine ⟨m, hm, fun h' sb => ⟨.ref s2.heap.objs.size, H3, ?_, rfl, qn⟩⟩
      have un : Un (frs X.stack) fp H2 H3 s2.heap h' := Un.but I4.base (by show s2.heap.objs.size ≤ P2.objs.size; rw [hC]; exact Nat.le_succ _) sb
      have hok : HOk X.prog X.w H3 h' := HOk.but I4.hok I4.free sb
      exact I2.call' (s' := { s4 with heap := h' }) (ch := fp) I4.os un hok I4.bare fun b hb => ⟨(f2 b hb).2.2.2.1, (f2 b hb).2.1, (f2 b hb).2.2.2.2.1, (f2 b hb).2.2.2.2.2⟩
    · refine wpAny_bind (wpAny_standAt (wpAny_bind (thn (T.item (compCx1 X N scope cl y P2.objs.size fp pins s2 H2) rfl rfl rfl hcalm i [] s3 σ3 H3 _ I3 (stat fr3) st3 go) fun r s4 ⟨u, hr, h4⟩ => ?_)))
      subst hr
      dsimp only
      refine wpAny_bind (thn h4 fun _ s5 ⟨x, H5, I5, r5, y5, st5, fr5⟩ => ?_)
      have I5' := I5.pinned (stat fr5) (T.obj _ _ st5)
      refine wpAny_bind (wpAny_mono (hg P2.objs.size fp pins s2 H2 _ s5 σ3 H5 x u _ I5' r5 (step x H5 y5)) (fun _ s6 ⟨σ6, H6, I6, q6⟩ => ?_) fun _ _ z => False.elim z)
      have again : ∀ {s7 : Shared} {σ7 : St} {H7 : Hp}, Inv (compCx1 X N scope cl y P2.objs.size fp pins s2 H2) ([] ++ pinsAt fp s5.heap) σ7 H7 s7 → N' σ7 H7 → ∃ m, m < n ∧ ∃ i σ' H', Inv (compCx1 X N scope cl y P2.objs.size fp pins s2 H2) [] σ' H' s7 ∧ tn i s7.heap ∧ (∀ b ∈ fp, H' b = none) ∧ W i m σ' H' := fun {s7 σ7 H7} I7 n7 => by
        obtain ⟨m', hm, w7⟩ := hN σ7 H7 n7
        refine ⟨m', hm, i + 1, σ7, H7, I7.unpinned, T.keep _ _ _ st5 fun b hb o e => (I7.pin (b, o) (List.mem_append_right _ (List.mem_append_right _ (mem_pinsAt hb e)))).1, fun b hb => ?_, w7⟩
        obtain ⟨o, e, d⟩ := T.obj _ _ st5 b hb
        exact (I7.pin (b, o) (List.mem_append_right _ (List.mem_append_right _ (mem_pinsAt hb e)))).2.1
      refine wpAny_bind (wpAny_mono (hc P2.objs.size fp pins s2 H2 _ s6 σ6 H6 _ I6 q6) (fun b s7 ⟨H7, I7, q7⟩ => ?_) fun _ _ z => False.elim z)
      cases b with
      | false =>
        rw [if_neg Bool.false_ne_true] at q7
        exact wpAny_pure ⟨rfl, again I7 q7⟩
      | true =>
        rw [if_pos rfl] at q7
        refine wpAny_bind (wpAny_bind (wpAny_mono (he P2.objs.size fp pins s2 H2 _ s7 σ6 H7 _ I7 q7) (fun yv s8 ⟨v8, H8, I8, r8, ys, hys, hlen, q8⟩ => ?_) fun _ _ z => False.elim z))
        refine wpAny_bind (wpAny_mono (mt_append (X := compCx1 X N scope cl y P2.objs.size fp pins s2 H2) _ s8 σ6 H8 (.ref s2.heap.objs.size) [v8] (.ref s2.heap.objs.size) [yv] (fun _ H9 => N' σ6 H9) I8 rfl (.cons r8 .nil) ⟨_, ys, v8, rfl, rfl, hys, hlen, q8⟩) (fun _ s9 ⟨v9, H9, I9, _, q9⟩ => ?_) fun _ _ z => False.elim z)
        exact wpAny_pure (wpAny_pure ⟨rfl, again I9 q9⟩)
  exact codeAny_compStart_list (loop _ rfl) (T.self _ 0 _ _ _ st0 (loop _ rfl))
end
end L2

/-! Own rules: any, sum in a comprehension's block; an expression that is never reached. -/
namespace L2
open PySem PySem.Spec PyProof.Rows
section
variable {X : Cx} {K : PySem.W.Frag}
theorem pi_listK {tg l : Expr} {tl : TE} (hK : X.K = K) (hl : PE X l tl) : PI X tg l (iList K tl) := by
  subst hK
  exact pi_list hl
end
end L2

/-! Own rules: text.replace (the model looks at the tokens of its two texts), list.count. -/
namespace L2
open PySem PySem.Spec PyProof.Rows
/-- an expression, statements from a state in which some token has been given -/
def PEp (X : Cx) (e : Expr) (t : TE) : Prop :=
  ∀ (pins : List (Addr × Obj)) (s : Shared) (σ : St) (H : Hp) (Q : VK), Inv X pins σ H s → 0 < s.toks → t σ H Q → wpAny (model X.prog X.w) X.A (eval e X.env) (EP X pins σ Q) X.xe s
def PSsp (X : Cx) (st : List Stmt) (t : TS) : Prop :=
  ∀ (pins : List (Addr × Obj)) (s : Shared) (σ : St) (H : Hp) (D : Ends), Inv X pins σ H s → 0 < s.toks → t D σ H → wpAny (model X.prog X.w) X.A (execs st X.env) (SP X pins D) X.xe s
section
variable {X : Cx}
/-- x.replace(y, z), y and z written, behind a token -/
def tRepl (i : Nat) (y z : Str) : TE := fun σ H Q => ∃ v, σ[i]? = some (some v) ∧ ∃ t : Str, v = .str t ∧ t.length ≤ 1000000 ∧ Q (.str (PySem.Txt.replace t y z)) H
/-- if x == 'c': body, then the rest: where x is another text, a token has been given (that of 'c') -/
def tIfP (i : Nat) (c : Str) (tb tr tp : TS) : TS := fun D σ H => ∃ v, σ[i]? = some (some v) ∧ ∃ t : Str, v = .str t ∧ if (t == c) = true then tSeq tb tr D σ H else tp D σ H
end
end L2

/-! Own rules: a def that may refuse, called where it does not; try: f(..) except S as n. -/
namespace L2
open PySem PySem.Spec PyProof.Rows
def EF : XK := fun _ _ _ => False
section
variable {X : Cx}
/-- try: f(..) except S as n: suite -/
def tTryE (K : PySem.W.Frag) (S : Addr) (j : Nat) (sp : Sp) (ta : TA) (ts : TS) : TS := fun D σ H => ta σ H fun vs H1 => sp vs H1 (fun _ H2 => D.nx σ H2)
  (fun c _ H2 => ∃ C, c = .ref C ∧ PySem.W.mroIn K C (.ref S) = some true ∧ ∀ e, H2 e = none →
    ts { nx := fun σ3 H3 => D.nx (σ3.set j none) H3, rt := D.rt, bk := fun σ3 H3 => D.bk (σ3.set j none) H3, ct := fun σ3 H3 => D.ct (σ3.set j none) H3 } (σ.set j (some (.ref e))) (upd H2 e (exO e C)))
end
end L2

/-! Own rules: text.split(sep), sep.join(texts); what is joined and split again. -/
namespace L2
open PySem PySem.Spec PyProof.Rows
section
variable {X : Cx}
def rSplit : V → List V → Hp → VK → Prop := fun x xs H Q => ∃ t y : Str, x = .str t ∧ xs = [.str y] ∧ (y.length == 0) = false ∧ t.length + 2 ≤ sizeLine ∧ ∀ D, H D = none → Q (.ref D) (upd H D (.lst ((Txt.split t y).map V.str)))
def rJoin (K : PySem.W.Frag) : V → List V → Hp → VK → Prop := fun x xs H Q => ∃ (z : Str) (l : Addr) (ts : List Str), x = .str z ∧ xs = [.ref l] ∧ SqL K H l (ts.map V.str) ∧ (ts.map (·.length)).sum + ts.length * z.length ≤ 16777216 ∧ Q (.str (Str.join z ts)) H
end
/-! what is joined and split again -/
end L2

/-! Own: sorting fewer than 64 unlike items puts them in order. -/
namespace L2
open PySem PyProof.Rows PySem.W
section
variable {n : Nat} {lt : Nat → Nat → Bool} {cmp : Nat → Nat → (Bool → Shared → Prop) → Shared → Prop} {s : Shared}
/-- a strict order of the numbers below n -/
structure Ord (n : Nat) (lt : Nat → Nat → Bool) : Prop where
  tot : ∀ i j, i < n → j < n → i ≠ j → lt j i = !lt i j
  tr : ∀ i j k, i < n → j < n → k < n → lt i j = true → lt j k = true → lt i k = true
/-- the places 0 .. n-1 in some order -/
def Mix (n : Nat) (p : Array Nat) : Prop := p.toList.Perm (List.range n)
theorem Mix.size {p : Array Nat} (h : Mix n p) : p.size = n := by
  have := h.length_eq
  rwa [List.length_range, Array.length_toList] at this
theorem getD_at {p : Array Nat} {i : Nat} (h : i < p.size) : p[i]? = some (p.getD i 0) := by
  rw [Array.getElem?_eq_getElem h]
  simp [Array.getD, h]
theorem Mix.below {p : Array Nat} (h : Mix n p) {i : Nat} (hi : i < n) : p.getD i 0 < n := by
  have e := getD_at (p := p) (i := i) (by rw [h.size]; exact hi)
  have m : p.getD i 0 ∈ p.toList := List.mem_of_getElem? (by rw [Array.getElem?_toList]; exact e)
  exact List.mem_range.mp (h.mem_iff.mp m)
theorem Mix.ne {p : Array Nat} (h : Mix n p) {i j : Nat} (hi : i < n) (hj : j < n) (hij : i ≠ j) : p.getD i 0 ≠ p.getD j 0 := by
  intro e
  have nd : p.toList.Nodup := h.nodup_iff.mpr List.nodup_range
  have hz := h.size
  have e1 : p.toList[i]'(by rw [Array.length_toList]; omega) = p.getD i 0 := by
    have := getD_at (p := p) (i := i) (by omega)
    rw [← Array.getElem?_toList, List.getElem?_eq_getElem (by rw [Array.length_toList]; omega)] at this
    exact Option.some.inj this
  have e2 : p.toList[j]'(by rw [Array.length_toList]; omega) = p.getD j 0 := by
    have := getD_at (p := p) (i := j) (by omega)
    rw [← Array.getElem?_toList, List.getElem?_eq_getElem (by rw [Array.length_toList]; omega)] at this
    exact Option.some.inj this
  exact hij ((List.getElem_inj nd).mp (by rw [e1, e2, e]))
/-- the first m places rise -/
def Asc (lt : Nat → Nat → Bool) (p : Array Nat) (m : Nat) : Prop := ∀ i j, i < j → j < m → lt (p.getD i 0) (p.getD j 0) = true
/-- each next one is greater, so all rise -/
theorem asc_of (O : Ord n lt) {p : Array Nat} (M : Mix n p) : ∀ {m : Nat}, m ≤ n → (∀ i, 1 ≤ i → i < m → lt (p.getD (i - 1) 0) (p.getD i 0) = true) → Asc lt p m
  | 0, _, _ => fun _ _ _ h => absurd h (by omega)
  | m + 1, hm, h => by
    have ih := asc_of O M (m := m) (by omega) fun i h1 h2 => h i h1 (by omega)
    intro i j hij hj
    by_cases e : j = m
    · subst e
      by_cases e2 : i = j - 1
      · subst e2
        exact h j (by omega) (by omega)
      · exact O.tr _ _ _ (M.below (by omega)) (M.below (i := j - 1) (by omega)) (M.below (by omega)) (ih i (j - 1) (by omega) (by omega)) (h j (by omega) (by omega))
    · exact ih i j hij (by omega)
/-- a comparison that changes nothing -/
def Says (n : Nat) (lt : Nat → Nat → Bool) (cmp : Nat → Nat → (Bool → Shared → Prop) → Shared → Prop) (s : Shared) : Prop := ∀ i j, i < n → j < n → i ≠ j → ∀ C : Bool → Shared → Prop, C (lt i j) s → cmp i j C s
theorem asc_wp (S : Says n lt cmp s) {p : Array Nat} (M : Mix n p) {G : Nat → Shared → Prop} : ∀ (f m : Nat), 1 ≤ m → m + f ≤ n →
    (∀ k, m ≤ k → k ≤ m + f → (∀ i, m ≤ i → i < k → lt (p.getD i 0) (p.getD (i - 1) 0) = false) → (k < m + f → lt (p.getD k 0) (p.getD (k - 1) 0) = true) → G k s) → (kas_asc p f m).kasWp cmp G s
  | 0, m, _, _, h => h m (Nat.le_refl _) (Nat.le_refl _) (fun i h1 h2 => absurd h2 (by omega)) (fun z => absurd z (by omega))
  | f + 1, m, h1, hm, h => by
    refine S _ _ (M.below (by omega)) (M.below (by omega)) (M.ne (by omega) (by omega) (by omega)) _ ?_
    cases e : lt (p.getD m 0) (p.getD (m - 1) 0) with
    | true => exact h m (Nat.le_refl _) (by omega) (fun i a b => absurd b (by omega)) fun _ => e
    | false =>
      refine asc_wp S M f (m + 1) (by omega) (by omega) fun k a b c d => h k (by omega) (by omega) (fun i x y => ?_) fun z => d (by omega)
      by_cases ei : i = m
      · subst ei
        exact e
      · exact c i (by omega) y
theorem desc_wp (O : Ord n lt) (S : Says n lt cmp s) {p : Array Nat} (M : Mix n p) {G : Array Nat × Nat × Nat → Shared → Prop} : ∀ (f m : Nat), 1 ≤ m → m + f ≤ n →
    (∀ k, m ≤ k → k ≤ m + f → (∀ i, m ≤ i → i < k → lt (p.getD i 0) (p.getD (i - 1) 0) = true) → G (p, k, 0) s) → (kas_desc f p m 0).kasWp cmp G s
  | 0, m, _, _, h => h m (Nat.le_refl _) (Nat.le_refl _) fun i a b => absurd b (by omega)
  | f + 1, m, h1, hm, h => by
    refine S _ _ (M.below (by omega)) (M.below (by omega)) (M.ne (by omega) (by omega) (by omega)) _ ?_
    cases e : lt (p.getD m 0) (p.getD (m - 1) 0) with
    | true =>
      show (if 0 > 0 then kas_desc f (kas_rev p (m - (0 + 1)) m) (m + 1) 0 else kas_desc f p (m + 1) 0).kasWp cmp G s
      rw [if_neg (by decide)]
      refine desc_wp O S M f (m + 1) (by omega) (by omega) fun k a b c => h k (by omega) (by omega) fun i x y => ?_
      by_cases ei : i = m
      · subst ei
        exact e
      · exact c i (by omega) y
    | false =>
      have e2 : lt (p.getD (m - 1) 0) (p.getD m 0) = true := by
        rw [O.tot _ _ (M.below (i := m) (by omega)) (M.below (i := m - 1) (by omega)) (M.ne (by omega) (by omega) (by omega)), e]
        rfl
      refine S _ _ (M.below (i := m - 1) (by omega)) (M.below (by omega)) (M.ne (by omega) (by omega) (by omega)) _ ?_
      rw [e2]
      exact h m (Nat.le_refl _) (by omega) fun i a b => absurd b (by omega)
theorem Mix.rev {p : Array Nat} (M : Mix n p) (i j : Nat) : Mix n (kas_rev p i j) := (Array.perm_iff_toList_perm.mp (mirror_perm p i j _)).trans M
theorem rev_at {p : Array Nat} {m i : Nat} (hm : m ≤ p.size) (hi : i < m) : (kas_rev p 0 m).getD i 0 = p.getD (m - 1 - i) 0 := by
  have e := getElem?_mirror_all (xs := p) (i := 0) (j := m) hm i
  rw [if_pos ⟨Nat.zero_le _, hi⟩, Nat.zero_add, getD_at (p := p) (i := m - 1 - i) (by omega)] at e
  have e2 := getD_at (p := kas_rev p 0 m) (i := i) (by show i < (mirror p 0 m _).size; rw [mirror_size]; omega)
  exact Option.some.inj (e2.symm.trans e)
theorem tail3_wp (O : Ord n lt) (S : Says n lt cmp s) {p : Array Nat} (M : Mix n p) {m : Nat} (h1 : 1 ≤ m) (hm : m ≤ n) (hd : ∀ i, 1 ≤ i → i < m → lt (p.getD i 0) (p.getD (i - 1) 0) = true) {G : Nat × Array Nat → Shared → Prop}
    (h : ∀ k p', 1 ≤ k → k ≤ n → Mix n p' → Asc lt p' k → G (k, p') s) : (kas_tail3 m n p).kasWp cmp G s := by
  have hz := M.size
  have M' := M.rev 0 m
  unfold kas_tail3
  rw [KasT.kasWp_bind]
  refine asc_wp S M' (n - m) m h1 (by omega) fun k a b c _ => h k _ (by omega) (by omega) M' (asc_of O M' (by omega) fun i x y => ?_)
  by_cases ei : i < m
  · rw [rev_at (by omega) (show i - 1 < m by omega), rev_at (by omega) ei]
    have := hd (m - i) (by omega) (by omega)
    rw [show m - 1 - (i - 1) = m - i by omega, show m - 1 - i = m - i - 1 by omega]
    exact this
  · have := c i (by omega) y
    rw [O.tot _ _ (M'.below (i := i) (by omega)) (M'.below (i := i - 1) (by omega)) (M'.ne (by omega) (by omega) (by omega)), this]
    rfl
theorem count_wp (O : Ord n lt) (S : Says n lt cmp s) {p : Array Nat} (M : Mix n p) (h2 : 2 ≤ n) {G : Nat × Array Nat → Shared → Prop} (h : ∀ k p', 1 ≤ k → k ≤ n → Mix n p' → Asc lt p' k → G (k, p') s) : (kas_count n p).kasWp cmp G s := by
  unfold kas_count
  rw [KasT.kasWp_bind]
  refine asc_wp S M (n - 1) 1 (Nat.le_refl _) (by omega) fun k a b c d => ?_
  have hA : Asc lt p k := asc_of O M (by omega) fun i x y => by
    have := c i x y
    rw [O.tot _ _ (M.below (i := i) (by omega)) (M.below (i := i - 1) (by omega)) (M.ne (by omega) (by omega) (by omega)), this]
    rfl
  by_cases e : k = n
  · subst e
    rw [if_pos (by simp)]
    exact h k p a (by omega) M hA
  · rw [if_neg (by simpa using e)]
    by_cases k1 : k > 1
    · rw [if_pos k1]
      refine S _ _ (M.below (by omega)) (M.below (by omega)) (M.ne (by omega) (by omega) (by omega)) _ ?_
      rw [hA 0 (k - 1) (by omega) (by omega)]
      exact h k p a (by omega) M hA
    · rw [if_neg k1]
      have ek : k = 1 := by omega
      subst ek
      unfold kas_descPart
      rw [KasT.kasWp_bind]
      refine desc_wp O S M (n - (1 + 1)) (1 + 1) (by omega) (by omega) fun k a b c => ?_
      show (if 0 > 0 then kas_tail3 k n (kas_rev p (k - (0 + 1)) k) else kas_tail3 k n p).kasWp cmp G s
      rw [if_neg (by decide)]
      refine tail3_wp O S M (by omega) (by omega) (fun i x y => ?_) h
      by_cases ei : i = 1
      · subst ei
        exact d (by omega)
      · exact c i (by omega) y
theorem place_wp (O : Ord n lt) (S : Says n lt cmp s) {p : Array Nat} (M : Mix n p) {k : Nat} (hk : k < n) (hA : Asc lt p k) {G : Nat → Shared → Prop}
    (h : ∀ l, l ≤ k → (∀ i, i < l → lt (p.getD i 0) (p.getD k 0) = true) → (∀ i, l ≤ i → i < k → lt (p.getD k 0) (p.getD i 0) = true) → G l s) :
    ∀ (f l r : Nat), l ≤ r → r ≤ k → r - l ≤ f → (∀ i, i < l → lt (p.getD i 0) (p.getD k 0) = true) → (∀ i, r ≤ i → i < k → lt (p.getD k 0) (p.getD i 0) = true) → (kas_place p k f l r).kasWp cmp G s
  | 0, l, r, hlr, hr, hf, a, b => h l (by omega) a fun i x y => b i (by omega) y
  | f + 1, l, r, hlr, hr, hf, a, b => by
    unfold kas_place
    by_cases c : l ≥ r
    · rw [if_pos c]
      exact h l (by omega) a fun i x y => b i (by omega) y
    · rw [if_neg c]
      refine S _ _ (M.below (by omega)) (M.below (by omega)) (M.ne (by omega) (by omega) (by omega)) _ ?_
      cases e : lt (p.getD k 0) (p.getD ((l + r) / 2) 0) with
      | true =>
        refine place_wp O S M hk hA h f l ((l + r) / 2) (by omega) (by omega) (by omega) a fun i x y => ?_
        by_cases ei : i = (l + r) / 2
        · subst ei
          exact e
        · exact O.tr _ _ _ (M.below (by omega)) (M.below (i := (l + r) / 2) (by omega)) (M.below (by omega)) e (hA _ _ (by omega) y)
      | false =>
        have e2 : lt (p.getD ((l + r) / 2) 0) (p.getD k 0) = true := by
          rw [O.tot _ _ (M.below (i := k) (by omega)) (M.below (i := (l + r) / 2) (by omega)) (M.ne (by omega) (by omega) (by omega)), e]
          rfl
        refine place_wp O S M hk hA h f ((l + r) / 2 + 1) r (by omega) hr (by omega) (fun i x => ?_) b
        by_cases ei : i = (l + r) / 2
        · subst ei
          exact e2
        · exact O.tr _ _ _ (M.below (by omega)) (M.below (i := (l + r) / 2) (by omega)) (M.below (by omega)) (hA _ _ (by omega) (by omega)) e2
theorem bub_at {p : Array Nat} {k l i : Nat} (hk : k < p.size) (hl : l ≤ k) (hi : i < p.size) : (bubble p k (k - l)).getD i 0 = if i = l then p.getD k 0 else if l < i ∧ i ≤ k then p.getD (i - 1) 0 else p.getD i 0 := by
  have e := getElem?_bubble hk (k - l) (by omega) i
  rw [show k - (k - l) = l by omega, getD_at (p := bubble p k (k - l)) (i := i) (by rw [bubble_size]; exact hi), getD_at hk, getD_at hi] at e
  by_cases c1 : i = l
  · rw [if_pos c1] at e ⊢
    exact Option.some.inj e
  · rw [if_neg c1] at e ⊢
    by_cases c2 : l < i ∧ i ≤ k
    · rw [if_pos c2, getD_at (p := p) (i := i - 1) (by omega)] at e
      rw [if_pos c2]
      exact Option.some.inj e
    · rw [if_neg c2] at e ⊢
      exact Option.some.inj e
theorem Mix.bub {p : Array Nat} (M : Mix n p) (k d : Nat) : Mix n (bubble p k d) := (Array.perm_iff_toList_perm.mp (bubble_perm p k d)).trans M
theorem bin_wp (O : Ord n lt) (S : Says n lt cmp s) {G : Array Nat → Shared → Prop} (h : ∀ p', Mix n p' → Asc lt p' n → G p' s) : ∀ (f : Nat) (p : Array Nat) (k : Nat), Mix n p → k + f = n → Asc lt p k → (kas_bin f p k).kasWp cmp G s
  | 0, p, k, M, hk, hA => h p M (by rw [show n = k by omega]; exact hA)
  | f + 1, p, k, M, hk, hA => by
    have hz := M.size
    unfold kas_bin
    rw [KasT.kasWp_bind]
    refine place_wp O S M (by omega) hA (fun l hl a b => ?_) k 0 k (Nat.zero_le _) (Nat.le_refl _) (by omega) (fun i x => absurd x (by omega)) (fun i x y => absurd y (by omega))
    refine bin_wp O S h f _ (k + 1) (M.bub k (k - l)) (by omega) fun i j hij hj => ?_
    rw [bub_at (by omega) hl (by omega), bub_at (by omega) hl (by omega)]
    by_cases ci : i = l
    · rw [if_pos ci, if_neg (by omega), if_pos ⟨by omega, by omega⟩]
      exact b (j - 1) (by omega) (by omega)
    · rw [if_neg ci]
      by_cases cj : j = l
      · rw [if_pos cj, if_neg (by omega)]
        exact a i (by omega)
      · rw [if_neg cj]
        by_cases c2 : l < j ∧ j ≤ k
        · rw [if_pos c2]
          by_cases c3 : l < i ∧ i ≤ k
          · rw [if_pos c3]
            exact hA _ _ (by omega) (by omega)
          · rw [if_neg c3]
            exact hA _ _ (by omega) (by omega)
        · rw [if_neg c2]
          by_cases c3 : l < i ∧ i ≤ k
          · omega
          · rw [if_neg c3]
            exact hA _ _ hij (by omega)
theorem sort_wp (O : Ord n lt) (S : Says n lt cmp s) (h2 : 2 ≤ n) {G : Array Nat → Shared → Prop} (h : ∀ p', Mix n p' → Asc lt p' n → G p' s) : (kas_sort n).kasWp cmp G s := by
  unfold kas_sort
  rw [KasT.kasWp_bind]
  have M0 : Mix n (List.toArray (List.range n)) := by
    show (List.toArray (List.range n)).toList.Perm _
    rw [List.toList_toArray]
  refine count_wp O S M0 h2 fun k p' a b M hA => ?_
  by_cases c : k < n
  · show (if k < n then kas_bin (n - max k 1) p' (max k 1) else KasT.ret p').kasWp cmp G s
    rw [if_pos c]
    rw [show max k 1 = k by omega]
    exact bin_wp O S h _ _ _ M (by omega) hA
  · show (if k < n then kas_bin (n - max k 1) p' (max k 1) else KasT.ret p').kasWp cmp G s
    rw [if_neg c]
    exact h p' M (by rw [show n = k by omega]; exact hA)
end
end L2

/-! Own rule: sorted of fewer than 64 unlike pairs of numbers. -/
namespace L2
open PySem PySem.Spec PyProof.Rows PySem.W
theorem pick_paired {α β : Type} {R : α → β → Prop} (da : α) (db : β) {xs : List α} {ys : List β} (h : Paired R xs ys) : ∀ (q : List Nat), (∀ i ∈ q, i < xs.length) → Paired R (q.map fun i => xs.getD i da) (q.map fun i => ys.getD i db)
  | [], _ => .nil
  | i :: q, hq => by
    refine .cons ?_ (pick_paired da db h q fun j hj => hq j (List.mem_cons_of_mem _ hj))
    have hi := hq i List.mem_cons_self
    clear hq
    induction h generalizing i with
    | nil => exact absurd hi (by simp)
    | cons r t ih =>
      cases i with
      | zero => exact r
      | succ i =>
        have := ih i (by simpa using hi)
        simpa using this
theorem pick_range {α : Type} (d : α) (xs : List α) : ((List.range xs.length).map fun i => xs.getD i d) = xs := by
  refine List.ext_getElem (by simp) fun i h1 h2 => ?_
  simp [h2]
theorem lt2_tot {p q : Int × Int} (h : p ≠ q) : lt2 q p = !lt2 p q := by
  unfold lt2
  obtain ⟨a, b⟩ := p
  obtain ⟨c, d⟩ := q
  simp only
  by_cases e : a = c
  · subst e
    rw [if_pos rfl, if_pos rfl]
    have hb : b ≠ d := fun z => h (by rw [z])
    by_cases l : b < d
    · rw [decide_eq_true l, decide_eq_false (by omega)]
      rfl
    · rw [decide_eq_false l, decide_eq_true (by omega)]
      rfl
  · rw [if_neg e, if_neg (fun z => e z.symm)]
    by_cases l : a < c
    · rw [decide_eq_true l, decide_eq_false (by omega)]
      rfl
    · rw [decide_eq_false l, decide_eq_true (by omega)]
      rfl
theorem lt2_tr {p q r : Int × Int} (h1 : lt2 p q = true) (h2 : lt2 q r = true) : lt2 p r = true := by
  unfold lt2 at *
  obtain ⟨a, b⟩ := p
  obtain ⟨c, d⟩ := q
  obtain ⟨e, f⟩ := r
  simp only at *
  by_cases e1 : a = c
  · subst e1
    rw [if_pos rfl, decide_eq_true_eq] at h1
    by_cases e2 : a = e
    · subst e2
      rw [if_pos rfl, decide_eq_true_eq] at h2 ⊢
      omega
    · rw [if_neg e2] at h2 ⊢
      exact h2
  · rw [if_neg e1, decide_eq_true_eq] at h1
    by_cases e2 : c = e
    · subst e2
      rw [if_neg e1, decide_eq_true_eq]
      exact h1
    · rw [if_neg e2, decide_eq_true_eq] at h2
      rw [if_neg (by omega), decide_eq_true_eq]
      omega
/-- rising pairs -/
def Up2 (ps : List (Int × Int)) : Prop := ps.Pairwise fun p q => lt2 p q = true
section
variable {X : Cx}
theorem call_sorted2 : CallR X (.builtin "sorted") (fun xs H Q => ∃ l us ps, xs = [.ref l] ∧ SqL X.K H l us ∧ Tup2 H us ps ∧ ps.Nodup ∧ us.length < 64 ∧
    ∀ d us' ps', H d = none → Tup2 H us' ps' → ps'.Perm ps → Up2 ps' → Q (.ref d) (upd H d (.lst us'))) := by
  intro pins s σ H xs us' Q I r h
  obtain ⟨l, us, ps, rfl, hq, ht, hnd, h64, q⟩ := h
  obtain ⟨u, rfl, ru⟩ := vals1 r
  cases ru
  obtain ⟨its, rv, pl, hz⟩ := I.list hq
  have hl := rv.length
  have hp := Tup2.pairs I ht rv
  have hlp : its.length = ps.length := Paired.length hp
  have at_ : ∀ {i : Nat}, i < its.length → ps[i]? = some (ps.getD i (0, 0)) := fun {i} hi => by
    rw [List.getElem?_eq_getElem (by omega)]
    simp [List.getD, List.getElem?_eq_getElem (show i < ps.length by omega)]
  have O : Ord its.length (fun i j => lt2 (ps.getD i (0, 0)) (ps.getD j (0, 0))) := by
    refine ⟨fun i j hi hj hij => lt2_tot fun e => hij ?_, fun i j k _ _ _ a b => lt2_tr a b⟩
    have e1 := at_ hi
    have e2 := at_ hj
    rw [List.getElem?_eq_getElem (by omega)] at e1 e2
    exact (List.getElem_inj hnd).mp ((Option.some.inj e1).trans (e.trans (Option.some.inj e2).symm))
  refine srt_call (vs := its) pl.isList (by omega) (fun p => Mix its.length p ∧ Asc (fun i j => lt2 (ps.getD i (0, 0)) (ps.getD j (0, 0))) p its.length) (fun h2 => ⟨?_, fun i j hij hj => absurd hij (by omega)⟩) (fun h2 s' kk => ?_) fun p h' c hps hg kk ha => ?_
  · show (List.toArray (List.range its.length)).toList.Perm _
    rw [List.toList_toArray]
  · have hp' := pairs_kept kk hp
    obtain ⟨fs, hk, hfl, hint⟩ := pairs_firsts hp'
    refine kat_kind (T := .type "int") hk (by omega) (fun v hv => ?_) (by decide) ⟨rfl, sort_wp O (fun i j hi hj _ C hC => ?_) h2 fun p' M hA => ⟨rfl, M, hA⟩⟩
    · obtain ⟨x, t, rfl⟩ := hint v hv
      exact Looks.of_pure rfl
    · unfold kas_cmp
      rw [kas_item_eq, kas_item_eq]
      show wpAny _ _ (keyLt' (tuples' true) (its.getD i Value.none) (its.getD j Value.none)) C _ _
      exact pair_lt (pairs_get hp' (at_ hi)) (pairs_get hp' (at_ hj)) hC
  · obtain ⟨M, hA⟩ := hg
    have hm : ∀ i ∈ p.toList, i < its.length := fun i hi => List.mem_range.mp (M.mem_iff.mp hi)
    have hD : H (s.heap.objs.size + 1) = none := I.hok.fresh (Nat.le_succ _)
    have rv' : Vals (p.toList.map fun i => us.getD i V.non) (p.toList.map fun i => its.getD i Value.none) := pick_paired V.non Value.none rv p.toList fun i hi => by rw [hl]; exact hm i hi
    have ht' : Tup2 H (p.toList.map fun i => us.getD i V.non) (p.toList.map fun i => ps.getD i (0, 0)) := pick_paired V.non (0, 0) ht p.toList fun i hi => by rw [hl]; exact hm i hi
    have hperm : (p.toList.map fun i => ps.getD i (0, 0)).Perm ps := by
      have := List.Perm.map (fun i => ps.getD i (0, 0)) M
      rw [hlp, pick_range] at this
      exact this
    have hup : Up2 (p.toList.map fun i => ps.getD i (0, 0)) := by
      unfold Up2
      rw [List.pairwise_iff_getElem]
      intro i j hi hj hij
      rw [List.length_map, Array.length_toList] at hi hj
      have := hA i j hij (by omega)
      simp only [List.getElem_map, Array.getElem_toList]
      simpa [Array.getD, hi, hj] using this
    refine ⟨.ref (s.heap.objs.size + 1), upd H (s.heap.objs.size + 1) (.lst (p.toList.map fun i => us.getD i V.non)), I.laid (t' := s.toks) kk (Nat.le_succ _) ⟨?_, _, c, rv', ha⟩, rfl, q _ _ _ hD ht' hperm hup⟩
    rw [List.length_map, Array.length_toList, hps]
    exact Nat.le_trans (show its.length ≤ 64 by omega) (by decide)
end
end L2

/-! Own rule: if e == c: return x.replace(y, z, 1). -/
namespace L2
open PySem PySem.Spec PyProof.Rows
section
variable {X : Cx}
def tRepl1 (i : Nat) (z : Str) : TE := fun σ H Q => ∃ v, σ[i]? = some (some v) ∧ ∃ t : Str, v = .str t ∧ t.length ≤ 1000 ∧ ∀ r : Str, r.length ≤ (t.length + z.length) * 2 → (∀ c ∈ r.cps.toList, c ∈ t.cps.toList ∨ c ∈ z.cps.toList) → Q (.str r) H
/-- if a == c: body, where body begins behind the token of c -/
def tIfC (ta : TE) (c : Int) (tb tu : TS) : TS := fun D σ H => ta σ H fun x H1 => ∃ i : Int, x = .int i ∧ if decide (i = c) = true then tb D σ H1 else tu D σ H1
end
end L2

/-! Own rule: sorted of fewer than 64 lists whose first items are unlike pairs. -/
namespace PySem.SeqAt
open L2 AutoSeq1 MeetsSeq MeetsSeq2 MeetsSeq3
def RcLtAt (A : Around) (s : Shared) (y x : Value) (b : Bool) : Prop := ∀ (prog : Program) (w : World) (E : Value → Shared → Prop) (Q : Value → Shared → Prop), Q (.bool b) s → wpAny (model prog w) A (richCompare .Lt y x) Q E s
/-- a list whose first item is this pair -/
structure FirstPair (h : Heap) (v : Value) (p : Int × Int) : Prop where
  ex : ∃ a o xs n f, v = .ref a ∧ h.get? a = some o ∧ o.cls = .type "list" ∧ o.data = .seq xs n ∧ xs[0]? = some f ∧ IntPair h f p
end PySem.SeqAt
namespace L2
open PySem PySem.Spec PyProof.Rows PySem.W PySem.SeqAt
/-- lists, each with a first pair -/
def Firsts (H : Hp) : List V → List (Int × Int) → Prop := Paired fun v p => ∃ a ws b, v = V.ref a ∧ H a = some (.lst (.ref b :: ws)) ∧ H b = some (.tup [.int p.1, .int p.2])
section
variable {X : Cx} {pins : List (Addr × Obj)} {σ : St} {H : Hp} {s : Shared}
end
section
variable {X : Cx}
end
end L2

namespace L2
open PySem PySem.Spec PyProof.Rows

/-! ### lists of pairs as tables -/
section
variable {κ : Type} [DecidableEq κ]
def valV (kvs : List (κ × V)) (k : κ) : Option V := (kvs.find? fun kv => decide (kv.1 = k)).map (·.2)
/-- in its place, or at the end -/
def putK (kvs : List (κ × V)) (k : κ) (v : V) : List (κ × V) :=
  if (kvs.any fun kv => decide (kv.1 = k)) = true then kvs.map (fun kv => if kv.1 = k then (kv.1, v) else kv) else kvs ++ [(k, v)]
def dropK (kvs : List (κ × V)) (k : κ) : List (κ × V) := kvs.filter fun kv => decide (kv.1 ≠ k)

theorem valV_pos {p : κ × V} {r : List (κ × V)} {k : κ} (e : p.1 = k) : valV (p :: r) k = some p.2 := by simp [valV, List.find?_cons, e]
theorem valV_neg {p : κ × V} {r : List (κ × V)} {k : κ} (e : ¬ p.1 = k) : valV (p :: r) k = valV r k := by simp [valV, List.find?_cons, e]
theorem valV_any (k : κ) : ∀ kvs : List (κ × V), (kvs.any fun kv => decide (kv.1 = k)) = (valV kvs k).isSome
  | [] => rfl
  | p :: r => by
    rw [List.any_cons]
    by_cases e : p.1 = k
    · simp only [valV_pos e, decide_eq_true e, Bool.true_or, Option.isSome_some]
    · rw [valV_neg e, decide_eq_false e, Bool.false_or]; exact valV_any k r
theorem valV_map (k j : κ) (y : V) : ∀ kvs : List (κ × V), valV (kvs.map fun kv => if kv.1 = k then (kv.1, y) else kv) j = (valV kvs j).map fun x => if j = k then y else x
  | [] => rfl
  | p :: r => by
    have ih := valV_map k j y r
    rw [List.map_cons]
    by_cases h : p.1 = k
    · rw [if_pos h]
      by_cases e : p.1 = j
      · rw [valV_pos (p := (p.1, y)) e, valV_pos e, Option.map_some, if_pos (e.symm.trans h)]
      · rw [valV_neg (p := (p.1, y)) e, valV_neg e, ih]
    · rw [if_neg h]
      by_cases e : p.1 = j
      · rw [valV_pos (p := p) e, valV_pos e, Option.map_some, if_neg (fun z => h (e.trans z))]
      · rw [valV_neg (p := p) e, valV_neg e, ih]
theorem valV_snoc (k j : κ) (y : V) : ∀ kvs : List (κ × V), valV kvs k = none → valV (kvs ++ [(k, y)]) j = if j = k then some y else valV kvs j
  | [], _ => by
    by_cases e : k = j
    · rw [if_pos e.symm]; exact valV_pos (p := (k, y)) e
    · rw [if_neg (fun z => e z.symm)]; exact valV_neg (p := (k, y)) e
  | p :: r, hn => by
    rw [List.cons_append]
    have hk : ¬ p.1 = k := fun z => by rw [valV_pos z] at hn; cases hn
    rw [valV_neg hk] at hn
    have ih := valV_snoc k j y r hn
    by_cases e : p.1 = j
    · rw [valV_pos e, valV_pos e, if_neg (fun z => hk (e.trans z))]
    · rw [valV_neg e, valV_neg e, ih]
theorem valV_put (kvs : List (κ × V)) (k j : κ) (y : V) : valV (putK kvs k y) j = if j = k then some y else valV kvs j := by
  unfold putK
  by_cases a : (kvs.any fun kv => decide (kv.1 = k)) = true
  · rw [if_pos a, valV_map]
    rw [valV_any] at a
    by_cases e : j = k
    · obtain ⟨x, hx⟩ := Option.isSome_iff_exists.mp a
      rw [if_pos e, e, hx, Option.map_some, if_pos rfl]
    · rw [if_neg e]
      cases valV kvs j with
      | none => rfl
      | some x => rw [Option.map_some, if_neg e]
  · rw [if_neg a]
    refine valV_snoc k j y kvs ?_
    rw [valV_any] at a
    cases q : valV kvs k with
    | none => rfl
    | some x => rw [q] at a; exact (a rfl).elim
theorem length_putK (kvs : List (κ × V)) (k : κ) (v : V) : (putK kvs k v).length ≤ kvs.length + 1 := by
  unfold putK
  split
  · rw [List.length_map]; omega
  · rw [List.length_append, List.length_cons, List.length_nil]; omega

theorem RelO.isSome_eq {o : Option V} {u : Option Value} (r : RelO o u) : o.isSome = u.isSome := by
  cases o with
  | none => cases u with
    | none => rfl
    | some _ => exact (show False from r).elim
  | some _ => cases u with
    | none => exact (show False from r).elim
    | some _ => rfl
theorem RelO.getD {o : Option V} {u : Option Value} {d : V} {d' : Value} (r : RelO o u) (rd : RelV d d') : RelV (o.getD d) (u.getD d') := by
  cases o with
  | none => cases u with
    | none => exact rd
    | some _ => exact (show False from r).elim
  | some _ => cases u with
    | none => exact (show False from r).elim
    | some _ => exact r

/-- raw tables of the same keys -/
theorem KV.val {kvs : List (κ × V)} {vs : List (κ × Value)} (r : KV kvs vs) (k : κ) : RelO (valV kvs k) (valueAt vs k) := by
  unfold KV at r
  induction r with
  | nil => exact True.intro
  | @cons p q ps qs h t ih =>
    obtain ⟨h1, h2⟩ := h
    by_cases e : p.1 = k
    · have e' : q.1 = k := h1.symm.trans e
      have b : valueAt (q :: qs) k = some q.2 := by simp [valueAt, List.find?_cons, e']
      rw [valV_pos e, b]; exact h2
    · have e' : ¬ q.1 = k := fun z => e (h1.trans z)
      have b : valueAt (q :: qs) k = valueAt qs k := by simp [valueAt, List.find?_cons, e']
      rw [valV_neg e, b]; exact ih
theorem KV.any {kvs : List (κ × V)} {vs : List (κ × Value)} (r : KV kvs vs) (k : κ) : (kvs.any fun kv => decide (kv.1 = k)) = vs.any fun kv => decide (kv.1 = k) := by
  unfold KV at r
  induction r with
  | nil => rfl
  | cons h t ih => rw [List.any_cons, List.any_cons, ih, h.1]
theorem KV.repl {kvs : List (κ × V)} {vs : List (κ × Value)} (r : KV kvs vs) (k : κ) {y : V} {u : Value} (ry : RelV y u) :
    KV (kvs.map fun kv => if kv.1 = k then (kv.1, y) else kv) (vs.map fun kv => if kv.1 = k then (kv.1, u) else kv) := by
  unfold KV at r ⊢
  induction r with
  | nil => exact .nil
  | @cons p q ps qs h t ih =>
    rw [List.map_cons, List.map_cons]
    refine .cons ?_ ih
    obtain ⟨h1, h2⟩ := h
    by_cases e : p.1 = k
    · rw [if_pos e, if_pos (h1.symm.trans e)]; exact ⟨h1, ry⟩
    · rw [if_neg e, if_neg (fun z => e (h1.trans z))]; exact ⟨h1, h2⟩
theorem KV.put {kvs : List (κ × V)} {vs : List (κ × Value)} (r : KV kvs vs) (k : κ) {y : V} {u : Value} (ry : RelV y u) : KV (putK kvs k y) (stored vs k u) := by
  unfold putK stored
  rw [r.any k]
  by_cases e : (vs.any fun kv => decide (kv.1 = k)) = true
  · rw [if_pos e, if_pos e]; exact r.repl k ry
  · rw [if_neg e, if_neg e]; exact Paired.snoc r ⟨rfl, ry⟩
end


/-! ### a tracked dict, its keys ints and texts or tuples of these -/
theorem kV_is {P : Program} {w : World} {k : Key} {u : Value} (r : RelV (kV k) u) : (mixKind P w).is k u = true := by
  cases k with
  | inl i => obtain ⟨t, e⟩ := (show ∃ t, u = Value.int i t from r); subst e; exact mixKind_int P w i t
  | inr x => obtain ⟨t, e⟩ := (show ∃ t, u = Value.str x t from r); subst e; exact mixKind_str P w x t
theorem items_are {P : Program} {w : World} : ∀ {ks : List Key} {us : List Value}, Vals (ks.map kV) us → ItemsAre (mixKind P w) ks us
  | [], _, r => by rw [List.map_nil] at r; cases r; exact .nil
  | k :: ks, _, r => by
    rw [List.map_cons] at r
    cases r with
    | cons h t => exact .cons (kV_is h) (items_are t)

/-- raw entries of a dict with tuple keys -/
abbrev KT (H : Hp) : List (List Key × V) → List (List Key × Addr × Value) → Prop := Paired fun p q => p.1 = q.1 ∧ H q.2.1 = some (.tup (p.1.map kV)) ∧ RelV p.2 q.2.2
theorem KT.val {H : Hp} {kvs : List (List Key × V)} {xs : List (List Key × Addr × Value)} (r : KT H kvs xs) (k : List Key) : RelO (valV kvs k) ((atKey xs k).map (·.2)) := by
  induction r with
  | nil => exact True.intro
  | @cons p q ps qs h t ih =>
    obtain ⟨h1, _, h2⟩ := h
    by_cases e : p.1 = k
    · have e' : q.1 = k := h1.symm.trans e
      have b : atKey (q :: qs) k = some q.2 := by simp [atKey, List.find?_cons, e']
      rw [valV_pos e, b]; exact h2
    · have e' : ¬ q.1 = k := fun z => e (h1.trans z)
      have b : atKey (q :: qs) k = atKey qs k := by simp [atKey, List.find?_cons, e']
      rw [valV_neg e, b]; exact ih
theorem KT.repl {H : Hp} {kvs : List (List Key × V)} {xs : List (List Key × Addr × Value)} (r : KT H kvs xs) (k : List Key) {y : V} {u : Value} (ry : RelV y u) :
    KT H (kvs.map fun kv => if kv.1 = k then (kv.1, y) else kv) (xs.map (putAt k u)) := by
  induction r with
  | nil => exact .nil
  | @cons p q ps qs h t ih =>
    rw [List.map_cons, List.map_cons]
    refine .cons ?_ ih
    obtain ⟨h1, h2, h3⟩ := h
    unfold putAt
    by_cases e : p.1 = k
    · rw [if_pos e, if_pos (h1.symm.trans e)]; exact ⟨h1, h2, ry⟩
    · rw [if_neg e, if_neg (fun z => e (h1.trans z))]; exact ⟨h1, h2, h3⟩
theorem KT.put {H : Hp} {kvs : List (List Key × V)} {xs : List (List Key × Addr × Value)} (r : KT H kvs xs) (k : List Key) {b : Addr} {y : V} {u : Value} (hb : H b = some (.tup (k.map kV))) (ry : RelV y u) :
    KT H (putK kvs k y) (storedH xs k b u) := by
  have e : (kvs.any fun kv => decide (kv.1 = k)) = (atKey xs k).isSome := by
    rw [valV_any, (r.val k).isSome_eq, Option.isSome_map]
  unfold putK storedH
  rw [e]
  by_cases q : (atKey xs k).isSome = true
  · rw [if_pos q, if_pos q]; exact r.repl k ry
  · rw [if_neg q, if_neg q]; exact Paired.snoc r ⟨rfl, hb, ry⟩
theorem KT.keeps {H H' : Hp} {kvs : List (List Key × V)} {xs : List (List Key × Addr × Value)} (r : KT H kvs xs) (ht : ∀ b ys, H b = some (.tup ys) → H' b = some (.tup ys)) : KT H' kvs xs :=
  Paired.mapP r fun _ _ z => ⟨z.1, ht _ _ z.2.1, z.2.2⟩

section
variable {P : Program} {w : World} {H : Hp} {h : Heap} {a : Addr}
theorem rd_of {u : HO} (ok : HOk P w H h) (e : Rd H a u) : ObjOk P w H h a u := e.ok ok
theorem dk_rd {kvs : List (Key × V)} (ok : HOk P w H h) (e : Rd H a (.dK kvs)) : kvs.length ≤ sizeLine ∧ (a == sysModules) = false ∧ ∃ vs, KV kvs vs ∧ h.DictOf (mixKind P w) a vs :=
  show ObjOk P w H h a (.dK kvs) from rd_of ok e
theorem dk_of {kvs : List (Key × V)} (ok : HOk P w H h) (e : H a = some (.dK kvs)) : kvs.length ≤ sizeLine ∧ (a == sysModules) = false ∧ ∃ vs, KV kvs vs ∧ h.DictOf (mixKind P w) a vs := dk_rd ok (.inl e)
/-- a tracked tuple of ints and texts is a key -/
theorem key_of {ks : List Key} (ok : HOk P w H h) (e : H a = some (.tup (ks.map kV))) : (tupleKind (mixKind P w)).is h ks a := by
  obtain ⟨_, its, r, o, h1, h2, n, h3⟩ := (show ObjOk P w H h a (.tup (ks.map kV)) from ok a _ e)
  exact ⟨o, its.toArray, n, h1, h2, h3, by simpa using items_are r⟩
theorem dt_rd {kvs : List (List Key × V)} (ok : HOk P w H h) (e : Rd H a (.dT kvs)) : kvs.length ≤ sizeLine ∧ (a == sysModules) = false ∧
    ∃ xs, KT H kvs xs ∧ h.DictOfH (tupleKind (mixKind P w)) a xs := by
  obtain ⟨z, y, xs, r, o, es, ep, h1, h2, h3, h4, h5⟩ := (show ObjOk P w H h a (.dT kvs) from rd_of ok e)
  refine ⟨z, y, xs, r, o, es, ep, h1, h2, h3, h4, fun x hx => ?_, h5⟩
  have all : ∀ {l : List (List Key × V)} {m : List (List Key × Addr × Value)}, KT H l m → ∀ x ∈ m, (tupleKind (mixKind P w)).is h x.1 x.2.1 := by
    intro l m q
    induction q with
    | nil => intro x hx; exact nomatch hx
    | @cons p q ps qs hq t ih =>
      intro x hx
      rcases List.mem_cons.mp hx with e | hx
      · subst e
        exact key_of ok (by rw [← hq.1]; exact hq.2.1)
      · exact ih x hx
  exact all r x hx
theorem dt_of {kvs : List (List Key × V)} (ok : HOk P w H h) (e : H a = some (.dT kvs)) : kvs.length ≤ sizeLine ∧ (a == sysModules) = false ∧
    ∃ xs, KT H kvs xs ∧ h.DictOfH (tupleKind (mixKind P w)) a xs := dt_rd ok (.inl e)
end

/-- what the dict at a holds at the key y -/
def DGet (H : Hp) (a : Addr) (y : V) (r : Option V) : Prop :=
  (∃ kvs k, Rd H a (.dK kvs) ∧ y = kV k ∧ r = valV kvs k) ∨ ∃ kvs k b, Rd H a (.dT kvs) ∧ y = .ref b ∧ H b = some (.tup (k.map kV)) ∧ r = valV kvs k
/-- the heap behind a[y] = v -/
def DPut (H : Hp) (a : Addr) (y v : V) (H' : Hp) : Prop :=
  (∃ kvs k, H a = some (.dK kvs) ∧ y = kV k ∧ kvs.length < sizeLine ∧ H' = upd H a (.dK (putK kvs k v))) ∨
  ∃ kvs k b, H a = some (.dT kvs) ∧ y = .ref b ∧ H b = some (.tup (k.map kV)) ∧ kvs.length < sizeLine ∧ H' = upd H a (.dT (putK kvs k v))
theorem DGet.k {H : Hp} {a : Addr} {kvs : List (Key × V)} {k : Key} (e : H a = some (.dK kvs)) : DGet H a (kV k) (valV kvs k) := .inl ⟨kvs, k, .inl e, rfl, rfl⟩
theorem DGet.t {H : Hp} {a b : Addr} {kvs : List (List Key × V)} {k : List Key} (e : H a = some (.dT kvs)) (eb : H b = some (.tup (k.map kV))) : DGet H a (.ref b) (valV kvs k) := .inr ⟨kvs, k, b, .inl e, rfl, eb, rfl⟩


section
variable {X : Cx} {pins : List (Addr × Obj)} {σ : St} {H : Hp} {s : Shared} {a : Addr} {y v : V} {u r : Value} {o : Option V} {A : Around} {E : Value → Shared → Prop}

theorem Inv.big (I : Inv X pins σ H s) : sysModules < s.heap.objs.size := by
  have h : mainGlobals < s.heap.objs.size := (I.mod.glob.keeps I.bk).lt
  exact Nat.lt_trans (by decide) h

theorem d_notIn {Q : Value → Shared → Prop} (hu : A.units + 1 < cLine) (I : Inv X pins σ H s) (g : DGet H a y o) (ry : RelV y u) (h : ∀ s', Inv X pins σ H s' → Q (.bool (!o.isSome)) s') :
    wpAny (model X.prog X.w) A (compareOp .NotIn u (.ref a)) Q E s := by
  rcases g with ⟨kvs, k, e, ey, l⟩ | ⟨kvs, k, b, e, ey, eb, l⟩
  · subst ey
    obtain ⟨z, hd, vs, rel, dd⟩ := dk_rd I.hok e
    refine wpAny_notIn_of (kV_is ry) hd dd.mapOf ?_
    rw [← (rel.val k).isSome_eq, ← l]
    exact h _ (I.tok _)
  · subst ey
    cases (show u = Value.ref b from ry)
    obtain ⟨z, hd, xs, rel, dd⟩ := dt_rd I.hok e
    refine wpAny_notIn_heap (tupleKind_room_in1 hu) (key_of I.hok eb) hd dd ?_
    have q := (rel.val k).isSome_eq
    rw [Option.isSome_map] at q
    rw [← q, ← l]
    exact h _ (I.tok _)
/-- a dict's object is replaced -/
theorem d_write {h' : Heap} {t' : Nat} {ob : HO} (I : Inv X pins σ H s) (mu : Mut (H a)) (hs : Heap.SameBut a s.heap h') (he : ∃ q, h'.get? a = some q) (new : ObjOk X.prog X.w (upd H a ob) h' a ob) :
    Inv X pins σ (upd H a ob) { s with heap := h', toks := t' } :=
  I.write (x := a) (e := a) mu (.inl rfl) (fun b q hb z => (hs.2 b hb).trans z) he new
theorem dk_new {P : Program} {w : World} {H' : Hp} {h' : Heap} {kvs : List (Key × V)} {vs : List (Key × Value)} (z : kvs.length ≤ sizeLine) (hd : (a == sysModules) = false) (rel : KV kvs vs) (dd : h'.DictOf (mixKind P w) a vs) :
    ObjOk P w H' h' a (.dK kvs) := ⟨z, hd, vs, rel, dd⟩
end

section
variable {X : Cx} {pins : List (Addr × Obj)} {σ : St} {H : Hp} {s : Shared} {a : Addr} {kvs : List (Key × V)} {k : Key} {u : Value} {A : Around} {E : Value → Shared → Prop}
end


/-! ### readings and rules -/
/-- the element of a subscription, not a slice -/
def NoSl (i : Expr) : Prop := ∀ ov iv, subscripted i false ov iv = operate [ov, iv] (getItem ov iv)


/-- d[y] -/
def tDGet (td ty : TE) : TE := fun σ H Q => td σ H fun x H1 => ty σ H1 fun y H2 => ∃ a v, x = .ref a ∧ DGet H2 a y (some v) ∧ Q v H2
/-- y in d, y not in d -/
def tDIn (ty td : TE) : TE := fun σ H Q => ty σ H fun y H1 => td σ H1 fun x H2 => ∃ a o, x = .ref a ∧ DGet H2 a y o ∧ Q (.bl o.isSome) H2
def tDNotIn (ty td : TE) : TE := fun σ H Q => ty σ H fun y H1 => td σ H1 fun x H2 => ∃ a o, x = .ref a ∧ DGet H2 a y o ∧ Q (.bl (!o.isSome)) H2
/-- d[y] = v -/
def sDPut (td ty tv : TE) : TS := fun D σ H => tv σ H fun v H1 => td σ H1 fun x H2 => ty σ H2 fun y H3 => ∃ a H4, x = .ref a ∧ DPut H3 a y v H4 ∧ D.nx σ H4
/-- d[y] op= v -/
def sDAug (td ty tv : TE) (rd : V → V → Hp → VK → Prop) : TS := fun D σ H => td σ H fun x H1 => ty σ H1 fun y H2 => ∃ a v, x = .ref a ∧ DGet H2 a y (some v) ∧
  tv σ H2 fun y2 H3 => rd v y2 H3 fun z H4 => ∃ H5, DPut H4 a y z H5 ∧ D.nx σ H5
/-- del d[y] -/
def sDDel (td ty : TE) : TS := fun D σ H => td σ H fun x H1 => ty σ H1 fun y H2 => ∃ a kvs k, x = .ref a ∧ H2 a = some (.dK kvs) ∧ y = kV k ∧ (valV kvs k).isSome = true ∧ D.nx σ (upd H2 a (.dK (dropK kvs k)))

section
variable {X : Cx} {o i e value : Expr} {pos pos' tpos : Pos} {td ty tv : TE}
theorem pc_dnotin (hu : X.A.units + 1 < cLine) (hi : PE X i ty) (ho : PE X o td) : PC X .NotIn i o (tDNotIn ty td) := by
  intro pins s σ H Q I h
  refine thn (hi pins s σ H _ I h) fun iv s1 ⟨y, H1, I1, ry, q1⟩ => thn (ho pins s1 σ H1 _ I1 q1) fun u s2 ⟨x, H2, I2, rx, a, ov, ex, g, q2⟩ => ?_
  subst ex
  obtain rfl : u = Value.ref a := rx
  exact d_notIn hu I2 g ry fun s3 I3 => ⟨.bl (!ov.isSome), H2, I3, rfl, q2⟩
end


/-! ### displays -/
theorem dk_empty {P : Program} {w : World} {H : Hp} (h : Heap) (hb : sysModules < h.objs.size) : ObjOk P w H (h.push { cls := .type "dict", data := .dict #[] }) h.objs.size (.dK []) :=
  ⟨Nat.zero_le _, beq_eq_false_iff_ne.mpr (Ne.symm (Nat.ne_of_lt hb)), [], .nil, Heap.DictOf.new h⟩
/-- {}, to be a dict of the kind that is wanted -/
def tDNewK : TE := fun _ H Q => ∀ p, H p = none → Q (.ref p) (upd H p (.dK []))
def tDNewT : TE := fun _ H Q => ∀ p, H p = none → Q (.ref p) (upd H p (.dT []))
section
variable {X : Cx} {pos : Pos}
end

/-- the pairs of a display, from the left -/
def tPairs : List (TE × TE) → St → Hp → (List (V × V) → Hp → Prop) → Prop
  | [], _, H, Q => Q [] H
  | (tk, tv) :: r, σ, H, Q => tk σ H fun x H1 => tv σ H1 fun y H2 => tPairs r σ H2 fun ps H3 => Q ((x, y) :: ps) H3
abbrev VV : List (V × V) → List (Value × Value) → Prop := Paired fun p q => RelV p.1 q.1 ∧ RelV p.2 q.2
def PPs (X : Cx) (pos : Pos) (keys : List (Option Expr)) (values : List Expr) (trs : List (TE × TE)) : Prop :=
  ∀ (pins : List (Addr × Obj)) (s : Shared) (σ : St) (H : Hp) (Q : List (V × V) → Hp → Prop), Inv X pins σ H s → tPairs trs σ H Q →
    wpAny (model X.prog X.w) X.A (evalPairs (pairTrees keys values X.env pos)) (fun vs s' => ∃ ps H', Inv X pins σ H' s' ∧ VV ps vs ∧ Q ps H') X.xe s
theorem pps_nil {X : Cx} {pos : Pos} : PPs X pos [] [] [] := fun pins s σ H Q I h => pairTrees_nil_walk ⟨[], H, I, .nil, h⟩
theorem pps_cons {X : Cx} {pos : Pos} {k v : Expr} {ks : List (Option Expr)} {vs : List Expr} {tk tv : TE} {trs : List (TE × TE)} (hk : PE X k tk) (hv : PE X v tv) (hr : PPs X pos ks vs trs) :
    PPs X pos (some k :: ks) (v :: vs) ((tk, tv) :: trs) := fun pins s σ H Q I h =>
  pairTrees_cons_walk (thn (hk pins s σ H _ I h) fun u s1 ⟨x, H1, I1, rx, q1⟩ => thn (hv pins s1 σ H1 _ I1 q1) fun w2 s2 ⟨y, H2, I2, ry, q2⟩ =>
    thn (hr pins s2 σ H2 _ I2 q2) fun ws s3 ⟨ps, H3, I3, rel, q3⟩ => ⟨(x, y) :: ps, H3, I3, .cons ⟨rx, ry⟩ rel, q3⟩)

def mergeK (kvs more : List (Key × V)) : List (Key × V) := more.foldl (fun acc kv => putK acc kv.1 kv.2) kvs
theorem KV.merge : ∀ {more : List (Key × V)} {rs : List (Key × Value)} {kvs : List (Key × V)} {vs : List (Key × Value)}, KV more rs → KV kvs vs → KV (mergeK kvs more) (merged vs rs) := by
  intro more rs kvs vs r
  unfold KV at r
  induction r generalizing kvs vs with
  | nil => intro q; exact q
  | @cons p q ps qs h t ih =>
    intro r0
    have e : KV (putK kvs p.1 p.2) (stored vs q.1 q.2) := by
      have := r0.put p.1 h.2
      rw [← h.1]; exact this
    exact ih e
theorem length_mergeK : ∀ (more kvs : List (Key × V)), (mergeK kvs more).length ≤ kvs.length + more.length
  | [], kvs => by show kvs.length ≤ kvs.length + 0; omega
  | p :: r, kvs => by
    have h1 := length_mergeK r (putK kvs p.1 p.2)
    have h2 := length_putK kvs p.1 p.2
    show (mergeK (putK kvs p.1 p.2) r).length ≤ _
    rw [List.length_cons]; omega
theorem carries_of {P : Program} {w : World} : ∀ {kvs : List (Key × V)} {ws : List (Value × Value)}, VV (kvs.map fun kv => (kV kv.1, kv.2)) ws → ∃ rs, Carries (mixKind P w) ws rs ∧ KV kvs rs
  | [], _, r => by rw [List.map_nil] at r; cases r; exact ⟨[], True.intro, .nil⟩
  | p :: kvs, _, r => by
    rw [List.map_cons] at r
    cases r with
    | @cons a b as bs h t =>
      obtain ⟨rs, c, q⟩ := carries_of (P := P) (w := w) t
      obtain ⟨b1, b2⟩ := b
      exact ⟨(p.1, b2) :: rs, ⟨kV_is h.1, rfl, c⟩, .cons ⟨rfl, h.2⟩ q⟩
/-- {k: v, ..} with keys ints and texts; the new dict stands empty while the pairs are made -/
def tDisp (trs : List (TE × TE)) : TE := fun σ H Q => ∀ p, H p = none → tPairs trs σ (upd H p (.dK [])) fun ps H2 => H2 p = some (.dK []) ∧ ∃ kvs : List (Key × V), ps = kvs.map (fun kv => (kV kv.1, kv.2)) ∧ kvs.length ≤ 15 ∧ Q (.ref p) (upd H2 p (.dK (mergeK [] kvs)))
theorem pe_disp {X : Cx} {pos : Pos} {keys : List (Option Expr)} {values : List Expr} {trs : List (TE × TE)} (h : PPs X pos keys values trs) (hall : keys.all (·.isSome) = true) (hl : keys.length = values.length) (h0 : keys ≠ [])
    (h15 : keys.length ≤ 15) : PE X (.Dict keys values pos) (tDisp trs) := by
  intro pins s σ H Q I q
  have hn := I.hok.fresh (Nat.le_refl s.heap.objs.size)
  have I1 := I.laid (a := s.heap.objs.size) (o := .dK []) (h' := s.heap.push { cls := .type "dict", data := .dict #[] }) (t' := s.toks) (fun _ _ q => Heap.get?_push_of_some _ q) (Nat.le_refl _) (dk_empty s.heap I.big)
  refine wpAny_Dict_walk (knd := mixKind X.prog X.w) hall hl h0 h15 (thn (h pins _ σ _ _ I1 (q _ hn)) fun ws s2 ⟨ps, H2, I2, rel, e, kvs, ep, lk, q2⟩ => ?_)
  subst ep
  obtain ⟨rs, c, rk⟩ := carries_of (P := X.prog) (w := X.w) rel
  obtain ⟨z, hd, vs0, r0, dd⟩ := dk_of I2.hok e
  cases r0
  refine ⟨rs, c, dd, fun h' dd' hs => ⟨.ref s.heap.objs.size, _, ?_, rfl, q2⟩⟩
  have hz : (mergeK [] kvs).length ≤ sizeLine := by
    have h1 := length_mergeK kvs []
    rw [List.length_nil] at h1
    rw [sizeLine_eq]; omega
  have he : ∃ q, h'.get? s.heap.objs.size = some q := let ⟨q, _, _, hq, _⟩ := dd'; ⟨q, hq⟩
  exact d_write I2 (by rw [e]; exact True.intro) hs he (dk_new hz hd (rk.merge .nil) dd')


/-! ### methods -/
/-- a method call o.m(e) of a built-in, with one argument: what must be seen of the text -/
structure M1 (X : Cx) (o : Expr) (m : Str) (apos : Pos) (e : Expr) (cpos : Pos) : Prop where
  base : attributeBase o m X.env (eval o X.env) = eval o X.env
  few : ((backTo cpos (starEach [e] X.env)).all (fun x => !x.1) && (backToKw cpos (keywordEach [] X.env)).all (fun x => x.1.isSome)
    && decide (([e] : List Expr).length + ([] : List Keyword).length + (if ([] : List Keyword).isEmpty then 0 else 1) < 30)) = true
  line : (apos.endLine == cpos.line) = true
  trees : backTo cpos (starEach [e] X.env) = [(false, eval e X.env)]
structure M2 (X : Cx) (o : Expr) (m : Str) (apos : Pos) (e f : Expr) (cpos : Pos) : Prop where
  base : attributeBase o m X.env (eval o X.env) = eval o X.env
  few : ((backTo cpos (starEach [e, f] X.env)).all (fun x => !x.1) && (backToKw cpos (keywordEach [] X.env)).all (fun x => x.1.isSome)
    && decide (([e, f] : List Expr).length + ([] : List Keyword).length + (if ([] : List Keyword).isEmpty then 0 else 1) < 30)) = true
  line : (apos.endLine == cpos.line) = true
  trees : backTo cpos (starEach [e, f] X.env) = [(false, eval e X.env), (false, eval f X.env)]

/-- a is a dict, whatever its keys -/
def IsD (H : Hp) (a : Addr) : Prop := (∃ kvs, Rd H a (.dK kvs)) ∨ ∃ kvs, Rd H a (.dT kvs)
theorem isD_at {X : Cx} {pins : List (Addr × Obj)} {σ : St} {H : Hp} {s : Shared} {a : Addr} (I : Inv X pins σ H s) (d : IsD H a) :
    s.TypeIs (.ref a) "dict" ∧ (∀ b, Value.ref a = .ref b → ∃ ob, s.heap.get? b = some ob ∧ ob.dict = none) ∧ (a == sysModules) = false := by
  rcases d with ⟨kvs, e⟩ | ⟨kvs, e⟩
  · obtain ⟨_, hd, vs, _, dd⟩ := dk_rd I.hok e
    refine ⟨dd.typeIs, fun b q => ?_, hd⟩
    cases q
    obtain ⟨ob, _, _, h1, h2, _⟩ := dd
    exact ⟨ob, h1, h2.2.1⟩
  · obtain ⟨_, hd, xs, _, dd⟩ := dt_rd I.hok e
    refine ⟨dd.typeIs, fun b q => ?_, hd⟩
    cases q
    obtain ⟨ob, _, _, h1, h2, _⟩ := dd
    exact ⟨ob, h1, h2.2.1⟩

section
variable {X : Cx} {pins : List (Addr × Obj)} {σ : St} {H : Hp} {s : Shared} {a : Addr} {y d : V} {u r : Value} {o : Option V} {A : Around} {E : Value → Shared → Prop}
/-- d.get(y, x) -/
theorem d_get2 {Q : Value → Shared → Prop} (hu : A.units + 1 < cLine) (I : Inv X pins σ H s) (g : DGet H a y o) (ry : RelV y u) (rd : RelV d r) (h : ∀ w' s', Inv X pins σ H s' → RelV (o.getD d) w' → Q w' s') :
    wpAny (model X.prog X.w) A (call (.builtin "dict.get") [.ref a, u, r]) Q E s := by
  rcases g with ⟨kvs, k, e, ey, l⟩ | ⟨kvs, k, b, e, ey, eb, l⟩
  · subst ey
    obtain ⟨z, hd, vs, rel, dd⟩ := dk_rd I.hok e
    refine call_meetsIn PySem.F.slot_dict_get dd.typeIs PySem.F.entry_dict_get (PySem.F.args_dict_get_3 _ _ _) (meets_dict_get_default (mixKind X.prog X.w) a (kV_is ry) hd r) ⟨_, dd.mapOf, h _ _ (I.tok _) ?_⟩
    rw [l]
    exact (rel.val k).getD rd
  · subst ey
    cases (show u = Value.ref b from ry)
    obtain ⟨z, hd, xs, rel, dd⟩ := dt_rd I.hok e
    refine call_meetsIn PySem.F.slot_dict_get dd.typeIs PySem.F.entry_dict_get (PySem.F.args_dict_get_3 _ _ _) (meetsH_dict_get_default (tupleKind (mixKind X.prog X.w)) a b hd r) ⟨tupleKind_room_in1 hu, k, xs, key_of I.hok eb, dd, h _ _ (I.tok _) ?_⟩
    rw [l]
    exact (rel.val k).getD rd
end

def tDGet1 (td ty : TE) : TE := fun σ H Q => td σ H fun x H1 => ∃ a, x = .ref a ∧ IsD H1 a ∧ ty σ H1 fun y H2 => ∃ o, DGet H2 a y o ∧ Q (o.getD .non) H2
def tDGet2 (td ty tx : TE) : TE := fun σ H Q => td σ H fun x H1 => ∃ a, x = .ref a ∧ IsD H1 a ∧ ty σ H1 fun y H2 => tx σ H2 fun z H3 => ∃ o, DGet H3 a y o ∧ Q (o.getD z) H3
/-- d.pop(k): there; d.pop(k, x): there or not -/
def tDPop1 (td ty : TE) : TE := fun σ H Q => td σ H fun x H1 => ∃ a, x = .ref a ∧ IsD H1 a ∧ ty σ H1 fun y H2 => ∃ kvs k v, H2 a = some (.dK kvs) ∧ y = kV k ∧ valV kvs k = some v ∧ Q v (upd H2 a (.dK (dropK kvs k)))
def tDPop2 (td ty tx : TE) : TE := fun σ H Q => td σ H fun x H1 => ∃ a, x = .ref a ∧ IsD H1 a ∧ ty σ H1 fun y H2 => tx σ H2 fun z H3 => ∃ kvs k, H3 a = some (.dK kvs) ∧ y = kV k ∧
  (∀ v, valV kvs k = some v → Q v (upd H3 a (.dK (dropK kvs k)))) ∧ (valV kvs k = none → Q z H3)
section
variable {X : Cx} {o e f : Expr} {apos cpos : Pos} {td ty tx : TE}
theorem pe_dget2 (hu : X.A.units + 1 < cLine) (ho : PE X o td) (he : PE X e ty) (hf : PE X f tx) (m : M2 X o "get" apos e f cpos) : PE X (.Call (.Attribute o "get" apos) [e, f] [] cpos) (tDGet2 td ty tx) := by
  intro pins s σ H Q I h
  refine wpAny_Call_method m.base m.few m.line PySem.F.plainAttrs_dict PySem.F.slot_dict_get PySem.F.type_dict_get (thn (ho pins s σ H _ I h) fun u s1 ⟨x, H1, I1, rx, a, ex, d, q1⟩ => ?_)
  subst ex
  obtain rfl : u = Value.ref a := rx
  obtain ⟨t1, t2, _⟩ := isD_at I1 d
  refine ⟨t1, t2, ?_⟩
  rw [m.trees]
  refine Calls.callWith_builtin rfl (Calls.evalArgs_plain (Calls.spliced_cons (thn (he pins s1 σ H1 _ I1 q1) fun iv s2 ⟨y, H2, I2, ry, q2⟩ =>
    Calls.spliced_cons (thn (hf pins s2 σ H2 _ I2 q2) fun fv s3 ⟨z, H3, I3, rz, ov, g, q3⟩ => Calls.spliced_nil ?_))))
  exact d_get2 hu I3 g ry rz fun w' s4 I4 rw' => ⟨_, H3, I4, rw', q3⟩
end

/-! ### dict(d): a copy -/
section
variable {X : Cx} {pins : List (Addr × Obj)} {σ : St} {H : Hp} {s : Shared} {a : Addr} {kvs : List (Key × V)} {A : Around} {E : Value → Shared → Prop}
end


section
variable {X : Cx} {pins : List (Addr × Obj)} {σ : St} {H : Hp} {s : Shared} {a : Addr} {y : V} {u : Value} {A : Around} {E : Value → Shared → Prop}
end
end L2

namespace L2
open PySem PySem.Spec PyProof.Rows
theorem f_lk_keys : typeLookup (.type "list") "keys" = pure none := by rw [typeLookup_type, builtinLookup_eq_fast]; kernel_rfl
theorem f_lk_hook : typeLookup (.type "list") "__getattr__" = pure none := by rw [typeLookup_type, builtinLookup_eq_fast]; kernel_rfl
theorem f_sub_ae : isSubtype (.type "AttributeError") (.type "AttributeError") = pure true := by rw [isSubtype_type]; kernel_rfl
theorem f_ae_own (args : List Value) : ownMembersOf (.type "AttributeError") args = #[unsetMember, unsetMember] := rfl
theorem f_ae_first : ((Manifest.find? "AttributeError").elim false fun t => t.mro.contains "StopIteration" || t.mro.contains "SystemExit") = false := by decide +kernel
section
variable {prog : Program} {w : World} {A : Around} {E : Value → Shared → Prop} {h : Heap} {g : Array GenState} {d : Drawn} {t : Nat} {os : OsState} {a : Addr} {its : Array Value} {n : Nat}
/-- a list has no keys -/
theorem nk_entry {tk : Tok} {Q : Fin → Shared → Prop} (hx : h.get? a = some { cls := .type "list", dict := none, data := .seq its n, slots := #[] }) (hh : A.handled = none)
    (he : ∀ h' t' e, (∀ b o', h.get? b = some o' → h'.get? b = some o') → (⟨h', g, d, t', os⟩ : Shared).TypeIs (.ref e) "AttributeError" → E (.ref e) ⟨h', g, d, t', os⟩) :
    wpAny (model prog w) A (Builtin.«object.__getattribute__» ⟨[.ref a, .str "keys" tk], []⟩) Q E ⟨h, g, d, t, os⟩ := by
  have hT : (⟨h, g, d, t, os⟩ : Shared).TypeIs (.ref a) "list" := ⟨_, hx, rfl⟩
  have f4 := f_lk_keys
  have f5 := f_sub_ae
  repeat (any_goals (first | assumption | wp_step))
  unfold raiseAttrError
  refine wpAny_bind (wpAny_mkStr (wpAny_bind ?_) (by decide +kernel))
  unfold newExc newTuple
  refine wpAny_bind (wpAny_newObj_type ?_)
  refine wpAny_bind (m := firstArgMember _ _) (wpAny_of_eq (a := Value.none) (by simp only [firstArgMember, f_ae_first]; rfl) ?_)
  rw [f_ae_own]
  refine wpAny_newObj_type ?_
  refine wpAny_bind (wpAny_mkText ?_)
  refine wpAny_bind ?_
  unfold noteAttr lacksNameAndObj
  repeat (any_goals (first | assumption | wp_step))
  unfold raiseNew
  refine wpAny_bind (wpAny_handled ?_)
  rw [hh]
  refine wpAny_bind (wpAny_pure (wpAny_throw ?_))
  dsimp only
  refine he _ _ _ (fun b o' hb => ?_) ?_
  · rw [(Heap.SameBut.update ..).2 b (Nat.ne_of_lt ?_)]
    · exact Heap.get?_push_of_some _ (Heap.get?_push_of_some _ hb)
    · rw [Heap.size_push]
      exact Nat.lt_succ_of_lt (Heap.lt_size hb)
  · refine ⟨_, Heap.get?_update_self _ (Heap.get?_push_size _ rfl) rfl, rfl⟩
theorem nk_call {tk : Tok} {R : Result → Shared → Prop} (hx : h.get? a = some { cls := .type "list", dict := none, data := .seq its n, slots := #[] }) (hh : A.handled = none)
    (he : ∀ h' t' e, (∀ b o', h.get? b = some o' → h'.get? b = some o') → (⟨h', g, d, t', os⟩ : Shared).TypeIs (.ref e) "AttributeError" → R (.error (.ref e)) ⟨h', g, d, t', os⟩) :
    codeAny (model prog w) A (.call (.builtin "list.__getattribute__") ⟨[.ref a, .str "keys" tk], []⟩) R ⟨h, g, d, t, os⟩ :=
  codeAny_call_builtin PySem.F.slot_list_getattribute.plain PySem.F.entry_list_ga (PySem.F.slot_list_getattribute.check _ _ _ _ _ _ _ _ (show (⟨h, g, d, t, os⟩ : Shared).TypeIs (.ref a) "list" from ⟨_, hx, rfl⟩) (PySem.F.args_list_getattribute_2 _ _) (nk_entry hx (by simp [hh]) he))
theorem nk_by {tk : Tok} {Q : Value → Shared → Prop} (hx : h.get? a = some { cls := .type "list", dict := none, data := .seq its n, slots := #[] }) (hh : A.handled = none)
    (he : ∀ h' t' e, (∀ b o', h.get? b = some o' → h'.get? b = some o') → (⟨h', g, d, t', os⟩ : Shared).TypeIs (.ref e) "AttributeError" → E (.ref e) ⟨h', g, d, t', os⟩) :
    wpAny (model prog w) A (getAttrBy (.ref a) (.str "keys" tk) false) Q E ⟨h, g, d, t, os⟩ := by
  have hT : (⟨h, g, d, t, os⟩ : Shared).TypeIs (.ref a) "list" := ⟨_, hx, rfl⟩
  have f2 := PySem.F.slot_list_getattribute.lookup
  have f3 := PySem.F.slot_list_getattribute.bind (.ref a)
  have f4 := f_lk_hook
  have f5 := f_sub_ae
  repeat (any_goals (first | assumption | wp_step))
  refine nk_call hx (by simp [hh]) fun h' t' e kp hE => ?_
  repeat (any_goals (first | assumption | wp_step))
  exact he _ _ _ kp hE
theorem nk_none {Q : Option Value → Shared → Prop} (hx : h.get? a = some { cls := .type "list", dict := none, data := .seq its n, slots := #[] }) (hh : A.handled = none)
    (hq : ∀ h' t', (∀ b o', h.get? b = some o' → h'.get? b = some o') → Q none ⟨h', g, d, t', os⟩) :
    wpAny (model prog w) A (getAttr? (.ref a) "keys") Q E ⟨h, g, d, t, os⟩ := by
  have f5 := f_sub_ae
  unfold getAttr? getAttrBy?
  refine wpAny_bind (wpAny_mkText (wpAny_bind (wpAny_attempt ?_)))
  refine nk_by (t := t + 1) hx hh fun h' t' e kp hE => ?_
  repeat (any_goals (first | assumption | wp_step))
  exact hq _ _ kp
theorem f_entry_loop : entryFor table "dict.update.loop" = some Builtin.«dict.update.loop» := entryFor_of_tree (by kernel_rfl)
theorem f_plain_loop : plainId "dict.update.loop" = true := by decide +kernel
end
section
variable {prog : Program} {w : World} {A : Around} {R : Result → Shared → Prop} {I : Addr} {fp wr : List Addr} {G : Array GenState → Array GenState → Prop} {n : Nat} {P : Nat → Value → Prop} {St : Nat → Shared → Prop}
abbrev KQ := List Key × Addr × Value
def putAll (ks : List KQ) : List KQ := ks.foldl (fun acc q => storedH acc q.1 q.2.1 q.2.2) []
theorem putAll_snoc (ks : List KQ) (q : KQ) : putAll (ks ++ [q]) = storedH (putAll ks) q.1 q.2.1 q.2.2 := by
  unfold putAll
  rw [List.foldl_append]
  rfl
theorem storedH_len (xs : List KQ) (k : List Key) (a : Addr) (v : Value) : (storedH xs k a v).length ≤ xs.length + 1 := by
  unfold storedH
  split
  · rw [List.length_map]
    omega
  · rw [List.length_append]
    exact Nat.le_refl _
theorem putAll_len (ks : List KQ) : (putAll ks).length ≤ ks.length := by
  suffices h : ∀ (ks acc : List KQ), (ks.foldl (fun acc q => storedH acc q.1 q.2.1 q.2.2) acc).length ≤ acc.length + ks.length by
    have := h ks []
    simpa [putAll] using this
  intro ks
  induction ks with
  | nil => intro acc; exact Nat.le_refl _
  | cons q r ih =>
    intro acc
    have h1 := ih (storedH acc q.1 q.2.1 q.2.2)
    have h2 := storedH_len acc q.1 q.2.1 q.2.2
    rw [List.foldl_cons, List.length_cons]
    omega
theorem f_pair_items {A : Around} {E : Value → Shared → Prop} {s : Shared} {ta : Addr} {x y : Value} {Q : List Value → Shared → Prop} (h : IsTup s.heap ta #[x, y]) (q : Q [x, y] s) : wpAny (model prog w) A (Builtin.Dict.pairItems (.ref ta)) Q E s := by
  obtain ⟨o, h1, h2, n, h3⟩ := h
  have hT : s.TypeIs (.ref ta) "tuple" := ⟨o, h1, h2⟩
  unfold Builtin.Dict.pairItems
  repeat (any_goals (first | assumption | wp_step))
  rw [h3]
  exact wpAny_pure (wpAny_pure q)
end
end L2
namespace L2
open PySem PySem.Spec PyProof.Rows
section
variable {prog : Program} {w : World} {A : Around} {R : Result → Shared → Prop} {I : Addr} {fp wr : List Addr} {G : Array GenState → Array GenState → Prop} {n : Nat} {P : Nat → Value → Prop} {St : Nat → Shared → Prop}
theorem putAll_keys (T : List Key → Addr → Prop) : ∀ (js acc : List KQ), (∀ x ∈ acc, T x.1 x.2.1) → (∀ x ∈ js, T x.1 x.2.1) → ∀ x ∈ js.foldl (fun acc q => storedH acc q.1 q.2.1 q.2.2) acc, T x.1 x.2.1
  | [], _, ha, _ => ha
  | q :: r, acc, ha, hj => by
    rw [List.foldl_cons]
    refine putAll_keys T r _ (fun x hx => ?_) fun x hx => hj x (List.mem_cons_of_mem _ hx)
    unfold storedH at hx
    split at hx
    · obtain ⟨y, hy, rfl⟩ := List.mem_map.mp hx
      have := ha y hy
      unfold putAt
      split
      · exact this
      · exact this
    · rcases List.mem_append.mp hx with hx | hx
      · exact ha x hx
      · have e : x = (q.1, q.2.1, q.2.2) := by simpa using hx
        subst e
        exact hj q List.mem_cons_self
/-- the pairs of a list put into a dict, one after another -/
theorem pairs_loop {h0 : Heap} (W : WalksS prog w A.in1 I fp wr G n P St) (D : Addr) (hDf : D ∉ fp) (hD0 : h0.get? D = none) (hw0 : ∀ b ∈ wr, h0.get? b = none) (ks : List KQ) (hlen : ks.length = n) (hb : n ≤ sizeLine) (hu : A.units + 1 < cLine)
    (hks : ∀ q ∈ ks, (tupleKind (mixKind prog w)).is h0 q.1 q.2.1) (hP : ∀ i v, P i v → ∃ ta q, v = .ref ta ∧ ks[i]? = some q ∧ IsTup h0 ta #[.ref q.2.1, q.2.2]) :
    ∀ (k i : Nat) (s : Shared), n - i = k → i ≤ n → St i s → (∀ b o, h0.get? b = some o → s.heap.get? b = some o) → s.heap.DictOfH (tupleKind (mixKind prog w)) D (putAll (ks.take i)) →
      (∀ s', Moved (D :: wr) G s s' → s'.heap.DictOfH (tupleKind (mixKind prog w)) D (putAll ks) → R (.ok (.ret .none)) s') →
      codeAny (model prog w) A (.builtin "dict.update.loop" ⟨[.ref D, .ref I, rawInt (i : Int), .none], []⟩) R s := by
  have hDw : D ∉ wr := fun h => hDf (W.sub _ h)
  have more : ∀ b ∈ wr, b ∈ D :: wr := fun b hb => List.mem_cons_of_mem _ hb
  have tup_up : ∀ {h : Heap} {ta : Addr} {xs : Array Value}, (∀ b o, h0.get? b = some o → h.get? b = some o) → IsTup h0 ta xs → IsTup h ta xs := fun kp ⟨o, h1, h2, m, h3⟩ => ⟨o, kp _ _ h1, h2, m, h3⟩
  have key_up : ∀ {h : Heap} {ka : Addr} {q : List Key}, (∀ b o, h0.get? b = some o → h.get? b = some o) → (tupleKind (mixKind prog w)).is h0 q ka → (tupleKind (mixKind prog w)).is h q ka := fun kp ⟨o, xs, m, h1, h2⟩ => ⟨o, xs, m, kp _ _ h1, h2⟩
  have dict_to : ∀ {s s' : Shared} {xs : List KQ}, Moved wr G s s' → (∀ b o, h0.get? b = some o → s'.heap.get? b = some o) → (∀ x ∈ xs, (tupleKind (mixKind prog w)).is h0 x.1 x.2.1) → s.heap.DictOfH (tupleKind (mixKind prog w)) D xs → s'.heap.DictOfH (tupleKind (mixKind prog w)) D xs :=
    fun hm kp hk ⟨o, es, ep, e1, e2, e3, e4, _, e6⟩ => ⟨o, es, ep, hm.heap D _ hDw e1, e2, e3, e4, fun x hx => key_up kp (hk x hx), e6⟩
  have keep_to : ∀ {s s' : Shared}, Moved wr G s s' → (∀ b o, h0.get? b = some o → s.heap.get? b = some o) → ∀ b o, h0.get? b = some o → s'.heap.get? b = some o := fun hm kp b o e =>
    hm.heap b o (fun hb => by
      rw [hw0 b hb] at e
      cases e) (kp b o e)
  have keys0 : ∀ i, ∀ x ∈ putAll (ks.take i), (tupleKind (mixKind prog w)).is h0 x.1 x.2.1 := fun i => putAll_keys (fun a b => (tupleKind (mixKind prog w)).is h0 a b) _ [] (fun x hx => nomatch hx) fun x hx => hks x (List.mem_of_mem_take hx)
  intro k
  induction k with
  | zero =>
    intro i s hk hi hst kp hS hR
    have hin : i = n := by omega
    subst hin
    refine codeAny_builtin f_entry_loop ?_
    rw [Around.under_plainId f_plain_loop _]
    show wpAny _ A.in1 (pyNext (.ref I) >>= _) _ _ s
    refine wpAny_bind (W.done s _ _ hst fun s' hm => ?_)
    show wpAny _ A.in1 (Builtin.Dict.addKeywords D [] >>= fun _ => ret Value.none) _ _ s'
    refine wpAny_bind (wpAny_pure (wpAny_pure (hR s' (hm.mono more) ?_)))
    have := dict_to hm (keep_to hm kp) (keys0 _) hS
    rw [← hlen, List.take_length] at this
    exact this
  | succ k ih =>
    intro i s hk hi hst kp hS hR
    have hlt : i < n := by omega
    refine codeAny_builtin f_entry_loop ?_
    rw [Around.under_plainId f_plain_loop _]
    show wpAny _ A.in1 (pyNext (.ref I) >>= _) _ _ s
    refine wpAny_bind (W.item i s _ _ hlt hst fun v s' hPv hst' hm => ?_)
    obtain ⟨ta, q, rfl, hq, ht⟩ := hP i v hPv
    have kp' := keep_to hm kp
    have hS' := dict_to hm kp' (keys0 _) hS
    have l1 := putAll_len (ks.take i)
    have l2 : (ks.take i).length ≤ n := by
      rw [List.length_take]
      omega
    have tk : ks.take (i + 1) = ks.take i ++ [q] := by
      rw [List.take_add_one, hq]
      rfl
    refine wpAny_bind (wpAny_holding (wpAny_bind (wpAny_tryCatch (f_pair_items (tup_up kp' ht) ?_))))
    refine wpAny_holding (wpAny_dictSet_heap (show A.in1.units < cLine from hu) (key_up kp' (hks q (List.mem_of_getElem? hq))) hS' (fun h' hd' hs' => ?_) (by omega))
    have kp2 : ∀ b o, h0.get? b = some o → h'.get? b = some o := fun b o e => by
      rw [hs'.2 b (fun z => by
        rw [z, hD0] at e
        cases e)]
      exact kp' b o e
    have d2 : h'.DictOfH (tupleKind (mixKind prog w)) D (putAll (ks.take (i + 1))) := by
      rw [tk, putAll_snoc]
      exact hd'
    refine wpAny_pure ⟨plainId_quiet f_plain_loop _, ?_⟩
    show codeAny _ A (.builtin "dict.update.loop" ⟨[.ref D, .ref I, rawInt ((i : Int) + 1), .none], []⟩) R _
    rw [show ((i : Int) + 1) = ((i + 1 : Nat) : Int) by omega]
    refine ih (i + 1) _ (by omega) hlt (W.frame _ s' _ _ hst' (Nat.le_add_right _ _) fun b hb o e => ?_) kp2 d2 fun s'' hm'' hS'' => ?_
    · rw [hs'.2 b (fun z => hDf (by rw [← z]; exact hb))]
      exact e
    · refine hR s'' (Moved.trans W.gtrans ((hm.mono more).then_heap (Nat.le_add_right _ _) fun b o hb e => ?_) hm'') hS''
      rw [hs'.2 b (fun z => hb (by rw [z]; exact List.mem_cons_self))]
      exact e
end
end L2
namespace L2
open PySem PySem.Spec PyProof.Rows
/-- pairs of a key tuple and a value, as they lie -/
def PrAt (H : Hp) (v : V) (kv : List Key × V) : Prop := ∃ a b, v = V.ref a ∧ H a = some (.tup [.ref b, kv.2]) ∧ H b = some (.tup (kv.1.map kV))
def PrsAt (H : Hp) : List V → List (List Key × V) → Prop := Paired (PrAt H)
theorem PrsAt.mono {H H' : Hp} (s : Same H H') : ∀ {vs : List V} {kvs : List (List Key × V)}, PrsAt H vs kvs → PrsAt H' vs kvs
  | _, _, .nil => .nil
  | _, _, .cons ⟨a, b, e, h1, h2⟩ t => .cons ⟨a, b, e, s _ _ h1, s _ _ h2⟩ (PrsAt.mono s t)
/-- the dict of pairs, the later over the earlier -/
def putsT (kvs : List (List Key × V)) : List (List Key × V) := kvs.foldl (fun acc kv => putK acc kv.1 kv.2) []
theorem KT.puts {H : Hp} : ∀ {kvs : List (List Key × V)} {ks : List KQ} {acc : List (List Key × V)} {xs : List KQ}, KT H kvs ks → KT H acc xs → KT H (kvs.foldl (fun acc kv => putK acc kv.1 kv.2) acc) (ks.foldl (fun acc q => storedH acc q.1 q.2.1 q.2.2) xs)
  | _, _, _, _, .nil, r => r
  | _, _, _, _, .cons (a := kv) (b := q) ⟨h1, h2, h3⟩ t, r => by
    rw [List.foldl_cons, List.foldl_cons]
    refine KT.puts t ?_
    rw [← h1]
    exact r.put kv.1 h2 h3
theorem kt_keys {P : Program} {w : World} {H : Hp} {h : Heap} (ok : HOk P w H h) : ∀ {kvs : List (List Key × V)} {ks : List KQ}, KT H kvs ks → ∀ x ∈ ks, (tupleKind (mixKind P w)).is h x.1 x.2.1
  | _, _, .nil, x, hx => nomatch hx
  | _, _, .cons (b := q) ⟨h1, h2, _⟩ t, x, hx => by
    rcases List.mem_cons.mp hx with e | hx
    · subst e
      exact key_of ok (by rw [← h1]; exact h2)
    · exact kt_keys ok t x hx
theorem prs_raw {P : Program} {w : World} {H : Hp} {h : Heap} (ok : HOk P w H h) : ∀ {vs : List V} {kvs : List (List Key × V)} {its : List Value}, PrsAt H vs kvs → Vals vs its → ∃ ks : List KQ, KT H kvs ks ∧ ks.length = its.length ∧ (∀ (i : Nat) (v : Value), its[i]? = some v → ∃ (ta : Addr) (q : KQ), v = Value.ref ta ∧ ks[i]? = some q ∧ IsTup h ta #[.ref q.2.1, q.2.2])
  | _, _, _, .nil, .nil => ⟨[], .nil, rfl, fun i v e => by simp at e⟩
  | _, _, _, .cons (b := kv) ⟨a, b, e, h1, h2⟩ t, .cons rv rs => by
    obtain ⟨ks, k1, k2, k3⟩ := prs_raw ok t rs
    subst e
    cases rv
    obtain ⟨_, xs, r, tp⟩ := (show ObjOk P w H h a (.tup [.ref b, kv.2]) from ok a _ h1)
    obtain ⟨u, u2, rfl, ru, ru2⟩ := vals2 r
    cases ru
    refine ⟨(kv.1, b, u2) :: ks, .cons ⟨rfl, h2, ru2⟩ k1, by rw [List.length_cons, List.length_cons, k2], fun i v e => ?_⟩
    cases i with
    | zero =>
      have e' : Value.ref a = v := by simpa using e
      exact ⟨a, _, e'.symm, rfl, tp⟩
    | succ i =>
      obtain ⟨ta, q, h1, h2, h3⟩ := k3 i v (by simpa using e)
      exact ⟨ta, q, h1, by simpa using h2, h3⟩
section
variable {X : Cx}
set_option maxHeartbeats 8000000 in
theorem call_dict_pairs (hu : X.A.units + 64 < cLine) (hh : X.A.handled = none) : CallR X (.type "dict") (fun xs H Q => ∃ l us kvs, xs = [.ref l] ∧ H l = some (.lst us) ∧ PrsAt H us kvs ∧ ∀ d, H d = none → Q (.ref d) (upd H d (.dT (putsT kvs)))) := by
  intro pins s σ H xs us' Q I r h
  obtain ⟨l, us, kvs, rfl, hl, hp, q⟩ := h
  obtain ⟨u, rfl, ru⟩ := vals1 r
  cases ru
  obtain ⟨hz, its, n, rv, e⟩ := (show ObjOk X.prog X.w H s.heap l (.lst us) from I.hok l _ hl)
  obtain ⟨ks, hkt, hkl, hraw⟩ := prs_raw I.hok hp rv
  have big := I.big
  have hil : its.length ≤ sizeLine := by
    rw [← rv.length]
    exact hz
  have hks := kt_keys I.hok hkt
  refine callType_codes (Q₁ := fun obj s₁ => obj = .ref s.heap.objs.size ∧ s₁ = { s with heap := s.heap.push { cls := .type "dict", data := .dict #[] } }) PySem.F.kt_called_dict (PySem.F.kt_typeCall_dict_1 _) PySem.F.entry_dict_init (kt_code_dict_new _ ⟨rfl, rfl⟩) ?_
  rintro obj s₁ ⟨rfl, rfl⟩
  have hnew : (s.heap.push { cls := .type "dict", data := .dict #[] }).DictOfH (tupleKind (mixKind X.prog X.w)) s.heap.objs.size [] := Heap.DictOfH.new s.heap
  have e1 : (s.heap.push { cls := .type "dict", data := .dict #[] }).get? l = some { cls := .type "list", dict := none, data := .seq its.toArray n, slots := #[] } := Heap.get?_push_of_some _ e
  refine ⟨hnew.typeIs, PySem.F.args_dict_init_2 _ _, ?_⟩
  unfold Builtin.«dict.__init__»
  refine wpAny_bind ?_
  unfold Builtin.Dict.selfAndRest
  refine wpAny_bind (wpAny_notOrdered_dict hnew.typeIs ?_)
  show wpAny _ _ (pure (s.heap.objs.size, [Value.ref l])) _ _ _
  refine wpAny_pure ?_
  show wpAny _ _ (Builtin.Dict.updateFrom "dict.__init__" s.heap.objs.size (.ref l) [] .none) _ _ _
  unfold Builtin.Dict.updateFrom
  have hT : Shared.TypeIs { s with heap := s.heap.push { cls := .type "dict", data := .dict #[] } } (.ref l) "list" := ⟨_, e1, rfl⟩
  refine wpAny_bind (wpAny_typeOf hT ?_)
  rw [if_pos (by decide)]
  refine wpAny_bind (nk_none e1 (by simp [hh]) fun h2 t2 kp => ?_)
  rw [if_pos (show (none : Option Value).isNone = true from rfl)]
  have kp0 : ∀ b o', s.heap.get? b = some o' → h2.get? b = some o' := fun b o' z => kp b o' (Heap.get?_push_of_some _ z)
  have hl2 : h2.IsList l its.toArray := ⟨_, kp _ _ e1, rfl, n, rfl⟩
  refine wpAny_bind (wpAny_rule (wpAny_bind (wpAny_pyIter_list hl2 ?_)))
  have hls : l < s.heap.objs.size := Heap.lt_size e
  have hDl : s.heap.objs.size < h2.objs.size := by
    obtain ⟨o, _, _, ho, _⟩ := hnew
    exact Heap.lt_size (kp _ _ ho)
  have hneI : l ≠ h2.objs.size := Nat.ne_of_lt (Nat.lt_trans hls hDl)
  have hDf : s.heap.objs.size ∉ [h2.objs.size, l] := by
    simp only [List.mem_cons, List.not_mem_nil, or_false, not_or]
    exact ⟨Nat.ne_of_lt hDl, Nat.ne_of_gt hls⟩
  refine wpAny_pure ⟨plainId_quiet f_plain_loop _, ?_⟩
  have hd2 : (h2.push { cls := .type "list_iterator", data := .fields #[.ref l, .int 0 0] }).DictOfH (tupleKind (mixKind X.prog X.w)) s.heap.objs.size [] := by
    obtain ⟨o, es, ep, ho, h3, h4, h5, _, h6⟩ := hnew
    exact ⟨o, es, ep, Heap.get?_push_of_some _ (kp _ _ ho), h3, h4, h5, (fun x hx => nomatch hx), h6⟩
  refine pairs_loop (h0 := s.heap) ((Walks.list (by simp [hh]) h2.objs.size l hneI its.toArray).toS) s.heap.objs.size hDf (Heap.get?_none_of_le (Nat.le_refl _)) (fun b hb => ?_) ks (by rw [hkl]; simp) (by simpa using hil) (by show X.A.units + 1 + 1 < cLine; omega) hks (fun i v hv => hraw i v (by rw [← hv]; simp)) _ 0 _ rfl (Nat.zero_le _)
    ⟨⟨_, Heap.get?_push_size _ rfl, rfl, rfl⟩, hl2.push _⟩ (fun b o z => Heap.get?_push_of_some _ (kp0 b o z)) hd2 ?_
  · have e : b = h2.objs.size := by simpa using hb
    rw [e]
    exact Heap.get?_none_of_le (Nat.le_of_lt hDl)
  · intro s' hm hS'
    obtain ⟨h', g', d', tk', os'⟩ := s'
    have eg : g' = s.gens := hm.gens
    have ed : d' = s.drawn := hm.drawn
    have eo : os' = s.os := hm.os
    subst eg
    subst ed
    subst eo
    have kp3 : ∀ b o', s.heap.get? b = some o' → h'.get? b = some o' := fun b o' z => by
      have lt := Heap.lt_size z
      refine hm.heap b o' (fun hb => ?_) (Heap.get?_push_of_some _ (kp0 b o' z))
      rcases List.mem_cons.mp hb with e | hb
      · exact Nat.lt_irrefl _ (e ▸ lt)
      · have e : b = h2.objs.size := by simpa using hb
        rw [e] at lt
        exact Nat.lt_irrefl _ (Nat.lt_trans lt hDl)
    obtain ⟨o, es, ep, ho, h3, h4, h5, _, h6⟩ := hS'
    have hkk : KT H (putsT kvs) (putAll ks) := KT.puts hkt .nil
    have hfresh : H s.heap.objs.size = none := I.hok.fresh (Nat.le_refl _)
    refine ⟨rfl, .ref s.heap.objs.size, _, I.laid (a := s.heap.objs.size) (o := .dT (putsT kvs)) (t' := tk') kp3 (Nat.le_refl _) ⟨?_, beq_eq_false_iff_ne.mpr (Ne.symm (Nat.ne_of_lt big)), _, KT.keeps hkk fun b ys hb => ?_, o, es, ep, ho, h3, h4, h5, h6⟩, rfl, q _ hfresh⟩
    · rw [Paired.length hkk]
      exact Nat.le_trans (putAll_len ks) (by rw [hkl]; exact hil)
    · rw [upd_ne (ne_of_none hb hfresh)]
      exact hb
end
end L2
namespace L2
theorem u1 {A : PySem.Around} (h : A.units + 64 < PySem.cLine) : A.units + 1 < PySem.cLine := by omega
end L2

/-! Own rules: comprehensions over zip of two lists; pairs that stay; what a dict of pairs holds. -/
namespace L2
open PySem PySem.Spec PyProof.Rows
section
variable {K : PySem.W.Frag} {g : TG} {tc : TT} {te : TE} {Q : VK} {σ0 : St} {D : Addr}
end
theorem PrsAt.into {H : Hp} (z : Addr) (o : HO) {old : List V} (hz : H z = some (.lst old)) : ∀ {vs : List V} {kvs : List (List Key × V)}, PrsAt H vs kvs → PrsAt (upd H z o) vs kvs
  | _, _, .nil => .nil
  | _, _, .cons ⟨a, b, e, h1, h2⟩ t => .cons ⟨a, b, e, by rw [upd_ne (ne_of h1 hz (by intro y; cases y))]; exact h1, by rw [upd_ne (ne_of h2 hz (by intro y; cases y))]; exact h2⟩ (PrsAt.into z o hz t)
theorem PrsAt.snoc {H : Hp} {vs : List V} {kvs : List (List Key × V)} {v : V} {kv : List Key × V} (h : PrsAt H vs kvs) (x : PrAt H v kv) : PrsAt H (vs ++ [v]) (kvs ++ [kv]) := Paired.snoc h x
theorem PrsAt.length {H : Hp} {vs : List V} {kvs : List (List Key × V)} (h : PrsAt H vs kvs) : vs.length = kvs.length := Paired.length h
end L2

namespace L2
open PySem PySem.Spec PyProof.Rows
section
variable {prog : Program} {w : World} {A : Around} {E : Value → Shared → Prop} {s : Shared} {d o a : Addr} {xs ys : List KQ} {k : List Key} {v : Value}
abbrev tk2 (prog : Program) (w : World) : HeapKind prog w (List Key) := tupleKind (mixKind prog w)
theorem set_hashed {Q : Unit → Shared → Prop} (hu : A.units < cLine) (hkey : (tk2 prog w).is s.heap k a) (hm : s.heap.DictOfH (tk2 prog w) d xs) (hsz : xs.length ≤ sizeLine)
    (hQ : ∀ h', h'.DictOfH (tk2 prog w) d (storedH xs k a v) → Heap.SameBut d s.heap h' → Q () { s with heap := h' }) : wpAny (model prog w) A (dictSetHashed d (.ref a) ((tk2 prog w).hash k) v) Q E s := by
  obtain ⟨ob, es, ep, ho, hc, hd, he, his, hn⟩ := hm
  unfold dictSetHashed
  refine wpAny_holding (wpAny_bind (wpAny_dictFind_heap (knd := tk2 prog w) hu hkey ho hd he his hn (fun hno => ?_) fun j p hj => ?_))
  · have hnot := not_mem_keys_of_get hno
    have en := atKey_none_of_get hno
    refine wpAny_bind (wpAny_rule (wpAny_updateDictKeys (hz := by have e := size_of_entries he; omega) ho hd (hQ _ ⟨_, _, ep + 1, Heap.get?_update_self _ ho (Obj.isFreed_of_dict (Obj.data_mapDictKeys hd _)), hc.mapDictKeys _, Obj.data_mapDictKeys hd _, ?_, ?_, ?_⟩ (Heap.SameBut.update ..))))
    · rw [storedH_new en]
      simp [he, entryOfKey]
    · rw [storedH_new en]
      intro x hx
      rcases List.mem_append.mp hx with hx | hx
      · exact (tk2 prog w).keeps (his x hx) ho hd (Heap.SameBut.update ..)
      · have e : x = (k, a, v) := by simpa using hx
        subst e
        exact (tk2 prog w).keeps hkey ho hd (Heap.SameBut.update ..)
    · rw [storedH_new en, List.map_append, List.nodup_append]
      refine ⟨hn, by simp, fun x hx y hy e => hnot ?_⟩
      have e2 : y = k := by simpa using hy
      rw [← e2, ← e]
      exact hx
  · have es1 := storedH_old (atKey_of_get hn hj) a v
    refine wpAny_bind (wpAny_rule (wpAny_bind (wpAny_updateDict ho hd (wpAny_point (hQ _ ⟨_, _, ep, Heap.get?_update_self _ ho (Obj.isFreed_of_dict (Obj.data_mapDict hd _)), hc.mapDict _, Obj.data_mapDict hd _, ?_, ?_, ?_⟩ (Heap.SameBut.update ..))))))
    · rw [es1]
      have z := modify_map_putAt (entryOfKey (tk2 prog w)) (fun e : DictEntry => { e with val := v }) k v (fun _ _ => rfl) hn hj
      rw [← he] at z
      obtain ⟨l⟩ := es
      simpa using z
    · rw [es1]
      intro x hx
      obtain ⟨y, hy, rfl⟩ := List.mem_map.mp hx
      unfold putAt
      split <;> exact (tk2 prog w).keeps (his y hy) ho hd (Heap.SameBut.update ..)
    · rw [es1, keys_map_putAt]
      exact hn
/-- the hashes of its keys are unlike -/
def HN (prog : Program) (w : World) (ys : List KQ) : Prop := (ys.map fun q => (tk2 prog w).hash q.1).Nodup
theorem f_eq_tuple : typeLookup (.type "tuple") "__eq__" = pure (some (.builtin "tuple.__eq__")) := by rw [typeLookup_type, builtinLookup_eq_fast]; kernel_rfl
theorem quiet_tuple {Q : Bool → Shared → Prop} (hkey : (tk2 prog w).is s.heap k a) (q : Q false s) : wpAny (model prog w) A (Builtin.Dict.quietEq (.ref a)) Q E s := by
  obtain ⟨ob, its, n, h1, h2, _⟩ := hkey
  have hT : s.TypeIs (.ref a) "tuple" := ⟨ob, h1, h2⟩
  unfold Builtin.Dict.quietEq
  refine wpAny_bind (wpAny_specialOf hT f_eq_tuple (wpAny_pure ?_))
  rw [show (some (Value.builtin "tuple.__eq__") == some (Value.builtin "object.__eq__")) = false by decide +kernel]
  exact q
theorem count_one {ys : List KQ} {es : Array DictEntry} (he : es.toList = ys.map (entryOfKey (tk2 prog w))) (hN : HN prog w ys) (x : Int) : ¬ (es.filter (fun e => e.hash == x)).size > 1 := by
  have h1 : (es.filter (fun e => e.hash == x)).size = (es.toList.filter (fun e => e.hash == x)).length := by
    rw [← Array.toList_filter, Array.length_toList]
  rw [h1, he]
  unfold HN at hN
  clear h1 he
  induction ys with
  | nil => simp
  | cons q r ih =>
    rw [List.map_cons, List.nodup_cons] at hN
    rw [List.map_cons, List.filter_cons]
    split
    · rename_i hq
      have e1 : (tk2 prog w).hash q.1 = x := by simpa [entryOfKey] using hq
      have : (r.map (entryOfKey (tk2 prog w))).filter (fun e => e.hash == x) = [] := by
        rw [List.filter_eq_nil_iff]
        intro e hm hx
        obtain ⟨y, hy, rfl⟩ := List.mem_map.mp hm
        have e2 : (tk2 prog w).hash y.1 = x := by simpa [entryOfKey] using hx
        exact hN.1 (List.mem_map.mpr ⟨y, hy, by rw [e1, e2]⟩)
      rw [this]
      simp
    · exact ih hN.2
theorem for_empty {id : String} {ob : Obj} {es : Array DictEntry} {ep : Nat} {Q : Array DictEntry → Shared → Prop} (ho : s.heap.get? d = some ob) (hd : ob.data = .dict es ep) (he : es.toList = ys.map (entryOfKey (tk2 prog w))) (hk : ∀ x ∈ ys, (tk2 prog w).is s.heap x.1 x.2.1) (hN : HN prog w ys) (h : Q es s) :
    wpAny (model prog w) A (Builtin.Dict.entriesForEmpty id d) Q E s := by
  unfold Builtin.Dict.entriesForEmpty
  refine wpAny_bind (wpAny_dictEntries ho hd (wpAny_bind ?_))
  rw [← Array.forIn_toList]
  refine wpAny_forIn_list _ (fun rest _ s' => s' = s ∧ ∀ e ∈ rest, e ∈ es.toList) _ ?_ ?_ _ _ ⟨rfl, fun e he => he⟩
  · rintro x rest b s' ⟨rfl, hr⟩
    have hx := hr x List.mem_cons_self
    rw [he] at hx
    obtain ⟨y, hy, rfl⟩ := List.mem_map.mp hx
    refine wpAny_bind (quiet_tuple (hk y hy) ?_)
    rw [if_pos (show (!false) = true from rfl), if_neg (count_one he hN _)]
    exact wpAny_pure ⟨rfl, fun e he => hr e (List.mem_cons_of_mem _ he)⟩
  · rintro b s' ⟨rfl, _⟩
    exact wpAny_pure h
/-- the second dict's pairs put into the first -/
def mergeH (xs ys : List KQ) : List KQ := ys.foldl (fun acc q => storedH acc q.1 q.2.1 q.2.2) xs
theorem mergeH_snoc (xs ys : List KQ) (q : KQ) : mergeH xs (ys ++ [q]) = storedH (mergeH xs ys) q.1 q.2.1 q.2.2 := by
  unfold mergeH
  rw [List.foldl_append]
  rfl
theorem mergeH_len (xs : List KQ) : ∀ ys : List KQ, ∀ acc : List KQ, (mergeH acc ys).length ≤ acc.length + ys.length
  | [], acc => Nat.le_refl _
  | q :: r, acc => by
    have h1 := mergeH_len xs r (storedH acc q.1 q.2.1 q.2.2)
    have h2 := storedH_len acc q.1 q.2.1 q.2.2
    rw [List.length_cons]
    show (mergeH (storedH acc q.1 q.2.1 q.2.2) r).length ≤ _
    omega
theorem mergeH_fresh : ∀ (ys acc : List KQ), ((acc ++ ys).map (·.1)).Nodup → mergeH acc ys = acc ++ ys
  | [], acc, _ => (List.append_nil acc).symm
  | q :: r, acc, h => by
    have hno : atKey acc q.1 = none := by
      unfold atKey
      rw [List.find?_eq_none.mpr]
      · rfl
      · intro x hx hk
        rw [List.map_append, List.map_cons, List.nodup_append] at h
        exact h.2.2 x.1 (List.mem_map.mpr ⟨x, hx, rfl⟩) q.1 List.mem_cons_self (of_decide_eq_true hk)
    show mergeH (storedH acc q.1 q.2.1 q.2.2) r = _
    rw [storedH_new hno, show ((q.1, q.2.1, q.2.2) : KQ) = q from rfl, mergeH_fresh r (acc ++ [q]) (by simpa using h)]
    simp
theorem merge_h {nm : String} {Q : Unit → Shared → Prop} (hu : A.units < cLine) (hdo : d ≠ o) (hoS : (o == sysModules) = false) (hd : s.heap.DictOfH (tk2 prog w) d xs) (ho : s.heap.DictOfH (tk2 prog w) o ys) (hN : HN prog w ys) (hsz : xs.length + ys.length ≤ sizeLine)
    (hQ : ∀ h', h'.DictOfH (tk2 prog w) d (mergeH xs ys) → Heap.SameBut d s.heap h' → Q () { s with heap := h' }) : wpAny (model prog w) A (Builtin.Dict.mergeDict nm d o) Q E s := by
  obtain ⟨od, esd, epd, hod, hcd, hdd, hed, hkd, hnd⟩ := id hd
  obtain ⟨oo, eso, epo, hoo, hco, hdo', heo, hko, hno⟩ := id ho
  have hlen : ys.length = eso.size := (size_of_entries heo).symm
  unfold Builtin.Dict.mergeDict
  rw [if_neg (show ¬ (d == o) = true by simpa using hdo)]
  unfold Builtin.Dict.showsAll
  rw [if_neg (show ¬ (o == sysModules) = true by rw [hoS]; exact Bool.false_ne_true)]
  refine wpAny_bind (wpAny_pure (wpAny_bind (wpAny_dictEntries hoo hdo' ?_)))
  have loop : wpAny (model prog w) A (do
      let epoch ← dictEpoch o
      let l ← dictEntries o
      forIn [:l.size] PUnit.unit fun i (_ : PUnit) => (do
          let l' ← dictEntries o
          match l'[i]? with
            | some e => do
              holding [e.key, e.val] (dictSetHashed d e.key e.hash e.val)
              let ep' ← dictEpoch o
              if (ep' != epoch) = true then do
                  (unsupported (toString nm ++ toString ":source-changed-during-callback") : Sem PUnit)
                  pure (ForInStep.yield PUnit.unit)
                else pure (ForInStep.yield PUnit.unit)
            | _ => do
              (unsupported "internal:dict-merge" : Sem PUnit)
              pure (ForInStep.yield PUnit.unit) : Sem (ForInStep PUnit))
      pure ()) Q E s := by
    refine wpAny_bind (wpAny_dictEpoch hoo hdo' (wpAny_bind (wpAny_dictEntries hoo hdo' (wpAny_bind ?_))))
    rw [Std.Legacy.Range.forIn_eq_forIn_range']
    simp only [Std.Legacy.Range.size, Nat.sub_zero, Nat.add_sub_cancel, Nat.div_one]
    refine wpAny_forIn_list _ (fun rest _ s' => ∃ h' i, s' = { s with heap := h' } ∧ rest = List.range' i (eso.size - i) ∧ i ≤ eso.size ∧ h'.DictOfH (tk2 prog w) d (mergeH xs (ys.take i)) ∧ Heap.SameBut d s.heap h') _ ?_ ?_ _ _ ⟨s.heap, 0, rfl, by simp, Nat.zero_le _, hd, Heap.SameBut.refl _ _⟩
    · rintro x rest b s' ⟨h', i, rfl, hr, hi, hd', hs'⟩
      have hlt : i < eso.size := by
        rcases Nat.lt_or_ge i eso.size with h | h
        · exact h
        · rw [Nat.sub_eq_zero_of_le h] at hr
          simp at hr
      obtain ⟨rfl, hrest⟩ : x = i ∧ rest = List.range' (i + 1) (eso.size - (i + 1)) := by
        rw [show eso.size - i = (eso.size - (i + 1)) + 1 by omega, List.range'_succ] at hr
        injection hr with h1 h2
        exact ⟨h1, h2⟩
      have hoo' : h'.get? o = some oo := (hs'.2 o (Ne.symm hdo)).trans hoo
      obtain ⟨q, hq⟩ : ∃ q, ys[x]? = some q := ⟨_, List.getElem?_eq_getElem (by omega)⟩
      refine wpAny_bind (wpAny_dictEntries hoo' hdo' ?_)
      rw [entry_at heo x, hq]
      have hkq := hko q (List.mem_of_getElem? hq)
      have hkq' : (tk2 prog w).is h' q.1 q.2.1 := (tk2 prog w).keeps hkq hod hdd hs'
      have l1 := mergeH_len xs (ys.take x) xs
      have l2 : (ys.take x).length ≤ ys.length := by
        rw [List.length_take]
        omega
      refine wpAny_bind (wpAny_holding (set_hashed (s := { s with heap := h' }) hu hkq' hd' (by omega) fun h'' hd'' hs'' => ?_))
      have hoo'' : h''.get? o = some oo := (hs''.2 o (Ne.symm hdo)).trans hoo'
      refine wpAny_bind (wpAny_dictEpoch hoo'' hdo' ?_)
      rw [if_neg (by simp)]
      refine wpAny_pure ⟨h'', x + 1, rfl, hrest, hlt, ?_, hs'.trans hs''⟩
      rw [List.take_add_one, hq]
      show h''.DictOfH (tk2 prog w) d (mergeH xs (ys.take x ++ [q]))
      rw [mergeH_snoc]
      exact hd''
    · rintro b s' ⟨h', i, rfl, hr, hi, hd', hs'⟩
      have hin : i = eso.size := by
        rcases Nat.lt_or_ge i eso.size with h | h
        · rw [show eso.size - i = (eso.size - (i + 1)) + 1 by omega, List.range'_succ] at hr
          exact nomatch hr
        · exact Nat.le_antisymm hi h
      rw [hin, ← hlen, List.take_length] at hd'
      exact wpAny_pure (hQ h' hd' hs')
  dsimp only
  split
  · refine wpAny_bind (wpAny_dictEntries hod hdd ?_)
    split
    · rename_i hemp
      have hx0 : xs = [] := by
        have h0 : esd = #[] := Array.isEmpty_iff.mp hemp
        rw [h0] at hed
        exact List.map_eq_nil_iff.mp hed.symm
      subst hx0
      rw [mergeH_fresh ys [] (by simpa using hno)] at hQ
      refine wpAny_bind (for_empty hoo hdo' heo hko hN ?_)
      split
      · refine wpAny_bind (wpAny_updateDictKeysTo hod hdd (wpAny_pure (hQ _ ⟨_, _, epd + 1, Heap.get?_update_self _ hod (Obj.isFreed_of_dict (Obj.data_mapDictKeys hdd _)), hcd.mapDictKeys _, Obj.data_mapDictKeys hdd _, heo, fun x hx => (tk2 prog w).keeps (hko x hx) hod hdd (Heap.SameBut.update ..), hno⟩ (Heap.SameBut.update ..))) (by
          simp only [List.length_nil, Nat.zero_add] at hsz
          omega))
      · rename_i hne
        have h0 : eso = #[] := Array.isEmpty_iff.mp (by simpa using hne)
        have hy0 : ys = [] := by
          rw [h0] at heo
          exact List.map_eq_nil_iff.mp heo.symm
        subst hy0
        exact wpAny_pure (hQ _ hd (Heap.SameBut.refl _ _))
    · exact loop
  · exact loop
end
end L2
namespace L2
open PySem PySem.Spec PyProof.Rows
def HH (i j : Nat) : Int := reduceHash (Builtin.Tuple.tupleHashOf [hashInt (i : Int), hashInt (j : Int)])
theorem hash_is (prog : Program) (w : World) (i j : Nat) : (tk2 prog w).hash [.inl ((i : Nat) : Int), .inl ((j : Nat) : Int)] = HH i j := by
  show tupleKeyHash (mixKind prog w) [.inl ((i : Nat) : Int), .inl ((j : Nat) : Int)] = HH i j
  unfold tupleKeyHash HH
  rw [List.map_cons, List.map_cons, List.map_nil]
  have e : ∀ n : Nat, (mixKind prog w).hash (.inl ((n : Nat) : Int)) = hashInt ((n : Nat) : Int) := fun n => by
    show keyH w (.inl ((n : Nat) : Int)) = _
    unfold keyH
    with_reducible rfl
  rw [e, e]
theorem hh_all : (List.range 64).all fun n => (List.range 64).all fun m => decide (HH (n / 8) (n % 8) = HH (m / 8) (m % 8)) == decide (n = m) := by decide +kernel
theorem hh_apart {i j i' j' : Nat} (h1 : i < 8) (h2 : j < 8) (h3 : i' < 8) (h4 : j' < 8) (e : HH i j = HH i' j') : i = i' ∧ j = j' := by
  have h := hh_all
  rw [List.all_eq_true] at h
  have a := h (8 * i + j) (List.mem_range.mpr (by omega))
  rw [List.all_eq_true] at a
  have b := a (8 * i' + j') (List.mem_range.mpr (by omega))
  rw [show (8 * i + j) / 8 = i by omega, show (8 * i + j) % 8 = j by omega, show (8 * i' + j') / 8 = i' by omega, show (8 * i' + j') % 8 = j' by omega, decide_eq_true e] at b
  have c : decide (8 * i + j = 8 * i' + j') = true := by simpa using b
  have d := of_decide_eq_true c
  omega
/-- keys that are pairs of numbers below 8 -/
def Small (ks : List (List Key)) : Prop := ∀ k ∈ ks, ∃ i j : Nat, i < 8 ∧ j < 8 ∧ k = [.inl ((i : Nat) : Int), .inl ((j : Nat) : Int)]
theorem hn_of {prog : Program} {w : World} : ∀ {ys : List KQ}, Small (ys.map (·.1)) → (ys.map (·.1)).Nodup → HN prog w ys
  | [], _, _ => List.nodup_nil
  | q :: r, hs, hn => by
    rw [List.map_cons, List.nodup_cons] at hn
    unfold HN
    rw [List.map_cons, List.nodup_cons]
    refine ⟨fun hm => ?_, hn_of (fun k hk => hs k (List.mem_cons_of_mem _ hk)) hn.2⟩
    obtain ⟨y, hy, e⟩ := List.mem_map.mp hm
    obtain ⟨i, j, h1, h2, e1⟩ := hs q.1 List.mem_cons_self
    obtain ⟨i', j', h3, h4, e2⟩ := hs y.1 (List.mem_cons_of_mem _ (List.mem_map.mpr ⟨y, hy, rfl⟩))
    rw [e1, e2, hash_is, hash_is] at e
    obtain ⟨a, b⟩ := hh_apart h3 h4 h1 h2 e
    refine hn.1 (List.mem_map.mpr ⟨y, hy, ?_⟩)
    rw [e1, e2, a, b]
end L2
namespace L2
open PySem PySem.Spec PyProof.Rows
theorem KT.keys {H : Hp} : ∀ {kvs : List (List Key × V)} {xs : List KQ}, KT H kvs xs → xs.map (·.1) = kvs.map (·.1)
  | _, _, .nil => rfl
  | _, _, .cons ⟨h1, _, _⟩ t => by rw [List.map_cons, List.map_cons, KT.keys t, h1]
theorem dt_small {P : Program} {w : World} {H : Hp} {kvs : List (List Key × V)} {xs : List KQ} (r : KT H kvs xs) (hs : Small (kvs.map (·.1))) (hn : (xs.map (·.1)).Nodup) : HN P w xs := hn_of (by rw [r.keys]; exact hs) hn
/-- dicts merged -/
def mergeT (kvs more : List (List Key × V)) : List (List Key × V) := more.foldl (fun acc kv => putK acc kv.1 kv.2) kvs
theorem mergeT_len : ∀ (more kvs : List (List Key × V)), (mergeT kvs more).length ≤ kvs.length + more.length
  | [], kvs => Nat.le_refl _
  | kv :: r, kvs => by
    have h1 := mergeT_len r (putK kvs kv.1 kv.2)
    have h2 := length_putK kvs kv.1 kv.2
    show (mergeT (putK kvs kv.1 kv.2) r).length ≤ _
    rw [List.length_cons]
    omega
section
variable {X : Cx}
end
end L2
namespace L2
open PySem PySem.Spec PyProof.Rows
section
variable {X : Cx}
theorem mt_dupdate (hu : X.A.units + 64 < cLine) : MtR X "dict.update" (fun x vs H Q => ∃ d o kvs more, x = .ref d ∧ vs = [.ref o] ∧ d ≠ o ∧ H d = some (.dT kvs) ∧ H o = some (.dT more) ∧ Small (more.map (·.1)) ∧ kvs.length + more.length ≤ sizeLine ∧ Q .non (upd H d (.dT (mergeT kvs more)))) := by
  intro pins s σ H x vs v us Q I rx rv h
  obtain ⟨d, o, kvs, more, rfl, rfl, hdo, hd, ho, hsm, hsz, q⟩ := h
  cases rx
  obtain ⟨u, rfl, ru⟩ := vals1 rv
  cases ru
  obtain ⟨hz, hS, ks, hkt, dd⟩ := dt_of I.hok hd
  obtain ⟨hz2, hS2, ks2, hkt2, dd2⟩ := dt_of I.hok ho
  have hN : HN X.prog X.w ks2 := by
    obtain ⟨_, _, _, _, _, _, _, _, hn⟩ := dd2
    exact dt_small hkt2 hsm hn
  refine wpAny_call_entry PySem.F.slot_dict_update dd.typeIs PySem.F.entry_dict_update ?_ (PySem.F.args_dict_update_2 _ _)
  unfold Builtin.«dict.update»
  refine wpAny_bind ?_
  unfold Builtin.Dict.selfAndRest
  refine wpAny_bind (wpAny_notOrdered_dict dd.typeIs ?_)
  show wpAny _ _ (pure (d, [Value.ref o])) _ _ s
  refine wpAny_pure ?_
  show wpAny _ _ (Builtin.Dict.updateFrom "dict.update" d (.ref o) [] .none) _ _ s
  unfold Builtin.Dict.updateFrom
  refine wpAny_bind (wpAny_typeOf dd2.typeIs ?_)
  rw [if_neg (by decide)]
  refine wpAny_bind ?_
  unfold Builtin.Dict.merge
  refine wpAny_bind ?_
  unfold Builtin.Dict.readDirectly
  refine wpAny_bind (wpAny_isInstance dd2.typeIs isSubtype_dict_dict ?_)
  simp only [Bool.not_true, Bool.false_eq_true, if_false]
  refine wpAny_bind (wpAny_specialOf dd2.typeIs PySem.F.slot_dict_iter.lookup (wpAny_pure ?_))
  simp only [beq_self_eq_true, if_true]
  refine wpAny_bind (wpAny_pure ?_)
  have l1 : ks.length = kvs.length := (Paired.length hkt).symm
  have l2 : ks2.length = more.length := (Paired.length hkt2).symm
  refine merge_h (by show X.A.units + 1 < cLine; omega) hdo hS2 dd dd2 hN (by omega) fun h' hd' hs' => ?_
  show wpAny _ _ (Builtin.Dict.addKeywords d [] >>= _) _ _ _
  refine wpAny_bind (wpAny_pure (wpAny_pure ⟨_, rfl, ?_⟩))
  obtain ⟨ob, es, ep, hob, h3, h4, h5, _, h6⟩ := hd'
  have hkk : KT H (mergeT kvs more) (mergeH ks ks2) := KT.puts hkt2 hkt
  have hl := mergeT_len more kvs
  refine ⟨.non, _, d_write (t' := s.toks) (ob := .dT (mergeT kvs more)) I (by rw [hd]; exact True.intro) hs' ⟨ob, hob⟩ ⟨by omega, hS, _, hkk.keeps fun c ys ec => ?_, ob, es, ep, hob, h3, h4, h5, h6⟩, rfl, q⟩
  rw [upd_ne (ne_of ec hd (fun z => nomatch z))]
  exact ec
end
end L2
namespace L2
open PySem PySem.Spec PyProof.Rows
def IntVals (kvs : List (List Key × V)) : Prop := ∀ kv ∈ kvs, ∃ i : Int, kv.2 = V.int i
section
variable {prog : Program} {w : World} {A : Around} {E : Value → Shared → Prop} {s : Shared} {a b : Addr} {H : Hp} {kvs : List (List Key × V)} {ka kb : List KQ}
end
section
variable {X : Cx}
end
end L2
namespace L2
open PySem PySem.Spec PyProof.Rows
section
variable {prog : Program} {w : World} {A : Around} {E : Value → Shared → Prop} {s : Shared} {d it : Addr} {od : Obj} {es : Array DictEntry} {ep i : Nat}
end
end L2
namespace L2
open PySem PySem.Spec PyProof.Rows
/-- the keys of a dict that no one changes in the meantime -/
def Itd (d : Addr) (o : Obj) (kvs : List (List Key × V)) : It :=
  ⟨fun i H => H d = some (.frz o (.dT kvs)) ∧ i < kvs.length, fun i H x H' => H' = H ∧ ∃ kv b, kvs[i]? = some kv ∧ x = V.ref b ∧ H b = some (.tup (kv.1.map kV)), fun i H => H d = some (.frz o (.dT kvs)) ∧ kvs.length ≤ i⟩
section
variable {X : Cx} {tg : Expr}
def iDict (tl : TE) : TI := fun σ H R => tl σ H fun x H1 => ∃ a kvs, x = .ref a ∧ H1 a = some (.dT kvs) ∧ ∀ o, R (Itd a o kvs) (upd H1 a (.frz o (.dT kvs)))
end
end L2

/-! Own rules: str of a number or of a text. -/
namespace L2
open PySem PySem.Spec PyProof.Rows
section
variable {X : Cx}
end
end L2

/-! Own rules: max and min of three numbers, list of a text. -/
namespace L2
open PySem PySem.Spec PyProof.Rows
section
variable {X : Cx}
theorem vals3 {x y z : V} {us : List Value} (r : Vals [x, y, z] us) : ∃ u v w', us = [u, v, w'] ∧ RelV x u ∧ RelV y v ∧ RelV z w' := by
  cases r with
  | cons r1 r2 =>
    obtain ⟨v, w', rfl, h1, h2⟩ := vals2 r2
    exact ⟨_, v, w', rfl, r1, h1, h2⟩
def mx3 (i j k : Int) : Int := if j > i then (if k > j then k else j) else (if k > i then k else i)
def mn3 (i j k : Int) : Int := if j < i then (if k < j then k else j) else (if k < i then k else i)
theorem call_max3 (hc : X.calm = true) : CallR X (.builtin "max") (fun xs H Q => ∃ i j k, xs = [.int i, .int j, .int k] ∧ Q (.int (mx3 i j k)) H) := by
  intro pins s σ H xs us Q I r h
  obtain ⟨i, j, k, rfl, q⟩ := h
  obtain ⟨u, v, w', rfl, ⟨t, rfl⟩, ⟨t', rfl⟩, ⟨t'', rfl⟩⟩ := vals3 r
  refine max_three_ints (I.ok.hd hc) fun h' tk kp => ⟨_, H, I.kept kp, ?_, q⟩
  unfold mx3
  split <;> split <;> exact ⟨_, rfl⟩
theorem call_min3 (hc : X.calm = true) : CallR X (.builtin "min") (fun xs H Q => ∃ i j k, xs = [.int i, .int j, .int k] ∧ Q (.int (mn3 i j k)) H) := by
  intro pins s σ H xs us Q I r h
  obtain ⟨i, j, k, rfl, q⟩ := h
  obtain ⟨u, v, w', rfl, ⟨t, rfl⟩, ⟨t', rfl⟩, ⟨t'', rfl⟩⟩ := vals3 r
  refine min_three_ints (I.ok.hd hc) fun h' tk kp => ⟨_, H, I.kept kp, ?_, q⟩
  unfold mn3
  split <;> split <;> exact ⟨_, rfl⟩
theorem signs_vals (x : Str) : ∀ (acc : List Value), (∀ j v, acc[j]? = some v → SignAt x j v) → ∀ (n : Nat), acc.length = n → n ≤ x.cps.size → Vals ((x.cps.toList.take n).map fun c => V.str ⟨#[c]⟩) acc := by
  intro acc h n
  induction n generalizing acc with
  | zero =>
    intro hl _
    have : acc = [] := List.length_eq_zero_iff.mp hl
    subst this
    exact .nil
  | succ n ih =>
    intro hl hn
    obtain ⟨c, u, hc, hv⟩ := h n (acc[n]'(by omega)) (List.getElem?_eq_getElem (by omega))
    have e1 : acc = acc.take n ++ [acc[n]'(by omega)] := by
      have := List.take_append_getElem (l := acc) (i := n) (by omega)
      rw [this, ← hl, List.take_length]
    have hc' : x.cps.toList[n]? = some c := by rw [Array.getElem?_toList]; exact hc
    rw [List.take_add_one, hc', List.map_append, e1]
    refine Vals.append (ih (acc.take n) (fun j v hj => ?_) (by rw [List.length_take]; omega) (by omega)) (.cons ?_ .nil)
    · have hjn : j < n := by
        have := (List.getElem?_eq_some_iff.mp hj).1
        rw [List.length_take] at this
        omega
      rw [List.getElem?_take_of_lt hjn] at hj
      exact h j v hj
    · rw [hv]
      exact ⟨u, rfl⟩
/-- list(text) -/
theorem call_list_text (hc : X.calm = true) : CallR X (.type "list") (fun xs H Q => ∃ x : Str, xs = [.str x] ∧ x.length ≤ sizeLine ∧ ∀ l, H l = none → Q (.ref l) (upd H l (.lst (x.cps.toList.map fun c => V.str ⟨#[c]⟩)))) := by
  intro pins s σ H xs us Q I r h
  obtain ⟨x, rfl, hz, q⟩ := h
  obtain ⟨u, rfl, t, rfl⟩ := vals1 r
  refine call_list_str (I.ok.hd hc) x t (fun h' tk acc c kp e it => ?_) hz
  obtain ⟨hs, ha⟩ := it
  have rv := signs_vals x acc.toList (fun j v hj => ha j v (by rw [← Array.getElem?_toList]; exact hj)) x.cps.size (by rw [Array.length_toList]; exact hs) (Nat.le_refl _)
  rw [List.take_of_length_le (by rw [Array.length_toList]; exact Nat.le_refl _)] at rv
  refine ⟨.ref s.heap.objs.size, _, I.laid (t' := tk) kp (Nat.le_refl _) (show ObjOk X.prog X.w _ h' _ (.lst (x.cps.toList.map fun c => V.str ⟨#[c]⟩)) from ⟨?_, acc.toList, c, rv, e⟩), rfl, q _ (I.hok.fresh (Nat.le_refl _))⟩
  rw [List.length_map, Array.length_toList]
  exact hz
end
end L2
namespace L2
open PySem PySem.Spec PyProof.Rows
section
variable {X : Cx}
/-- x in (a, b) -/
theorem op_in_tup (hu : X.A.units + 64 < cLine) : OpR X (compareOp .In) (fun x y H Q => ∃ d ds, Rdv X.K H x d ∧ Rdv X.K H y (.tuple ds) ∧ d.canLay0 = true ∧ PyData.canLayAll0 ds = true ∧ d.depth ≤ 60 ∧ Q (.bl (ds.any fun z => PyData.eqv z d)) H) := by
  intro pins s σ H x y v u Q I rx ry h
  obtain ⟨d, ds, hx, hy, c1, c2, c3, q⟩ := h
  obtain ⟨as, ra⟩ := hx.reads I rx
  obtain ⟨bs, rb⟩ := hy.reads I ry
  exact SeqAt.in_tuple_reads rb ra c2 c1 (by omega) ⟨.bl _, H, I, rfl, q⟩
end
end L2

/-! Own rules: try: return f(..) except S: suite. -/
namespace L2
open PySem PySem.Spec PyProof.Rows
section
variable {X : Cx}
def tTryR (K : PySem.W.Frag) (S : Addr) (sp : Sp) (ta : TA) (ts : TS) : TS := fun D σ H => ta σ H fun vs H1 => sp vs H1 (fun v H2 => D.rt v H2)
  (fun c _ H2 => ∃ C, c = .ref C ∧ PySem.W.mroIn K C (.ref S) = some true ∧ ∀ e, H2 e = none → ts D σ (upd H2 e (exO e C)))
theorem ps_tryR {k : Nat} {f xS : Str} {fA S : Addr} {fd : FuncData} {ps : List Str} {sp : Sp} {ta : TA} {ts : TS} {e0 : Expr} {es : List Expr} {fp cp ap sp0 hp pos : Pos} {b0 : Stmt} {suite : List Stmt}
    (hst : X.stack = X.env :: X.outer) (hfr : X.env.frame = some X.env.locals) (F : FnOk X.prog X.w X.K X.mg X.base (CXE X.prog X.w) k fA fd ps sp) (hr : Room k X.A) (hg : Gl X f) (hm : X.mg f = some (.ref fA)) (hk : PySem.W.keepIn X.K (.ref fA) = true) (hb : Binds X.K fd ps [])
    (gS : Gl X xS) (O : ExCls X.K X.mg xS S) (ha : PA X.nox (e0 :: es) ta) (hs : ∀ e, PSs (markX X e) (b0 :: suite) ts)
    (he : starEach (e0 :: es) X.env = (false, eval e0 X.env) :: starEach es X.env := by rfl) (hpl : (backTo cp (starEach es X.env)).any (·.1) = false := by rfl) (hdb : (f == ("__debug__" : Str)) = false := by decide) (hdS : (xS == ("__debug__" : Str)) = false := by decide) :
    PS X (.Try [.Return (some (.Call (.Name f fp) (e0 :: es) [] cp)) ap] [.ExceptHandler (some (.Name xS sp0)) none (b0 :: suite) hp] [] [] pos) (tTryR X.K S sp ta ts) := by
  intro pins s σ H D I h
  refine wpAny_Try_except (wpAny_execs_cons ?_)
  refine wpAny_Return_some (wpAny_Call_Name_kw (ld_glob I hg hm ?_ hdb))
  refine PySem.W.callWith_K (h₀ := X.base) I.ok.mod.kin hk (wpAny_mono (ha cp pins s σ H _ (I.wish _) h) (fun us s1 ⟨vs, H1, I1', r, q⟩ => ⟨I1'.kIn, ?_⟩) fun _ _ z => False.elim z) he hpl
  have I1 : Inv X pins σ H1 s1 := I1'.unwish
  have hlen : us.length = ps.length := by rw [← r.length]; exact F.len _ _ _ _ q
  have bt := hb s1 us I1.kIn (by rw [List.append_nil]; exact hlen)
  rw [List.append_nil] at bt
  refine wpAny_call (codeAny_mono (F.run X.A X.stack s1 H1 ⟨us, []⟩ us vs _ _ hr I1.env0 bt r q) fun res s' hq => ?_)
  cases res with
  | ok fl =>
    cases fl with
    | ret u =>
      obtain ⟨v, H2, I2, rv, q2⟩ := I1.after hq
      exact ⟨v, σ, H2, I2, rv, q2⟩
    | next => exact False.elim hq
    | brk => exact False.elim hq
    | cont => exact False.elim hq
  | error y =>
    obtain ⟨e, C, a0, B, H', rfl, Fl, C', ec, hmr, hsu⟩ := hq
    cases ec
    have ff := Fl.fly
    rw [hst] at ff
    refine wpAny_looks_onW (by rw [I1.ok.frames, hst]) hfr ff fun h4 held4 up4 => ?_
    refine wpAny_landsW held4 fun h5 fly5 up5 => ?_
    have up := up4.trans up5
    have I5 := Fl.caught I1 (h := h5) (by rw [hst]; exact fly5) up
    refine wpAny_handleBy_cons (codeAny_handlers_test (ld_glob (X := markX X e) (I5.mark e) gS O.g ?_ hdS)) (by intro z; cases z)
    obtain ⟨bm, OS⟩ := exObj I5.kIn O.q
    obtain ⟨oe, vs5, q1, q2, q3, _⟩ := fly5.first
    refine exc_hit OS q1 q2 (PySem.W.looks_mroIn I5.kIn hmr) (codeAny_handlers_suite ?_)
    refine lands_againW fly5 fun h6 fly6 up6 => ?_
    have I6 := Fl.caught I1 (h := h6) (by rw [hst]; exact fly6) (up.trans up6)
    refine wpAny_mono (hs e pins _ _ _ _ (I6.mark e) (hsu e Fl.free)) (fun fl s8 q8 => ?_) fun _ _ z => z.elim
    cases fl with
    | next =>
      obtain ⟨σ8, H8, I8, q8⟩ := q8
      exact ⟨_, H8, I8.unmark I.ok, q8⟩
    | brk =>
      obtain ⟨σ8, H8, I8, q8⟩ := q8
      exact ⟨_, H8, I8.unmark I.ok, q8⟩
    | cont =>
      obtain ⟨σ8, H8, I8, q8⟩ := q8
      exact ⟨_, H8, I8.unmark I.ok, q8⟩
    | ret u =>
      obtain ⟨v8, σ8, H8, I8, r8, q8⟩ := q8
      exact ⟨v8, _, H8, I8.unmark I.ok, r8, q8⟩
end
end L2

/-! Own rules: len and index of what is a list or a text. -/
namespace L2
open PySem PySem.Spec PyProof.Rows
section
variable {X : Cx}
theorem call_len_is : CallR X (.builtin "len") (fun xs H Q => (∃ p ys, xs = [.ref p] ∧ (SqL X.K H p ys ∨ SqT X.K H p ys) ∧ Q (.int ys.length) H) ∨ ∃ z : Str, xs = [.str z] ∧ z.length ≤ sizeLine ∧ Q (.int z.length) H) := by
  intro pins s σ H xs us Q I r h
  rcases h with h | h
  · exact call_len_seq pins s σ H xs us Q I r h
  · exact call_len_str pins s σ H xs us Q I r h
theorem ix_is : IxR X (fun x y H Q => rIxL X.K x y H Q ∨ rIxS x y H Q) := by
  intro value slice pins s σ H x y v u Q I rx ry h hs
  rcases h with h | h
  · exact ix_list value slice pins s σ H x y v u Q I rx ry h hs
  · exact ix_str value slice pins s σ H x y v u Q I rx ry h hs
end
end L2

/-! Own rule: a list turned about, xs[::-1]. -/
namespace L2
open PySem PySem.Spec PyProof.Rows
section
variable {X : Cx} {e k : Expr} {te tk : TE} {pos p2 : Pos}
def tRev (K : PySem.W.Frag) (te tk : TE) : TE := fun σ H Q => te σ H fun x H1 => tPart tk σ H1 fun o H2 => o = some (-1) ∧ ∃ a xs, x = .ref a ∧ SqL K H2 a xs ∧ ∀ p, H2 p = none → Q (.ref p) (upd H2 p (.lst xs.reverse))
theorem pe_rev (he : PE X e te) (hk : PE X k tk) : PE X (.Subscript e (.Slice none none (some k) p2) pos) (tRev X.K te tk) := by
  intro pins s σ H Q I h
  refine Subscript_ (thn (he pins s σ H _ I h) fun v s1 ⟨x, H1, I1, r1, q1⟩ => ?_)
  refine wpAny_Slice (thn (po_none pins s1 σ H1 (fun o H' => o = none ∧ H' = H1) I1 ⟨rfl, rfl⟩) fun vl s2 ⟨l, H2, I2, pl, q2⟩ => ?_)
  obtain ⟨rfl, rfl⟩ := q2
  refine thn (po_none pins s2 σ H2 (fun o H' => o = none ∧ H' = H2) I2 ⟨rfl, rfl⟩) fun vu s3 ⟨u, H3, I3, pu, q3⟩ => ?_
  obtain ⟨rfl, rfl⟩ := q3
  refine thn (po_some hk pins s3 σ H3 _ I3 q1) fun vs s4 ⟨o, H4, I4, ps, q4⟩ => ?_
  obtain ⟨rfl, a, xs, rfl, hx, q⟩ := q4
  cases r1
  have I5 : Inv X pins σ H4 { s4 with heap := s4.heap.push { cls := .type "slice", data := .fields #[vl, vu, vs] } } := I4.kept (t' := s4.toks) fun b ob q => Heap.get?_push_of_some _ q
  obtain ⟨its, r, ht, hz⟩ := I5.list hx
  have hlen := r.length
  show wpAny (model X.prog X.w) X.A (subscriptTail e (.Slice none none (some k) p2) (.ref a) (.ref s4.heap.objs.size)) (EP X pins σ Q) X.xe { s4 with heap := s4.heap.push { cls := .type "slice", data := .fields #[vl, vu, vs] } }
  refine tail_any (ops := [.ref a, .ref s4.heap.objs.size]) ht.isList.typeIs slot_list_getitem.lookup ?_ (by with_unfolding_all rfl)
  refine wpAny_getItem_list_slice ht.isList (Heap.IsSliceOf.new ..) pl pu ps (by simp) ?_ (by rw [List.size_toArray]; omega)
  rw [PySem.W.krv_pick, List.toList_toArray]
  refine ⟨.ref (s4.heap.push { cls := .type "slice", data := .fields #[vl, vu, vs] }).objs.size, _, I5.laid (t' := s4.toks) (o := .lst xs.reverse) (fun b ob q => Heap.get?_push_of_some _ q) (Nat.le_refl _) ?_, rfl, q _ (I5.hok.fresh (Nat.le_refl _))⟩
  exact ⟨by rw [List.length_reverse]; exact hz, _, 0, r.reverse, Heap.get?_push_size _ rfl⟩
end
end L2

/-! Own rule: name = [..] where an inner comprehension captures the outer one's own name. -/
namespace L2
open PySem PySem.Spec PyProof.Rows
section
variable {X : Cx} {tg iter elt : Expr} {ifs : List Expr} {scope : Scope} {pos : Pos} {N : List Str} {src : List (Option Nat)} {cl : List (Str × Addr)} {wi : TI} {g : TG} {tc : TT} {te : TE}
theorem ps_setC1 {y : Str} {i : Nat} {x : Str} {xpos spos : Pos} (hN : X.N.Nodup) (hix : X.N[i]? = some x) (hlx : X.env.scope.names.lookup x = some .local) (ok : CompOk1 X N src scope cl y) (hcalm : X.calm = true) (hi : PI X tg iter wi)
    (hg : ∀ C fp pins s H, PG (compCx1 X N scope cl y C fp pins s H) tg g) (hc : ∀ C fp pins s H, PIfs (compCx1 X N scope cl y C fp pins s H) ifs tc) (he : ∀ C fp pins s H, PE (compCx1 X N scope cl y C fp pins s H) elt te)
    (hs : ∀ x, foldedSetIterable iter X.env x = pure x := by intro _; rfl) (hsw : swapsWith (.ListComp elt [⟨tg, iter, ifs, 0⟩] scope pos) (some (.Name x xpos)) spos.line X.env = pure true := by rfl) :
    PS X (.Assign [.Name x xpos] (.ListComp elt [⟨tg, iter, ifs, 0⟩] scope pos) spos) (tAsg (tComp wi src g tc te) (gName i)) := by
  intro pins s σ H D I h
  rw [exec_Assign_Name_used _ _ _ _ hsw]
  refine wpAny_bind (wpAny_standAt (wpAny_bind ?_))
  unfold evalThenUse
  refine wpAny_bind (wpAny_mono (Q := fun _ s'' => ∃ σ' H', Inv X pins σ' H' s'' ∧ D.nx σ' H') ?_ (fun _ s'' ⟨σ', H', I', q'⟩ => wpAny_pure (wpAny_pure ⟨σ', H', I', q'⟩)) fun _ _ z => z)
  refine wpAny_comprehension_free (use := some (assign (.Name x xpos) X.env)) rfl hs ok.clos ok.kind ok.names (thn (hi pins s σ H _ I h) fun xv s1 h1 => thn h1 fun itv s2 h2 => ?_)
  obtain ⟨it, fp, tn, J, H2, e, I2, T, st2, f2, q2⟩ := h2
  subst e
  refine wpAny_newObj_type (newEnv1 ok.one ok.push ?_)
  generalize hP : s2.heap.push { cls := .type "list", dict := none, data := .seq ([] : List Value).toArray } = P2
  have hC : P2.objs.size = s2.heap.objs.size + 1 := by rw [← hP, Heap.size_push]
  have sz1 : (P2.push { cls := .type "dict", data := .dict #[] }).objs.size = P2.objs.size + 1 := Heap.size_push ..
  generalize hh1 : (P2.push { cls := .type "dict", data := .dict #[] }).push { cls := .type "cell", data := .cell none } = h₁
  have hns₁ : h₁.Ns P2.objs.size (fun _ => none) := by
    rw [← hh1]
    exact (Heap.Ns.new P2 _).push _
  have hcc : h₁.IsCell (P2.objs.size + 1) none := by
    rw [← hh1, ← sz1]
    exact ⟨_, Heap.get?_push_size _ rfl, rfl⟩
  have k : ∀ b u, s2.heap.get? b = some u → h₁.get? b = some u := fun b u e => by
    rw [← hh1]
    exact Heap.get?_push_of_some _ (Heap.get?_push_of_some _ (hP ▸ Heap.get?_push_of_some _ e))
  have hD : h₁.get? s2.heap.objs.size = some { cls := .type "list", data := .seq #[] } := by
    rw [← hh1]
    exact Heap.get?_push_of_some _ (Heap.get?_push_of_some _ (hP ▸ Heap.get?_push_size _ rfl))
  have ho : ∀ b ∈ fp, ∃ o, s2.heap.get? b = some o := fun b hb => let ⟨o, e, _⟩ := T.obj 0 _ st2 b hb; ⟨o, e⟩
  obtain ⟨W, ⟨m0, w0⟩, turn⟩ := q2 s2.heap.objs.size (I2.hok.fresh (Nat.le_refl _))
  have I0 := comp_start1 (tk := s2.toks) ok I2 f2 ho hC k hD hns₁ hcc
  have st0 : tn 0 h₁ := T.keep 0 _ _ st2 fun b _ o e => k b o e
  have fr0 : ∀ b ∈ fp, upd H2 s2.heap.objs.size (.lst []) b = none := fun b hb => by
    obtain ⟨o, e⟩ := ho b hb
    rw [upd_ne (Nat.ne_of_lt (Heap.lt_size e))]
    exact (f2 b hb).1
  have stat : ∀ {H' : Hp}, (∀ b ∈ fp, H' b = none) → ∀ b ∈ fp, FpOk (compCx1 X N scope cl y P2.objs.size fp pins s2 H2) [] H' b := fun {H'} hn b hb => by
    obtain ⟨o, e⟩ := ho b hb
    have lt := Heap.lt_size e
    refine ⟨hn b hb, ?_, fun z => (List.mem_cons.mp (I2.stkSub b z)).elim (f2 b hb).2.1 (f2 b hb).2.2.1, .inl hb, fun x c z => ?own, fun p hp => ?_⟩
    case own =>
      have z' : List.lookup x ((y, P2.objs.size + 1) :: cl) = some c := z
      rw [List.lookup_cons] at z'
      cases q : x == y with
      | true =>
        rw [q] at z'
        rw [← Option.some.inj z', hC]
        exact Nat.ne_of_gt (Nat.lt_succ_of_lt (Nat.lt_succ_of_lt lt))
      | false =>
        rw [q] at z'
        exact (f2 b hb).2.2.2.2.1 x c (ok.sub x c z')
    · show b ≠ P2.objs.size
      rw [hC]
      exact Nat.ne_of_lt (Nat.lt_succ_of_lt lt)
    · have hp' : p ∈ X.pn ++ pins := by
        have : p ∈ (X.pn ++ pins) ++ [] := hp
        simpa using this
      exact (f2 b hb).2.2.2.2.2 p hp'
  have loop : ∀ s₃ : Shared, s₃ = { s2 with heap := h₁, toks := s2.toks } →
      codeAny (model X.prog X.w) X.A (.compLoop (.ListComp elt [⟨tg, iter, ifs, 0⟩] scope pos) 0 (.ref it) (.ref s2.heap.objs.size) (compEnvC scope ((y, P2.objs.size + 1) :: cl) P2.objs.size X.env))
        (compPost (model X.prog X.w) X.A X.xe (some (assign (.Name x xpos) X.env)) (fun _ s'' => ∃ σ' H', Inv X pins σ' H' s'' ∧ D.nx σ' H') (.ref s2.heap.objs.size) P2.objs.size) s₃ := by
    rintro s₃ rfl
    refine codeAny_loop rfl (fun n s' => ∃ i σ' H', Inv (compCx1 X N scope cl y P2.objs.size fp pins s2 H2) [] σ' H' s' ∧ tn i s'.heap ∧ (∀ b ∈ fp, H' b = none) ∧ W i n σ' H') ?_ m0 ⟨0, _, _, I0, st0, fr0, w0⟩
    rintro n s3 ⟨i, σ3, H3, I3, st3, fr3, w3⟩
    show wpAny _ X.A ((compTurn (.ListComp elt [⟨tg, iter, ifs, 0⟩] scope pos) 0 (.ref it) (.ref s2.heap.objs.size) (compEnvC scope ((y, P2.objs.size + 1) :: cl) P2.objs.size X.env)).onRaise (fun x => do noteFrame x (compEnvC scope ((y, P2.objs.size + 1) :: cl) P2.objs.size X.env); theTreesLotGoes x)) _ _ s3
    refine wpAny_noted ?_
    rw [compTurn_list]
    rcases turn i n σ3 H3 w3 with ⟨stop, qn⟩ | ⟨go, N', hN, step⟩
    · refine wpAny_bind (wpAny_standAt (wpAny_bind (thn (T.done (compCx1 X N scope cl y P2.objs.size fp pins s2 H2) rfl rfl rfl hcalm i [] s3 σ3 H3 _ I3 (stat fr3) st3 stop) fun r s4 ⟨hr, I4⟩ => ?_)))
      subst hr
      refine wpAny_pure ?_
      obtain ⟨m, hm, _⟩ := I4.loc
      have leC : s2.heap.objs.size ≤ P2.objs.size := by rw [hC]; exact Nat.le_succ _
      have IX : Inv X pins σ H3 s4 := I2.call' (s' := s4) (ch := fp) I4.os I4.base I4.hok I4.bare fun b hb => ⟨(f2 b hb).2.2.2.1, (f2 b hb).2.1, (f2 b hb).2.2.2.2.1, (f2 b hb).2.2.2.2.2⟩
      have cellLt : ∀ y c, X.env.cells.lookup y = some c → c ≠ P2.objs.size := fun y c e z => by
        obtain ⟨_, o, e1, _⟩ := I2.cell y c e
        have := Heap.lt_size e1
        rw [z] at this
        exact Nat.lt_irrefl _ (Nat.lt_of_lt_of_le this leC)
      have locNe : X.env.locals ≠ P2.objs.size := fun z => by
        have := I2.lt
        rw [z] at this
        exact Nat.lt_irrefl _ (Nat.lt_of_lt_of_le this leC)
      refine wpAny_assign_Name (store_ok2 IX hN hix (.inl hlx) (v := .ref s2.heap.objs.size) rfl (fun s5 I5 ⟨a5, sb5, ha5⟩ => ?_) (.inr hlx))
      have na : a5 ≠ P2.objs.size := by
        rcases ha5 with z | z
        · rw [z]
          exact locNe
        · exact cellLt _ _ z
      refine ⟨m, hm.sameBut sb5 (Ne.symm na), fun h' sb => ⟨_, H3, ?_, qn⟩⟩
      exact I5.turned (t' := s5.toks) (it := P2.objs.size) (fun b o hb e => (sb.2 b hb).trans e) I4.free (Ne.symm locNe) (.inr (Nat.le_trans I2.sz leC)) cellLt fun p hp z => by
        obtain ⟨e1, _⟩ := I2.pin p hp
        have := Heap.lt_size e1
        rw [z] at this
        exact Nat.lt_irrefl _ (Nat.lt_of_lt_of_le this leC)
    · refine wpAny_bind (wpAny_standAt (wpAny_bind (thn (T.item (compCx1 X N scope cl y P2.objs.size fp pins s2 H2) rfl rfl rfl hcalm i [] s3 σ3 H3 _ I3 (stat fr3) st3 go) fun r s4 ⟨u, hr, h4⟩ => ?_)))
      subst hr
      dsimp only
      refine wpAny_bind (thn h4 fun _ s5 ⟨x, H5, I5, r5, y5, st5, fr5⟩ => ?_)
      have I5' := I5.pinned (stat fr5) (T.obj _ _ st5)
      refine wpAny_bind (wpAny_mono (hg P2.objs.size fp pins s2 H2 _ s5 σ3 H5 x u _ I5' r5 (step x H5 y5)) (fun _ s6 ⟨σ6, H6, I6, q6⟩ => ?_) fun _ _ z => False.elim z)
      have again : ∀ {s7 : Shared} {σ7 : St} {H7 : Hp}, Inv (compCx1 X N scope cl y P2.objs.size fp pins s2 H2) ([] ++ pinsAt fp s5.heap) σ7 H7 s7 → N' σ7 H7 → ∃ m, m < n ∧ ∃ i σ' H', Inv (compCx1 X N scope cl y P2.objs.size fp pins s2 H2) [] σ' H' s7 ∧ tn i s7.heap ∧ (∀ b ∈ fp, H' b = none) ∧ W i m σ' H' := fun {s7 σ7 H7} I7 n7 => by
        obtain ⟨m', hm, w7⟩ := hN σ7 H7 n7
        refine ⟨m', hm, i + 1, σ7, H7, I7.unpinned, T.keep _ _ _ st5 fun b hb o e => (I7.pin (b, o) (List.mem_append_right _ (List.mem_append_right _ (mem_pinsAt hb e)))).1, fun b hb => ?_, w7⟩
        obtain ⟨o, e, d⟩ := T.obj _ _ st5 b hb
        exact (I7.pin (b, o) (List.mem_append_right _ (List.mem_append_right _ (mem_pinsAt hb e)))).2.1
      refine wpAny_bind (wpAny_mono (hc P2.objs.size fp pins s2 H2 _ s6 σ6 H6 _ I6 q6) (fun b s7 ⟨H7, I7, q7⟩ => ?_) fun _ _ z => False.elim z)
      cases b with
      | false =>
        rw [if_neg Bool.false_ne_true] at q7
        exact wpAny_pure ⟨rfl, again I7 q7⟩
      | true =>
        rw [if_pos rfl] at q7
        refine wpAny_bind (wpAny_bind (wpAny_mono (he P2.objs.size fp pins s2 H2 _ s7 σ6 H7 _ I7 q7) (fun yv s8 ⟨v8, H8, I8, r8, ys, hys, hlen, q8⟩ => ?_) fun _ _ z => False.elim z))
        refine wpAny_bind (wpAny_mono (mt_append (X := compCx1 X N scope cl y P2.objs.size fp pins s2 H2) _ s8 σ6 H8 (.ref s2.heap.objs.size) [v8] (.ref s2.heap.objs.size) [yv] (fun _ H9 => N' σ6 H9) I8 rfl (.cons r8 .nil) ⟨_, ys, v8, rfl, rfl, hys, hlen, q8⟩) (fun _ s9 ⟨v9, H9, I9, _, q9⟩ => ?_) fun _ _ z => False.elim z)
        exact wpAny_pure (wpAny_pure ⟨rfl, again I9 q9⟩)
  exact codeAny_compStart_list (loop _ rfl) (T.self _ 0 _ _ _ st0 (loop _ rfl))
end
end L2

namespace Cells
/-- the cells of a row from column j on, of the signs that p takes -/
def rowCs (p : Nat → Bool) (i : Nat) : Nat → List Nat → List (Nat × Nat)
  | _, [] => []
  | j, c :: r => (if p c = true then [(i, j)] else []) ++ rowCs p i (j + 1) r
def allCs (p : Nat → Bool) : Nat → List (List Nat) → List (Nat × Nat)
  | _, [] => []
  | i, t :: r => rowCs p i 0 t ++ allCs p (i + 1) r
theorem rowCs_append (p : Nat → Bool) (i : Nat) : ∀ (j : Nat) (a b : List Nat), rowCs p i j (a ++ b) = rowCs p i j a ++ rowCs p i (j + a.length) b
  | j, [], b => by simp [rowCs]
  | j, c :: a, b => by
    simp only [List.cons_append, rowCs, rowCs_append p i (j + 1) a b, List.length_cons, List.append_assoc]
    rw [show j + 1 + a.length = j + (a.length + 1) by omega]
theorem allCs_append (p : Nat → Bool) : ∀ (i : Nat) (a b : List (List Nat)), allCs p i (a ++ b) = allCs p i a ++ allCs p (i + a.length) b
  | i, [], b => by simp [allCs]
  | i, t :: a, b => by
    simp only [List.cons_append, allCs, allCs_append p (i + 1) a b, List.length_cons, List.append_assoc]
    rw [show i + 1 + a.length = i + (a.length + 1) by omega]
theorem rowCs_step {p : Nat → Bool} {i j c : Nat} {t : List Nat} (h : t[j]? = some c) : rowCs p i 0 (t.take (j + 1)) = rowCs p i 0 (t.take j) ++ (if p c = true then [(i, j)] else []) := by
  rw [List.take_add_one, h, rowCs_append]
  have hl : (t.take j).length = j := by
    have := (List.getElem?_eq_some_iff.mp h).1
    rw [List.length_take]; omega
  simp [rowCs, hl]
theorem allCs_step {p : Nat → Bool} {i : Nat} {t : List Nat} {rs : List (List Nat)} (h : rs[i]? = some t) : allCs p 0 (rs.take (i + 1)) = allCs p 0 (rs.take i) ++ rowCs p i 0 t := by
  rw [List.take_add_one, h, allCs_append]
  have hl : (rs.take i).length = i := by
    have := (List.getElem?_eq_some_iff.mp h).1
    rw [List.length_take]; omega
  simp [allCs, hl]
theorem rowCs_length (p : Nat → Bool) (i : Nat) : ∀ (j : Nat) (t : List Nat), (rowCs p i j t).length ≤ t.length
  | j, [] => by simp [rowCs]
  | j, c :: r => by
    have := rowCs_length p i (j + 1) r
    simp only [rowCs, List.length_append, List.length_cons]
    split <;> simp <;> omega
theorem allCs_length (p : Nat → Bool) : ∀ (i : Nat) (rs : List (List Nat)), (∀ t ∈ rs, t.length ≤ 8) → (allCs p i rs).length ≤ 8 * rs.length
  | i, [], _ => by simp [allCs]
  | i, t :: r, h => by
    have h1 := rowCs_length p i 0 t
    have h2 := allCs_length p (i + 1) r fun u hu => h u (List.mem_cons_of_mem _ hu)
    have h3 := h t List.mem_cons_self
    simp only [allCs, List.length_append, List.length_cons]
    omega
theorem mem_rowCs {p : Nat → Bool} {i : Nat} : ∀ {j : Nat} {t : List Nat} {x : Nat × Nat}, x ∈ rowCs p i j t → ∃ m c, x = (i, j + m) ∧ t[m]? = some c ∧ p c = true
  | j, [], x, h => by simp [rowCs] at h
  | j, c :: r, x, h => by
    simp only [rowCs, List.mem_append] at h
    rcases h with h | h
    · split at h
      · rename_i hp
        have : x = (i, j) := by simpa using h
        exact ⟨0, c, this, rfl, hp⟩
      · cases h
    · obtain ⟨m, c', e, h1, h2⟩ := mem_rowCs h
      exact ⟨m + 1, c', by rw [e, show j + 1 + m = j + (m + 1) by omega], by simpa using h1, h2⟩
theorem mem_allCs {p : Nat → Bool} : ∀ {i : Nat} {rs : List (List Nat)} {x : Nat × Nat}, x ∈ allCs p i rs → ∃ k j t c, x = (i + k, j) ∧ rs[k]? = some t ∧ t[j]? = some c ∧ p c = true
  | i, [], x, h => by simp [allCs] at h
  | i, t :: r, x, h => by
    simp only [allCs, List.mem_append] at h
    rcases h with h | h
    · obtain ⟨m, c, e, h1, h2⟩ := mem_rowCs h
      exact ⟨0, m, t, c, by simpa using e, rfl, h1, h2⟩
    · obtain ⟨k, j, u, c, e, h1, h2, h3⟩ := mem_allCs h
      exact ⟨k + 1, j, u, c, by rw [e, show i + 1 + k = i + (k + 1) by omega], by simpa using h1, h2, h3⟩
/-- the sign at a place -/
def sgn (rs : List (List Nat)) (x : Nat × Nat) : Nat := (rs.getD x.1 []).getD x.2 0
theorem rowCs_filter {p q : Nat → Bool} {i : Nat} (f : Nat × Nat → Bool) : ∀ (j : Nat) (t : List Nat), (∀ m c, t[m]? = some c → f (i, j + m) = q c) → (rowCs p i j t).filter f = rowCs (fun c => p c && q c) i j t
  | j, [], _ => by simp [rowCs]
  | j, c :: r, h => by
    have ih := rowCs_filter (p := p) (q := q) (i := i) f (j + 1) r fun m c' hm => by
      have := h (m + 1) c' (by simpa using hm)
      rw [show j + 1 + m = j + (m + 1) by omega]; exact this
    have h0 := h 0 c rfl
    simp only [rowCs, List.filter_append, ih]
    congr 1
    simp only [Nat.add_zero] at h0
    by_cases hp : p c = true
    · by_cases hq : q c = true
      · simp [hp, hq, h0]
      · simp [hp, hq, h0]
    · simp [hp]
theorem allCs_filter {p q : Nat → Bool} (f : Nat × Nat → Bool) : ∀ (i : Nat) (rs : List (List Nat)), (∀ k t m c, rs[k]? = some t → t[m]? = some c → f (i + k, m) = q c) → (allCs p i rs).filter f = allCs (fun c => p c && q c) i rs
  | i, [], _ => by simp [allCs]
  | i, t :: r, h => by
    have ih := allCs_filter (p := p) (q := q) f (i + 1) r fun k u m c hk hm => by
      have := h (k + 1) u m c (by simpa using hk) hm
      rw [show i + 1 + k = i + (k + 1) by omega]; exact this
    simp only [allCs, List.filter_append, ih]
    rw [rowCs_filter (p := p) (q := q) f 0 t fun m c hm => by simpa using h 0 t m c rfl hm]
theorem sgn_at {rs : List (List Nat)} {i j : Nat} {t : List Nat} {c : Nat} (h : rs[i]? = some t) (h2 : t[j]? = some c) : sgn rs (i, j) = c := by
  unfold sgn
  simp [List.getD, h, h2]
theorem all_filter {p q : Nat → Bool} (rs : List (List Nat)) : (allCs p 0 rs).filter (fun x => q (sgn rs x)) = allCs (fun c => p c && q c) 0 rs :=
  allCs_filter _ 0 rs fun k t m c hk hm => by rw [show 0 + k = k by omega, sgn_at hk hm]
theorem allCs_congr {p q : Nat → Bool} (h : ∀ c, p c = q c) (i : Nat) (rs : List (List Nat)) : allCs p i rs = allCs q i rs := by
  rw [show p = q from funext h]
end Cells
namespace Cells
def near (x y : Nat × Nat) : Bool := decide ((if (x.1 : Int) - (y.1 : Int) < 0 then -((x.1 : Int) - (y.1 : Int)) else (x.1 : Int) - (y.1 : Int)) < 2) && (decide ((if (x.2 : Int) - (y.2 : Int) < 0 then -((x.2 : Int) - (y.2 : Int)) else (x.2 : Int) - (y.2 : Int)) < 2) && !decide (x = y))
theorem near_iff (x y : Nat × Nat) : near x y = true ↔ (x.1 ≤ y.1 + 1 ∧ y.1 ≤ x.1 + 1) ∧ (x.2 ≤ y.2 + 1 ∧ y.2 ≤ x.2 + 1) ∧ ¬ x = y := by
  unfold near
  rw [Bool.and_eq_true, Bool.and_eq_true, decide_eq_true_iff, decide_eq_true_iff, Bool.not_eq_true', decide_eq_false_iff_not]
  constructor
  · rintro ⟨h1, h2, h3⟩
    refine ⟨?_, ?_, h3⟩
    · split at h1 <;> omega
    · split at h2 <;> omega
  · rintro ⟨h1, h2, h3⟩
    refine ⟨?_, ?_, h3⟩
    · split <;> omega
    · split <;> omega
def lex (a b : Nat × Nat) : Prop := a.1 < b.1 ∨ (a.1 = b.1 ∧ a.2 < b.2)
theorem rowCs_lex (p : Nat → Bool) (i : Nat) : ∀ (j : Nat) (t : List Nat), (rowCs p i j t).Pairwise lex
  | j, [] => by simp [rowCs]
  | j, c :: r => by
    simp only [rowCs]
    rw [List.pairwise_append]
    refine ⟨?_, rowCs_lex p i (j + 1) r, fun a ha b hb => ?_⟩
    · split <;> simp
    · split at ha
      · have e : a = (i, j) := by simpa using ha
        obtain ⟨m, c', e', _, _⟩ := mem_rowCs hb
        subst e e'
        exact .inr ⟨rfl, by show j < j + 1 + m; omega⟩
      · cases ha
theorem allCs_lex (p : Nat → Bool) : ∀ (i : Nat) (rs : List (List Nat)), (allCs p i rs).Pairwise lex
  | i, [] => by simp [allCs]
  | i, t :: r => by
    simp only [allCs]
    rw [List.pairwise_append]
    refine ⟨rowCs_lex p i 0 t, allCs_lex p (i + 1) r, fun a ha b hb => ?_⟩
    obtain ⟨m, c, e, _, _⟩ := mem_rowCs ha
    obtain ⟨k, j, u, c', e', _, _, _⟩ := mem_allCs hb
    subst e e'
    exact .inl (by show i < i + 1 + k; omega)
theorem rows_low {p : Nat → Bool} {f : Nat × Nat → Bool} {n : Nat} {rs : List (List Nat)} (h : ∀ r c, r < n → f (r, c) = false) : (allCs p 0 (rs.take n)).filter f = [] := by
  rw [List.filter_eq_nil_iff]
  intro x hx
  obtain ⟨k, j, t, c, e, hk, _, _⟩ := mem_allCs hx
  have hkl : k < n := by
    have := (List.getElem?_eq_some_iff.mp hk).1
    rw [List.length_take] at this
    omega
  subst e
  rw [h _ _ (by omega)]
  exact Bool.false_ne_true
theorem rows_high {p : Nat → Bool} {f : Nat × Nat → Bool} {n : Nat} {rs : List (List Nat)} (h : ∀ r c, n ≤ r → f (r, c) = false) : (allCs p 0 (rs.take n)).filter f = (allCs p 0 rs).filter f := by
  by_cases hn : n ≤ rs.length
  · have e := List.take_append_drop n rs
    have e2 : allCs p 0 rs = allCs p 0 (rs.take n) ++ allCs p (0 + (rs.take n).length) (rs.drop n) := by rw [← allCs_append, e]
    rw [e2, List.filter_append]
    have z : (allCs p (0 + (rs.take n).length) (rs.drop n)).filter f = [] := by
      rw [List.filter_eq_nil_iff]
      intro x hx
      obtain ⟨k, j, t, c, e, hk, _, _⟩ := mem_allCs hx
      subst e
      rw [List.length_take, h _ _ (by omega)]
      exact Bool.false_ne_true
    rw [z, List.append_nil]
  · rw [List.take_of_length_le (by omega)]
theorem cols_low {p : Nat → Bool} {f : Nat × Nat → Bool} {i n : Nat} {t : List Nat} (h : ∀ c, c < n → f (i, c) = false) : (rowCs p i 0 (t.take n)).filter f = [] := by
  rw [List.filter_eq_nil_iff]
  intro x hx
  obtain ⟨m, c, e, hm, _⟩ := mem_rowCs hx
  have hml : m < n := by
    have := (List.getElem?_eq_some_iff.mp hm).1
    rw [List.length_take] at this
    omega
  subst e
  rw [h _ (by omega)]
  exact Bool.false_ne_true
theorem cols_high {p : Nat → Bool} {f : Nat × Nat → Bool} {i n : Nat} {t : List Nat} (h : ∀ c, n ≤ c → f (i, c) = false) : (rowCs p i 0 (t.take n)).filter f = (rowCs p i 0 t).filter f := by
  by_cases hn : n ≤ t.length
  · have e := List.take_append_drop n t
    have e2 : rowCs p i 0 t = rowCs p i 0 (t.take n) ++ rowCs p i (0 + (t.take n).length) (t.drop n) := by rw [← rowCs_append, e]
    rw [e2, List.filter_append]
    have z : (rowCs p i (0 + (t.take n).length) (t.drop n)).filter f = [] := by
      rw [List.filter_eq_nil_iff]
      intro x hx
      obtain ⟨m, c, e, hm, _⟩ := mem_rowCs hx
      subst e
      rw [List.length_take, h _ (by omega)]
      exact Bool.false_ne_true
    rw [z, List.append_nil]
  · rw [List.take_of_length_le (by omega)]
end Cells
/-! Choices, as sums. -/
namespace Choose
def ch : Nat → Nat → Nat
  | _, 0 => 1
  | 0, _ + 1 => 0
  | n + 1, k + 1 => ch n k + ch n (k + 1)
def row (n : Nat) : List Nat := (List.range (n + 1)).map (ch n)
end Choose
/-! Two things: choices of cells, and what all of them have in common. -/
namespace Two
def ext (cl st : List (Nat × Nat)) (c : (Nat × Nat)) (S : List (Nat × Nat)) : List (List (Nat × Nat)) := (if c ∈ st then [] else [S]) ++ (if c ∈ cl then [] else [S ++ [c]])
def cho (cl st : List (Nat × Nat)) (cs : List (Nat × Nat)) : List (List (Nat × Nat)) := cs.foldl (fun L c => L.flatMap (ext cl st c)) [[]]
theorem cho_snoc (cl st cs : List (Nat × Nat)) (c : (Nat × Nat)) : cho cl st (cs ++ [c]) = (cho cl st cs).flatMap (ext cl st c) := by
  unfold cho
  rw [List.foldl_append]
  rfl
theorem mem_ext {cl st : List (Nat × Nat)} {c : (Nat × Nat)} {S U : List (Nat × Nat)} : U ∈ ext cl st c S ↔ (c ∉ st ∧ U = S) ∨ (c ∉ cl ∧ U = S ++ [c]) := by
  unfold ext
  rw [List.mem_append]
  constructor
  · rintro (h | h)
    · split at h
      · cases h
      · exact .inl ⟨by assumption, by simpa using h⟩
    · split at h
      · cases h
      · exact .inr ⟨by assumption, by simpa using h⟩
  · rintro (⟨h, rfl⟩ | ⟨h, rfl⟩)
    · left
      rw [if_neg h]
      exact List.mem_cons_self
    · right
      rw [if_neg h]
      exact List.mem_cons_self
theorem ext_len (cl st : List (Nat × Nat)) (c : (Nat × Nat)) (S : List (Nat × Nat)) : (ext cl st c S).length ≤ 2 := by
  unfold ext
  rw [List.length_append]
  have h1 : (if c ∈ st then [] else [S]).length ≤ 1 := by split <;> simp
  have h2 : (if c ∈ cl then [] else [S ++ [c]]).length ≤ 1 := by split <;> simp
  omega
theorem flat_len {β : Type} (f : β → List (List (Nat × Nat))) (h : ∀ x, (f x).length ≤ 2) : ∀ L : List β, (L.flatMap f).length ≤ 2 * L.length
  | [] => Nat.le_refl _
  | x :: r => by
    rw [List.flatMap_cons, List.length_append, List.length_cons]
    have := flat_len f h r
    have := h x
    omega
theorem snocInd {P : List (Nat × Nat) → Prop} (h0 : P []) (h1 : ∀ cs c, P cs → P (cs ++ [c])) : ∀ cs, P cs := by
  intro cs
  have h : ∀ ds : List (Nat × Nat), P ds.reverse := fun ds => by
    induction ds with
    | nil => exact h0
    | cons c r ih =>
      rw [List.reverse_cons]
      exact h1 _ _ ih
  have := h cs.reverse
  rw [List.reverse_reverse] at this
  exact this
theorem cho_len (cl st : List (Nat × Nat)) : ∀ cs : List (Nat × Nat), (cho cl st cs).length ≤ 2 ^ cs.length := by
  refine snocInd (Nat.le_refl _) fun cs c ih => ?_
  rw [cho_snoc, List.length_append]
  have h := flat_len (ext cl st c) (ext_len cl st c) (cho cl st cs)
  show _ ≤ 2 ^ (cs.length + 1)
  rw [Nat.pow_succ]
  omega
/-- a choice: some of the cells, in their order, all found stones, no cell found clear -/
theorem cho_of {cl st : List (Nat × Nat)} : ∀ {cs S : List (Nat × Nat)}, S ∈ cho cl st cs → S.Sublist cs ∧ (∀ c ∈ cs, c ∈ st → c ∈ S) ∧ ∀ c ∈ S, c ∉ cl := by
  refine fun {cs} => snocInd (P := fun cs => ∀ {S : List (Nat × Nat)}, S ∈ cho cl st cs → S.Sublist cs ∧ (∀ c ∈ cs, c ∈ st → c ∈ S) ∧ ∀ c ∈ S, c ∉ cl) ?_ ?_ cs
  · intro S h
    have : S = [] := by simpa [cho] using h
    subst this
    exact ⟨List.Sublist.refl _, (fun _ h => nomatch h), (fun _ h => nomatch h)⟩
  · intro cs c ih S h
    rw [cho_snoc] at h
    obtain ⟨U, hU, hS⟩ := List.mem_flatMap.mp h
    obtain ⟨a, b, d⟩ := ih hU
    rcases mem_ext.mp hS with ⟨h1, rfl⟩ | ⟨h1, rfl⟩
    · refine ⟨a.trans (List.sublist_append_left _ _), fun x hx hs => ?_, d⟩
      rcases List.mem_append.mp hx with hx | hx
      · exact b x hx hs
      · have : x = c := by simpa using hx
        exact absurd (this ▸ hs) h1
    · refine ⟨a.append (List.Sublist.refl _), fun x hx hs => ?_, fun x hx => ?_⟩
      · rcases List.mem_append.mp hx with hx | hx
        · exact List.mem_append_left _ (b x hx hs)
        · exact List.mem_append_right _ hx
      · rcases List.mem_append.mp hx with hx | hx
        · exact d x hx
        · have : x = c := by simpa using hx
          exact this ▸ h1
theorem cho_in {cl st : List (Nat × Nat)} (p : (Nat × Nat) → Bool) : ∀ cs : List (Nat × Nat), (∀ c ∈ cs, c ∈ st → p c = true) → (∀ c ∈ cs, c ∈ cl → p c = false) → cs.filter p ∈ cho cl st cs := by
  refine snocInd (fun _ _ => by simp [cho]) fun cs c ih h1 h2 => ?_
  rw [cho_snoc, List.filter_append]
  refine List.mem_flatMap.mpr ⟨_, ih (fun x hx => h1 x (List.mem_append_left _ hx)) (fun x hx => h2 x (List.mem_append_left _ hx)), mem_ext.mpr ?_⟩
  have hc : c ∈ cs ++ [c] := List.mem_append_right _ List.mem_cons_self
  by_cases hp : p c = true
  · refine .inr ⟨fun z => ?_, by simp [hp]⟩
    rw [h2 c hc z] at hp
    cases hp
  · refine .inl ⟨fun z => hp (h1 c hc z), by simp [hp]⟩
def cnt (A S : List (Nat × Nat)) : Nat := (A.filter fun c => decide (c ∈ S)).length
theorem nodup_filter {l : List (Nat × Nat)} (p : (Nat × Nat) → Bool) (h : l.Nodup) : (l.filter p).Nodup := List.Sublist.nodup List.filter_sublist h
theorem cnt_turn {A S : List (Nat × Nat)} (hA : A.Nodup) (hS : S.Nodup) : cnt A S = cnt S A := by
  unfold cnt
  refine List.Perm.length_eq ((List.perm_ext_iff_of_nodup (nodup_filter _ hA) (nodup_filter _ hS)).mpr fun x => ?_)
  simp only [List.mem_filter, decide_eq_true_eq]
  exact And.comm
theorem cnt_sub {l X : List (Nat × Nat)} (hl : l.Nodup) (hX : X.Nodup) (h : ∀ x ∈ X, x ∈ l) : cnt l X = X.length := by
  rw [cnt_turn hl hX]
  unfold cnt
  rw [List.filter_eq_self.mpr fun x hx => decide_eq_true (h x hx)]
theorem cnt_congr {l X Y : List (Nat × Nat)} (h : ∀ x ∈ l, x ∈ X ↔ x ∈ Y) : cnt l X = cnt l Y := by
  unfold cnt
  congr 1
  refine List.filter_congr fun x hx => ?_
  rw [decide_eq_decide]
  exact h x hx
/-- what stands in a list, parted in two -/
theorem cnt_part (q : (Nat × Nat) → Bool) (S : List (Nat × Nat)) : ∀ A : List (Nat × Nat), cnt A S = cnt (A.filter q) S + cnt (A.filter fun c => !q c) S
  | [] => rfl
  | c :: r => by
    have ih := cnt_part q S r
    simp only [cnt, List.filter_filter] at ih ⊢
    by_cases h1 : q c = true <;> by_cases h2 : c ∈ S <;> simp [List.filter_cons, h1, h2] <;> omega
theorem cnt_le (A S : List (Nat × Nat)) : cnt A S ≤ A.length := List.length_filter_le _ _
theorem cnt_zero {A S : List (Nat × Nat)} (h : cnt A S = 0) : ∀ c ∈ A, c ∉ S := fun c hc hS => by
  have : c ∈ A.filter fun c => decide (c ∈ S) := List.mem_filter.mpr ⟨hc, decide_eq_true hS⟩
  rw [List.length_eq_zero_iff.mp h] at this
  cases this
theorem cnt_full {A S : List (Nat × Nat)} (h : cnt A S = A.length) : ∀ c ∈ A, c ∈ S := fun c hc => by
  have h1 : A.filter (fun c => decide (c ∈ S)) = A := (List.filter_sublist).eq_of_length h
  have := List.filter_eq_self.mp h1 c hc
  exact of_decide_eq_true this
/-- as many of a list as wanted; with a cell of it, or without -/
theorem pick {l : List (Nat × Nat)} (hl : l.Nodup) {k : Nat} (hk : k ≤ l.length) : ∃ X : List (Nat × Nat), X.Nodup ∧ (∀ x ∈ X, x ∈ l) ∧ X.length = k :=
  ⟨l.take k, (List.take_sublist k l).nodup hl, fun x hx => List.mem_of_mem_take hx, by rw [List.length_take]; omega⟩
theorem pick_with {l : List (Nat × Nat)} (hl : l.Nodup) {c : (Nat × Nat)} (hc : c ∈ l) {k : Nat} (h1 : 1 ≤ k) (hk : k ≤ l.length) : ∃ X : List (Nat × Nat), X.Nodup ∧ (∀ x ∈ X, x ∈ l) ∧ X.length = k ∧ c ∈ X := by
  have he := List.length_erase_of_mem hc
  obtain ⟨X, a, b, d⟩ := pick (hl.erase c) (k := k - 1) (by omega)
  refine ⟨c :: X, List.nodup_cons.mpr ⟨fun z => ?_, a⟩, fun x hx => ?_, by rw [List.length_cons]; omega, List.mem_cons_self⟩
  · exact (hl.mem_erase_iff.mp (b c z)).1 rfl
  · rcases List.mem_cons.mp hx with rfl | hx
    · exact hc
    · exact List.mem_of_mem_erase (b x hx)
theorem pick_without {l : List (Nat × Nat)} (hl : l.Nodup) {c : (Nat × Nat)} (hc : c ∈ l) {k : Nat} (hk : k < l.length) : ∃ X : List (Nat × Nat), X.Nodup ∧ (∀ x ∈ X, x ∈ l) ∧ X.length = k ∧ c ∉ X := by
  have he := List.length_erase_of_mem hc
  obtain ⟨X, a, b, d⟩ := pick (hl.erase c) (k := k) (by omega)
  exact ⟨X, a, fun x hx => List.mem_of_mem_erase (b x hx), d, fun z => (hl.mem_erase_iff.mp (b c z)).1 rfl⟩
/-- two lists of free cells and their numbers -/
structure In (cl st cs A B : List (Nat × Nat)) : Prop where
  nd : cs.Nodup
  na : A.Nodup
  nb : B.Nodup
  a : ∀ c ∈ A, c ∈ cs ∧ c ∉ st ∧ c ∉ cl
  b : ∀ c ∈ B, c ∈ cs ∧ c ∉ st ∧ c ∉ cl
  ap : ∀ c ∈ cl, c ∉ st
def both (A B : List (Nat × Nat)) : List (Nat × Nat) := A.filter fun c => decide (c ∈ B)
def alone (A B : List (Nat × Nat)) : List (Nat × Nat) := A.filter fun c => !decide (c ∈ B)
structure Fit (cl st cs A B : List (Nat × Nat)) (a b : Int) (S : List (Nat × Nat)) : Prop where
  ch : S ∈ cho cl st cs
  fa : (cnt A S : Int) = a
  fb : (cnt B S : Int) = b
theorem both_turn {A B : List (Nat × Nat)} (hA : A.Nodup) (hB : B.Nodup) (S : List (Nat × Nat)) : cnt (both B A) S = cnt (both A B) S := by
  unfold cnt both
  refine List.Perm.length_eq ((List.perm_ext_iff_of_nodup (nodup_filter _ (nodup_filter _ hB)) (nodup_filter _ (nodup_filter _ hA))).mpr fun x => ?_)
  simp only [List.mem_filter, decide_eq_true_eq]
  exact ⟨fun h => ⟨⟨h.1.2, h.1.1⟩, h.2⟩, fun h => ⟨⟨h.1.2, h.1.1⟩, h.2⟩⟩
theorem cnt_two {A B : List (Nat × Nat)} (hA : A.Nodup) (hB : B.Nodup) (S : List (Nat × Nat)) : cnt A S = cnt (both A B) S + cnt (alone A B) S ∧ cnt B S = cnt (both A B) S + cnt (alone B A) S := by
  refine ⟨cnt_part _ S A, ?_⟩
  rw [← both_turn hA hB]
  exact cnt_part _ S B
/-- a choice that fits has so many in common cells -/
theorem Fit.k {cl st cs A B S : List (Nat × Nat)} {a b : Int} (I : In cl st cs A B) (h : Fit cl st cs A B a b S) : (cnt (both A B) S : Int) ≤ (both A B).length ∧ (cnt (alone A B) S : Int) = a - cnt (both A B) S ∧ (cnt (alone B A) S : Int) = b - cnt (both A B) S ∧ cnt (alone A B) S ≤ (alone A B).length ∧ cnt (alone B A) S ≤ (alone B A).length := by
  have t := cnt_two I.na I.nb S
  have h1 := h.fa
  have h2 := h.fb
  have h3 := cnt_le (both A B) S
  exact ⟨by omega, by omega, by omega, cnt_le _ _, cnt_le _ _⟩
/-- a choice of so many -/
theorem Fit.mk' {cl st cs A B X Y Z W : List (Nat × Nat)} {a b : Int} {k : Nat} (I : In cl st cs A B) (hX : X.Nodup) (hY : Y.Nodup) (hZ : Z.Nodup) (sX : ∀ x ∈ X, x ∈ both A B) (sY : ∀ x ∈ Y, x ∈ alone A B) (sZ : ∀ x ∈ Z, x ∈ alone B A) (sW : ∀ x ∈ W, x ∉ A ∧ x ∉ B ∧ x ∉ cl)
    (lX : X.length = k) (lY : (Y.length : Int) = a - k) (lZ : (Z.length : Int) = b - k) : ∃ S, Fit cl st cs A B a b S ∧ ∀ c ∈ cs, c ∉ st → (c ∈ S ↔ c ∈ X ∨ c ∈ Y ∨ c ∈ Z ∨ c ∈ W) := by
  have mA : ∀ {x : (Nat × Nat)}, x ∈ both A B → x ∈ A ∧ x ∈ B := fun h => ⟨(List.mem_filter.mp h).1, of_decide_eq_true (List.mem_filter.mp h).2⟩
  have m1 : ∀ {x : (Nat × Nat)} {A B : List (Nat × Nat)}, x ∈ alone A B → x ∈ A ∧ x ∉ B := fun {x A B} h => ⟨(List.mem_filter.mp h).1, by
    have := (List.mem_filter.mp h).2
    simpa using this⟩
  have mem : ∀ c ∈ cs, c ∉ st → (c ∈ cs.filter (fun c => decide (c ∈ st ∨ c ∈ X ∨ c ∈ Y ∨ c ∈ Z ∨ c ∈ W)) ↔ c ∈ X ∨ c ∈ Y ∨ c ∈ Z ∨ c ∈ W) := fun c hc hs => by
    rw [List.mem_filter, decide_eq_true_eq]
    exact ⟨fun h => h.2.resolve_left hs, fun h => ⟨hc, .inr h⟩⟩
  have cB : cnt (both A B) (cs.filter (fun c => decide (c ∈ st ∨ c ∈ X ∨ c ∈ Y ∨ c ∈ Z ∨ c ∈ W))) = X.length := by
    rw [← cnt_sub (nodup_filter _ I.na) hX sX]
    refine cnt_congr fun x hx => ?_
    obtain ⟨h1, h2⟩ := mA hx
    rw [mem x (I.a x h1).1 (I.a x h1).2.1]
    refine ⟨fun h => ?_, .inl⟩
    rcases h with h | h | h | h
    · exact h
    · exact absurd h2 (m1 (sY x h)).2
    · exact absurd h1 (m1 (sZ x h)).2
    · exact absurd h1 (sW x h).1
  have cA : cnt (alone A B) (cs.filter (fun c => decide (c ∈ st ∨ c ∈ X ∨ c ∈ Y ∨ c ∈ Z ∨ c ∈ W))) = Y.length := by
    rw [← cnt_sub (nodup_filter _ I.na) hY sY]
    refine cnt_congr fun x hx => ?_
    obtain ⟨h1, h2⟩ := m1 hx
    rw [mem x (I.a x h1).1 (I.a x h1).2.1]
    refine ⟨fun h => ?_, fun h => .inr (.inl h)⟩
    rcases h with h | h | h | h
    · exact absurd (mA (sX x h)).2 h2
    · exact h
    · exact absurd (m1 (sZ x h)).1 h2
    · exact absurd h1 (sW x h).1
  have cC : cnt (alone B A) (cs.filter (fun c => decide (c ∈ st ∨ c ∈ X ∨ c ∈ Y ∨ c ∈ Z ∨ c ∈ W))) = Z.length := by
    rw [← cnt_sub (nodup_filter _ I.nb) hZ sZ]
    refine cnt_congr fun x hx => ?_
    obtain ⟨h1, h2⟩ := m1 hx
    rw [mem x (I.b x h1).1 (I.b x h1).2.1]
    refine ⟨fun h => ?_, fun h => .inr (.inr (.inl h))⟩
    rcases h with h | h | h | h
    · exact absurd (mA (sX x h)).1 h2
    · exact absurd (m1 (sY x h)).1 h2
    · exact h
    · exact absurd h1 (sW x h).2.1
  have t := cnt_two I.na I.nb (cs.filter (fun c => decide (c ∈ st ∨ c ∈ X ∨ c ∈ Y ∨ c ∈ Z ∨ c ∈ W)))
  refine ⟨_, ⟨cho_in _ cs (fun c _ h => decide_eq_true (.inl h)) (fun c hc h => decide_eq_false ?_), by omega, by omega⟩, mem⟩
  rintro (z | z | z | z | z)
  · exact I.ap c h z
  · exact (I.a c (mA (sX c z)).1).2.2 h
  · exact (I.a c (m1 (sY c z)).1).2.2 h
  · exact (I.b c (m1 (sZ c z)).1).2.2 h
  · exact (sW c z).2.2 h
structure Ends (A B : List (Nat × Nat)) (a b lo hi : Int) : Prop where
  l0 : 0 ≤ lo
  l1 : a - (alone A B).length ≤ lo
  l2 : b - (alone B A).length ≤ lo
  l : lo = 0 ∨ lo = a - (alone A B).length ∨ lo = b - (alone B A).length
  h0 : hi ≤ (both A B).length
  h1 : hi ≤ a
  h2 : hi ≤ b
  h : hi = (both A B).length ∨ hi = a ∨ hi = b
section
variable {cl st cs A B : List (Nat × Nat)} {a b lo hi : Int}
theorem Fit.ends {S : List (Nat × Nat)} (I : In cl st cs A B) (E : Ends A B a b lo hi) (h : Fit cl st cs A B a b S) : lo ≤ cnt (both A B) S ∧ (cnt (both A B) S : Int) ≤ hi := by
  obtain ⟨k1, k2, k3, k4, k5⟩ := h.k I
  have e1 := E.l
  have e2 := E.h
  omega
theorem both_nd (I : In cl st cs A B) : (both A B).Nodup := nodup_filter _ I.na
theorem al_nd (I : In cl st cs A B) : (alone A B).Nodup := nodup_filter _ I.na
theorem al_nd2 (I : In cl st cs A B) : (alone B A).Nodup := nodup_filter _ I.nb
theorem fits (I : In cl st cs A B) (E : Ends A B a b lo hi) (h : lo ≤ hi) {W : List (Nat × Nat)} (sW : ∀ x ∈ W, x ∉ A ∧ x ∉ B ∧ x ∉ cl) : ∃ S, Fit cl st cs A B a b S ∧ ∀ c ∈ cs, c ∉ st → c ∉ A → c ∉ B → (c ∈ S ↔ c ∈ W) := by
  have e0 := E.l0
  have e1 := E.l1
  have e2 := E.l2
  have e3 := E.h0
  have e4 := E.h1
  have e5 := E.h2
  obtain ⟨X, x1, x2, x3⟩ := pick (both_nd I) (k := lo.toNat) (by omega)
  obtain ⟨Y, y1, y2, y3⟩ := pick (al_nd I) (k := (a - lo).toNat) (by omega)
  obtain ⟨Z, z1, z2, z3⟩ := pick (al_nd2 I) (k := (b - lo).toNat) (by omega)
  obtain ⟨S, f, m⟩ := Fit.mk' (a := a) (b := b) (k := lo.toNat) I x1 y1 z1 x2 y2 z2 sW x3 (by omega) (by omega)
  refine ⟨S, f, fun c hc hs hA hB => ?_⟩
  rw [m c hc hs]
  refine ⟨fun q => ?_, fun q => .inr (.inr (.inr q))⟩
  rcases q with q | q | q | q
  · exact absurd (List.mem_filter.mp (x2 c q)).1 hA
  · exact absurd (List.mem_filter.mp (y2 c q)).1 hA
  · exact absurd (List.mem_filter.mp (z2 c q)).1 hB
  · exact q
theorem fit_iff (I : In cl st cs A B) (E : Ends A B a b lo hi) : (∃ S, Fit cl st cs A B a b S) ↔ lo ≤ hi := by
  constructor
  · rintro ⟨S, f⟩
    have := f.ends I E
    omega
  · intro h
    obtain ⟨S, f, _⟩ := fits I E h (W := []) (fun _ h => nomatch h)
    exact ⟨S, f⟩
theorem none_W : ∀ x ∈ ([] : List (Nat × Nat)), x ∉ A ∧ x ∉ B ∧ x ∉ cl := fun _ h => nomatch h
theorem clear_iff (I : In cl st cs A B) (E : Ends A B a b lo hi) (h : lo ≤ hi) {c : (Nat × Nat)} (hc : c ∈ cs) (hs : c ∉ st) (hl : c ∉ cl) : (∀ S, Fit cl st cs A B a b S → c ∉ S) ↔ (c ∈ both A B ∧ hi = 0) ∨ (c ∈ alone A B ∧ a - lo = 0) ∨ (c ∈ alone B A ∧ b - lo = 0) := by
  have e0 := E.l0
  have e1 := E.l1
  have e2 := E.l2
  have e3 := E.h0
  have e4 := E.h1
  have e5 := E.h2
  constructor
  · intro all
    by_cases hA : c ∈ A
    · by_cases hB : c ∈ B
      · have mc : c ∈ both A B := List.mem_filter.mpr ⟨hA, decide_eq_true hB⟩
        refine .inl ⟨mc, Classical.byContradiction fun hn => ?_⟩
        obtain ⟨X, x1, x2, x3, x4⟩ := pick_with (both_nd I) mc (k := hi.toNat) (by omega) (by omega)
        obtain ⟨Y, y1, y2, y3⟩ := pick (al_nd I) (k := (a - hi).toNat) (by omega)
        obtain ⟨Z, z1, z2, z3⟩ := pick (al_nd2 I) (k := (b - hi).toNat) (by omega)
        obtain ⟨S, f, m⟩ := Fit.mk' (a := a) (b := b) (k := hi.toNat) (W := []) I x1 y1 z1 x2 y2 z2 none_W x3 (by omega) (by omega)
        exact all S f ((m c hc hs).mpr (.inl x4))
      · have mc : c ∈ alone A B := List.mem_filter.mpr ⟨hA, by simpa using hB⟩
        refine .inr (.inl ⟨mc, Classical.byContradiction fun hn => ?_⟩)
        obtain ⟨X, x1, x2, x3⟩ := pick (both_nd I) (k := lo.toNat) (by omega)
        obtain ⟨Y, y1, y2, y3, y4⟩ := pick_with (al_nd I) mc (k := (a - lo).toNat) (by omega) (by omega)
        obtain ⟨Z, z1, z2, z3⟩ := pick (al_nd2 I) (k := (b - lo).toNat) (by omega)
        obtain ⟨S, f, m⟩ := Fit.mk' (a := a) (b := b) (k := lo.toNat) (W := []) I x1 y1 z1 x2 y2 z2 none_W x3 (by omega) (by omega)
        exact all S f ((m c hc hs).mpr (.inr (.inl y4)))
    · by_cases hB : c ∈ B
      · have mc : c ∈ alone B A := List.mem_filter.mpr ⟨hB, by simpa using hA⟩
        refine .inr (.inr ⟨mc, Classical.byContradiction fun hn => ?_⟩)
        obtain ⟨X, x1, x2, x3⟩ := pick (both_nd I) (k := lo.toNat) (by omega)
        obtain ⟨Y, y1, y2, y3⟩ := pick (al_nd I) (k := (a - lo).toNat) (by omega)
        obtain ⟨Z, z1, z2, z3, z4⟩ := pick_with (al_nd2 I) mc (k := (b - lo).toNat) (by omega) (by omega)
        obtain ⟨S, f, m⟩ := Fit.mk' (a := a) (b := b) (k := lo.toNat) (W := []) I x1 y1 z1 x2 y2 z2 none_W x3 (by omega) (by omega)
        exact all S f ((m c hc hs).mpr (.inr (.inr (.inl z4))))
      · obtain ⟨S, f, m⟩ := fits I E h (W := [c]) (fun x hx => by
          have : x = c := by simpa using hx
          subst this
          exact ⟨hA, hB, hl⟩)
        exact absurd ((m c hc hs hA hB).mpr List.mem_cons_self) (all S f)
  · rintro (⟨m, z⟩ | ⟨m, z⟩ | ⟨m, z⟩) S f
    · have := f.ends I E
      exact cnt_zero (by omega) c m
    · have := f.ends I E
      obtain ⟨k1, k2, k3, k4, k5⟩ := f.k I
      exact cnt_zero (by omega) c m
    · have := f.ends I E
      obtain ⟨k1, k2, k3, k4, k5⟩ := f.k I
      exact cnt_zero (by omega) c m
theorem stone_iff (I : In cl st cs A B) (E : Ends A B a b lo hi) (h : lo ≤ hi) {c : (Nat × Nat)} (hc : c ∈ cs) (hs : c ∉ st) (hl : c ∉ cl) : (∀ S, Fit cl st cs A B a b S → c ∈ S) ↔ (c ∈ both A B ∧ lo = (both A B).length) ∨ (c ∈ alone A B ∧ a - hi = (alone A B).length) ∨ (c ∈ alone B A ∧ b - hi = (alone B A).length) := by
  have e0 := E.l0
  have e1 := E.l1
  have e2 := E.l2
  have e3 := E.h0
  have e4 := E.h1
  have e5 := E.h2
  have ne : ∀ {X Y : List (Nat × Nat)} {A' B' : List (Nat × Nat)}, (∀ x ∈ X, x ∈ Y) → c ∉ Y → c ∉ X := fun h1 h2 h3 => h2 (h1 c h3)
  constructor
  · intro all
    by_cases hA : c ∈ A
    · by_cases hB : c ∈ B
      · have mc : c ∈ both A B := List.mem_filter.mpr ⟨hA, decide_eq_true hB⟩
        have n1 : c ∉ alone A B := fun z => by simpa [hB] using (List.mem_filter.mp z).2
        have n2 : c ∉ alone B A := fun z => by simpa [hA] using (List.mem_filter.mp z).2
        refine .inl ⟨mc, Classical.byContradiction fun hn => ?_⟩
        obtain ⟨X, x1, x2, x3, x4⟩ := pick_without (both_nd I) mc (k := lo.toNat) (by omega)
        obtain ⟨Y, y1, y2, y3⟩ := pick (al_nd I) (k := (a - lo).toNat) (by omega)
        obtain ⟨Z, z1, z2, z3⟩ := pick (al_nd2 I) (k := (b - lo).toNat) (by omega)
        obtain ⟨S, f, m⟩ := Fit.mk' (a := a) (b := b) (k := lo.toNat) (W := []) I x1 y1 z1 x2 y2 z2 none_W x3 (by omega) (by omega)
        rcases (m c hc hs).mp (all S f) with q | q | q | q
        · exact x4 q
        · exact n1 (y2 c q)
        · exact n2 (z2 c q)
        · cases q
      · have mc : c ∈ alone A B := List.mem_filter.mpr ⟨hA, by simpa using hB⟩
        have n1 : c ∉ both A B := fun z => hB (of_decide_eq_true (List.mem_filter.mp z).2)
        have n2 : c ∉ alone B A := fun z => hB (List.mem_filter.mp z).1
        refine .inr (.inl ⟨mc, Classical.byContradiction fun hn => ?_⟩)
        obtain ⟨X, x1, x2, x3⟩ := pick (both_nd I) (k := hi.toNat) (by omega)
        obtain ⟨Y, y1, y2, y3, y4⟩ := pick_without (al_nd I) mc (k := (a - hi).toNat) (by omega)
        obtain ⟨Z, z1, z2, z3⟩ := pick (al_nd2 I) (k := (b - hi).toNat) (by omega)
        obtain ⟨S, f, m⟩ := Fit.mk' (a := a) (b := b) (k := hi.toNat) (W := []) I x1 y1 z1 x2 y2 z2 none_W x3 (by omega) (by omega)
        rcases (m c hc hs).mp (all S f) with q | q | q | q
        · exact n1 (x2 c q)
        · exact y4 q
        · exact n2 (z2 c q)
        · cases q
    · by_cases hB : c ∈ B
      · have mc : c ∈ alone B A := List.mem_filter.mpr ⟨hB, by simpa using hA⟩
        have n1 : c ∉ both A B := fun z => hA (List.mem_filter.mp z).1
        have n2 : c ∉ alone A B := fun z => hA (List.mem_filter.mp z).1
        refine .inr (.inr ⟨mc, Classical.byContradiction fun hn => ?_⟩)
        obtain ⟨X, x1, x2, x3⟩ := pick (both_nd I) (k := hi.toNat) (by omega)
        obtain ⟨Y, y1, y2, y3⟩ := pick (al_nd I) (k := (a - hi).toNat) (by omega)
        obtain ⟨Z, z1, z2, z3, z4⟩ := pick_without (al_nd2 I) mc (k := (b - hi).toNat) (by omega)
        obtain ⟨S, f, m⟩ := Fit.mk' (a := a) (b := b) (k := hi.toNat) (W := []) I x1 y1 z1 x2 y2 z2 none_W x3 (by omega) (by omega)
        rcases (m c hc hs).mp (all S f) with q | q | q | q
        · exact n1 (x2 c q)
        · exact n2 (y2 c q)
        · exact z4 q
        · cases q
      · obtain ⟨S, f, m⟩ := fits I E h (W := []) none_W
        exact nomatch (m c hc hs hA hB).mp (all S f)
  · rintro (⟨m, z⟩ | ⟨m, z⟩ | ⟨m, z⟩) S f
    · have := f.ends I E
      obtain ⟨k1, k2, k3, k4, k5⟩ := f.k I
      exact cnt_full (by omega) c m
    · have := f.ends I E
      obtain ⟨k1, k2, k3, k4, k5⟩ := f.k I
      exact cnt_full (by omega) c m
    · have := f.ends I E
      obtain ⟨k1, k2, k3, k4, k5⟩ := f.k I
      exact cnt_full (by omega) c m
end
end Two
namespace K51
open PySem L2
def top (i : Nat) : Stmt := PySem.Challenge.pw_stonelay_k51_what_two_things_tell.main.body.getD i (.Pass ⟨0, 0, 0, 0⟩)
abbrev s_closed : Stmt := top 6
abbrev s_around : Stmt := top 7
abbrev s_number_at : Stmt := top 8
abbrev s_cells_of : Stmt := top 9
abbrev s_sign_at : Stmt := top 10
abbrev s_closed_around : Stmt := top 12
abbrev s_follows : Stmt := top 15
abbrev s_asked_by : Stmt := top 16
abbrev s_known_of : Stmt := top 17
abbrev s_still_asked : Stmt := top 18
abbrev s_gained : Stmt := top 19
abbrev s_settled : Stmt := top 20
abbrev s_law_cell_at : Stmt := top 22
abbrev s_law_mixed : Stmt := top 23
abbrev s_law_mark : Stmt := top 24
abbrev s_law_drawn : Stmt := top 25
abbrev s_law_cells : Stmt := top 26
abbrev s_law_near : Stmt := top 27
abbrev s_law_board : Stmt := top 28
abbrev s_law_bent : Stmt := top 29
abbrev s_law_finding : Stmt := top 30
abbrev s_law_looked : Stmt := top 31
abbrev s_law_number : Stmt := top 32
abbrev s_law_things : Stmt := top 33
abbrev s_law_is_finding : Stmt := top 34
abbrev s_law_told : Stmt := top 35
abbrev s_law_choices : Stmt := top 36
abbrev s_law_due : Stmt := top 37
abbrev s_law : Stmt := top 38
structure Txt (mg : Str → Option Value) : Prop where
  b_abs : mg "abs" = none
  b_dict : mg "dict" = none
  b_enumerate : mg "enumerate" = none
  b_int : mg "int" = none
  b_isinstance : mg "isinstance" = none
  b_len : mg "len" = none
  b_list : mg "list" = none
  b_max : mg "max" = none
  b_min : mg "min" = none
  b_range : mg "range" = none
  b_sorted : mg "sorted" = none
  b_str : mg "str" = none
  b_sum : mg "sum" = none
  b_tuple : mg "tuple" = none
  v_ALL : ∃ t, mg "ALL" = some (.str "all" t)
  v_CLOSED_SIGN : ∃ t, mg "CLOSED_SIGN" = some (.str "?" t)
  v_NO_CELL_SIGN : ∃ t, mg "NO_CELL_SIGN" = some (.str "#" t)
/-! The script's numbers; rows of a board. -/
def spCell (K : PySem.W.Frag) : Sp := fun vs H Q _ => ∃ (a : Addr) (ns : List Int) (k : Int), vs = [.ref a, .int k] ∧ SqL K H a (ns.map V.int) ∧ 0 ≤ k ∧ ∀ z : Int, Q (.int z) H
/-- a row of n signs out of these -/
structure Row (signs : List Nat) (n : Nat) (t : Str) : Prop where
  len : t.cps.size = n
  mem : ∀ c ∈ t.cps.toList, c ∈ signs
/-- rows of a board -/
structure Rows (signs : List Nat) (rs : List Str) : Prop where
  lo : 1 ≤ rs.length
  hi : rs.length ≤ 8
  ex : ∃ n, 1 ≤ n ∧ n ≤ 8 ∧ ∀ t ∈ rs, Row signs n t
def bd : Str := "?012345678#"
section
variable {P : Program} {w : World} {K : PySem.W.Frag} {mg : Str → Option Value} {base : Heap} {f : Addr} {fd : FuncData}
theorem sc_law_cell_at : FnScope ["_law_script", "_law_k"] ["_law_script", "_law_k"] (defScope s_law_cell_at) := ⟨rfl, rfl, rfl, by decide +kernel, rfl, by decide +kernel, by decide +kernel⟩
theorem ok_law_cell_at (T : Txt mg) (D : DefAt K mg "_law_cell_at" s_law_cell_at ["_law_script", "_law_k"] f fd) : FnOk P w K mg base CX0 1 f fd ["_law_script", "_law_k"] (spCell K) := by
  refine D.F.ok sc_law_cell_at (fun vs H Q E h => ?_) (fun cdv A outer s H vs Q E hr h => ?_)
  · obtain ⟨a, ns, i, rfl, _⟩ := h
    rfl
  · obtain ⟨a, ns, i, rfl, hS, hi, k⟩ := h
    refine ⟨_, (pss_cons (ps_if (pt_cmpR op_lt (pv 1) (pe_callB call_len_seq (by rfl) T.b_len PySem.boot_len (pa_cons (pv 0) pa_nil)) (nomark _)) (pss_one (ps_ret (pe_ix ix_list (pv 0) (pv 1) (fun _ _ => rfl)))) pss_nil)
      (pss_one (ps_ret pe_int))), ?_⟩
    refine ⟨_, rfl, _, rfl, a, _, rfl, .inl hS, _, _, rfl, rfl, _, rfl, ?_⟩
    refine ite2 (fun c => ?_) (fun c => ?_)
    · have c' : i < ((ns.map V.int).length : Nat) := of_decide_eq_true c
      rw [List.length_map] at c'
      have hl : i.toNat < ns.length := by omega
      refine ⟨_, rfl, _, rfl, a, _, i, .int ns[i.toNat], rfl, rfl, hS, atI_lt hi (by rw [List.getElem?_map, List.getElem?_eq_getElem hl]; rfl), ?_⟩
      exact k _
    · exact k 0
end

/-- a board stands at p, its rows at l -/
structure BoardAt (H : Hp) (p l : Addr) (rs : List Str) (n : Int) : Prop where
  tp : H p = some (.tup [.ref l, .int n])
  rw : H l = some (.lst (rs.map V.str))
/-- a whole board as data -/
def bData (rs : List Str) (n : Int) : PyData := .tuple [.list (rs.map PyData.str), .int n]
theorem BoardAt.mono {H H' : Hp} {p l : Addr} {rs : List Str} {n : Int} (b : BoardAt H p l rs n) (s : Same H H') : BoardAt H' p l rs n := ⟨s _ _ b.tp, s _ _ b.rw⟩
/-- the rows as lists of signs -/
def codes (rs : List Str) : List (List Nat) := rs.map fun t => t.cps.toList
theorem codes_get {rs : List Str} {i : Nat} {t : Str} (h : rs[i]? = some t) : (codes rs)[i]? = some t.cps.toList := by
  unfold codes
  rw [List.getElem?_map, h]
  rfl
theorem codes_inv {rs : List Str} {i : Nat} {u : List Nat} (h : (codes rs)[i]? = some u) : ∃ t, rs[i]? = some t ∧ u = t.cps.toList := by
  unfold codes at h
  rw [List.getElem?_map] at h
  cases e : rs[i]? with
  | none =>
    rw [e] at h
    cases h
  | some t =>
    rw [e] at h
    cases h
    exact ⟨t, rfl, rfl⟩
theorem codes_len (rs : List Str) : (codes rs).length = rs.length := by
  unfold codes
  rw [List.length_map]
theorem Rows.short {s : List Nat} {rs : List Str} (R : Rows s rs) : ∀ u ∈ codes rs, u.length ≤ 8 := fun u hu => by
  obtain ⟨t, ht, rfl⟩ := List.mem_map.mp hu
  obtain ⟨n, _, h8, q⟩ := R.ex
  have := (q t ht).len
  rw [Array.length_toList]
  omega
theorem Rows.tlen {s : List Nat} {rs : List Str} {i : Nat} {t : Str} (R : Rows s rs) (h : rs[i]? = some t) : t.length ≤ sizeLine := by
  obtain ⟨n, _, h8, q⟩ := R.ex
  have e : t.length = n := (q t (List.mem_of_getElem? h)).len
  rw [e]
  exact Nat.le_trans h8 (by decide)
/-- cells as they lie: tuples of two numbers -/
def CelR (H : Hp) (v : V) (c : Nat × Nat) : Prop := ∃ a, v = V.ref a ∧ H a = some (.tup [.int (c.1 : Nat), .int (c.2 : Nat)])
def Cel (H : Hp) : List V → List (Nat × Nat) → Prop := Paired (CelR H)
theorem Cel.mono {H H' : Hp} (s : Same H H') : ∀ {vs : List V} {cs : List (Nat × Nat)}, Cel H vs cs → Cel H' vs cs
  | _, _, .nil => .nil
  | _, _, .cons ⟨a, e, h⟩ t => .cons ⟨a, e, s _ _ h⟩ (Cel.mono s t)
theorem Cel.snoc {H : Hp} {vs : List V} {cs : List (Nat × Nat)} {v : V} {c : Nat × Nat} (h : Cel H vs cs) (x : CelR H v c) : Cel H (vs ++ [v]) (cs ++ [c]) := Paired.snoc h x
theorem Cel.append {H : Hp} : ∀ {vs ws : List V} {cs ds : List (Nat × Nat)}, Cel H vs cs → Cel H ws ds → Cel H (vs ++ ws) (cs ++ ds)
  | _, _, _, _, .nil, h => h
  | _, _, _, _, .cons x t, h => .cons x (Cel.append t h)
/-- a list is rewritten at an address that bears none of these cells -/
theorem Cel.into {H : Hp} (z : Addr) (o : HO) {old : List V} (hz : H z = some (.lst old)) : ∀ {vs : List V} {cs : List (Nat × Nat)}, Cel H vs cs → Cel (upd H z o) vs cs
  | _, _, .nil => .nil
  | _, _, .cons ⟨a, e, h⟩ t => .cons ⟨a, e, by rw [upd_ne (ne_of h hz (by intro y; cases y))]; exact h⟩ (Cel.into z o hz t)
theorem Cel.length {H : Hp} {vs : List V} {cs : List (Nat × Nat)} (h : Cel H vs cs) : vs.length = cs.length := Paired.length h
theorem Cel.get {H : Hp} : ∀ {vs : List V} {cs : List (Nat × Nat)} {i : Nat} {v : V}, Cel H vs cs → vs[i]? = some v → ∃ c, cs[i]? = some c ∧ CelR H v c
  | _, _, _, _, .nil, e => by simp at e
  | _, _, 0, _, .cons r _, e => by
    simp at e
    subst e
    exact ⟨_, rfl, r⟩
  | _, _, i + 1, v, .cons _ t, e => by
    obtain ⟨c, h1, h2⟩ := Cel.get (i := i) (v := v) t (by simpa using e)
    exact ⟨c, by simpa using h1, h2⟩
def cData (c : Nat × Nat) : PyData := .tuple [.int (c.1 : Nat), .int (c.2 : Nat)]
theorem CelR.rdv {K : PySem.W.Frag} {H : Hp} {v : V} {c : Nat × Nat} (h : CelR H v c) : Rdv K H v (cData c) := by
  obtain ⟨a, rfl, h⟩ := h
  exact .tup (SqT.of h) (.cons (.int _) (.cons (.int _) .nil))
theorem cData_cmp (c d : Nat × Nat) : CmpD (cData c) (cData d) := ⟨rfl, rfl, by show max 0 (max 0 0) + 1 ≤ 64; decide⟩
theorem cData_eqv (c d : Nat × Nat) : PyData.eqv (cData c) (cData d) = decide (c = d) := by
  obtain ⟨a, b⟩ := c
  obtain ⟨x, y⟩ := d
  show ((((a : Nat) : Int) == ((x : Nat) : Int)) && ((((b : Nat) : Int) == ((y : Nat) : Int)) && true)) = decide ((a, b) = (x, y))
  by_cases h1 : a = x
  · by_cases h2 : b = y
    · subst h1 h2
      simp
    · have : ¬ ((b : Int) = (y : Int)) := by omega
      simp [h2, this]
  · have : ¬ ((a : Int) = (x : Int)) := by omega
    simp [h1, this]
theorem one_eq (c k : Nat) : (V.str ⟨#[c]⟩ = V.str ⟨#[k]⟩) = (c = k) := by
  apply propext
  constructor
  · intro h
    have h2 : (⟨#[c]⟩ : Str) = ⟨#[k]⟩ := V.str.inj h
    have h3 : (#[c] : Array Nat) = #[k] := congrArg Str.cps h2
    simpa using h3
  · rintro rfl
    rfl
theorem hash_is : ("#" : Str) = ⟨#[35]⟩ := by decide +kernel
theorem ask_is : ("?" : Str) = ⟨#[63]⟩ := by decide +kernel

def pCell (c : Nat) : Bool := !decide (c = 35)
def pShut (c : Nat) : Bool := decide (c = 63)
def pOpen (c : Nat) : Bool := pCell c && !decide (c = 63)
def spSign : Sp := fun vs H Q _ => ∃ (p l c : Addr) (rs : List Str) (n : Int) (i j : Nat) (t : Str) (k : Nat), vs = [.ref p, .ref c] ∧ BoardAt H p l rs n ∧ H c = some (.tup [.int (i : Nat), .int (j : Nat)]) ∧ rs[i]? = some t ∧ t.cps.toList[j]? = some k ∧ t.length ≤ sizeLine ∧ Q (.str ⟨#[k]⟩) H
def spList (p : Nat → Bool) : Sp := fun vs H Q _ => ∃ (a l : Addr) (rs : List Str) (n : Int), vs = [.ref a] ∧ BoardAt H a l rs n ∧ Rows bd.cps.toList rs ∧
  ∀ (d : Addr) (ws : List V) (H' : Hp), H d = none → H' d = some (.lst ws) → Cel H' ws (Cells.allCs p 0 (codes rs)) → Same H H' → Q (.ref d) H'
def spNumber : Sp := fun vs H Q _ => ∃ (p l c : Addr) (rs : List Str) (n : Int) (i j : Nat) (t : Str) (k : Nat), vs = [.ref p, .ref c] ∧ BoardAt H p l rs n ∧ H c = some (.tup [.int (i : Nat), .int (j : Nat)]) ∧ rs[i]? = some t ∧ t.cps.toList[j]? = some k ∧ t.length ≤ sizeLine ∧ 48 ≤ k ∧ k ≤ 56 ∧ Q (.int ((k : Int) - 48)) H
theorem int_sign {k : Nat} (h1 : 48 ≤ k) (h2 : k ≤ 56) : PySem.intText? ⟨#[k]⟩ = some ((k : Int) - 48) := by
  have : ∀ k ∈ List.range 57, 48 ≤ k → PySem.intText? ⟨#[k]⟩ = some ((k : Int) - 48) := by decide +kernel
  exact this k (List.mem_range.mpr (by omega)) h1
section
variable {P : Program} {w : World} {K : PySem.W.Frag} {mg : Str → Option Value} {base : Heap} {f : Addr} {fd : FuncData}
theorem sc_sign_at : FnScope ["board", "cell"] ["board", "cell"] (defScope s_sign_at) := ⟨rfl, rfl, rfl, by decide +kernel, rfl, by decide +kernel, by decide +kernel⟩
theorem ok_sign_at (D : DefAt K mg "sign_at" s_sign_at ["board", "cell"] f fd) : FnOk P w K mg base CX0 1 f fd ["board", "cell"] spSign := by
  refine D.F.ok sc_sign_at (fun vs H Q E h => ?_) (fun cdv A outer s H vs Q E hr h => ?_)
  · obtain ⟨p, l, c, rs, n, i, j, t, k, rfl, _⟩ := h
    rfl
  · obtain ⟨p, l, c, rs, n, i, j, t, k, rfl, b, hc, hi, hj, hl, q⟩ := h
    refine ⟨_, (pss_one (ps_ret (pe_ix ix_str (pe_ix ix_list (pe_ix ix_tup (pv 0) pe_int (fun _ _ => rfl)) (pe_ix ix_tup (pv 1) pe_int (fun _ _ => rfl)) (fun _ _ => rfl)) (pe_ix ix_tup (pv 1) pe_int (fun _ _ => rfl)) (fun _ _ => rfl)))), ?_⟩
    exact ⟨_, rfl, p, _, 0, _, rfl, rfl, SqT.of b.tp, rfl, _, rfl, c, _, 0, _, rfl, rfl, SqT.of hc, rfl, l, _, _, _, rfl, rfl, SqL.of b.rw, atI_nat (v := V.str t) (by rw [List.getElem?_map, hi]; rfl), _, rfl, c, _, 1, _, rfl, rfl, SqT.of hc, rfl, t, _, k, rfl, rfl, hl, atI_nat hj, q⟩
theorem sc_cells_of : FnScope ["board", "found", "row", "text"] ["board"] (defScope s_cells_of) := ⟨rfl, rfl, rfl, by decide +kernel, rfl, by decide +kernel, by decide +kernel⟩
theorem ok_cells_of (T : Txt mg) (D : DefAt K mg "cells_of" s_cells_of ["board"] f fd) : FnOk P w K mg base CX0 1 f fd ["board"] (spList pCell) := by
  refine D.F.ok sc_cells_of (fun vs H Q E h => ?_) (fun cdv A outer s H vs Q E hr h => ?_)
  · obtain ⟨a, l, rs, n, rfl, _⟩ := h
    rfl
  · obtain ⟨a, l, rs, n, rfl, b, R, q⟩ := h
    refine ⟨_, (pss_cons (ps_set (i := 1) sc_cells_of.nd rfl (Or.inl rfl) (pe_lst pa_nil))
      (pss_cons (ps_for PassesOwn.never rfl (pi_enumL (by rfl) T.b_enumerate (pa_cons (pe_ix ix_tup (pv 0) pe_int (fun _ _ => rfl)) pa_nil)) (pg_tup rfl (pgs_cons (pg_name (i := 2) sc_cells_of.nd rfl (Or.inr rfl)) (pgs_cons (pg_name (i := 3) sc_cells_of.nd rfl (Or.inl rfl)) pgs_nil))) (pss_one (ps_expr (pe_bm PySem.F.plainAttrs_list PySem.F.slot_list_extend PySem.F.type_list_extend mt_extend (pv 1) (pa_cons (pe_comp (N := ["column", "sign", "row"]) (src := [none, none, some 2]) (CompOk.free (O := (defScope s_cells_of).names) (XN := ["board", "found", "row", "text"]) rfl rfl ⟨_, rfl⟩ rfl rfl (by decide +kernel) (by decide +kernel) (by decide +kernel) rfl (by decide +kernel)) rfl (pi_enumS (by rfl) T.b_enumerate (pa_cons (pv 3) pa_nil)) (fun _ _ _ _ _ => (pg_tupK (n := 2) (K := K) (by rfl) rfl (pgs_cons (pg_name (i := 0) (by show List.Nodup (["column", "sign", "row"] : List Str); decide +kernel) rfl (Or.inl rfl)) (pgs_cons (pg_name (i := 1) (by show List.Nodup (["column", "sign", "row"] : List Str); decide +kernel) rfl (Or.inl rfl)) pgs_nil)))) (fun _ _ _ _ _ => (pifs_one (pt_cmpR op_ne (pv 1) (pe_glob (v := .str "#") (by rfl) T.v_NO_CELL_SIGN.choose_spec (by exact ⟨_, rfl⟩)) (nomark _)))) (fun _ _ _ _ _ => (pe_tup (pa_cons (pv 2) (pa_cons (pv 0) pa_nil))))) pa_nil)))))
      (pss_one (ps_ret (pv 1))))), ?_⟩
    refine ⟨(by show 0 ≤ sizeLine; decide), fun d hd => ?_⟩
    have s0 : Same H (upd H d (.lst [])) := same_new hd
    refine ⟨_, rfl, a, _, 0, _, rfl, rfl, SqT.of (b.mono s0).tp, rfl, l, rfl, ⟨_, SqL.of (b.mono s0).rw⟩, ?_⟩
    refine for_enumL (K := K) (l := l) (xs := rs.map V.str) (fun i σ H' => ∃ (v2 v3 : Option V) (ws : List V), σ = [some (.ref a), some (.ref d), v2, v3] ∧ Same H H' ∧ H' d = some (.lst ws) ∧ Cel H' ws (Cells.allCs pCell 0 ((codes rs).take i)))
      ⟨_, _, [], rfl, s0, upd_same, .nil⟩ (fun i σ H' _ ⟨_, _, _, _, s1, _⟩ => SqL.of (b.mono s1).rw) ?_ ?_
    · rintro i x tt σ H1 hx htt ⟨v2, v3, ws, rfl, s1, hd1, hc1⟩
      rw [List.getElem?_map] at hx
      cases e : rs[i]? with
      | none =>
        rw [e] at hx
        cases hx
      | some t =>
        rw [e] at hx
        cases hx
        have hil : i < rs.length := (List.getElem?_eq_some_iff.mp e).1
        have st : Same H1 (upd H1 tt (.tup [.int (i : Nat), .str t])) := same_new htt
        refine ⟨tt, _, rfl, SqT.of upd_same, rfl, _, _, rfl, _, _, rfl, rfl, ?_⟩
        -- found.extend([..])
        have hd2 : upd H1 tt (.tup [.int (i : Nat), .str t]) d = some (.lst ws) := st _ _ hd1
        refine ⟨_, rfl, .inl ⟨rfl, _, SqL.of hd2⟩, _, rfl, t, rfl, fun z hz => ?_⟩
        refine comp_enumS (x := t) (fun j σ H' => ∃ (u0 u1 : Option V) (ys : List V), σ = [u0, u1, some (.int (i : Nat))] ∧ Same (upd H1 tt (.tup [.int (i : Nat), .str t])) H' ∧ H' z = some (.lst ys) ∧ Cel H' ys (Cells.rowCs pCell i 0 (t.cps.toList.take j)))
          ⟨_, _, [], rfl, same_new hz, upd_same, .nil⟩ ?_ ?_
        · rintro j c t2 σ H2 hc ht2 ⟨u0, u1, ys, rfl, s2, hz2, hc2⟩
          refine ⟨t2, _, rfl, SqT.of upd_same, rfl, _, _, rfl, _, _, rfl, rfl, ?_⟩
          refine ⟨_, rfl, rfl, _, rfl, ?_⟩
          have hc' : t.cps.toList[j]? = some c := by rw [Array.getElem?_toList]; exact hc
          have s3 : Same H2 (upd H2 t2 (.tup [.int (j : Nat), .str ⟨#[c]⟩])) := same_new ht2
          have step := Cells.rowCs_step (p := pCell) (i := i) hc'
          have ed : (!decide (V.str ⟨#[c]⟩ = V.str "#")) = pCell c := by
            rw [hash_is]
            simp only [one_eq]
            rfl
          rw [ed]
          by_cases hp : pCell c = true
          · rw [hp] at step
            refine iteP hp ?_
            refine ⟨_, rfl, _, rfl, (by show 2 ≤ sizeLine; decide), fun t3 ht3 => ?_⟩
            have nz3 : z ≠ t3 := ne_of_none (s3 _ _ hz2) ht3
            have s4 : Same (upd H2 t2 (.tup [.int (j : Nat), .str ⟨#[c]⟩])) (upd (upd H2 t2 (.tup [.int (j : Nat), .str ⟨#[c]⟩])) t3 (.tup [.int (i : Nat), .int (j : Nat)])) := same_new ht3
            have hlen : ys.length ≤ 8 := by
              rw [hc2.length]
              refine Nat.le_trans (Cells.rowCs_length _ _ _ _) ?_
              have := R.short _ (List.mem_of_getElem? (codes_get e))
              rw [List.length_take]
              omega
            refine ⟨ys, s4 _ _ (s3 _ _ hz2), Nat.lt_of_le_of_lt hlen (by decide), some (.int (j : Nat)), some (.str ⟨#[c]⟩), ys ++ [.ref t3], rfl, fun b' o e' => ?_, upd_same, ?_⟩
            · have hb : b' ≠ z := fun y => by
                subst y
                rw [hz] at e'
                cases e'
              rw [upd_ne hb]
              exact s4 _ _ (s3 _ _ (s2 _ _ e'))
            · rw [step]
              have keep : ∀ x o, x ≠ z → upd (upd H2 t2 (.tup [.int (j : Nat), .str ⟨#[c]⟩])) t3 (.tup [.int (i : Nat), .int (j : Nat)]) x = some o → upd (upd (upd H2 t2 (.tup [.int (j : Nat), .str ⟨#[c]⟩])) t3 (.tup [.int (i : Nat), .int (j : Nat)])) z (.lst (ys ++ [.ref t3])) x = some o := fun x o hx e' => by
                rw [upd_ne hx]
                exact e'
              refine Cel.snoc ?_ ⟨t3, rfl, keep _ _ nz3.symm upd_same⟩
              exact Cel.into z (.lst (ys ++ [.ref t3])) (s4 _ _ (s3 _ _ hz2)) (Cel.mono s4 (Cel.mono s3 hc2))
          · have hp' : pCell c = false := by simpa using hp
            rw [hp'] at step
            refine iteN hp' ?_
            refine ⟨some (.int (j : Nat)), some (.str ⟨#[c]⟩), ys, rfl, s2.trans s3, s3 _ _ hz2, ?_⟩
            rw [step]
            simpa using Cel.mono s3 hc2
        · rintro σ H2 ⟨u0, u1, ys, rfl, s2, hz2, hc2⟩
          have hne : d ≠ z := ne_of_none hd2 hz
          have hd3 : H2 d = some (.lst ws) := s2 _ _ hd2
          have full : t.cps.toList.take t.cps.size = t.cps.toList := by
            rw [← Array.length_toList, List.take_length]
          rw [full] at hc2
          have step := Cells.allCs_step (p := pCell) (codes_get e)
          have l1 : ws.length ≤ 64 := by
            rw [hc1.length]
            refine Nat.le_trans (Cells.allCs_length _ _ _ fun u hu => R.short u (List.mem_of_mem_take hu)) ?_
            have := R.hi
            rw [List.length_take, codes_len]
            omega
          have l2 : ys.length ≤ 8 := by
            rw [hc2.length]
            exact Nat.le_trans (Cells.rowCs_length _ _ _ _) (R.short _ (List.mem_of_getElem? (codes_get e)))
          refine ⟨d, z, ws, ys, rfl, rfl, hd3, hz2, Nat.le_trans (Nat.add_le_add l1 l2) (by decide), ?_⟩
          refine ⟨_, _, ws ++ ys, rfl, fun b' o e' => ?_, upd_same, ?_⟩
          · have hb : b' ≠ d := fun y => by
              subst y
              rw [hd] at e'
              cases e'
            rw [upd_ne hb]
            exact s2 _ _ (st _ _ (s1 _ _ e'))
          · rw [step]
            exact Cel.into d _ hd3 (Cel.append (Cel.mono s2 (Cel.mono st hc1)) hc2)
    · rintro σ H1 ⟨v2, v3, ws, rfl, s1, hd1, hc1⟩
      rw [List.length_map, ← codes_len, List.take_length] at hc1
      exact ⟨_, rfl, q d ws H1 hd hd1 hc1 s1⟩
end

theorem shut_is (c : Nat) : (pCell c && decide (c = 63)) = pShut c := by
  unfold pCell pShut
  by_cases h : c = 63
  · subst h
    rfl
  · simp [h]
section
variable {P : Program} {w : World} {K : PySem.W.Frag} {mg : Str → Option Value} {base : Heap} {f : Addr} {fd : FuncData}
theorem sc_closed : FnScope ["board"] ["board"] (defScope s_closed) := ⟨rfl, rfl, rfl, by decide +kernel, rfl, by decide +kernel, by decide +kernel⟩
theorem ok_closed {f1 f2 : Addr} {fd1 fd2 : FuncData} (T : Txt mg) (D : DefAt K mg "closed" s_closed ["board"] f fd) (D_cells_of : DefAt K mg "cells_of" s_cells_of ["board"] f1 fd1) (D_sign_at : DefAt K mg "sign_at" s_sign_at ["board", "cell"] f2 fd2) :
    FnOk P w K mg base CX0 2 f fd ["board"] (spList pShut) := by
  have G_cells_of : FnOk P w K mg base CX0 1 f1 fd1 ["board"] (spList pCell) := ok_cells_of T D_cells_of
  have G_sign_at : FnOk P w K mg base CX0 1 f2 fd2 ["board", "cell"] spSign := ok_sign_at D_sign_at
  refine D.F.ok sc_closed (fun vs H Q E h => ?_) (fun cdv A outer s H vs Q E hr h => ?_)
  · obtain ⟨a, l, rs, n, rfl, _⟩ := h
    rfl
  · obtain ⟨a, l, rs, n, rfl, b, R, q⟩ := h
    refine ⟨_, (pss_one (ps_ret (pe_comp (N := ["cell", "board"]) (src := [none, some 0]) (CompOk.free (O := (defScope s_closed).names) (XN := ["board"]) rfl rfl ⟨_, rfl⟩ rfl rfl (by decide +kernel) (by decide +kernel) (by decide +kernel) rfl (by decide +kernel)) rfl (pi_list (pe_call G_cells_of (hr.mono (by decide)) (by rfl) D_cells_of.g D_cells_of.F.kp D_cells_of.b .nil pass0 (pa_cons (pv 0) pa_nil))) (fun _ _ _ _ _ => (pg_name (i := 0) (by show List.Nodup (["cell", "board"] : List Str); decide +kernel) rfl (Or.inl rfl))) (fun _ _ _ _ _ => (pifs_one (pt_cmpR op_eq (pe_call G_sign_at (hr.mono (by decide)) (by rfl) D_sign_at.g D_sign_at.F.kp D_sign_at.b .nil pass0 (pa_cons (pv 1) (pa_cons (pv 0) pa_nil))) (pe_glob (v := .str "?") (by rfl) T.v_CLOSED_SIGN.choose_spec (by exact ⟨_, rfl⟩)) (nomark _)))) (fun _ _ _ _ _ => (pv 0))))), ?_⟩
    refine ⟨_, rfl, a, l, rs, n, rfl, b, R, fun d ws H1 hd hd1 hc1 s1 => ⟨d, rfl, ⟨_, SqL.of hd1⟩, fun z hz => ?_⟩⟩
    have nz : d ≠ z := ne_of_none hd1 hz
    refine comp_list (K := K) (a := d) (xs := ws) (fun i σ H' => ∃ (u0 : Option V) (ys : List V), σ = [u0, some (.ref a)] ∧ Same H1 H' ∧ H' z = some (.lst ys) ∧ Cel H' ys (((Cells.allCs pCell 0 (codes rs)).take i).filter fun x => decide (Cells.sgn (codes rs) x = 63)))
      ⟨_, [], rfl, same_new hz, upd_same, .nil⟩ (fun i σ H' _ ⟨_, _, _, s2, _⟩ => SqL.of (s2 _ _ hd1)) ?_ ?_
    · rintro i x σ H2 hx ⟨u0, ys, rfl, s2, hz2, hc2⟩
      obtain ⟨c, hci, ca, rfl, hca⟩ := Cel.get (Cel.mono s2 hc1) hx
      obtain ⟨k0, j, u, k, ec, hk0, hj, hpc⟩ := Cells.mem_allCs (List.mem_of_getElem? hci)
      obtain ⟨t, ht, rfl⟩ := codes_inv hk0
      rw [Nat.zero_add] at ec
      subst ec
      refine ⟨_, rfl, _, rfl, a, l, ca, rs, n, k0, j, t, k, rfl, (b.mono s1).mono s2, hca, ht, hj, R.tlen ht, rfl, _, rfl, ?_⟩
      have es : Cells.sgn (codes rs) (k0, j) = k := Cells.sgn_at hk0 hj
      have step : ((Cells.allCs pCell 0 (codes rs)).take (i + 1)).filter (fun x => decide (Cells.sgn (codes rs) x = 63)) = ((Cells.allCs pCell 0 (codes rs)).take i).filter (fun x => decide (Cells.sgn (codes rs) x = 63)) ++ (if decide (k = 63) = true then [(k0, j)] else []) := by
        rw [List.take_add_one, hci, List.filter_append]
        congr 1
        show List.filter _ [(k0, j)] = _
        rw [List.filter_cons]
        try dsimp only
        rw [es]
        split <;> rfl
      have ed : decide (V.str ⟨#[k]⟩ = V.str "?") = decide (k = 63) := by
        rw [ask_is]
        simp only [one_eq]
      rw [ed]
      by_cases hp : decide (k = 63) = true
      · rw [if_pos hp] at step
        refine iteP hp ?_
        have hlen : ys.length ≤ 64 := by
          rw [hc2.length]
          refine Nat.le_trans (List.length_filter_le _ _) ?_
          rw [List.length_take]
          have h1 := Cells.allCs_length pCell 0 (codes rs) R.short
          have h2 := R.hi
          rw [codes_len] at h1
          omega
        refine ⟨_, rfl, ys, hz2, Nat.lt_of_le_of_lt hlen (by decide), _, ys ++ [.ref ca], rfl, fun b' o e' => ?_, upd_same, ?_⟩
        · have hb : b' ≠ z := fun y => by
            subst y
            rw [hz] at e'
            cases e'
          rw [upd_ne hb]
          exact s2 _ _ e'
        · rw [step]
          exact Cel.into z _ hz2 (Cel.snoc hc2 ⟨ca, rfl, hca⟩)
      · rw [if_neg hp] at step
        refine iteN (by simpa using hp) ?_
        refine ⟨_, ys, rfl, s2, hz2, ?_⟩
        rw [step]
        simpa using hc2
    · rintro σ H2 ⟨u0, ys, rfl, s2, hz2, hc2⟩
      rw [hc1.length, List.take_length, Cells.all_filter (p := pCell) (q := fun k => decide (k = 63)) (codes rs)] at hc2
      have hz0 : H z = none := s1.free hz
      exact q z ys H2 hz0 hz2 (by rw [Cells.allCs_congr (q := pShut) shut_is] at hc2; exact hc2) (s1.trans s2)
end

section
variable {P : Program} {w : World} {K : PySem.W.Frag} {mg : Str → Option Value} {base : Heap} {f : Addr} {fd : FuncData}
theorem sc_number_at : FnScope ["board", "cell"] ["board", "cell"] (defScope s_number_at) := ⟨rfl, rfl, rfl, by decide +kernel, rfl, by decide +kernel, by decide +kernel⟩
theorem ok_number_at {f1 : Addr} {fd1 : FuncData} (T : Txt mg) (D : DefAt K mg "number_at" s_number_at ["board", "cell"] f fd) (D_sign_at : DefAt K mg "sign_at" s_sign_at ["board", "cell"] f1 fd1) : FnOk P w K mg base CX0 2 f fd ["board", "cell"] spNumber := by
  have G_sign_at : FnOk P w K mg base CX0 1 f1 fd1 ["board", "cell"] spSign := ok_sign_at D_sign_at
  refine D.F.ok sc_number_at (fun vs H Q E h => ?_) (fun cdv A outer s H vs Q E hr h => ?_)
  · obtain ⟨p, l, c, rs, n, i, j, t, k, rfl, _⟩ := h
    rfl
  · obtain ⟨p, l, c, rs, n, i, j, t, k, rfl, b, hc, hi, hj, hl, k1, k2, q⟩ := h
    refine ⟨_, (pss_one (ps_ret (pe_callTy call_int_str (by rfl) T.b_int PyProof.Rows.boot_int (pa_cons (pe_call G_sign_at (hr.mono (by decide)) (by rfl) D_sign_at.g D_sign_at.F.kp D_sign_at.b .nil pass0 (pa_cons (pv 0) (pa_cons (pv 1) pa_nil))) pa_nil)))), ?_⟩
    exact ⟨_, rfl, _, rfl, p, l, c, rs, n, i, j, t, k, rfl, b, hc, hi, hj, hl, ⟨#[k]⟩, _, rfl, int_sign k1 k2, (by show 1 ≤ 640; decide), q⟩
end
theorem open_sign {k : Nat} (h : k ∈ bd.cps.toList) (hp : pOpen k = true) : 48 ≤ k ∧ k ≤ 56 := by
  have : ∀ k ∈ bd.cps.toList, pOpen k = true → 48 ≤ k ∧ k ≤ 56 := by decide +kernel
  exact this k h hp
/-- what an open cell of the rows is -/
theorem Rows.openAt {rs : List Str} (R : Rows bd.cps.toList rs) {p : Nat → Bool} {c : Nat × Nat} (h : c ∈ Cells.allCs p 0 (codes rs)) : ∃ t k, rs[c.1]? = some t ∧ t.cps.toList[c.2]? = some k ∧ p k = true ∧ k ∈ bd.cps.toList ∧ t.length ≤ sizeLine := by
  obtain ⟨k0, j, u, k, ec, hk0, hj, hpc⟩ := Cells.mem_allCs h
  obtain ⟨t, ht, rfl⟩ := codes_inv hk0
  rw [Nat.zero_add] at ec
  subst ec
  obtain ⟨n, _, _, q⟩ := R.ex
  exact ⟨t, k, ht, hj, hpc, (q t (List.mem_of_getElem? ht)).mem k (List.mem_of_getElem? hj), R.tlen ht⟩

def aroundC (rs : List Str) (y : Nat × Nat) : List (Nat × Nat) := (Cells.allCs pCell 0 (codes rs)).filter fun x => Cells.near x y
def spAround : Sp := fun vs H Q _ => ∃ (p l ca : Addr) (rs : List Str) (n : Int) (i j : Nat), vs = [.ref p, .ref ca] ∧ BoardAt H p l rs n ∧ Rows bd.cps.toList rs ∧ H ca = some (.tup [.int (i : Nat), .int (j : Nat)]) ∧ i < 64 ∧ j < 64 ∧
  ∀ (d : Addr) (ws : List V) (H' : Hp), H d = none → H' d = some (.lst ws) → Cel H' ws (aroundC rs (i, j)) → Same H H' → Q (.ref d) H'
theorem cast_max (i : Nat) : (if (0 : Int) > (i : Int) - 1 then (0 : Int) else (i : Int) - 1) = ((i - 1 : Nat) : Int) := by
  split <;> omega
theorem cast_min (i m : Nat) : (if ((m : Nat) : Int) < (i : Int) + 2 then ((m : Nat) : Int) else (i : Int) + 2) = ((min (i + 2) m : Nat) : Int) := by
  split <;> omega
theorem filter_snoc {f : Nat × Nat → Bool} {l : List (Nat × Nat)} {x : Nat × Nat} (a : Bool) : (l ++ (if a = true then [x] else [])).filter f = l.filter f ++ (if (a && f x) = true then [x] else []) := by
  rw [List.filter_append]
  congr 1
  by_cases h : a = true
  · by_cases h2 : f x = true
    · simp [h, h2]
    · simp [h, h2]
  · simp [h]
section
variable {P : Program} {w : World} {K : PySem.W.Frag} {mg : Str → Option Value} {base : Heap} {f : Addr} {fd : FuncData}
theorem sc_around : FnScope ["board", "cell", "rows", "found", "row", "column"] ["board", "cell"] (defScope s_around) := ⟨rfl, rfl, rfl, by decide +kernel, rfl, by decide +kernel, by decide +kernel⟩
theorem ok_around (T : Txt mg) (D : DefAt K mg "around" s_around ["board", "cell"] f fd) : FnOk P w K mg base CX0 1 f fd ["board", "cell"] spAround := by
  refine D.F.ok sc_around (fun vs H Q E h => ?_) (fun cdv A outer s H vs Q E hr h => ?_)
  · obtain ⟨p, l, ca, rs, n, i, j, rfl, _⟩ := h
    rfl
  · obtain ⟨p, l, ca, rs, n, i, j, rfl, b, R, hca, hi64, hj64, q⟩ := h
    refine ⟨_, (pss_cons (ps_set (i := 2) sc_around.nd rfl (Or.inl rfl) (pe_ix ix_tup (pv 0) pe_int (fun _ _ => rfl)))
      (pss_cons (ps_set (i := 3) sc_around.nd rfl (Or.inl rfl) (pe_lst pa_nil))
      (pss_cons (ps_for PassesOwn.never rfl (pi_range2 (by rfl) T.b_range (pa_cons (pe_callB (call_max2 rfl) (by rfl) T.b_max PyProof.Rows.boot_max (pa_cons (pe_op op_sub (pe_ix ix_tup (pv 1) pe_int (fun _ _ => rfl)) pe_int) (pa_cons pe_int pa_nil))) (pa_cons (pe_callB (call_min2 rfl) (by rfl) T.b_min PyProof.Rows.boot_min (pa_cons (pe_op op_add (pe_ix ix_tup (pv 1) pe_int (fun _ _ => rfl)) pe_int) (pa_cons (pe_callB call_len_seq (by rfl) T.b_len PySem.boot_len (pa_cons (pv 2) pa_nil)) pa_nil))) pa_nil))) (pg_name (i := 4) sc_around.nd rfl (Or.inl rfl)) (pss_one (ps_for PassesOwn.never rfl (pi_range2 (by rfl) T.b_range (pa_cons (pe_callB (call_max2 rfl) (by rfl) T.b_max PyProof.Rows.boot_max (pa_cons (pe_op op_sub (pe_ix ix_tup (pv 1) pe_int (fun _ _ => rfl)) pe_int) (pa_cons pe_int pa_nil))) (pa_cons (pe_callB (call_min2 rfl) (by rfl) T.b_min PyProof.Rows.boot_min (pa_cons (pe_op op_add (pe_ix ix_tup (pv 1) pe_int (fun _ _ => rfl)) pe_int) (pa_cons (pe_callB call_len_str (by rfl) T.b_len PySem.boot_len (pa_cons (pe_ix ix_list (pv 2) (pv 4) (fun _ _ => rfl)) pa_nil)) pa_nil))) pa_nil))) (pg_name (i := 5) sc_around.nd rfl (Or.inl rfl)) (pss_one (ps_if (PW.pt (pw_and (pt_cmpR op_ne (pe_ix ix_str (pe_ix ix_list (pv 2) (pv 4) (fun _ _ => rfl)) (pv 5) (fun _ _ => rfl)) (pe_glob (v := .str "#") (by rfl) T.v_NO_CELL_SIGN.choose_spec (by exact ⟨_, rfl⟩)) (nomark _)) (pw_and1 (pt_cmpR (op_ne_deep hr.units) (pe_tup (pa_cons (pv 4) (pa_cons (pv 5) pa_nil))) (pv 1) (nomark _))))) (pss_one (ps_expr (pe_bm PySem.F.plainAttrs_list PySem.F.slot_list_append PySem.F.type_list_append mt_append (pv 3) (pa_cons (pe_tup (pa_cons (pv 4) (pa_cons (pv 5) pa_nil))) pa_nil)))) pss_nil)))))
      (pss_one (ps_ret (pv 3)))))), ?_⟩
    refine ⟨_, rfl, p, _, 0, _, rfl, rfl, SqT.of b.tp, rfl, ?_⟩
    refine ⟨(by show 0 ≤ sizeLine; decide), fun d hd => ?_⟩
    have s0 : Same H (upd H d (.lst [])) := same_new hd
    have r8 := R.hi
    refine ⟨_, rfl, ca, _, 0, _, rfl, rfl, SqT.of (s0 _ _ hca), rfl, _, _, rfl, rfl, _, _, rfl, _, rfl, ca, _, 0, _, rfl, rfl, SqT.of (s0 _ _ hca), rfl, _, _, rfl, rfl, _, rfl, l, _, rfl, .inl (SqL.of (b.mono s0).rw), _, _, rfl, ((i - 1 : Nat) : Int), ((min (i + 2) rs.length : Nat) : Int), ?_, ⟨by omega, by omega, by omega, by omega⟩, ?_⟩
    · show [V.int (if (0 : Int) > (i : Int) - 1 then (0 : Int) else (i : Int) - 1), V.int (if (((rs.map V.str).length : Nat) : Int) < (i : Int) + 2 then (((rs.map V.str).length : Nat) : Int) else (i : Int) + 2)] = _
      rw [List.length_map, cast_max, cast_min]
    refine for_range (lo := ((i - 1 : Nat) : Int)) (fun k σ H' => ∃ (v4 v5 : Option V) (ws : List V), σ = [some (.ref p), some (.ref ca), some (.ref l), some (.ref d), v4, v5] ∧ Same H H' ∧ H' d = some (.lst ws) ∧ Cel H' ws ((Cells.allCs pCell 0 ((codes rs).take (i - 1 + k))).filter fun x => Cells.near x (i, j)))
      ⟨_, _, [], rfl, s0, upd_same, ?_⟩ ?_ ?_
    · rw [Cells.rows_low]
      · exact .nil
      · intro r c hr'
        rw [Bool.eq_false_iff, ne_eq, Cells.near_iff]
        rintro ⟨⟨_, h2⟩, _⟩
        dsimp only at h2
        omega
    · rintro k σ H1 hk ⟨v4, v5, ws, rfl, s1, hd1, hc1⟩
      have hrl : i - 1 + k < rs.length := by omega
      have ecast : ((i - 1 : Nat) : Int) + (k : Nat) = ((i - 1 + k : Nat) : Int) := by omega
      rw [ecast]
      generalize hr0 : i - 1 + k = r at *
      obtain ⟨t, ht⟩ : ∃ t, rs[r]? = some t := ⟨_, List.getElem?_eq_getElem hrl⟩
      have htl : t.length ≤ sizeLine := R.tlen ht
      have ht8 : t.cps.toList.length ≤ 8 := R.short _ (List.mem_of_getElem? (codes_get ht))
      have hat : atI (rs.map V.str) ((r : Nat) : Int) = some (V.str t) := atI_nat (by rw [List.getElem?_map, ht]; rfl)
      refine ⟨_, rfl, ca, _, 1, _, rfl, rfl, SqT.of (s1 _ _ hca), rfl, _, _, rfl, rfl, _, _, rfl, _, rfl, ca, _, 1, _, rfl, rfl, SqT.of (s1 _ _ hca), rfl, _, _, rfl, rfl, _, rfl, _, rfl, l, _, _, _, rfl, rfl, SqL.of (b.mono s1).rw, hat, t, rfl, htl, _, _, rfl, ((j - 1 : Nat) : Int), ((min (j + 2) t.cps.size : Nat) : Int), ?_, ⟨by omega, by omega, by omega, ?_⟩, ?_⟩
      · show [V.int (if (0 : Int) > (j : Int) - 1 then (0 : Int) else (j : Int) - 1), V.int (if ((t.cps.size : Nat) : Int) < (j : Int) + 2 then ((t.cps.size : Nat) : Int) else (j : Int) + 2)] = _
        rw [cast_max, cast_min]
      · omega
      have hsz : t.cps.toList.length = t.cps.size := Array.length_toList
      refine for_range (lo := ((j - 1 : Nat) : Int)) (fun m σ H' => ∃ (v5 : Option V) (ws : List V), σ = [some (.ref p), some (.ref ca), some (.ref l), some (.ref d), some (.int (r : Nat)), v5] ∧ Same H H' ∧ H' d = some (.lst ws) ∧ Cel H' ws ((Cells.allCs pCell 0 ((codes rs).take r)).filter (fun x => Cells.near x (i, j)) ++ (Cells.rowCs pCell r 0 (t.cps.toList.take (j - 1 + m))).filter fun x => Cells.near x (i, j)))
        ⟨_, ws, rfl, s1, hd1, ?_⟩ ?_ ?_
      · rw [Cells.cols_low (t := t.cps.toList), List.append_nil]
        · exact hc1
        · intro c hc'
          rw [Bool.eq_false_iff, ne_eq, Cells.near_iff]
          rintro ⟨_, ⟨_, h2⟩, _⟩
          dsimp only at h2
          omega
      · rintro m σ H2 hm ⟨v5, ws2, rfl, s2, hd2, hc2⟩
        have hcl : j - 1 + m < t.cps.size := by omega
        have ecast2 : ((j - 1 : Nat) : Int) + (m : Nat) = ((j - 1 + m : Nat) : Int) := by omega
        rw [ecast2]
        generalize hc0 : j - 1 + m = c at *
        have hc0' : j - 1 + (m + 1) = c + 1 := by omega
        obtain ⟨k0, hk0⟩ : ∃ k0, t.cps.toList[c]? = some k0 := ⟨_, List.getElem?_eq_getElem (by omega)⟩
        have step := Cells.rowCs_step (p := pCell) (i := r) hk0
        have step2 : (Cells.rowCs pCell r 0 (t.cps.toList.take (c + 1))).filter (fun x => Cells.near x (i, j)) = (Cells.rowCs pCell r 0 (t.cps.toList.take c)).filter (fun x => Cells.near x (i, j)) ++ (if (pCell k0 && Cells.near (r, c) (i, j)) = true then [(r, c)] else []) := by
          rw [step, filter_snoc]
        have nr : Cells.near (r, c) (i, j) = !decide ((r, c) = (i, j)) := by
          rw [Bool.eq_iff_iff, Cells.near_iff]
          simp only [Bool.not_eq_true', decide_eq_false_iff_not]
          constructor
          · exact fun h => h.2.2
          · intro h
            refine ⟨⟨?_, ?_⟩, ⟨?_, ?_⟩, h⟩ <;> (try dsimp only) <;> omega
        refine ⟨_, rfl, _, rfl, l, _, _, _, rfl, rfl, SqL.of (b.mono s2).rw, hat, _, rfl, t, _, k0, rfl, rfl, htl, atI_nat hk0, rfl, _, rfl, ?_⟩
        have ed : (!decide (V.str ⟨#[k0]⟩ = V.str "#")) = pCell k0 := by
          rw [hash_is]
          simp only [one_eq]
          rfl
        rw [ed]
        by_cases hp : pCell k0 = true
        · refine iteP hp ?_
          refine ⟨_, rfl, _, rfl, (by show 2 ≤ sizeLine; decide), fun tp htp => ?_⟩
          have s3 : Same H2 (upd H2 tp (.tup [.int (r : Nat), .int (c : Nat)])) := same_new htp
          have hca3 := s3 _ _ (s2 _ _ hca)
          refine ⟨_, rfl, _, _, CelR.rdv (c := (r, c)) ⟨tp, rfl, upd_same⟩, CelR.rdv (c := (i, j)) ⟨ca, rfl, hca3⟩, cData_cmp _ _, _, rfl, ?_⟩
          have ee : (if true = true then !PyData.eqv (cData (r, c)) (cData (i, j)) else PyData.eqv (cData (r, c)) (cData (i, j))) = Cells.near (r, c) (i, j) := by
            rw [cData_eqv, nr]
            rfl
          rw [ee]
          rw [hp, Bool.true_and] at step2
          by_cases hn : Cells.near (r, c) (i, j) = true
          · refine iteP hn ?_
            rw [if_pos hn] at step2
            have hd3 := s3 _ _ hd2
            refine ⟨_, rfl, .inl ⟨rfl, _, SqL.of hd3⟩, _, rfl, _, rfl, (by show 2 ≤ sizeLine; decide), fun tq htq => ?_⟩
            have s4 : Same (upd H2 tp (.tup [.int (r : Nat), .int (c : Nat)])) (upd (upd H2 tp (.tup [.int (r : Nat), .int (c : Nat)])) tq (.tup [.int (r : Nat), .int (c : Nat)])) := same_new htq
            have hlen : ws2.length ≤ 128 := by
              rw [hc2.length, List.length_append]
              have h1 := List.length_filter_le (fun x => Cells.near x (i, j)) (Cells.allCs pCell 0 ((codes rs).take r))
              have h2 := List.length_filter_le (fun x => Cells.near x (i, j)) (Cells.rowCs pCell r 0 (t.cps.toList.take c))
              have h3 := Cells.allCs_length pCell 0 ((codes rs).take r) fun u hu => R.short u (List.mem_of_mem_take hu)
              have h4 := Cells.rowCs_length pCell r 0 (t.cps.toList.take c)
              rw [List.length_take, codes_len] at h3
              rw [List.length_take] at h4
              omega
            refine ⟨d, _, _, rfl, rfl, s4 _ _ hd3, Nat.lt_of_le_of_lt hlen (by decide), ?_⟩
            refine ⟨_, ws2 ++ [.ref tq], rfl, fun b' o e' => ?_, upd_same, ?_⟩
            · rw [upd_ne (ne_of_none e' hd)]
              exact s4 _ _ (s3 _ _ (s2 _ _ e'))
            · rw [hc0', step2, ← List.append_assoc]
              exact Cel.into d _ (s4 _ _ hd3) (Cel.snoc (Cel.mono s4 (Cel.mono s3 hc2)) ⟨tq, rfl, upd_same⟩)
          · have hn' : Cells.near (r, c) (i, j) = false := by simpa using hn
            refine iteN hn' ?_
            rw [if_neg hn, List.append_nil] at step2
            refine ⟨_, ws2, rfl, s2.trans s3, s3 _ _ hd2, ?_⟩
            rw [hc0', step2]
            exact Cel.mono s3 hc2
        · have hp' : pCell k0 = false := by simpa using hp
          refine iteN hp' ?_
          refine iteF ?_
          rw [hp', Bool.false_and, if_neg Bool.false_ne_true, List.append_nil] at step2
          refine ⟨_, ws2, rfl, s2, hd2, ?_⟩
          rw [hc0', step2]
          exact hc2
      · rintro σ H2 ⟨v5, ws2, rfl, s2, hd2, hc2⟩
        refine ⟨_, _, ws2, rfl, s2, hd2, ?_⟩
        have full : (Cells.rowCs pCell r 0 (t.cps.toList.take (j - 1 + (((min (j + 2) t.cps.size : Nat) : Int) - ((j - 1 : Nat) : Int)).toNat))).filter (fun x => Cells.near x (i, j)) = (Cells.rowCs pCell r 0 t.cps.toList).filter fun x => Cells.near x (i, j) := by
          by_cases hbig : t.cps.size ≤ j - 1 + (((min (j + 2) t.cps.size : Nat) : Int) - ((j - 1 : Nat) : Int)).toNat
          · rw [List.take_of_length_le (by omega)]
          · refine Cells.cols_high fun c hc' => ?_
            rw [Bool.eq_false_iff, ne_eq, Cells.near_iff]
            rintro ⟨_, ⟨h2, _⟩, _⟩
            dsimp only at h2
            omega
        rw [full] at hc2
        have e1 : i - 1 + (k + 1) = r + 1 := by omega
        rw [e1, Cells.allCs_step (codes_get ht), List.filter_append]
        exact hc2
    · rintro σ H1 ⟨v4, v5, ws, rfl, s1, hd1, hc1⟩
      have full : (Cells.allCs pCell 0 ((codes rs).take (i - 1 + (((min (i + 2) rs.length : Nat) : Int) - ((i - 1 : Nat) : Int)).toNat))).filter (fun x => Cells.near x (i, j)) = aroundC rs (i, j) := by
        by_cases hbig : rs.length ≤ i - 1 + (((min (i + 2) rs.length : Nat) : Int) - ((i - 1 : Nat) : Int)).toNat
        · rw [List.take_of_length_le (by rw [codes_len]; omega)]
          rfl
        · refine Cells.rows_high fun r c hr' => ?_
          rw [Bool.eq_false_iff, ne_eq, Cells.near_iff]
          rintro ⟨⟨h2, _⟩, _⟩
          dsimp only at h2
          omega
      rw [full] at hc1
      exact ⟨_, rfl, q d ws H1 hd hd1 hc1 s1⟩
end

/-! What lies around, in data: closed_around, far, bare_wrong. -/
theorem CelR.rdn {N : Addr → Prop} {H : Hp} {v : V} {c : Nat × Nat} (h : CelR H v c) : Rdn N H v (cData c) := by
  obtain ⟨a, rfl, h⟩ := h
  exact .tup h (.cons (.int _) (.cons (.int _) .nil))
theorem Cel.rdn {N : Addr → Prop} {H : Hp} : ∀ {vs : List V} {cs : List (Nat × Nat)}, Cel H vs cs → RdnAll N H vs (cs.map cData)
  | _, _, .nil => .nil
  | _, _, .cons h t => .cons (CelR.rdn h) (Cel.rdn t)
theorem Rdn.celR {N : Addr → Prop} {H : Hp} {v : V} {c : Nat × Nat} (h : Rdn N H v (cData c)) : CelR H v c := by
  cases h with
  | tup h t =>
    cases t with
    | cons a t =>
      cases a
      cases t with
      | cons b t =>
        cases b
        cases t
        exact ⟨_, rfl, h⟩
theorem RdnAll.cel {N : Addr → Prop} {H : Hp} : ∀ {cs : List (Nat × Nat)} {vs : List V}, RdnAll N H vs (cs.map cData) → Cel H vs cs
  | [], _, h => by cases h; exact .nil
  | c :: r, _, h => by
    cases h with
    | cons a t => exact .cons (Rdn.celR a) (RdnAll.cel t)
theorem outs_filter {α : Type} (p : α → Bool) (g : α → PyData) : ∀ cs : List α, (cs.map fun x => if p x = true then some (g x) else none).filterMap id = (cs.filter p).map g
  | [] => rfl
  | c :: r => by
    rw [List.map_cons, List.filterMap_cons, List.filter_cons]
    by_cases h : p c = true
    · rw [if_pos h, if_pos h]
      show g c :: _ = g c :: _
      rw [outs_filter p g r]
    · rw [if_neg h, if_neg h]
      exact outs_filter p g r
theorem map_at {α β : Type} {g : α → β} {cs : List α} {i : Nat} {c : α} {o : β} (h : cs[i]? = some c) (ho : (cs.map g)[i]? = some o) : o = g c := by
  rw [List.getElem?_map, h] at ho
  exact (Option.some.inj ho).symm
/-- the closed cells around -/
def clA (rs : List Str) (c : Nat × Nat) : List (Nat × Nat) := (aroundC rs c).filter fun x => decide (Cells.sgn (codes rs) x = 63)
def shutC (rs : List Str) : List (Nat × Nat) := Cells.allCs pShut 0 (codes rs)
def openC (rs : List Str) : List (Nat × Nat) := Cells.allCs pOpen 0 (codes rs)
def farC (rs : List Str) : List (Nat × Nat) := (shutC rs).filter fun c => !((openC rs).map fun o => (aroundC rs o).any fun z => decide (z = c)).any id
def bareC (rs : List Str) : List (Nat × Nat) := ((openC rs).filter fun o => (clA rs o).isEmpty).filter fun o => !decide (Cells.sgn (codes rs) o = 48)
theorem all_short {p : Nat → Bool} {rs : List Str} (R : Rows bd.cps.toList rs) : (Cells.allCs p 0 (codes rs)).length ≤ 64 := by
  have h1 := Cells.allCs_length p 0 (codes rs) R.short
  have h2 := R.hi
  rw [codes_len] at h1
  omega
theorem aroundC_short {rs : List Str} (R : Rows bd.cps.toList rs) (c : Nat × Nat) : (aroundC rs c).length ≤ 64 := Nat.le_trans (List.length_filter_le _ _) (all_short R)
/-- a cell of the board: its row's text and its sign -/
theorem cell_at_board {p : Nat → Bool} {rs : List Str} {c : Nat × Nat} (h : c ∈ Cells.allCs p 0 (codes rs)) : ∃ t k, rs[c.1]? = some t ∧ t.cps.toList[c.2]? = some k ∧ p k = true ∧ Cells.sgn (codes rs) c = k := by
  obtain ⟨k0, j, u, k, ec, hk0, hj, hpc⟩ := Cells.mem_allCs h
  obtain ⟨t, ht, rfl⟩ := codes_inv hk0
  rw [Nat.zero_add] at ec
  subst ec
  exact ⟨t, k, ht, hj, hpc, Cells.sgn_at hk0 hj⟩
theorem cell_small {rs : List Str} {c : Nat × Nat} {t : Str} {k : Nat} (R : Rows bd.cps.toList rs) (h1 : rs[c.1]? = some t) (h2 : t.cps.toList[c.2]? = some k) : c.1 < 64 ∧ c.2 < 64 := by
  have a := (List.getElem?_eq_some_iff.mp h1).1
  have b := (List.getElem?_eq_some_iff.mp h2).1
  have e := R.hi
  have f := R.short _ (List.mem_of_getElem? (codes_get h1))
  omega
def spClA : Sp := fun vs H Q _ => ∃ (p l ca : Addr) (rs : List Str) (n : Int) (c : Nat × Nat), vs = [.ref p, .ref ca] ∧ BoardAt H p l rs n ∧ Rows bd.cps.toList rs ∧ H ca = some (.tup [.int (c.1 : Nat), .int (c.2 : Nat)]) ∧ c.1 < 64 ∧ c.2 < 64 ∧
  ∀ (d : Addr) (ws : List V) (H' : Hp), H d = none → H' d = some (.lst ws) → Cel H' ws (clA rs c) → Same H H' → Q (.ref d) H'
/-- a list of cells that hangs on the board alone -/
def spLst (g : List Str → List (Nat × Nat)) : Sp := fun vs H Q _ => ∃ (a l : Addr) (rs : List Str) (n : Int), vs = [.ref a] ∧ BoardAt H a l rs n ∧ Rows bd.cps.toList rs ∧
  ∀ (d : Addr) (ws : List V) (H' : Hp), H d = none → H' d = some (.lst ws) → Cel H' ws (g rs) → Same H H' → Q (.ref d) H'
section
variable {P : Program} {w : World} {K : PySem.W.Frag} {mg : Str → Option Value} {base : Heap} {f : Addr} {fd : FuncData}
theorem sc_closed_around : FnScope ["board", "cell"] ["board", "cell"] (defScope s_closed_around) := ⟨rfl, rfl, rfl, by decide +kernel, rfl, by decide +kernel, by decide +kernel⟩
theorem ok_closed_around {f1 f2 : Addr} {fd1 fd2 : FuncData} (T : Txt mg) (D : DefAt K mg "closed_around" s_closed_around ["board", "cell"] f fd) (D_around : DefAt K mg "around" s_around ["board", "cell"] f1 fd1) (D_sign_at : DefAt K mg "sign_at" s_sign_at ["board", "cell"] f2 fd2) :
    FnOk P w K mg base CX0 2 f fd ["board", "cell"] spClA := by
  have G_around : FnOk P w K mg base CX0 1 f1 fd1 ["board", "cell"] spAround := ok_around T D_around
  have G_sign_at : FnOk P w K mg base CX0 1 f2 fd2 ["board", "cell"] spSign := ok_sign_at D_sign_at
  refine D.F.ok sc_closed_around (fun vs H Q E h => ?_) (fun cdv A outer s H vs Q E hr h => ?_)
  · obtain ⟨p, l, ca, rs, n, c, rfl, _⟩ := h
    rfl
  · obtain ⟨p, l, ca, rs, n, c, rfl, b, R, hca, ci, cj, q⟩ := h
    refine ⟨_, (pss_one (ps_ret (pe_comp (N := ["place", "board"]) (src := [none, some 0]) (CompOk.free (O := (defScope s_closed_around).names) (XN := ["board", "cell"]) rfl rfl ⟨_, rfl⟩ rfl rfl (by decide +kernel) (by decide +kernel) (by decide +kernel) rfl (by decide +kernel)) rfl (pi_list (pe_call G_around (hr.mono (by decide)) (by rfl) D_around.g D_around.F.kp D_around.b .nil pass0 (pa_cons (pv 0) (pa_cons (pv 1) pa_nil)))) (fun _ _ _ _ _ => (pg_name (i := 0) (by show List.Nodup (["place", "board"] : List Str); decide +kernel) rfl (Or.inl rfl))) (fun _ _ _ _ _ => (pifs_one (pt_cmpR op_eq (pe_call G_sign_at (hr.mono (by decide)) (by rfl) D_sign_at.g D_sign_at.F.kp D_sign_at.b .nil pass0 (pa_cons (pv 1) (pa_cons (pv 0) pa_nil))) (pe_glob (v := .str "?") (by rfl) T.v_CLOSED_SIGN.choose_spec (by exact ⟨_, rfl⟩)) (nomark _)))) (fun _ _ _ _ _ => (pv 0))))), ?_⟩
    refine ⟨_, rfl, _, rfl, p, l, ca, rs, n, c.1, c.2, rfl, b, R, hca, ci, cj, fun d ws H1 hd hd1 hc1 s1 => ⟨d, rfl, ⟨_, SqL.of hd1⟩, fun z hz => ?_⟩⟩
    refine comp_data (K := K) (a := d) (xs := ws) (fun a => a ≠ z) ((aroundC rs c).map fun x => if decide (Cells.sgn (codes rs) x = 63) = true then some (cData x) else none) (fun σ => ∃ u0, σ = [u0, some (.ref p)]) hz (fun _ h => h) ⟨_, rfl⟩ (by rw [List.length_map]; exact hc1.length.symm) (by rw [hc1.length]; exact Nat.le_trans (aroundC_short R c) (by decide)) (SqL.of hd1) ?_ ?_
    · rintro k x o σ H2 hx ho s2 _ ⟨u0, rfl⟩ Y Z yes no
      obtain ⟨y, hy, r1⟩ := Cel.get hc1 hx
      have eo := map_at hy ho
      obtain ⟨t, sg, ht, hj, _, es⟩ := cell_at_board (List.mem_filter.mp (List.mem_of_getElem? hy)).1
      obtain ⟨ya, rfl, hya⟩ := r1
      refine ⟨_, rfl, _, rfl, p, l, ya, rs, n, y.1, y.2, t, sg, rfl, (b.mono s1).mono s2, s2 _ _ hya, ht, hj, R.tlen ht, rfl, _, rfl, ?_⟩
      have ed : decide (V.str ⟨#[sg]⟩ = V.str "?") = decide (sg = 63) := by
        rw [ask_is]
        simp only [one_eq]
      rw [ed]
      rw [es] at eo
      by_cases hp : sg = 63
      · rw [decide_eq_true hp]
        rw [if_pos (decide_eq_true hp)] at eo
        exact iteT ⟨_, rfl, yes _ _ _ _ eo ⟨_, rfl⟩ (Same.refl _) (CelR.rdn ⟨ya, rfl, s2 _ _ hya⟩)⟩
      · rw [decide_eq_false hp]
        rw [if_neg (by rw [decide_eq_false hp]; exact Bool.false_ne_true)] at eo
        exact iteF (no _ _ eo ⟨_, rfl⟩ (Same.refl _))
    · rintro ys H2 s2 hz2 hr2
      rw [outs_filter] at hr2
      exact q z ys H2 (s1.free hz) hz2 (RdnAll.cel hr2) (s1.trans s2)
theorem lays (cs : List (Nat × Nat)) : PyData.canLayAll0 (cs.map cData) = true := by
  induction cs with
  | nil => rfl
  | cons c r ih =>
    show (PyData.canLay0 (cData c) && PyData.canLayAll0 (r.map cData)) = true
    rw [ih]
    rfl
theorem depths (cs : List (Nat × Nat)) : PyData.depthAll (cs.map cData) ≤ 1 := by
  induction cs with
  | nil => exact Nat.zero_le _
  | cons c r ih =>
    show max (PyData.depth (cData c)) (PyData.depthAll (r.map cData)) ≤ 1
    have : PyData.depth (cData c) = 1 := rfl
    omega
theorem cs_cmp (cs ds : List (Nat × Nat)) : CmpD (.list (cs.map cData)) (.list (ds.map cData)) := ⟨lays cs, lays ds, by
  show PyData.depthAll (cs.map cData) + 1 ≤ 64
  have := depths cs
  omega⟩
theorem in_cells (cs : List (Nat × Nat)) (c : Nat × Nat) : (cs.map cData).any (fun z => PyData.eqv z (cData c)) = cs.any fun z => decide (z = c) := by
  rw [List.any_map]
  congr 1
  funext z
  exact cData_eqv z c
end

/-! Dicts whose keys are cells. -/
abbrev KV1 := List (List Key × V)
def keyC (c : Nat × Nat) : List Key := [.inl ((c.1 : Nat) : Int), .inl ((c.2 : Nat) : Int)]
theorem keyC_inj {c d : Nat × Nat} (h : keyC c = keyC d) : c = d := by
  unfold keyC at h
  obtain ⟨a, b⟩ := c
  obtain ⟨x, y⟩ := d
  simp only [List.cons.injEq, Sum.inl.injEq, and_true] at h
  obtain ⟨h1, h2⟩ := h
  have e1 : a = x := by omega
  have e2 : b = y := by omega
  rw [e1, e2]
theorem valV_mem {kvs : KV1} {k : List Key} {v : V} (h : valV kvs k = some v) : (k, v) ∈ kvs := by
  unfold valV at h
  cases e : kvs.find? (fun kv => decide (kv.1 = k)) with
  | none =>
    rw [e] at h
    cases h
  | some kv =>
    rw [e] at h
    have h1 : kv.2 = v := by simpa using h
    have h2 : kv.1 = k := of_decide_eq_true (show decide (kv.1 = k) = true from List.find?_some (p := fun (kv : List Key × V) => decide (kv.1 = k)) e)
    have h3 := List.mem_of_find?_eq_some e
    rw [← h1, ← h2]
    exact h3
theorem put_keys (kvs : KV1) (k : List Key) (v : V) : (k ∈ kvs.map (·.1) ∧ (putK kvs k v).map (·.1) = kvs.map (·.1)) ∨ (¬ k ∈ kvs.map (·.1) ∧ (putK kvs k v).map (·.1) = kvs.map (·.1) ++ [k]) := by
  unfold putK
  by_cases h : (kvs.any fun kv => decide (kv.1 = k)) = true
  · refine .inl ⟨?_, ?_⟩
    · obtain ⟨kv, h1, h2⟩ := List.any_eq_true.mp h
      exact List.mem_map.mpr ⟨kv, h1, of_decide_eq_true h2⟩
    · rw [if_pos h, List.map_map]
      refine List.map_congr_left fun kv _ => ?_
      show (if kv.1 = k then (kv.1, v) else kv).1 = kv.1
      split <;> rfl
  · refine .inr ⟨fun hm => ?_, ?_⟩
    · obtain ⟨kv, h1, h2⟩ := List.mem_map.mp hm
      exact h (List.any_eq_true.mpr ⟨kv, h1, decide_eq_true h2⟩)
    · rw [if_neg h, List.map_append]
      rfl
theorem put_nd {kvs : KV1} (k : List Key) (v : V) (h : (kvs.map (·.1)).Nodup) : ((putK kvs k v).map (·.1)).Nodup := by
  rcases put_keys kvs k v with ⟨_, e⟩ | ⟨hn, e⟩
  · rw [e]
    exact h
  · rw [e, List.nodup_append]
    refine ⟨h, by simp, fun a ha b hb z => hn ?_⟩
    have eb : b = k := by simpa using hb
    rw [← eb, ← z]
    exact ha
theorem fold_nd : ∀ (ps acc : KV1), (acc.map (·.1)).Nodup → ((ps.foldl (fun acc kv => putK acc kv.1 kv.2) acc).map (·.1)).Nodup
  | [], _, h => h
  | p :: r, acc, h => fold_nd r _ (put_nd p.1 p.2 h)
theorem fold_keys : ∀ (ps acc : KV1) (k : List Key), k ∈ (ps.foldl (fun acc kv => putK acc kv.1 kv.2) acc).map (·.1) → k ∈ acc.map (·.1) ∨ k ∈ ps.map (·.1)
  | [], _, _, h => .inl h
  | p :: r, acc, k, h => by
    rcases fold_keys r _ k h with h | h
    · rcases put_keys acc p.1 p.2 with ⟨_, e⟩ | ⟨_, e⟩
      · rw [e] at h
        exact .inl h
      · rw [e] at h
        rcases List.mem_append.mp h with h | h
        · exact .inl h
        · exact .inr (by
            have : k = p.1 := by simpa using h
            rw [this]
            exact List.mem_cons_self)
    · exact .inr (List.mem_cons_of_mem _ h)
theorem fold_len : ∀ (ps acc : KV1), (ps.foldl (fun acc kv => putK acc kv.1 kv.2) acc).length ≤ acc.length + ps.length
  | [], _ => Nat.le_refl _
  | p :: r, acc => by
    have h1 := fold_len r (putK acc p.1 p.2)
    have h2 := length_putK acc p.1 p.2
    rw [List.foldl_cons, List.length_cons]
    omega
theorem val_merge : ∀ (b a : KV1) (k : List Key), (b.map (·.1)).Nodup → valV (mergeT a b) k = (valV b k).or (valV a k)
  | [], a, k, _ => rfl
  | kv :: r, a, k, hn => by
    rw [List.map_cons, List.nodup_cons] at hn
    show valV (mergeT (putK a kv.1 kv.2) r) k = _
    rw [val_merge r _ k hn.2, valV_put]
    by_cases e : kv.1 = k
    · rw [valV_pos e, if_pos e.symm]
      have : valV r k = none := by
        cases hr : valV r k with
        | none => rfl
        | some v => exact absurd (List.mem_map.mpr ⟨(k, v), valV_mem hr, by rw [e]⟩) hn.1
      rw [this]
      rfl
    · rw [valV_neg e, if_neg (fun z => e z.symm)]
/-- a dict that gives all these cells the same -/
def sameD (cs : List (Nat × Nat)) (v : V) : KV1 := putsT (cs.map fun c => (keyC c, v))
theorem same_val (v : V) (x : Nat × Nat) : ∀ (cs : List (Nat × Nat)) (acc : KV1), valV ((cs.map fun c => (keyC c, v)).foldl (fun acc kv => putK acc kv.1 kv.2) acc) (keyC x) = if x ∈ cs then some v else valV acc (keyC x)
  | [], acc => by simp
  | c :: r, acc => by
    rw [List.map_cons, List.foldl_cons, same_val v x r, valV_put]
    by_cases h : x ∈ r
    · rw [if_pos h, if_pos (List.mem_cons_of_mem _ h)]
    · rw [if_neg h]
      by_cases e : x = c
      · subst e
        rw [if_pos rfl, if_pos List.mem_cons_self]
      · rw [if_neg (fun z => e (keyC_inj z)), if_neg (fun z => by rcases List.mem_cons.mp z with z | z; exact e z; exact h z)]
theorem sameD_small {cs : List (Nat × Nat)} {v : V} (h : ∀ c ∈ cs, c.1 < 8 ∧ c.2 < 8) : Small ((sameD cs v).map (·.1)) := fun k hk => by
  rcases fold_keys _ [] k hk with h1 | h1
  · exact nomatch h1
  · rw [List.map_map] at h1
    obtain ⟨c, hc, rfl⟩ := List.mem_map.mp h1
    exact ⟨c.1, c.2, (h c hc).1, (h c hc).2, rfl⟩
theorem sameD_len (cs : List (Nat × Nat)) (v : V) : (sameD cs v).length ≤ cs.length := by
  have := fold_len (cs.map fun c => (keyC c, v)) []
  rw [List.length_map] at this
  unfold sameD putsT
  simpa using this

/-! What is known of cells, what is still asked. -/
structure FindAt (H : Hp) (fa fc fs : Addr) (us ws : List V) (cl st : List (Nat × Nat)) : Prop where
  tp : H fa = some (.tup [.ref fc, .ref fs])
  h1 : H fc = some (.lst us)
  h2 : H fs = some (.lst ws)
  c1 : Cel H us cl
  c2 : Cel H ws st
theorem FindAt.mono {H H' : Hp} {fa fc fs : Addr} {us ws : List V} {cl st : List (Nat × Nat)} (x : FindAt H fa fc fs us ws cl st) (s : Same H H') : FindAt H' fa fc fs us ws cl st := ⟨s _ _ x.tp, s _ _ x.h1, s _ _ x.h2, x.c1.mono s, x.c2.mono s⟩
structure Fine (cl st : List (Nat × Nat)) : Prop where
  b1 : ∀ c ∈ cl, c.1 < 8 ∧ c.2 < 8
  b2 : ∀ c ∈ st, c.1 < 8 ∧ c.2 < 8
  l1 : cl.length ≤ 64
  l2 : st.length ≤ 64
def KnownIs (kvs : KV1) (cl st : List (Nat × Nat)) : Prop := ∀ c, valV kvs (keyC c) = if c ∈ st then some (V.int 1) else if c ∈ cl then some (V.int 0) else none
def spKnown : Sp := fun vs H Q _ => ∃ (fa fc fs : Addr) (us ws : List V) (cl st : List (Nat × Nat)), vs = [.ref fa] ∧ FindAt H fa fc fs us ws cl st ∧ Fine cl st ∧
  ∀ (d : Addr) (kvs : KV1) (H' : Hp), H d = none → H' d = some (.dT kvs) → KnownIs kvs cl st → Same H H' → Q (.ref d) H'
def lieC (st cs : List (Nat × Nat)) : List Int := cs.map fun c => if c ∈ st then 1 else 0
def freeC (cl st cs : List (Nat × Nat)) : List (Nat × Nat) := cs.filter fun c => !(decide (c ∈ st) || decide (c ∈ cl))
def spStill : Sp := fun vs H Q _ => ∃ (t la kd : Addr) (a0 : Int) (us : List V) (cs cl st : List (Nat × Nat)) (kvs : KV1), vs = [.ref t, .ref kd] ∧ H t = some (.tup [.int a0, .ref la]) ∧ H la = some (.lst us) ∧ Cel H us cs ∧ cs.length ≤ 64 ∧ H kd = some (.dT kvs) ∧ KnownIs kvs cl st ∧
  ∀ (r l2 : Addr) (ws : List V) (H' : Hp), H r = none → H l2 = none → H' r = some (.tup [.int (a0 - (lieC st cs).sum), .ref l2]) → H' l2 = some (.lst ws) → Cel H' ws (freeC cl st cs) → Same H H' → Q (.ref r) H'
section
variable {P : Program} {w : World} {K : PySem.W.Frag} {mg : Str → Option Value} {base : Heap} {f : Addr} {fd : FuncData}
theorem sc_known_of : FnScope ["finding", "known"] ["finding"] (defScope s_known_of) := ⟨rfl, rfl, rfl, by decide +kernel, rfl, by decide +kernel, by decide +kernel⟩
theorem ok_known_of (T : Txt mg) (D : DefAt K mg "known_of" s_known_of ["finding"] f fd) : FnOk P w K mg base CX0 1 f fd ["finding"] spKnown := by
  refine D.F.ok sc_known_of (fun vs H Q E h => ?_) (fun cdv A outer s H vs Q E hr h => ?_)
  · obtain ⟨fa, fc, fs, us, ws, cl, st, rfl, _⟩ := h
    rfl
  · obtain ⟨fa, fc, fs, us, ws, cl, st, rfl, X, Fi, q⟩ := h
    refine ⟨_, (pss_cons (ps_set (i := 1) sc_known_of.nd rfl (Or.inl rfl) (pe_callTy (call_dict_pairs hr.units hr.hd) (by rfl) T.b_dict PyProof.Rows.boot_dict (pa_cons (pe_comp (N := ["cell"]) (src := [none]) (CompOk.plain rfl (by decide +kernel) (by decide +kernel) (by decide +kernel) rfl (by decide)) rfl (pi_list (pe_ix ix_tup (pv 0) pe_int (fun _ _ => rfl))) (fun _ _ _ _ _ => (pg_name (i := 0) (by show List.Nodup (["cell"] : List Str); decide +kernel) rfl (Or.inl rfl))) (fun _ _ _ _ _ => pifs_nil) (fun _ _ _ _ _ => (pe_tup (pa_cons (pv 0) (pa_cons pe_int pa_nil))))) pa_nil)))
      (pss_cons (ps_expr (pe_bm PySem.F.plainAttrs_dict PySem.F.slot_dict_update PySem.F.type_dict_update (mt_dupdate hr.units) (pv 1) (pa_cons (pe_callTy (call_dict_pairs hr.units hr.hd) (by rfl) T.b_dict PyProof.Rows.boot_dict (pa_cons (pe_comp (N := ["cell"]) (src := [none]) (CompOk.plain rfl (by decide +kernel) (by decide +kernel) (by decide +kernel) rfl (by decide)) rfl (pi_list (pe_ix ix_tup (pv 0) pe_int (fun _ _ => rfl))) (fun _ _ _ _ _ => (pg_name (i := 0) (by show List.Nodup (["cell"] : List Str); decide +kernel) rfl (Or.inl rfl))) (fun _ _ _ _ _ => pifs_nil) (fun _ _ _ _ _ => (pe_tup (pa_cons (pv 0) (pa_cons pe_int pa_nil))))) pa_nil)) pa_nil)))
      (pss_one (ps_ret (pv 1))))), ?_⟩
    refine ⟨_, rfl, fa, _, 0, _, rfl, rfl, SqT.of X.tp, rfl, fc, rfl, ⟨_, SqL.of X.h1⟩, fun y hy => ?_⟩
    have l1 := Fi.l1
    have l2 := Fi.l2
    refine comp_list (K := K) (a := fc) (xs := us) (fun i σ H' => (∃ u0, σ = [u0]) ∧ Same H H' ∧ ∃ ys, H' y = some (.lst ys) ∧ PrsAt H' ys ((cl.take i).map fun c => (keyC c, V.int 0))) ⟨⟨_, rfl⟩, same_new hy, [], upd_same, .nil⟩ (fun i σ H' _ ⟨_, s6, _⟩ => SqL.of (s6 _ _ X.h1)) ?_ ?_
    · rintro i x σ H6 hx ⟨⟨u0, rfl⟩, s6, ys, hy6, hp6⟩
      obtain ⟨c, hci, ca, rfl, hca⟩ := Cel.get (Cel.mono s6 X.c1) hx
      refine tYes_it ⟨_, rfl, (by show 2 ≤ sizeLine; decide), fun p hp => ?_⟩
      have s7 := same_new (o := .tup [.ref ca, .int 0]) hp
      have hlen : ys.length ≤ 64 := by
        rw [hp6.length, List.length_map, List.length_take]
        omega
      refine ⟨ys, s7 _ _ hy6, Nat.lt_of_le_of_lt hlen (by decide), ⟨_, rfl⟩, fun b' o e' => ?_, ys ++ [.ref p], upd_same, ?_⟩
      · rw [upd_ne (ne_of_none e' hy)]
        exact s7 _ _ (s6 _ _ e')
      · rw [List.take_add_one, hci, List.map_append]
        exact PrsAt.into y _ (s7 _ _ hy6) (PrsAt.snoc (hp6.mono s7) ⟨p, ca, rfl, upd_same, s7 _ _ hca⟩)
    rintro σ H1 ⟨_, s1, ys, hy1, hp1⟩
    rw [X.c1.length, List.take_length] at hp1
    refine ⟨y, ys, _, rfl, hy1, hp1, fun d hd => ?_⟩
    have z2 := same_new (o := .dT (sameD cl (.int 0))) hd
    have hd2 : upd H1 d (.dT (sameD cl (.int 0))) d = some (.dT (sameD cl (.int 0))) := upd_same
    have s2 := s1.trans z2
    have X2 := X.mono s2
    have fd0 := s1.free hd
    show _
    refine ⟨_, rfl, .inr (.inr (.inl ⟨rfl, .inr ⟨_, upd_same⟩⟩)), _, rfl, fa, _, 1, _, rfl, rfl, SqT.of X2.tp, rfl, fs, rfl, ⟨_, SqL.of X2.h2⟩, fun y2 hy2 => ?_⟩
    refine comp_list (K := K) (a := fs) (xs := ws) (fun i σ H' => (∃ u0, σ = [u0]) ∧ Same (upd H1 d (.dT (sameD cl (.int 0)))) H' ∧ ∃ ys, H' y2 = some (.lst ys) ∧ PrsAt H' ys ((st.take i).map fun c => (keyC c, V.int 1))) ⟨⟨_, rfl⟩, same_new hy2, [], upd_same, .nil⟩ (fun i σ H' _ ⟨_, s6, _⟩ => SqL.of (s6 _ _ X2.h2)) ?_ ?_
    · rintro i x σ H6 hx ⟨⟨u0, rfl⟩, s6, ys, hy6, hp6⟩
      obtain ⟨c, hci, ca, rfl, hca⟩ := Cel.get (Cel.mono s6 X2.c2) hx
      refine tYes_it ⟨_, rfl, (by show 2 ≤ sizeLine; decide), fun p hp => ?_⟩
      have s7 := same_new (o := .tup [.ref ca, .int 1]) hp
      have hlen : ys.length ≤ 64 := by
        rw [hp6.length, List.length_map, List.length_take]
        omega
      refine ⟨ys, s7 _ _ hy6, Nat.lt_of_le_of_lt hlen (by decide), ⟨_, rfl⟩, fun b' o e' => ?_, ys ++ [.ref p], upd_same, ?_⟩
      · rw [upd_ne (ne_of_none e' hy2)]
        exact s7 _ _ (s6 _ _ e')
      · rw [List.take_add_one, hci, List.map_append]
        exact PrsAt.into y2 _ (s7 _ _ hy6) (PrsAt.snoc (hp6.mono s7) ⟨p, ca, rfl, upd_same, s7 _ _ hca⟩)
    rintro σ H3 ⟨_, s3, ys2, hy3, hp3⟩
    rw [X.c2.length, List.take_length] at hp3
    refine ⟨y2, ys2, _, rfl, hy3, hp3, fun d2 hd2' => ?_⟩
    have z4 := same_new (o := .dT (sameD st (.int 1))) hd2'
    have ne : d ≠ d2 := ne_of_none (s3 _ _ hd2) hd2'
    have hd4 := z4 _ _ (s3 _ _ hd2)
    refine ⟨d, d2, sameD cl (.int 0), sameD st (.int 1), rfl, rfl, ne, hd4, upd_same, sameD_small Fi.b2, ?_, _, rfl, ?_⟩
    · have a1 := sameD_len cl (.int 0)
      have a2 := sameD_len st (.int 1)
      exact Nat.le_trans (show _ ≤ 128 by omega) (by decide)
    · refine q d _ _ fd0 upd_same (fun c => ?_) fun b o e => ?_
      · rw [val_merge (sameD st (.int 1)) (sameD cl (.int 0)) (keyC c) (fold_nd _ [] List.nodup_nil)]
        have e1 : valV (sameD st (.int 1)) (keyC c) = if c ∈ st then some (V.int 1) else none := same_val _ c st []
        have e2 : valV (sameD cl (.int 0)) (keyC c) = if c ∈ cl then some (V.int 0) else none := same_val _ c cl []
        rw [e1, e2]
        by_cases h1 : c ∈ st
        · rw [if_pos h1, if_pos h1]
          rfl
        · rw [if_neg h1, if_neg h1]
          rfl
      · rw [upd_ne (ne_of_none e fd0)]
        exact z4 _ _ (s3 _ _ (s2 _ _ e))
theorem sc_still_asked : FnScope ["asked", "known", "lying"] ["asked", "known"] (defScope s_still_asked) := ⟨rfl, rfl, rfl, by decide +kernel, rfl, by decide +kernel, by decide +kernel⟩
theorem ok_still_asked (T : Txt mg) (D : DefAt K mg "still_asked" s_still_asked ["asked", "known"] f fd) : FnOk P w K mg base CX0 1 f fd ["asked", "known"] spStill := by
  refine D.F.ok sc_still_asked (fun vs H Q E h => ?_) (fun cdv A outer s H vs Q E hr h => ?_)
  · obtain ⟨t, la, kd, a0, us, cs, cl, st, kvs, rfl, _⟩ := h
    rfl
  · obtain ⟨t, la, kd, a0, us, cs, cl, st, kvs, rfl, ht, hla, hcs, c64, hkd, hK, q⟩ := h
    refine ⟨_, (pss_cons (ps_set (i := 2) sc_still_asked.nd rfl (Or.inl rfl) (pe_callB (call_sum rfl) (by rfl) T.b_sum PyProof.Rows.boot_sum (pa_cons (pe_comp (N := ["cell", "known"]) (src := [none, some 1]) (CompOk.free (O := (defScope s_still_asked).names) (XN := ["asked", "known", "lying"]) rfl rfl ⟨_, rfl⟩ rfl rfl (by decide +kernel) (by decide +kernel) (by decide +kernel) rfl (by decide +kernel)) rfl (pi_list (pe_ix ix_tup (pv 0) pe_int (fun _ _ => rfl))) (fun _ _ _ _ _ => (pg_name (i := 0) (by show List.Nodup (["cell", "known"] : List Str); decide +kernel) rfl (Or.inl rfl))) (fun _ _ _ _ _ => pifs_nil) (fun _ _ _ _ _ => (pe_dget2 (u1 hr.units) (pv 1) (pv 0) pe_int ⟨rfl, rfl, rfl, rfl⟩))) pa_nil)))
      (pss_one (ps_ret (pe_tup (pa_cons (pe_op op_sub (pe_ix ix_tup (pv 0) pe_int (fun _ _ => rfl)) (pv 2)) (pa_cons (pe_comp (N := ["cell", "known"]) (src := [none, some 1]) (CompOk.free (O := (defScope s_still_asked).names) (XN := ["asked", "known", "lying"]) rfl rfl ⟨_, rfl⟩ rfl rfl (by decide +kernel) (by decide +kernel) (by decide +kernel) rfl (by decide +kernel)) rfl (pi_list (pe_ix ix_tup (pv 0) pe_int (fun _ _ => rfl))) (fun _ _ _ _ _ => (pg_name (i := 0) (by show List.Nodup (["cell", "known"] : List Str); decide +kernel) rfl (Or.inl rfl))) (fun _ _ _ _ _ => (pifs_one (pt_cmp (pc_dnotin (u1 hr.units) (pv 0) (pv 1))))) (fun _ _ _ _ _ => (pv 0))) pa_nil)))))), ?_⟩
    refine ⟨_, rfl, t, _, 1, _, rfl, rfl, SqT.of ht, rfl, la, rfl, ⟨_, SqL.of hla⟩, fun y hy => ?_⟩
    refine comp_list (K := K) (a := la) (xs := us) (fun i σ H' => (∃ u0, σ = [u0, some (.ref kd)]) ∧ Same H H' ∧ H' y = some (.lst ((lieC st (cs.take i)).map V.int))) ⟨⟨_, rfl⟩, same_new hy, upd_same⟩ (fun i σ H' _ ⟨_, s6, _⟩ => SqL.of (s6 _ _ hla)) ?_ ?_
    · rintro i x σ H6 hx ⟨⟨u0, rfl⟩, s6, hy6⟩
      obtain ⟨c, hci, ca, rfl, hca⟩ := Cel.get (Cel.mono s6 hcs) hx
      refine tYes_it ⟨_, rfl, kd, rfl, .inr ⟨kvs, .inl (s6 _ _ hkd)⟩, _, rfl, valV kvs (keyC c), DGet.t (k := keyC c) (s6 _ _ hkd) hca, ?_⟩
      have eg : (valV kvs (keyC c)).getD (V.int 0) = V.int (if c ∈ st then 1 else 0) := by
        rw [hK c]
        by_cases h1 : c ∈ st
        · rw [if_pos h1, if_pos h1]
          rfl
        · rw [if_neg h1, if_neg h1]
          by_cases h2 : c ∈ cl
          · rw [if_pos h2]
            rfl
          · rw [if_neg h2]
            rfl
      rw [eg]
      refine ⟨_, hy6, ?_, ⟨_, rfl⟩, fun b' o e' => ?_, ?_⟩
      · unfold lieC
        rw [List.length_map, List.length_map, List.length_take]
        exact Nat.lt_of_le_of_lt (show _ ≤ 64 by omega) (by decide)
      · rw [upd_ne (ne_of_none e' hy)]
        exact s6 _ _ e'
      · rw [upd_same, List.take_add_one, hci]
        unfold lieC
        rw [List.map_append, List.map_append]
        rfl
    rintro σ H1 ⟨_, s1, hy1⟩
    rw [hcs.length, List.take_length] at hy1
    refine ⟨y, _, rfl, SqL.of hy1, ?_⟩
    refine ⟨_, rfl, t, _, 0, _, rfl, rfl, SqT.of (s1 _ _ ht), rfl, _, rfl, _, _, rfl, rfl, _, rfl, t, _, 1, _, rfl, rfl, SqT.of (s1 _ _ ht), rfl, la, rfl, ⟨_, SqL.of (s1 _ _ hla)⟩, fun z hz => ?_⟩
    refine comp_data (K := K) (a := la) (xs := us) (fun a => a ≠ z) (cs.map fun c => if (!(decide (c ∈ st) || decide (c ∈ cl))) = true then some (cData c) else none) (fun σ => ∃ u0, σ = [u0, some (.ref kd)]) hz (fun _ h => h) ⟨_, rfl⟩ (by rw [List.length_map]; exact hcs.length.symm) (by rw [hcs.length]; exact Nat.le_trans c64 (by decide)) (SqL.of (s1 _ _ hla)) ?_ ?_
    · rintro k x o σ H2 hx ho s2 _ ⟨u0, rfl⟩ Y Z yes no
      obtain ⟨c, hc, r1⟩ := Cel.get (Cel.mono (s1.trans s2) hcs) hx
      have eo := map_at hc ho
      obtain ⟨ca, rfl, hca⟩ := r1
      refine ⟨_, rfl, _, rfl, kd, valV kvs (keyC c), rfl, DGet.t (k := keyC c) (s2 _ _ (s1 _ _ hkd)) hca, _, rfl, ?_⟩
      have ei : (!(valV kvs (keyC c)).isSome) = !(decide (c ∈ st) || decide (c ∈ cl)) := by
        rw [hK c]
        by_cases h1 : c ∈ st
        · rw [if_pos h1, decide_eq_true h1]
          rfl
        · rw [if_neg h1, decide_eq_false h1]
          by_cases h2 : c ∈ cl
          · rw [if_pos h2, decide_eq_true h2]
            rfl
          · rw [if_neg h2, decide_eq_false h2]
            rfl
      rw [ei]
      by_cases hp : (!(decide (c ∈ st) || decide (c ∈ cl))) = true
      · rw [if_pos hp] at eo
        exact iteP hp ⟨_, rfl, yes _ _ _ _ eo ⟨_, rfl⟩ (Same.refl _) (CelR.rdn ⟨ca, rfl, hca⟩)⟩
      · rw [if_neg hp] at eo
        exact iteN (Bool.eq_false_iff.mpr hp) (no _ _ eo ⟨_, rfl⟩ (Same.refl _))
    · rintro ys H2 s2 hz2 hr2
      rw [outs_filter] at hr2
      have hc2 : Cel H2 ys (freeC cl st cs) := RdnAll.cel hr2
      refine ⟨(by show 2 ≤ sizeLine; decide), fun r hr3 => ?_⟩
      have z3 := same_new (o := .tup [.int (a0 - (lieC st cs).sum), .ref z]) hr3
      exact q r z ys _ ((s1.trans s2).free hr3) (s1.free hz) upd_same (z3 _ _ hz2) (hc2.mono z3) ((s1.trans s2).trans z3)
end

/-! asked_by, settled. -/
def ThAt (H : Hp) (v : V) : Option (Nat × Nat) → Prop
  | none => v = V.str "all"
  | some c => CelR H v c
theorem ThAt.mono {H H' : Hp} {v : V} (s : Same H H') : ∀ {th : Option (Nat × Nat)}, ThAt H v th → ThAt H' v th
  | none, h => h
  | some _, ⟨a, e, h⟩ => ⟨a, e, s _ _ h⟩
def askN (rs : List Str) (n : Int) : Option (Nat × Nat) → Int
  | none => n
  | some c => ((Cells.sgn (codes rs) c : Nat) : Int) - 48
def askL (rs : List Str) : Option (Nat × Nat) → List (Nat × Nat)
  | none => shutC rs
  | some c => clA rs c
def spAsked : Sp := fun vs H Q _ => ∃ (p l : Addr) (rs : List Str) (n : Int) (v : V) (th : Option (Nat × Nat)), vs = [.ref p, v] ∧ BoardAt H p l rs n ∧ Rows bd.cps.toList rs ∧ ThAt H v th ∧ (∀ c, th = some c → c ∈ openC rs) ∧
  ∀ (t l2 : Addr) (us : List V) (H' : Hp), H t = none → H' t = some (.tup [.int (askN rs n th), .ref l2]) → H' l2 = some (.lst us) → Cel H' us (askL rs th) → Same H H' → Q (.ref t) H'
/-- regions: cells, the least and the most of stones in them -/
abbrev Rg := List (Nat × Nat) × Int × Int
def RgR (H : Hp) (v : V) (g : Rg) : Prop := ∃ t l us, v = V.ref t ∧ H t = some (.tup [.ref l, .int g.2.1, .int g.2.2]) ∧ H l = some (.lst us) ∧ Cel H us g.1
def RgsAt (H : Hp) : List V → List Rg → Prop := Paired (RgR H)
theorem RgsAt.get {H : Hp} : ∀ {vs : List V} {gs : List Rg} {i : Nat} {v : V}, RgsAt H vs gs → vs[i]? = some v → ∃ g, gs[i]? = some g ∧ RgR H v g
  | _, _, _, _, .nil, e => by simp at e
  | _, _, 0, _, .cons r _, e => by
    simp at e
    subst e
    exact ⟨_, rfl, r⟩
  | _, _, i + 1, v, .cons _ t, e => by
    obtain ⟨c, h1, h2⟩ := RgsAt.get (i := i) (v := v) t (by simpa using e)
    exact ⟨c, by simpa using h1, h2⟩
def clearsOf (gs : List Rg) : List (Nat × Nat) := gs.flatMap fun g => if g.2.2 = 0 then g.1 else []
def stonesOf (gs : List Rg) : List (Nat × Nat) := gs.flatMap fun g => if g.2.1 = ((g.1.length : Nat) : Int) then g.1 else []
theorem flat_sub (p : Rg → Bool) : ∀ gs : List Rg, (gs.flatMap fun g => if p g = true then g.1 else []).Sublist (gs.flatMap fun g => g.1)
  | [] => List.Sublist.refl _
  | g :: r => by
    rw [List.flatMap_cons, List.flatMap_cons]
    refine List.Sublist.append ?_ (flat_sub p r)
    split
    · exact List.Sublist.refl _
    · exact List.nil_sublist _
theorem clears_sub (gs : List Rg) : (clearsOf gs).Sublist (gs.flatMap fun g => g.1) := by
  have := flat_sub (fun g => decide (g.2.2 = 0)) gs
  simpa [clearsOf] using this
theorem stones_sub (gs : List Rg) : (stonesOf gs).Sublist (gs.flatMap fun g => g.1) := by
  have := flat_sub (fun g => decide (g.2.1 = ((g.1.length : Nat) : Int))) gs
  simpa [stonesOf] using this
theorem flat_snoc {α : Type} (f : Rg → List α) {gs : List Rg} {i : Nat} {g : Rg} (h : gs[i]? = some g) : (gs.take (i + 1)).flatMap f = (gs.take i).flatMap f ++ f g := by
  rw [List.take_add_one, h, List.flatMap_append]
  simp
def spSettled : Sp := fun vs H Q _ => ∃ (r : Addr) (us : List V) (gs : List Rg), vs = [.ref r] ∧ H r = some (.lst us) ∧ RgsAt H us gs ∧ (gs.flatMap fun g => g.1).Nodup ∧ (gs.flatMap fun g => g.1).length < 64 ∧
  ∀ (t d1 d2 : Addr) (w1 w2 : List V) (c1 c2 : List (Nat × Nat)) (H' : Hp), H t = none → H d1 = none → H d2 = none → d1 ≠ d2 → H' t = some (.tup [.ref d1, .ref d2]) → H' d1 = some (.lst w1) → H' d2 = some (.lst w2) → Cel H' w1 c1 → Cel H' w2 c2 →
    c1.Perm (clearsOf gs) → c2.Perm (stonesOf gs) → c1.Pairwise Cells.lex → c2.Pairwise Cells.lex → Same H H' → Q (.ref t) H'
/-! Cells as pairs of numbers, for sorting. -/
def toI (c : Nat × Nat) : Int × Int := (((c.1 : Nat) : Int), ((c.2 : Nat) : Int))
def ofI (p : Int × Int) : Nat × Nat := (p.1.toNat, p.2.toNat)
theorem of_to (c : Nat × Nat) : ofI (toI c) = c := rfl
theorem toI_inj {c d : Nat × Nat} (h : toI c = toI d) : c = d := by rw [← of_to c, h, of_to]
theorem lt2_lex {c d : Nat × Nat} : lt2 (toI c) (toI d) = true ↔ Cells.lex c d := by
  obtain ⟨a, b⟩ := c
  obtain ⟨x, y⟩ := d
  unfold lt2 Cells.lex
  show (if ((a : Nat) : Int) = ((x : Nat) : Int) then decide (((b : Nat) : Int) < ((y : Nat) : Int)) else decide (((a : Nat) : Int) < ((x : Nat) : Int))) = true ↔ a < x ∨ (a = x ∧ b < y)
  by_cases e : a = x
  · rw [if_pos (by omega), decide_eq_true_eq]
    omega
  · rw [if_neg (by omega), decide_eq_true_eq]
    omega
theorem Cel.tup2 {H : Hp} : ∀ {vs : List V} {cs : List (Nat × Nat)}, Cel H vs cs → Tup2 H vs (cs.map toI)
  | _, _, .nil => .nil
  | _, _, .cons ⟨a, e, h⟩ t => .cons ⟨a, e, h⟩ (Cel.tup2 t)
theorem cel_of_tup2 {H : Hp} : ∀ {cs : List (Nat × Nat)} {vs : List V}, Tup2 H vs (cs.map toI) → Cel H vs cs
  | [], _, .nil => .nil
  | _ :: _, _, .cons ⟨a, e, h⟩ t => .cons ⟨a, e, h⟩ (cel_of_tup2 t)
theorem perm_to {ps : List (Int × Int)} {cs : List (Nat × Nat)} (h : ps.Perm (cs.map toI)) : ∃ ds : List (Nat × Nat), ps = ds.map toI ∧ ds.Perm cs := by
  refine ⟨ps.map ofI, ?_, ?_⟩
  · rw [List.map_map]
    refine (List.map_id ps).symm.trans (List.map_congr_left fun p hp => ?_)
    obtain ⟨c, _, rfl⟩ := List.mem_map.mp (h.mem_iff.mp hp)
    rfl
  · have := h.map ofI
    rw [List.map_map] at this
    have e : cs.map (ofI ∘ toI) = cs := (List.map_congr_left fun c _ => of_to c).trans (List.map_id cs)
    rwa [e] at this
theorem up_lex {cs : List (Nat × Nat)} (h : Up2 (cs.map toI)) : cs.Pairwise Cells.lex := by
  unfold Up2 at h
  rw [List.pairwise_map] at h
  exact h.imp fun z => lt2_lex.mp z
theorem lex_nodup {cs : List (Nat × Nat)} (h : cs.Pairwise Cells.lex) : cs.Nodup := h.imp fun {a b} z e => by
  subst e
  unfold Cells.lex at z
  omega
theorem nodup_to {cs : List (Nat × Nat)} (h : cs.Nodup) : (cs.map toI).Nodup := by
  unfold List.Nodup at h ⊢
  rw [List.pairwise_map]
  exact h.imp fun z e => z (toI_inj e)

section
variable {P : Program} {w : World} {K : PySem.W.Frag} {mg : Str → Option Value} {base : Heap} {f : Addr} {fd : FuncData}
theorem sc_asked_by : FnScope ["board", "thing"] ["board", "thing"] (defScope s_asked_by) := ⟨rfl, rfl, rfl, by decide +kernel, rfl, by decide +kernel, by decide +kernel⟩
theorem ok_asked_by {f1 f2 f3 f4 f5 f6 : Addr} {fd1 fd2 fd3 fd4 fd5 fd6 : FuncData} (T : Txt mg) (D : DefAt K mg "asked_by" s_asked_by ["board", "thing"] f fd) (D_around : DefAt K mg "around" s_around ["board", "cell"] f1 fd1) (D_sign_at : DefAt K mg "sign_at" s_sign_at ["board", "cell"] f2 fd2) (D_cells_of : DefAt K mg "cells_of" s_cells_of ["board"] f3 fd3)
    (D_closed : DefAt K mg "closed" s_closed ["board"] f4 fd4) (D_number_at : DefAt K mg "number_at" s_number_at ["board", "cell"] f5 fd5) (D_closed_around : DefAt K mg "closed_around" s_closed_around ["board", "cell"] f6 fd6) : FnOk P w K mg base CX0 3 f fd ["board", "thing"] spAsked := by
  have G_closed : FnOk P w K mg base CX0 2 f4 fd4 ["board"] (spList pShut) := ok_closed T D_closed D_cells_of D_sign_at
  have G_number_at : FnOk P w K mg base CX0 2 f5 fd5 ["board", "cell"] spNumber := ok_number_at T D_number_at D_sign_at
  have G_closed_around : FnOk P w K mg base CX0 2 f6 fd6 ["board", "cell"] spClA := ok_closed_around T D_closed_around D_around D_sign_at
  refine D.F.ok sc_asked_by (fun vs H Q E h => ?_) (fun cdv A outer s H vs Q E hr h => ?_)
  · obtain ⟨p, l, rs, n, v, th, rfl, _⟩ := h
    rfl
  · obtain ⟨p, l, rs, n, v, th, rfl, b, R, hth, hop, q⟩ := h
    refine ⟨_, (pss_cons (ps_if (pt_cmpR (op_eq_deep hr.units) (pv 1) (pe_glob (v := .str "all") (by rfl) T.v_ALL.choose_spec (by exact ⟨_, rfl⟩)) (nomark _)) (pss_one (ps_ret (pe_tup (pa_cons (pe_ix ix_tup (pv 0) pe_int (fun _ _ => rfl)) (pa_cons (pe_call G_closed (hr.mono (by decide)) (by rfl) D_closed.g D_closed.F.kp D_closed.b .nil pass0 (pa_cons (pv 0) pa_nil)) pa_nil))))) pss_nil)
      (pss_one (ps_ret (pe_tup (pa_cons (pe_call G_number_at (hr.mono (by decide)) (by rfl) D_number_at.g D_number_at.F.kp D_number_at.b .nil pass0 (pa_cons (pv 0) (pa_cons (pv 1) pa_nil))) (pa_cons (pe_call G_closed_around (hr.mono (by decide)) (by rfl) D_closed_around.g D_closed_around.F.kp D_closed_around.b .nil pass0 (pa_cons (pv 0) (pa_cons (pv 1) pa_nil))) pa_nil)))))), ?_⟩
    cases th with
    | none =>
      have ev : v = V.str "all" := hth
      subst ev
      refine ⟨_, rfl, .str "all", .str "all", .str _, .str _, ⟨by decide +kernel, by decide +kernel, by decide +kernel⟩, _, rfl, iteP (by decide +kernel) ?_⟩
      refine ⟨_, rfl, p, _, 1, _, rfl, rfl, SqT.of b.tp, rfl, _, rfl, p, l, rs, n, rfl, b, R, fun d ws H1 hd hd1 hc1 s1 => ⟨(by show 2 ≤ sizeLine; decide), fun t ht => ?_⟩⟩
      have z2 := same_new (o := .tup [.int n, .ref d]) ht
      exact q t d ws _ (s1.free ht) upd_same (z2 _ _ hd1) (hc1.mono z2) (s1.trans z2)
    | some c =>
      obtain ⟨ca, rfl, hca⟩ := hth
      have hc := hop c rfl
      obtain ⟨t0, k, ht0, hk, hpo, hkin, tln⟩ := R.openAt hc
      obtain ⟨k1, k2⟩ := open_sign hkin hpo
      obtain ⟨s1', s2'⟩ := cell_small R ht0 hk
      have es : Cells.sgn (codes rs) c = k := Cells.sgn_at (codes_get ht0) hk
      refine ⟨_, rfl, cData c, .str "all", CelR.rdv ⟨ca, rfl, hca⟩, .str _, ⟨rfl, by decide +kernel, by show max 0 (max 0 0) + 1 ≤ 64; decide⟩, _, rfl, iteN rfl ?_⟩
      refine ⟨_, rfl, _, rfl, p, l, ca, rs, n, c.1, c.2, t0, k, rfl, b, hca, ht0, hk, tln, k1, k2, _, rfl, _, rfl, p, l, ca, rs, n, c, rfl, b, R, hca, s1', s2', fun d ws H1 hd hd1 hc1 s1 => ⟨(by show 2 ≤ sizeLine; decide), fun t ht => ?_⟩⟩
      have z2 := same_new (o := .tup [.int ((k : Int) - 48), .ref d]) ht
      refine q t d ws _ (s1.free ht) ?_ (z2 _ _ hd1) (hc1.mono z2) (s1.trans z2)
      rw [upd_same]
      show some (HO.tup [.int ((k : Int) - 48), .ref d]) = some (.tup [.int (((Cells.sgn (codes rs) c : Nat) : Int) - 48), .ref d])
      rw [es]
theorem sc_settled : FnScope ["regions", "clears", "stones", "cells", "least", "most"] ["regions"] (defScope s_settled) := ⟨rfl, rfl, rfl, by decide +kernel, rfl, by decide +kernel, by decide +kernel⟩
theorem ok_settled (T : Txt mg) (D : DefAt K mg "settled" s_settled ["regions"] f fd) : FnOk P w K mg base CX0 1 f fd ["regions"] spSettled := by
  refine D.F.ok sc_settled (fun vs H Q E h => ?_) (fun cdv A outer s H vs Q E hr h => ?_)
  · obtain ⟨r, us, gs, rfl, _⟩ := h
    rfl
  · obtain ⟨r, us, gs, rfl, hr0, hgs, hnd, h64, q⟩ := h
    have lc : ∀ i, (clearsOf (gs.take i)).length < 64 := fun i => Nat.lt_of_le_of_lt (Nat.le_trans (clears_sub (gs.take i)).length_le (by
      have : gs = gs.take i ++ gs.drop i := (List.take_append_drop i gs).symm
      conv => rhs; rw [this, List.flatMap_append, List.length_append]
      exact Nat.le_add_right _ _)) h64
    have ls : ∀ i, (stonesOf (gs.take i)).length < 64 := fun i => Nat.lt_of_le_of_lt (Nat.le_trans (stones_sub (gs.take i)).length_le (by
      have : gs = gs.take i ++ gs.drop i := (List.take_append_drop i gs).symm
      conv => rhs; rw [this, List.flatMap_append, List.length_append]
      exact Nat.le_add_right _ _)) h64
    have lg : ∀ {g : Rg}, g ∈ gs → g.1.length < 64 := fun {g} hg => Nat.lt_of_le_of_lt (by
      obtain ⟨i, hi⟩ := List.getElem?_of_mem hg
      obtain ⟨hl, e⟩ := List.getElem?_eq_some_iff.mp hi
      have e1 : gs = gs.take i ++ g :: gs.drop (i + 1) := by
        rw [← e, List.getElem_cons_drop, List.take_append_drop]
      rw [e1, List.flatMap_append, List.flatMap_cons, List.length_append, List.length_append]
      omega) h64
    refine ⟨_, (pss_cons (ps_set (i := 1) sc_settled.nd rfl (Or.inl rfl) (pe_lst pa_nil))
      (pss_cons (ps_set (i := 2) sc_settled.nd rfl (Or.inl rfl) (pe_lst pa_nil))
      (pss_cons (ps_for PassesOwn.never rfl (pi_list (pv 0)) (pg_tup rfl (pgs_cons (pg_name (i := 3) sc_settled.nd rfl (Or.inl rfl)) (pgs_cons (pg_name (i := 4) sc_settled.nd rfl (Or.inl rfl)) (pgs_cons (pg_name (i := 5) sc_settled.nd rfl (Or.inl rfl)) pgs_nil)))) (pss_mid (ps_if (pt_cmpR op_eq (pv 5) pe_int (nomark _)) (pss_one (ps_expr (pe_bm PySem.F.plainAttrs_list PySem.F.slot_list_extend PySem.F.type_list_extend mt_extend (pv 1) (pa_cons (pv 3) pa_nil)))) pss_nil)
      (pss_one (ps_if (pt_cmpR op_eq (pv 4) (pe_callB call_len_seq (by rfl) T.b_len PySem.boot_len (pa_cons (pv 3) pa_nil)) (nomark _)) (pss_one (ps_expr (pe_bm PySem.F.plainAttrs_list PySem.F.slot_list_extend PySem.F.type_list_extend mt_extend (pv 2) (pa_cons (pv 3) pa_nil)))) pss_nil))))
      (pss_one (ps_ret (pe_tup (pa_cons (pe_callB call_sorted2 (by rfl) T.b_sorted PyProof.Rows.boot_sorted (pa_cons (pv 1) pa_nil)) (pa_cons (pe_callB call_sorted2 (by rfl) T.b_sorted PyProof.Rows.boot_sorted (pa_cons (pv 2) pa_nil)) pa_nil)))))))), ?_⟩
    refine ⟨(by show 0 ≤ sizeLine; decide), fun d1 hd1 => ⟨(by show 0 ≤ sizeLine; decide), fun d2 hd2 => ?_⟩⟩
    have z1 := same_new (o := .lst []) hd1
    have z2 := same_new (o := .lst []) hd2
    have n12 : d1 ≠ d2 := ne_of_none (show upd H d1 (.lst []) d1 = some (.lst []) from upd_same) hd2
    have f2 := z1.free hd2
    have s0 := z1.trans z2
    refine ⟨_, rfl, r, rfl, ⟨_, SqL.of (s0 _ _ hr0)⟩, ?_⟩
    refine for_list (K := K) (a := r) (xs := us) (fun i σ H' => ∃ (v3 v4 v5 : Option V) (w1 w2 : List V), σ = [some (.ref r), some (.ref d1), some (.ref d2), v3, v4, v5] ∧ Same H H' ∧ H' d1 = some (.lst w1) ∧ H' d2 = some (.lst w2) ∧ Cel H' w1 (clearsOf (gs.take i)) ∧ Cel H' w2 (stonesOf (gs.take i)))
      ⟨_, _, _, [], [], rfl, s0, z2 _ _ upd_same, upd_same, .nil, .nil⟩ (fun i σ H' _ ⟨_, _, _, _, _, _, s', _⟩ => SqL.of (s' _ _ hr0)) ?_ ?_
    · rintro i x σ H1 hx ⟨v3, v4, v5, w1, w2, rfl, s1, h1, h2, hc1, hc2⟩
      obtain ⟨g, hg, t, l, ws, rfl, ht0, hl0, hcl0⟩ := RgsAt.get hgs hx
      have ht := s1 _ _ ht0
      have hl := s1 _ _ hl0
      have hcl := hcl0.mono s1
      have nl1 : l ≠ d1 := ne_of_none hl0 hd1
      have nl2 : l ≠ d2 := ne_of_none hl0 f2
      have gm := List.mem_of_getElem? hg
      have g64 := lg gm
      have e1 : clearsOf (gs.take (i + 1)) = clearsOf (gs.take i) ++ (if g.2.2 = 0 then g.1 else []) := flat_snoc _ hg
      have e2 : stonesOf (gs.take (i + 1)) = stonesOf (gs.take i) ++ (if g.2.1 = ((g.1.length : Nat) : Int) then g.1 else []) := flat_snoc _ hg
      have c1l := lc i
      have c2l := ls i
      refine ⟨t, _, rfl, SqT.of ht, rfl, _, _, rfl, _, _, rfl, _, _, rfl, rfl, ?_⟩
      refine ⟨fun σ' H' => ∃ (w1' : List V), σ' = [some (.ref r), some (.ref d1), some (.ref d2), some (.ref l), some (.int g.2.1), some (.int g.2.2)] ∧ Same H H' ∧ H' d1 = some (.lst w1') ∧ H' d2 = some (.lst w2) ∧ Cel H' w1' (clearsOf (gs.take (i + 1))) ∧ Cel H' w2 (stonesOf (gs.take i)) ∧ H' l = some (.lst ws) ∧ Cel H' ws g.1, ?_, ?_⟩
      · refine ⟨_, rfl, rfl, _, rfl, ite2 (fun hp => ?_) (fun hp => ?_)⟩
        · have hp' : g.2.2 = 0 := V.int.inj (of_decide_eq_true hp)
          rw [if_pos hp'] at e1
          refine ⟨_, rfl, .inl ⟨rfl, _, SqL.of h1⟩, _, rfl, d1, l, w1, ws, rfl, rfl, h1, hl, ?_, w1 ++ ws, rfl, fun b o e => ?_, upd_same, ?_, ?_, Cel.into d1 _ h1 hc2, ?_, Cel.into d1 _ h1 hcl⟩
          · rw [hc1.length, hcl.length]
            exact Nat.le_trans (show _ ≤ 200 by omega) (by decide)
          · rw [upd_ne (ne_of_none e hd1)]
            exact s1 _ _ e
          · rw [upd_ne (Ne.symm n12)]
            exact h2
          · rw [e1]
            exact Cel.into d1 _ h1 (Cel.append hc1 hcl)
          · rw [upd_ne nl1]
            exact hl
        · have hp' : ¬ g.2.2 = 0 := fun z => hp (decide_eq_true (by rw [z]))
          rw [if_neg hp', List.append_nil] at e1
          exact ⟨w1, rfl, s1, h1, h2, by rw [e1]; exact hc1, hc2, hl, hcl⟩
      · rintro σ' H2 ⟨w1', rfl, s2, h1', h2', hc1', hc2', hl', hcl'⟩
        refine ⟨_, rfl, _, rfl, l, _, rfl, .inl (SqL.of hl'), rfl, _, rfl, ite2 (fun hp => ?_) (fun hp => ?_)⟩
        · have hp' : g.2.1 = ((g.1.length : Nat) : Int) := by
            have := V.int.inj (of_decide_eq_true hp)
            rw [hcl'.length] at this
            exact this
          rw [if_pos hp'] at e2
          refine ⟨_, rfl, .inl ⟨rfl, _, SqL.of h2'⟩, _, rfl, d2, l, w2, ws, rfl, rfl, h2', hl', ?_, _, _, _, w1', w2 ++ ws, rfl, fun b o e => ?_, ?_, upd_same, Cel.into d2 _ h2' hc1', ?_⟩
          · rw [hc2'.length, hcl'.length]
            exact Nat.le_trans (show _ ≤ 200 by omega) (by decide)
          · rw [upd_ne (ne_of_none e f2)]
            exact s2 _ _ e
          · rw [upd_ne n12]
            exact h1'
          · rw [e2]
            exact Cel.into d2 _ h2' (Cel.append hc2' hcl')
        · have hp' : ¬ g.2.1 = ((g.1.length : Nat) : Int) := fun z => hp (decide_eq_true (by rw [z, hcl'.length]))
          rw [if_neg hp', List.append_nil] at e2
          exact ⟨_, _, _, w1', w2, rfl, s2, h1', h2', hc1', by rw [e2]; exact hc2'⟩
    · rintro σ H1 ⟨v3, v4, v5, w1, w2, rfl, s1, h1, h2, hc1, hc2⟩
      have gl : us.length = gs.length := Paired.length hgs
      rw [gl, List.take_length] at hc1 hc2
      have n1 : (clearsOf gs).Nodup := hnd.sublist (clears_sub gs)
      have n2 : (stonesOf gs).Nodup := hnd.sublist (stones_sub gs)
      have m1 : (clearsOf gs).length < 64 := Nat.lt_of_le_of_lt (clears_sub gs).length_le h64
      have m2 : (stonesOf gs).length < 64 := Nat.lt_of_le_of_lt (stones_sub gs).length_le h64
      refine ⟨_, rfl, d1, w1, _, rfl, SqL.of h1, Cel.tup2 hc1, nodup_to n1, (by rw [hc1.length]; exact m1), fun a1 u1 p1 ha1 ht1 hperm1 hup1 => ?_⟩
      obtain ⟨q1, rfl, hp1⟩ := perm_to hperm1
      have z3 := same_new (o := .lst u1) ha1
      refine ⟨_, rfl, d2, w2, _, rfl, SqL.of (z3 _ _ h2), Cel.tup2 (hc2.mono z3), nodup_to n2, (by rw [hc2.length]; exact m2), fun a2 u2 p2 ha2 ht2 hperm2 hup2 => ?_⟩
      obtain ⟨q2, rfl, hp2⟩ := perm_to hperm2
      have z4 := same_new (o := .lst u2) ha2
      have na : a1 ≠ a2 := ne_of_none (show upd H1 a1 (.lst u1) a1 = some (.lst u1) from upd_same) ha2
      refine ⟨(by show 2 ≤ sizeLine; decide), fun t ht => ?_⟩
      have z5 := same_new (o := .tup [.ref a1, .ref a2]) ht
      have s35 := (s1.trans z3).trans z4
      exact q t a1 a2 u1 u2 q1 q2 _ (s35.free ht) (s1.free ha1) ((s1.trans z3).free ha2) na upd_same (z5 _ _ (z4 _ _ upd_same)) (z5 _ _ upd_same) (Cel.mono ((z3.trans z4).trans z5) (cel_of_tup2 ht1)) (Cel.mono (z4.trans z5) (cel_of_tup2 ht2)) hp1 hp2 (up_lex hup1) (up_lex hup2) (s35.trans z5)
end

/-! gained (of two things). -/
def loOf (A B : List (Nat × Nat)) (a b : Int) : Int := mx3 0 (a - ((Two.alone A B).length : Nat)) (b - ((Two.alone B A).length : Nat))
def hiOf (A B : List (Nat × Nat)) (a b : Int) : Int := mn3 ((Two.both A B).length : Nat) a b
def gsOf (A B : List (Nat × Nat)) (a b : Int) : List Rg := [(Two.both A B, loOf A B a b, hiOf A B a b), (Two.alone A B, a - hiOf A B a b, a - loOf A B a b), (Two.alone B A, b - hiOf A B a b, b - loOf A B a b)]
def spGained2 (C : Addr) : Sp := fun vs H Q E => ∃ (la t1 l1 t2 l2 : Addr) (a b : Int) (us ws : List V) (A B : List (Nat × Nat)), vs = [.ref la] ∧ H la = some (.lst [.ref t1, .ref t2]) ∧ H t1 = some (.tup [.int a, .ref l1]) ∧ H l1 = some (.lst us) ∧ Cel H us A ∧ H t2 = some (.tup [.int b, .ref l2]) ∧ H l2 = some (.lst ws) ∧ Cel H ws B ∧ A.Nodup ∧ B.Nodup ∧ A.length ≤ 20 ∧ B.length ≤ 20 ∧
  (loOf A B a b ≤ hiOf A B a b → ∀ (t d1 d2 : Addr) (w1 w2 : List V) (c1 c2 : List (Nat × Nat)) (H' : Hp), H' t = some (.tup [.ref d1, .ref d2]) → H' d1 = some (.lst w1) → H' d2 = some (.lst w2) → Cel H' w1 c1 → Cel H' w2 c2 → c1.Perm (clearsOf (gsOf A B a b)) → c2.Perm (stonesOf (gsOf A B a b)) → c1.Pairwise Cells.lex → c2.Pairwise Cells.lex → Same H H' → Q (.ref t) H') ∧
  (hiOf A B a b < loOf A B a b → ∀ H', Same H H' → E (.ref C) none H')
theorem both_in (A B : List (Nat × Nat)) : (A.filter fun c => !decide (c ∈ Two.both A B)) = Two.alone A B := by
  unfold Two.alone Two.both
  refine List.filter_congr fun x hx => ?_
  congr 1
  rw [decide_eq_decide, List.mem_filter, decide_eq_true_eq]
  exact ⟨fun h => h.2, fun h => ⟨hx, h⟩⟩
theorem both_in2 (A B : List (Nat × Nat)) : (B.filter fun c => !decide (c ∈ Two.both A B)) = Two.alone B A := by
  unfold Two.alone Two.both
  refine List.filter_congr fun x hx => ?_
  congr 1
  rw [decide_eq_decide, List.mem_filter, decide_eq_true_eq]
  exact ⟨fun h => h.1, fun h => ⟨h, hx⟩⟩
theorem any_mem (cs : List (Nat × Nat)) (c : Nat × Nat) : (cs.any fun z => decide (z = c)) = decide (c ∈ cs) := by
  rw [Bool.eq_iff_iff, List.any_eq_true, decide_eq_true_eq]
  constructor
  · rintro ⟨x, h1, h2⟩
    have e : x = c := of_decide_eq_true h2
    rw [← e]
    exact h1
  · intro h
    exact ⟨c, h, decide_eq_true rfl⟩
theorem cRdv {K : PySem.W.Frag} {H : Hp} : ∀ {vs : List V} {cs : List (Nat × Nat)}, Cel H vs cs → RdvAll K H vs (cs.map cData)
  | _, _, .nil => .nil
  | _, _, .cons h t => .cons (CelR.rdv h) (cRdv t)
/-- cell in a list of cells: the test's answer -/
theorem in_is (g : List (Nat × Nat)) (c : Nat × Nat) : (if false = true then !(g.map cData).any (fun z => PyData.eqv z (cData c)) else (g.map cData).any fun z => PyData.eqv z (cData c)) = decide (c ∈ g) := (in_cells _ _).trans (any_mem _ _)
theorem notin_is (g : List (Nat × Nat)) (c : Nat × Nat) : (if true = true then !(g.map cData).any (fun z => PyData.eqv z (cData c)) else (g.map cData).any fun z => PyData.eqv z (cData c)) = !decide (c ∈ g) := congrArg (fun b => !b) ((in_cells _ _).trans (any_mem _ _))
theorem lex_same {a b : List (Nat × Nat)} (p : a.Perm b) (ha : a.Pairwise Cells.lex) (hb : b.Pairwise Cells.lex) : a = b := p.eq_of_pairwise (fun x y _ _ h1 h2 => by
  unfold Cells.lex at h1 h2
  omega) ha hb
section
variable {P : Program} {w : World} {K : PySem.W.Frag} {mg : Str → Option Value} {base : Heap} {f : Addr} {fd : FuncData} {C_NoLaying : Addr}
theorem sc_gained : FnScope ["asked", "one", "other", "both", "one_alone", "other_alone", "least", "most"] ["asked"] (defScope s_gained) := ⟨rfl, rfl, rfl, by decide +kernel, rfl, by decide +kernel, by decide +kernel⟩
theorem ok_gained {f1 : Addr} {fd1 : FuncData} (T : Txt mg) (O_NoLaying : ExCls K mg "NoLaying" C_NoLaying) (D : DefAt K mg "gained" s_gained ["asked"] f fd) (D_settled : DefAt K mg "settled" s_settled ["regions"] f1 fd1) : FnOk P w K mg base (CXE P w) 2 f fd ["asked"] (spGained2 C_NoLaying) := by
  have G_settled : FnOk P w K mg base CX0 1 f1 fd1 ["regions"] spSettled := ok_settled T D_settled
  refine D.F.okX sc_gained (fun vs H Q E h => ?_) (fun cdv A outer s H vs Q E hr h => ?_)
  · obtain ⟨la, t1, l1, t2, l2, a, b, us, ws, A, B, rfl, _⟩ := h
    rfl
  · obtain ⟨la, t1, l1, t2, l2, a, b, us, ws, A, B, rfl, hla, ht1, hl1, hA, ht2, hl2, hB, nA, nB, lA, lB, q, e⟩ := h
    refine ⟨_, (pss_cons (ps_set (i := 1) sc_gained.nd rfl (Or.inl rfl) (pe_ix ix_list (pv 0) pe_int (fun _ _ => rfl)))
      (pss_cons (ps_set (i := 2) sc_gained.nd rfl (Or.inr rfl) (pe_ifExp (pt_cmpR op_eq (pe_callB call_len_seq (by rfl) T.b_len PySem.boot_len (pa_cons (pv 0) pa_nil)) pe_int (nomark _)) (pe_ix ix_list (pv 0) pe_int (fun _ _ => rfl)) (pe_tup (pa_cons pe_int (pa_cons (pe_lst pa_nil) pa_nil)))))
      (pss_cons (ps_set (i := 3) sc_gained.nd rfl (Or.inr rfl) (pe_comp (N := ["cell", "other"]) (src := [none, some 2]) (CompOk.free (O := (defScope s_gained).names) (XN := ["asked", "one", "other", "both", "one_alone", "other_alone", "least", "most"]) rfl rfl ⟨_, rfl⟩ rfl rfl (by decide +kernel) (by decide +kernel) (by decide +kernel) rfl (by decide +kernel)) rfl (pi_list (pe_ix ix_tup (pv 1) pe_int (fun _ _ => rfl))) (fun _ _ _ _ _ => (pg_name (i := 0) (by show List.Nodup (["cell", "other"] : List Str); decide +kernel) rfl (Or.inl rfl))) (fun _ _ _ _ _ => (pifs_one (pt_cmpR (op_in_deepK (K := K) (by rfl) hr.units) (pv 0) (pe_ix (ix_tupK (K := K) (by rfl)) (pv 1) pe_int (fun _ _ => rfl)) (by rfl)))) (fun _ _ _ _ _ => (pv 0))))
      (pss_cons (ps_setC (i := 4) sc_gained.nd rfl rfl (N := ["cell", "both"]) (src := [none, some 3]) (CompOk.free (O := (defScope s_gained).names) (XN := ["asked", "one", "other", "both", "one_alone", "other_alone", "least", "most"]) rfl rfl ⟨_, rfl⟩ rfl rfl (by decide +kernel) (by decide +kernel) (by decide +kernel) rfl (by decide +kernel)) rfl (pi_list (pe_ix ix_tup (pv 1) pe_int (fun _ _ => rfl))) (fun _ _ _ _ _ => (pg_name (i := 0) (by show List.Nodup (["cell", "both"] : List Str); decide +kernel) rfl (Or.inl rfl))) (fun _ _ _ _ _ => (pifs_one (pt_cmpR (op_notIn_deepK (K := K) (by rfl) hr.units) (pv 0) (pv 1) (by rfl)))) (fun _ _ _ _ _ => (pv 0)))
      (pss_cons (ps_setC (i := 5) sc_gained.nd rfl rfl (N := ["cell", "both"]) (src := [none, some 3]) (CompOk.free (O := (defScope s_gained).names) (XN := ["asked", "one", "other", "both", "one_alone", "other_alone", "least", "most"]) rfl rfl ⟨_, rfl⟩ rfl rfl (by decide +kernel) (by decide +kernel) (by decide +kernel) rfl (by decide +kernel)) rfl (pi_list (pe_ix ix_tup (pv 2) pe_int (fun _ _ => rfl))) (fun _ _ _ _ _ => (pg_name (i := 0) (by show List.Nodup (["cell", "both"] : List Str); decide +kernel) rfl (Or.inl rfl))) (fun _ _ _ _ _ => (pifs_one (pt_cmpR (op_notIn_deepK (K := K) (by rfl) hr.units) (pv 0) (pv 1) (by rfl)))) (fun _ _ _ _ _ => (pv 0)))
      (pss_cons (ps_set (i := 6) sc_gained.nd rfl (Or.inl rfl) (pe_callB (call_max3 rfl) (by rfl) T.b_max PyProof.Rows.boot_max (pa_cons pe_int (pa_cons (pe_op op_sub (pe_ix ix_tup (pv 1) pe_int (fun _ _ => rfl)) (pe_callB call_len_seq (by rfl) T.b_len PySem.boot_len (pa_cons (pv 4) pa_nil))) (pa_cons (pe_op op_sub (pe_ix ix_tup (pv 2) pe_int (fun _ _ => rfl)) (pe_callB call_len_seq (by rfl) T.b_len PySem.boot_len (pa_cons (pv 5) pa_nil))) pa_nil)))))
      (pss_cons (ps_set (i := 7) sc_gained.nd rfl (Or.inl rfl) (pe_callB (call_min3 rfl) (by rfl) T.b_min PyProof.Rows.boot_min (pa_cons (pe_callB call_len_seq (by rfl) T.b_len PySem.boot_len (pa_cons (pv 3) pa_nil)) (pa_cons (pe_ix ix_tup (pv 1) pe_int (fun _ _ => rfl)) (pa_cons (pe_ix ix_tup (pv 2) pe_int (fun _ _ => rfl)) pa_nil)))))
      (pss_cons (ps_if (pt_cmpR op_gt (pv 6) (pv 7) (nomark _)) (pss_one (ps_raise leaves_of O_NoLaying (by rfl) rfl (pa_cons pe_str pa_nil))) pss_nil)
      (pss_one (ps_ret (pe_call G_settled (hr.mono (by decide)) (by rfl) D_settled.g D_settled.F.kp D_settled.b .nil pass0 (pa_cons (pe_lst (pa_cons (pe_tup (pa_cons (pv 3) (pa_cons (pv 6) (pa_cons (pv 7) pa_nil)))) (pa_cons (pe_tup (pa_cons (pv 4) (pa_cons (pe_op op_sub (pe_ix ix_tup (pv 1) pe_int (fun _ _ => rfl)) (pv 7)) (pa_cons (pe_op op_sub (pe_ix ix_tup (pv 1) pe_int (fun _ _ => rfl)) (pv 6)) pa_nil)))) (pa_cons (pe_tup (pa_cons (pv 5) (pa_cons (pe_op op_sub (pe_ix ix_tup (pv 2) pe_int (fun _ _ => rfl)) (pv 7)) (pa_cons (pe_op op_sub (pe_ix ix_tup (pv 2) pe_int (fun _ _ => rfl)) (pv 6)) pa_nil)))) pa_nil)))) pa_nil)))))))))))), ?_⟩
    refine ⟨_, rfl, la, _, _, .ref t1, rfl, rfl, SqL.of hla, rfl, ?_⟩
    refine ⟨_, rfl, la, _, rfl, .inl (SqL.of hla), rfl, _, rfl, iteP (by show decide (V.int ((2 : Nat) : Int) = V.int 2) = true; decide) ⟨_, rfl, la, _, _, .ref t2, rfl, rfl, SqL.of hla, rfl, ?_⟩⟩
    -- both
    refine ⟨_, rfl, t1, _, 1, _, rfl, rfl, SqT.of ht1, rfl, l1, rfl, ⟨_, SqL.of hl1⟩, fun z hz => ?_⟩
    refine comp_data (K := K) (a := l1) (xs := us) (fun a => a ≠ z) (A.map fun c => if decide (c ∈ B) = true then some (cData c) else none) (fun σ => ∃ u0, σ = [u0, some (.ref t2)]) hz (fun _ h => h) ⟨_, rfl⟩ (by rw [List.length_map]; exact hA.length.symm) (by rw [hA.length]; exact Nat.le_trans lA (by decide)) (SqL.of hl1) ?_ ?_
    · rintro k x o σ H4 hx ho s4 _ ⟨u0, rfl⟩ Y Z yes no
      obtain ⟨c, hc, rc⟩ := Cel.get (Cel.mono s4 hA) hx
      have eo := map_at hc ho
      refine ⟨_, rfl, _, rfl, t2, _, 1, _, rfl, rfl, SqT.of (s4 _ _ ht2), rfl, cData c, B.map cData, rc.rdv, .lst (SqL.of (s4 _ _ hl2)) (cRdv (hB.mono s4)), rfl, lays _, (by show 1 ≤ 60; decide), _, rfl, ?_⟩
      rw [in_is]
      by_cases hp : decide (c ∈ B) = true
      · rw [if_pos hp] at eo
        exact iteP hp ⟨_, rfl, yes _ _ _ _ eo ⟨_, rfl⟩ (Same.refl _) rc.rdn⟩
      · rw [if_neg hp] at eo
        exact iteN (Bool.eq_false_iff.mpr hp) (no _ _ eo ⟨_, rfl⟩ (Same.refl _))
    rintro yb H3 s3 hz3 hr3
    rw [outs_filter] at hr3
    have hcb : Cel H3 yb (Two.both A B) := RdnAll.cel hr3
    -- one_alone
    refine ⟨_, rfl, t1, _, 1, _, rfl, rfl, SqT.of (s3 _ _ ht1), rfl, l1, rfl, ⟨_, SqL.of (s3 _ _ hl1)⟩, fun o1 ho1 => ?_⟩
    refine comp_data (K := K) (a := l1) (xs := us) (fun a => a ≠ o1) (A.map fun c => if (!decide (c ∈ Two.both A B)) = true then some (cData c) else none) (fun σ => ∃ u0, σ = [u0, some (.ref z)]) ho1 (fun _ h => h) ⟨_, rfl⟩ (by rw [List.length_map]; exact hA.length.symm) (by rw [hA.length]; exact Nat.le_trans lA (by decide)) (SqL.of (s3 _ _ hl1)) ?_ ?_
    · rintro k x o σ H4 hx ho s4 _ ⟨u0, rfl⟩ Y Z yes no
      obtain ⟨c, hc, rc⟩ := Cel.get (Cel.mono (s3.trans s4) hA) hx
      have eo := map_at hc ho
      refine ⟨_, rfl, _, rfl, cData c, (Two.both A B).map cData, rc.rdv, .lst (SqL.of (s4 _ _ hz3)) (cRdv (hcb.mono s4)), rfl, lays _, (by show 1 ≤ 60; decide), _, rfl, ?_⟩
      rw [notin_is]
      by_cases hp : (!decide (c ∈ Two.both A B)) = true
      · rw [if_pos hp] at eo
        exact iteP hp ⟨_, rfl, yes _ _ _ _ eo ⟨_, rfl⟩ (Same.refl _) rc.rdn⟩
      · rw [if_neg hp] at eo
        exact iteN (Bool.eq_false_iff.mpr hp) (no _ _ eo ⟨_, rfl⟩ (Same.refl _))
    rintro yo H4 s4 ho4 hr4
    rw [outs_filter, both_in] at hr4
    have hco : Cel H4 yo (Two.alone A B) := RdnAll.cel hr4
    have s24 := s3.trans s4
    -- other_alone
    refine ⟨_, rfl, t2, _, 1, _, rfl, rfl, SqT.of (s24 _ _ ht2), rfl, l2, rfl, ⟨_, SqL.of (s24 _ _ hl2)⟩, fun o2 ho2 => ?_⟩
    refine comp_data (K := K) (a := l2) (xs := ws) (fun a => a ≠ o2) (B.map fun c => if (!decide (c ∈ Two.both A B)) = true then some (cData c) else none) (fun σ => ∃ u0, σ = [u0, some (.ref z)]) ho2 (fun _ h => h) ⟨_, rfl⟩ (by rw [List.length_map]; exact hB.length.symm) (by rw [hB.length]; exact Nat.le_trans lB (by decide)) (SqL.of (s24 _ _ hl2)) ?_ ?_
    · rintro k x o σ H5 hx ho s5 _ ⟨u0, rfl⟩ Y Z yes no
      obtain ⟨c, hc, rc⟩ := Cel.get (Cel.mono (s24.trans s5) hB) hx
      have eo := map_at hc ho
      refine ⟨_, rfl, _, rfl, cData c, (Two.both A B).map cData, rc.rdv, .lst (SqL.of (s5 _ _ (s4 _ _ hz3))) (cRdv (hcb.mono (s4.trans s5))), rfl, lays _, (by show 1 ≤ 60; decide), _, rfl, ?_⟩
      rw [notin_is]
      by_cases hp : (!decide (c ∈ Two.both A B)) = true
      · rw [if_pos hp] at eo
        exact iteP hp ⟨_, rfl, yes _ _ _ _ eo ⟨_, rfl⟩ (Same.refl _) rc.rdn⟩
      · rw [if_neg hp] at eo
        exact iteN (Bool.eq_false_iff.mpr hp) (no _ _ eo ⟨_, rfl⟩ (Same.refl _))
    rintro y2 H5 s5 ho5 hr5
    rw [outs_filter, both_in2] at hr5
    have hc2 : Cel H5 y2 (Two.alone B A) := RdnAll.cel hr5
    have s25 := s24.trans s5
    have ho15 := s5 _ _ ho4
    have hz5 := s5 _ _ (s4 _ _ hz3)
    have hcb5 := hcb.mono (s4.trans s5)
    have ht25 := s25 _ _ ht2
    have ht15 := s25 _ _ ht1
    have hco5 := hco.mono s5
    -- least, most
    refine ⟨_, rfl, t1, _, 0, _, rfl, rfl, SqT.of ht15, rfl, _, rfl, o1, _, rfl, .inl (SqL.of ho15), _, _, rfl, rfl, _, rfl, t2, _, 0, _, rfl, rfl, SqT.of ht25, rfl, _, rfl, o2, _, rfl, .inl (SqL.of ho5), _, _, rfl, rfl, _, _, _, rfl, ?_⟩
    refine ⟨_, rfl, z, _, rfl, .inl (SqL.of hz5), _, rfl, t1, _, 0, _, rfl, rfl, SqT.of ht15, rfl, _, rfl, t2, _, 0, _, rfl, rfl, SqT.of ht25, rfl, _, _, _, rfl, ?_⟩
    refine ⟨_, rfl, _, rfl, _, _, rfl, rfl, _, rfl, ?_⟩
    have eL : mx3 0 (a - ((yo.length : Nat) : Int)) (b - ((y2.length : Nat) : Int)) = loOf A B a b := by
      unfold loOf
      rw [hco5.length, hc2.length]
    have eM : mn3 ((yb.length : Nat) : Int) a b = hiOf A B a b := by
      unfold hiOf
      rw [hcb5.length]
    rw [eL, eM]
    by_cases hg : loOf A B a b ≤ hiOf A B a b
    · refine iteN (decide_eq_false (by omega)) ?_
      have q' := q hg
      unfold gsOf at q'
      generalize loOf A B a b = lo at *
      generalize hiOf A B a b = hi at *
      refine ⟨_, rfl, _, rfl, _, rfl, (by show 3 ≤ sizeLine; decide), fun r1 hr1 => ?_⟩
      have y1 := same_new (o := .tup [.ref z, .int lo, .int hi]) hr1
      have x1 : upd H5 r1 (.tup [.ref z, .int lo, .int hi]) r1 = some (.tup [.ref z, .int lo, .int hi]) := upd_same
      refine ⟨_, rfl, _, rfl, t1, _, 0, _, rfl, rfl, SqT.of (y1 _ _ ht15), rfl, _, rfl, _, _, rfl, rfl, _, rfl, t1, _, 0, _, rfl, rfl, SqT.of (y1 _ _ ht15), rfl, _, rfl, _, _, rfl, rfl, (by show 3 ≤ sizeLine; decide), fun r2 hr2 => ?_⟩
      have y22 := same_new (o := .tup [.ref o1, .int (a - hi), .int (a - lo)]) hr2
      have y12 := y1.trans y22
      refine ⟨_, rfl, _, rfl, t2, _, 0, _, rfl, rfl, SqT.of (y12 _ _ ht25), rfl, _, rfl, _, _, rfl, rfl, _, rfl, t2, _, 0, _, rfl, rfl, SqT.of (y12 _ _ ht25), rfl, _, rfl, _, _, rfl, rfl, (by show 3 ≤ sizeLine; decide), fun r3 hr3 => ⟨(by show 3 ≤ sizeLine; decide), fun rl hrl => ?_⟩⟩
      have y3 := same_new (o := .tup [.ref o2, .int (b - hi), .int (b - lo)]) hr3
      have y4 := same_new (o := .lst [.ref r1, .ref r2, .ref r3]) hrl
      have y34 := y3.trans y4
      have y14 := y12.trans y34
      have mB : ∀ {x : Nat × Nat}, x ∈ Two.both A B → x ∈ A ∧ x ∈ B := fun h => ⟨(List.mem_filter.mp h).1, of_decide_eq_true (List.mem_filter.mp h).2⟩
      have mA : ∀ {x : Nat × Nat} {A B : List (Nat × Nat)}, x ∈ Two.alone A B → x ∈ A ∧ x ∉ B := fun {x A B} h => ⟨(List.mem_filter.mp h).1, by
        have := (List.mem_filter.mp h).2
        simpa using this⟩
      have l1' : (Two.both A B).length ≤ 20 := Nat.le_trans (List.length_filter_le _ _) lA
      have l2' : (Two.alone A B).length ≤ 20 := Nat.le_trans (List.length_filter_le _ _) lA
      have l3' : (Two.alone B A).length ≤ 20 := Nat.le_trans (List.length_filter_le _ _) lB
      refine ⟨rl, _, [(Two.both A B, lo, hi), (Two.alone A B, a - hi, a - lo), (Two.alone B A, b - hi, b - lo)], rfl, upd_same, .cons ⟨r1, z, yb, rfl, y34 _ _ (y22 _ _ x1), y14 _ _ hz5, hcb5.mono y14⟩ (.cons ⟨r2, o1, yo, rfl, y34 _ _ upd_same, y14 _ _ ho15, hco5.mono y14⟩ (.cons ⟨r3, o2, y2, rfl, y4 _ _ upd_same, y14 _ _ ho5, hc2.mono y14⟩ .nil)), ?_, ?_, fun t d1 d2 w1 w2 c1 c2 H6 ht hd1 hd2 hne h1 h2 h3 k1 k2 p1 p2 x1' x2' s6 => ?_⟩
      · show (Two.both A B ++ (Two.alone A B ++ (Two.alone B A ++ []))).Nodup
        rw [List.append_nil, List.nodup_append, List.nodup_append]
        refine ⟨Two.nodup_filter _ nA, ⟨Two.nodup_filter _ nA, Two.nodup_filter _ nB, fun x hx y hy e => ?_⟩, fun x hx y hy e => ?_⟩
        · subst e
          exact (mA hx).2 (mA hy).1
        · subst e
          rcases List.mem_append.mp hy with hy | hy
          · exact (mA hy).2 (mB hx).2
          · exact (mA hy).2 (mB hx).1
      · show (Two.both A B ++ (Two.alone A B ++ (Two.alone B A ++ []))).length < 64
        rw [List.append_nil, List.length_append, List.length_append]
        omega
      · have sA := s25.trans y14
        exact q' t d1 d2 w1 w2 c1 c2 H6 h1 h2 h3 k1 k2 p1 p2 x1' x2' (sA.trans s6)
    · exact iteP (decide_eq_true (by omega)) ⟨by decide, e (by omega) _ s25⟩
end

def restN (rs : List Str) (n : Int) (th : Option (Nat × Nat)) (st : List (Nat × Nat)) : Int := askN rs n th - (lieC st (askL rs th)).sum
def freeN (rs : List Str) (th : Option (Nat × Nat)) (cl st : List (Nat × Nat)) : List (Nat × Nat) := freeC cl st (askL rs th)
def toldC (r : Int) (fr : List (Nat × Nat)) : List (Nat × Nat) := if r = 0 then fr else []
def toldS (r : Int) (fr : List (Nat × Nat)) : List (Nat × Nat) := if r = (fr.length : Nat) then fr else []
theorem Cel.one {H H' : Hp} {d : Addr} {xs : List V} (s : ∀ b o, b ≠ d → H b = some o → H' b = some o) (hd : H d = some (.lst xs)) : ∀ {vs : List V} {cs : List (Nat × Nat)}, Cel H vs cs → Cel H' vs cs
  | _, _, .nil => .nil
  | _, _, .cons ⟨a, e, h⟩ t => .cons ⟨a, e, s a _ (fun z => by rw [z, hd] at h; cases h) h⟩ (Cel.one s hd t)
/-- a board, two things in a list, a finding -/
structure Ask2 (H : Hp) (p l th fa fc fs : Addr) (rs : List Str) (n : Int) (v1 v2 : V) (tg1 tg2 : Option (Nat × Nat)) (us ws : List V) (cl st : List (Nat × Nat)) : Prop where
  b : BoardAt H p l rs n
  R : Rows bd.cps.toList rs
  h : H th = some (.lst [v1, v2])
  t1 : ThAt H v1 tg1
  t2 : ThAt H v2 tg2
  o1 : ∀ c, tg1 = some c → c ∈ openC rs
  o2 : ∀ c, tg2 = some c → c ∈ openC rs
  l1 : (askL rs tg1).length ≤ 20
  l2 : (askL rs tg2).length ≤ 20
  f : FindAt H fa fc fs us ws cl st
  fi : Fine cl st
/-- what is told of two things, by a call -/
def spFollows2 (C : Addr) : Sp := fun vs H Q E => ∃ (p l th fa fc fs : Addr) (rs : List Str) (n : Int) (v1 v2 : V) (tg1 tg2 : Option (Nat × Nat)) (us ws : List V) (cl st : List (Nat × Nat)), vs = [.ref p, .ref th, .ref fa] ∧ Ask2 H p l th fa fc fs rs n v1 v2 tg1 tg2 us ws cl st ∧
  (loOf (freeN rs tg1 cl st) (freeN rs tg2 cl st) (restN rs n tg1 st) (restN rs n tg2 st) ≤ hiOf (freeN rs tg1 cl st) (freeN rs tg2 cl st) (restN rs n tg1 st) (restN rs n tg2 st) → ∀ (t d1 d2 : Addr) (w1 w2 : List V) (c1 c2 : List (Nat × Nat)) (H' : Hp), H' t = some (.tup [.ref d1, .ref d2]) → H' d1 = some (.lst w1) → H' d2 = some (.lst w2) → Cel H' w1 c1 → Cel H' w2 c2 → c1.Perm (clearsOf (gsOf (freeN rs tg1 cl st) (freeN rs tg2 cl st) (restN rs n tg1 st) (restN rs n tg2 st))) → c2.Perm (stonesOf (gsOf (freeN rs tg1 cl st) (freeN rs tg2 cl st) (restN rs n tg1 st) (restN rs n tg2 st))) → c1.Pairwise Cells.lex → c2.Pairwise Cells.lex → Same H H' → Q (.ref t) H') ∧
  (hiOf (freeN rs tg1 cl st) (freeN rs tg2 cl st) (restN rs n tg1 st) (restN rs n tg2 st) < loOf (freeN rs tg1 cl st) (freeN rs tg2 cl st) (restN rs n tg1 st) (restN rs n tg2 st) → ∀ H', Same H H' → E (.ref C) none H')
/-- what is still asked by a thing, as it lies -/
def AkR (rs : List Str) (n : Int) (cl st : List (Nat × Nat)) (y : Addr) (H : Hp) (v : V) (tg : Option (Nat × Nat)) : Prop := ∃ (r l2 : Addr) (w2 : List V), v = V.ref r ∧ r ≠ y ∧ l2 ≠ y ∧ H r = some (.tup [.int (restN rs n tg st), .ref l2]) ∧ H l2 = some (.lst w2) ∧ Cel H w2 (freeN rs tg cl st)
theorem AkR.keep {rs : List Str} {n : Int} {cl st : List (Nat × Nat)} {y : Addr} {H H' : Hp} {old : List V} (hy : H y = some (.lst old)) (s : ∀ b o, b ≠ y → H b = some o → H' b = some o) {v : V} {tg : Option (Nat × Nat)} : AkR rs n cl st y H v tg → AkR rs n cl st y H' v tg
  | ⟨r, l2, w2, e, n1, n2, h1, h2, h3⟩ => ⟨r, l2, w2, e, n1, n2, s _ _ n1 h1, s _ _ n2 h2, Cel.one s hy h3⟩
theorem ask_lex (rs : List Str) : ∀ tg : Option (Nat × Nat), (askL rs tg).Pairwise Cells.lex
  | none => Cells.allCs_lex _ 0 (codes rs)
  | some c => (Cells.allCs_lex pCell 0 (codes rs)).sublist (List.Sublist.trans List.filter_sublist List.filter_sublist)
section
variable {P : Program} {w : World} {K : PySem.W.Frag} {mg : Str → Option Value} {base : Heap} {f : Addr} {fd : FuncData} {C_NoLaying : Addr}
theorem sc_follows : FnScope ["board", "things", "finding", "known"] ["board", "things", "finding"] (defScope s_follows) := ⟨rfl, rfl, rfl, by decide +kernel, rfl, by decide +kernel, by decide +kernel⟩
theorem ok_follows {f1 f2 f3 f4 f5 f6 f7 f8 f9 f10 f11 : Addr} {fd1 fd2 fd3 fd4 fd5 fd6 fd7 fd8 fd9 fd10 fd11 : FuncData} (T : Txt mg) (O_NoLaying : ExCls K mg "NoLaying" C_NoLaying) (D : DefAt K mg "follows" s_follows ["board", "things", "finding"] f fd)
    (D_around : DefAt K mg "around" s_around ["board", "cell"] f1 fd1) (D_sign_at : DefAt K mg "sign_at" s_sign_at ["board", "cell"] f2 fd2) (D_cells_of : DefAt K mg "cells_of" s_cells_of ["board"] f3 fd3)
    (D_closed : DefAt K mg "closed" s_closed ["board"] f4 fd4) (D_number_at : DefAt K mg "number_at" s_number_at ["board", "cell"] f5 fd5) (D_closed_around : DefAt K mg "closed_around" s_closed_around ["board", "cell"] f6 fd6)
    (D_asked_by : DefAt K mg "asked_by" s_asked_by ["board", "thing"] f7 fd7) (D_known_of : DefAt K mg "known_of" s_known_of ["finding"] f8 fd8) (D_still_asked : DefAt K mg "still_asked" s_still_asked ["asked", "known"] f9 fd9) (D_settled : DefAt K mg "settled" s_settled ["regions"] f10 fd10) (D_gained : DefAt K mg "gained" s_gained ["asked"] f11 fd11) :
    FnOk P w K mg base (CXE P w) 4 f fd ["board", "things", "finding"] (spFollows2 C_NoLaying) := by
  have G_known_of : FnOk P w K mg base CX0 1 f8 fd8 ["finding"] spKnown := ok_known_of T D_known_of
  have G_still_asked : FnOk P w K mg base CX0 1 f9 fd9 ["asked", "known"] spStill := ok_still_asked T D_still_asked
  have G_asked_by : FnOk P w K mg base CX0 3 f7 fd7 ["board", "thing"] spAsked := ok_asked_by T D_asked_by D_around D_sign_at D_cells_of D_closed D_number_at D_closed_around
  have G_gained : FnOk P w K mg base (CXE P w) 2 f11 fd11 ["asked"] (spGained2 C_NoLaying) := ok_gained T O_NoLaying D_gained D_settled
  refine D.F.okX sc_follows (fun vs H Q E h => ?_) (fun cdv A outer s H vs Q E hr h => ?_)
  · obtain ⟨p, l, th, fa, fc, fs, rs, n, v1, v2, tg1, tg2, us, ws, cl, st, rfl, _⟩ := h
    rfl
  · obtain ⟨p, l, th, fa, fc, fs, rs, n, v1, v2, tg1, tg2, us, ws, cl, st, rfl, X, q, e⟩ := h
    refine ⟨_, (pss_cons (ps_set (i := 3) sc_follows.nd rfl (Or.inr rfl) (pe_call G_known_of (hr.mono (by decide)) (by rfl) D_known_of.g D_known_of.F.kp D_known_of.b .nil pass0 (pa_cons (pv 2) pa_nil)))
      (pss_one (ps_ret (pe_call G_gained (hr.mono (by decide)) (by rfl) D_gained.g D_gained.F.kp D_gained.b .nil (Leaves.passes leaves_of) (pa_cons (pe_comp (N := ["thing", "known", "board"]) (src := [none, some 3, some 0]) (CompOk.free (O := (defScope s_follows).names) (XN := ["board", "things", "finding", "known"]) rfl rfl ⟨_, rfl⟩ rfl rfl (by decide +kernel) (by decide +kernel) (by decide +kernel) rfl (by decide +kernel)) rfl (pi_list (pv 1)) (fun _ _ _ _ _ => (pg_name (i := 0) (by show List.Nodup (["thing", "known", "board"] : List Str); decide +kernel) rfl (Or.inl rfl))) (fun _ _ _ _ _ => pifs_nil) (fun _ _ _ _ _ => (pe_call G_still_asked (hr.mono (by decide)) (by rfl) D_still_asked.g D_still_asked.F.kp D_still_asked.b .nil pass0 (pa_cons (pe_call G_asked_by (hr.mono (by decide)) (by rfl) D_asked_by.g D_asked_by.F.kp D_asked_by.b .nil pass0 (pa_cons (pv 2) (pa_cons (pv 0) pa_nil))) (pa_cons (pv 1) pa_nil))))) pa_nil))))), ?_⟩
    refine ⟨_, rfl, fa, fc, fs, us, ws, cl, st, rfl, X.f, X.fi, fun kd kvs H1 hkd hkd1 hK s1 => ?_⟩
    refine ⟨_, rfl, th, rfl, ⟨_, SqL.of (s1 _ _ X.h)⟩, fun y hy => ?_⟩
    refine comp_list (K := K) (a := th) (xs := [v1, v2]) (fun i σ H' => (∃ u0, σ = [u0, some (.ref kd), some (.ref p)]) ∧ Same H1 H' ∧ ∃ ys, H' y = some (.lst ys) ∧ Paired (AkR rs n cl st y H') ys ([tg1, tg2].take i)) ⟨⟨_, rfl⟩, same_new hy, [], upd_same, .nil⟩ (fun i σ H' _ ⟨_, s', _⟩ => SqL.of (s' _ _ (s1 _ _ X.h))) ?_ ?_
    · rintro i x σ H2 hx ⟨⟨u0, rfl⟩, s2, ys, hy2, hP⟩
      have s12 := s1.trans s2
      obtain ⟨tg, ht, ho, hl, et⟩ : ∃ tg, ThAt H2 x tg ∧ (∀ c, tg = some c → c ∈ openC rs) ∧ (askL rs tg).length ≤ 20 ∧ ([tg1, tg2].take (i + 1)) = ([tg1, tg2].take i) ++ [tg] := by
        match i, hx with
        | 0, hx =>
          have ex : v1 = x := by simpa using hx
          subst ex
          exact ⟨tg1, X.t1.mono s12, X.o1, X.l1, rfl⟩
        | 1, hx =>
          have ex : v2 = x := by simpa using hx
          subst ex
          exact ⟨tg2, X.t2.mono s12, X.o2, X.l2, rfl⟩
        | i + 2, hx =>
          simp at hx
      refine tYes_it ⟨_, rfl, _, rfl, p, l, rs, n, x, tg, rfl, X.b.mono s12, X.R, ht, ho, fun t la us3 H3 ht ht3 hla hcel s3 => ?_⟩
      refine ⟨_, rfl, t, la, kd, askN rs n tg, us3, askL rs tg, cl, st, kvs, rfl, ht3, hla, hcel, Nat.le_trans hl (by decide), s3 _ _ (s2 _ _ hkd1), hK, fun r l2 ws2 H4 hr4 hl0 hr4' hl2 hc4 s4 => ?_⟩
      have hy4 := s4 _ _ (s3 _ _ hy2)
      have nry : r ≠ y := ne_of hr4' hy4 (by intro q; cases q)
      have nly : l2 ≠ y := fun z => by
        rw [z, s3 _ _ hy2] at hl0
        cases hl0
      have ysl : ys.length ≤ 2 := by
        rw [Paired.length hP, List.length_take]
        exact Nat.min_le_right _ _
      refine ⟨ys, hy4, Nat.lt_of_le_of_lt ysl (by decide), ⟨_, rfl⟩, fun b o e' => ?_, ys ++ [.ref r], upd_same, ?_⟩
      · rw [upd_ne (ne_of_none e' hy)]
        exact s4 _ _ (s3 _ _ (s2 _ _ e'))
      · rw [et]
        have kk : ∀ b o, b ≠ y → H4 b = some o → upd H4 y (.lst (ys ++ [.ref r])) b = some o := fun b o nb e => by
          rw [upd_ne nb]
          exact e
        refine Paired.snoc (Paired.imp' (fun v g h => AkR.keep hy2 (fun b o nb e => by rw [upd_ne nb]; exact s4 _ _ (s3 _ _ e)) h) hP) ⟨r, l2, ws2, rfl, nry, nly, kk _ _ nry hr4', kk _ _ nly hl2, Cel.into y _ hy4 hc4⟩
    · rintro σ H2 ⟨_, s2, ys, hy2, hP⟩
      obtain ⟨r1, l1, w1, r2, l2, w2, rfl, a1, a2, a3, b1, b2, b3⟩ : ∃ (r1 l1 : Addr) (w1 : List V) (r2 l2 : Addr) (w2 : List V), ys = [.ref r1, .ref r2] ∧ H2 r1 = some (.tup [.int (restN rs n tg1 st), .ref l1]) ∧ H2 l1 = some (.lst w1) ∧ Cel H2 w1 (freeN rs tg1 cl st) ∧ H2 r2 = some (.tup [.int (restN rs n tg2 st), .ref l2]) ∧ H2 l2 = some (.lst w2) ∧ Cel H2 w2 (freeN rs tg2 cl st) := by
        have hP' : Paired (AkR rs n cl st y H2) ys [tg1, tg2] := hP
        cases hP' with
        | cons x1 t1 =>
          cases t1 with
          | cons x2 t2 =>
            cases t2
            obtain ⟨r1, l1, w1, rfl, _, _, a1, a2, a3⟩ := x1
            obtain ⟨r2, l2, w2, rfl, _, _, b1, b2, b3⟩ := x2
            exact ⟨r1, l1, w1, r2, l2, w2, rfl, a1, a2, a3, b1, b2, b3⟩
      have s12 := s1.trans s2
      have flex : ∀ tg, (freeN rs tg cl st).Nodup := fun tg => lex_nodup ((ask_lex rs tg).sublist List.filter_sublist)
      refine ⟨y, r1, l1, r2, l2, restN rs n tg1 st, restN rs n tg2 st, w1, w2, freeN rs tg1 cl st, freeN rs tg2 cl st, rfl, hy2, a1, a2, a3, b1, b2, b3, flex _, flex _, Nat.le_trans (List.length_filter_le _ _) X.l1, Nat.le_trans (List.length_filter_le _ _) X.l2, fun h0 t d1 d2 w1 w2 c1 c2 H3 k1 k2 k3 g1 g2 p1 p2 x1 x2 s3 => ?_, fun hn H3 s3 => e hn H3 (s12.trans s3)⟩
      exact q h0 t d1 d2 w1 w2 c1 c2 H3 k1 k2 k3 g1 g2 p1 p2 x1 x2 (s12.trans s3)
end

/-! _law_near, _law_cells: of a grid that is texts or lists of signs. -/
def RowAt (H : Hp) (v : V) (t : List Nat) : Prop := v = V.str ⟨t.toArray⟩ ∨ ∃ a, v = V.ref a ∧ H a = some (.lst (t.map fun c => V.str ⟨#[c]⟩))
def GridAt (H : Hp) : List V → List (List Nat) → Prop := Paired (RowAt H)
theorem GridAt.get {H : Hp} : ∀ {vs : List V} {gs : List (List Nat)} {i : Nat} {t : List Nat}, GridAt H vs gs → gs[i]? = some t → ∃ v, vs[i]? = some v ∧ RowAt H v t
  | _, _, _, _, .nil, e => by simp at e
  | _, _, 0, _, .cons r _, e => by
    simp at e
    subst e
    exact ⟨_, rfl, r⟩
  | _, _, i + 1, t, .cons _ q, e => by
    obtain ⟨c, h1, h2⟩ := GridAt.get (i := i) (t := t) q (by simpa using e)
    exact ⟨c, by simpa using h1, h2⟩
theorem GridAt.rows (H : Hp) : ∀ rs : List Str, GridAt H (rs.map V.str) (codes rs)
  | [] => .nil
  | t :: r => .cons (.inl (by
      obtain ⟨⟨x⟩⟩ := t
      rfl)) (GridAt.rows H r)
def pZ (zs : List Nat) (k : Nat) : Bool := decide (k ∈ zs)
theorem eqV_signs (k c : Nat) : eqV (V.str ⟨#[c]⟩) (V.str ⟨#[k]⟩) = decide (c = k) := by
  have e0 : eqV (V.str ⟨#[c]⟩) (V.str ⟨#[k]⟩) = ((⟨#[c]⟩ : Str) == (⟨#[k]⟩ : Str)) := rfl
  rw [e0, Bool.eq_iff_iff, beq_iff_eq, decide_eq_true_eq]
  constructor
  · intro h
    have h3 : (#[c] : Array Nat) = #[k] := congrArg Str.cps h
    simpa using h3
  · rintro rfl
    rfl
theorem in_signs (k : Nat) (zs : List Nat) : inV (V.str ⟨#[k]⟩) (zs.map fun c => V.str ⟨#[c]⟩) = pZ zs k := by
  unfold inV pZ
  rw [List.any_map, Bool.eq_iff_iff, List.any_eq_true, decide_eq_true_eq]
  constructor
  · rintro ⟨c, hc, h⟩
    have e : c = k := of_decide_eq_true ((eqV_signs k c).symm.trans h)
    rw [← e]
    exact hc
  · intro h
    exact ⟨k, h, (eqV_signs k k).trans (decide_eq_true rfl)⟩
theorem flat_signs (zs : List Nat) : (zs.map fun c => V.str ⟨#[c]⟩).all flatV = true := by
  rw [List.all_eq_true]
  intro v hv
  obtain ⟨c, _, rfl⟩ := List.mem_map.mp hv
  rfl
/-- all but what stands at d is as it was -/
def Same1 (H H' : Hp) (d : Addr) : Prop := ∀ b o, b ≠ d → H b = some o → H' b = some o
def spLCells : Sp := fun vs H Q _ => ∃ (l sg : Addr) (us : List V) (gs : List (List Nat)) (zs : List Nat), vs = [.ref l, .ref sg] ∧ H l = some (.lst us) ∧ GridAt H us gs ∧ gs.length ≤ 8 ∧ (∀ t ∈ gs, t.length ≤ 8) ∧ H sg = some (.lst (zs.map fun c => V.str ⟨#[c]⟩)) ∧
  ∀ (d : Addr) (ws : List V) (H' : Hp), H d = none → H' d = some (.lst ws) → Cel H' ws (Cells.allCs (pZ zs) 0 gs) → Same H H' → Q (.ref d) H'
section
variable {P : Program} {w : World} {K : PySem.W.Frag} {mg : Str → Option Value} {base : Heap} {f : Addr} {fd : FuncData}
theorem sc_law_cells : FnScope ["_law_rows", "_law_signs", "_law_found", "_law_row", "_law_column"] ["_law_rows", "_law_signs"] (defScope s_law_cells) := ⟨rfl, rfl, rfl, by decide +kernel, rfl, by decide +kernel, by decide +kernel⟩
theorem ok_law_cells (T : Txt mg) (D : DefAt K mg "_law_cells" s_law_cells ["_law_rows", "_law_signs"] f fd) : FnOk P w K mg base CX0 1 f fd ["_law_rows", "_law_signs"] spLCells := by
  refine D.F.ok sc_law_cells (fun vs H Q E h => ?_) (fun cdv A outer s H vs Q E hr h => ?_)
  · obtain ⟨l, sg, us, gs, zs, rfl, _⟩ := h
    rfl
  · obtain ⟨l, sg, us, gs, zs, rfl, hl, hG, g8, t8, hsg, q⟩ := h
    have ul : us.length = gs.length := Paired.length hG
    refine ⟨_, (pss_cons (ps_set (i := 2) sc_law_cells.nd rfl (Or.inl rfl) (pe_lst pa_nil))
      (pss_cons (ps_for PassesOwn.never rfl (pi_range1 (by rfl) T.b_range (pa_cons (pe_callB call_len_seq (by rfl) T.b_len PySem.boot_len (pa_cons (pv 0) pa_nil)) pa_nil)) (pg_name (i := 3) sc_law_cells.nd rfl (Or.inl rfl)) (pss_one (ps_for PassesOwn.never rfl (pi_range1 (by rfl) T.b_range (pa_cons (pe_callB call_len_is (by rfl) T.b_len PySem.boot_len (pa_cons (pe_ix ix_list (pv 0) (pv 3) (fun _ _ => rfl)) pa_nil)) pa_nil)) (pg_name (i := 4) sc_law_cells.nd rfl (Or.inl rfl)) (pss_one (ps_if (pt_cmpR op_in_seq (pe_ix ix_is (pe_ix ix_list (pv 0) (pv 3) (fun _ _ => rfl)) (pv 4) (fun _ _ => rfl)) (pv 1) (by rfl)) (pss_one (ps_expr (pe_bm PySem.F.plainAttrs_list PySem.F.slot_list_append PySem.F.type_list_append mt_append (pv 2) (pa_cons (pe_tup (pa_cons (pv 3) (pa_cons (pv 4) pa_nil))) pa_nil)))) pss_nil)))))
      (pss_one (ps_ret (pv 2))))), ?_⟩
    refine ⟨(by show 0 ≤ sizeLine; decide), fun d hd => ?_⟩
    have s0 : Same H (upd H d (.lst [])) := same_new hd
    refine ⟨_, rfl, l, _, rfl, .inl (SqL.of (s0 _ _ hl)), _, rfl, by omega, by omega, ?_⟩
    rw [Int.toNat_natCast, ul]
    refine for_range (lo := 0) (n := gs.length) (fun i σ H' => ∃ (v3 v4 : Option V) (ws : List V), σ = [some (.ref l), some (.ref sg), some (.ref d), v3, v4] ∧ Same H H' ∧ H' d = some (.lst ws) ∧ Cel H' ws (Cells.allCs (pZ zs) 0 (gs.take i))) ⟨_, _, [], rfl, s0, upd_same, .nil⟩ ?_ ?_
    · rintro i σ H1 hi ⟨v3, v4, ws, rfl, s1, hd1, hc1⟩
      obtain ⟨t, ht⟩ : ∃ t, gs[i]? = some t := ⟨_, List.getElem?_eq_getElem hi⟩
      have tl := t8 t (List.mem_of_getElem? ht)
      obtain ⟨v, hv, hrow⟩ := GridAt.get hG ht
      have hat : atI us (0 + (i : Int)) = some v := by
        rw [Int.zero_add]
        exact atI_nat hv
      refine ⟨_, rfl, _, rfl, l, _, _, v, rfl, rfl, SqL.of (s1 _ _ hl), hat, ?_⟩
      rcases hrow with rfl | ⟨ra, rfl, hra0⟩
      · have zl : (⟨t.toArray⟩ : Str).length = t.length := by show t.toArray.size = _; rw [List.size_toArray]
        refine .inr ⟨⟨t.toArray⟩, rfl, by rw [zl]; exact Nat.le_trans tl (by decide), _, rfl, by rw [zl]; omega, by rw [zl]; omega, ?_⟩
        rw [Int.toNat_natCast, zl]
        refine for_range (lo := 0) (n := t.length) (fun j σ H' => ∃ (v4 : Option V) (ws : List V), σ = [some (.ref l), some (.ref sg), some (.ref d), some (.int (0 + (i : Int))), v4] ∧ Same H H' ∧ Same1 H1 H' d ∧ H' d = some (.lst ws) ∧ Cel H' ws (Cells.allCs (pZ zs) 0 (gs.take i) ++ Cells.rowCs (pZ zs) i 0 (t.take j))) ⟨_, ws, rfl, s1, fun b o _ e => e, hd1, by rw [List.take_zero]; rw [show Cells.rowCs (pZ zs) i 0 [] = [] from rfl, List.append_nil]; exact hc1⟩ ?_ ?_
        · rintro j σ H2 hj ⟨v4, ws2, rfl, s2, s12, hd2, hc2⟩
          obtain ⟨k, hk⟩ : ∃ k, t[j]? = some k := ⟨_, List.getElem?_eq_getElem hj⟩
          have st := Cells.rowCs_step (p := pZ zs) (i := i) hk
          refine ⟨_, rfl, _, rfl, l, _, _, _, rfl, rfl, SqL.of (s2 _ _ hl), hat, _, rfl, .inr ⟨⟨t.toArray⟩, _, k, rfl, rfl, by rw [zl]; exact Nat.le_trans tl (by decide), (by rw [Int.zero_add]; exact atI_nat hk), _, rfl, sg, _, rfl, .inl (SqL.of (s2 _ _ hsg)), rfl, flat_signs zs, _, rfl, ?_⟩⟩
          have ein : (if false = true then !inV (V.str ⟨#[k]⟩) (zs.map fun c => V.str ⟨#[c]⟩) else inV (V.str ⟨#[k]⟩) (zs.map fun c => V.str ⟨#[c]⟩)) = pZ zs k := in_signs k zs
          rw [ein]
          have hlen : ws2.length ≤ 200 := by
            rw [hc2.length, List.length_append]
            have a1 := Cells.rowCs_length (pZ zs) i 0 (t.take j)
            have a2 := Cells.allCs_length (pZ zs) 0 (gs.take i) fun u hu => t8 u (List.mem_of_mem_take hu)
            rw [List.length_take] at a1 a2
            omega
          by_cases hp : pZ zs k = true
          · rw [if_pos hp] at st
            refine iteP hp ⟨_, rfl, .inl ⟨rfl, _, SqL.of hd2⟩, _, rfl, _, rfl, (by show 2 ≤ sizeLine; decide), fun tq htq => ?_⟩
            have s3 := same_new (o := .tup [.int (0 + (i : Int)), .int (0 + (j : Int))]) htq
            refine ⟨d, _, _, rfl, rfl, s3 _ _ hd2, Nat.lt_of_le_of_lt hlen (by decide), _, ws2 ++ [.ref tq], rfl, fun b o e => ?_, fun b o nb e => ?_, upd_same, ?_⟩
            · rw [upd_ne (ne_of_none e hd)]
              exact s3 _ _ (s2 _ _ e)
            · rw [upd_ne nb]
              exact s3 _ _ (s12 b o nb e)
            · rw [st, ← List.append_assoc]
              refine Cel.into d _ (s3 _ _ hd2) (Cel.snoc (Cel.mono s3 hc2) ⟨tq, rfl, ?_⟩)
              rw [upd_same, Int.zero_add, Int.zero_add]
          · rw [if_neg hp, List.append_nil] at st
            refine iteN (Bool.eq_false_iff.mpr hp) ⟨_, ws2, rfl, s2, s12, hd2, ?_⟩
            rw [st]
            exact hc2
        · rintro σ H2 ⟨v4, ws2, rfl, s2, _, hd2, hc2⟩
          refine ⟨_, _, ws2, rfl, s2, hd2, ?_⟩
          rw [Cells.allCs_step ht]
          rw [List.take_length] at hc2
          exact hc2
      · have hra := s1 _ _ hra0
        have nra : ra ≠ d := ne_of_none hra0 hd
        have zl : (t.map fun c => V.str ⟨#[c]⟩).length = t.length := List.length_map _
        refine .inl ⟨ra, _, rfl, .inl (SqL.of hra), _, rfl, by rw [zl]; omega, by rw [zl]; omega, ?_⟩
        rw [Int.toNat_natCast, zl]
        refine for_range (lo := 0) (n := t.length) (fun j σ H' => ∃ (v4 : Option V) (ws : List V), σ = [some (.ref l), some (.ref sg), some (.ref d), some (.int (0 + (i : Int))), v4] ∧ Same H H' ∧ Same1 H1 H' d ∧ H' d = some (.lst ws) ∧ Cel H' ws (Cells.allCs (pZ zs) 0 (gs.take i) ++ Cells.rowCs (pZ zs) i 0 (t.take j))) ⟨_, ws, rfl, s1, fun b o _ e => e, hd1, by rw [List.take_zero]; rw [show Cells.rowCs (pZ zs) i 0 [] = [] from rfl, List.append_nil]; exact hc1⟩ ?_ ?_
        · rintro j σ H2 hj ⟨v4, ws2, rfl, s2, s12, hd2, hc2⟩
          obtain ⟨k, hk⟩ : ∃ k, t[j]? = some k := ⟨_, List.getElem?_eq_getElem hj⟩
          have st := Cells.rowCs_step (p := pZ zs) (i := i) hk
          refine ⟨_, rfl, _, rfl, l, _, _, _, rfl, rfl, SqL.of (s2 _ _ hl), hat, _, rfl, .inl ⟨ra, _, _, V.str ⟨#[k]⟩, rfl, rfl, SqL.of (s12 _ _ nra hra), (by rw [Int.zero_add]; exact atI_nat (by rw [List.getElem?_map, hk]; rfl)), _, rfl, sg, _, rfl, .inl (SqL.of (s2 _ _ hsg)), rfl, flat_signs zs, _, rfl, ?_⟩⟩
          have ein : (if false = true then !inV (V.str ⟨#[k]⟩) (zs.map fun c => V.str ⟨#[c]⟩) else inV (V.str ⟨#[k]⟩) (zs.map fun c => V.str ⟨#[c]⟩)) = pZ zs k := in_signs k zs
          rw [ein]
          have hlen : ws2.length ≤ 200 := by
            rw [hc2.length, List.length_append]
            have a1 := Cells.rowCs_length (pZ zs) i 0 (t.take j)
            have a2 := Cells.allCs_length (pZ zs) 0 (gs.take i) fun u hu => t8 u (List.mem_of_mem_take hu)
            rw [List.length_take] at a1 a2
            omega
          by_cases hp : pZ zs k = true
          · rw [if_pos hp] at st
            refine iteP hp ⟨_, rfl, .inl ⟨rfl, _, SqL.of hd2⟩, _, rfl, _, rfl, (by show 2 ≤ sizeLine; decide), fun tq htq => ?_⟩
            have s3 := same_new (o := .tup [.int (0 + (i : Int)), .int (0 + (j : Int))]) htq
            refine ⟨d, _, _, rfl, rfl, s3 _ _ hd2, Nat.lt_of_le_of_lt hlen (by decide), _, ws2 ++ [.ref tq], rfl, fun b o e => ?_, fun b o nb e => ?_, upd_same, ?_⟩
            · rw [upd_ne (ne_of_none e hd)]
              exact s3 _ _ (s2 _ _ e)
            · rw [upd_ne nb]
              exact s3 _ _ (s12 b o nb e)
            · rw [st, ← List.append_assoc]
              refine Cel.into d _ (s3 _ _ hd2) (Cel.snoc (Cel.mono s3 hc2) ⟨tq, rfl, ?_⟩)
              rw [upd_same, Int.zero_add, Int.zero_add]
          · rw [if_neg hp, List.append_nil] at st
            refine iteN (Bool.eq_false_iff.mpr hp) ⟨_, ws2, rfl, s2, s12, hd2, ?_⟩
            rw [st]
            exact hc2
        · rintro σ H2 ⟨v4, ws2, rfl, s2, _, hd2, hc2⟩
          refine ⟨_, _, ws2, rfl, s2, hd2, ?_⟩
          rw [Cells.allCs_step ht]
          rw [List.take_length] at hc2
          exact hc2
    · rintro σ H1 ⟨v3, v4, ws, rfl, s1, hd1, hc1⟩
      rw [List.take_length] at hc1
      exact ⟨_, rfl, q d ws H1 hd hd1 hc1 s1⟩
end

def spNearB : Sp := fun vs H Q _ => ∃ (a b : Addr) (c d : Nat × Nat), vs = [.ref a, .ref b] ∧ H a = some (.tup [.int (c.1 : Nat), .int (c.2 : Nat)]) ∧ H b = some (.tup [.int (d.1 : Nat), .int (d.2 : Nat)]) ∧ Q (.bl (Cells.near c d)) H
theorem abs2 (i j : Nat) : decide ((if ((i : Nat) : Int) - ((j : Nat) : Int) < 0 then -(((i : Nat) : Int) - ((j : Nat) : Int)) else ((i : Nat) : Int) - ((j : Nat) : Int)) < 2) = decide (i ≤ j + 1 ∧ j ≤ i + 1) := by
  rw [decide_eq_decide]
  split <;> omega
def spLooked : Sp := fun vs H Q _ => ∃ (p l : Addr) (rs : List Str) (n : Int) (v : V) (th : Option (Nat × Nat)), vs = [.ref p, v] ∧ BoardAt H p l rs n ∧ Rows bd.cps.toList rs ∧ ThAt H v th ∧
  ∀ (d : Addr) (us : List V) (H' : Hp), H d = none → H' d = some (.lst us) → Cel H' us (askL rs th) → Same H H' → Q (.ref d) H'
theorem near_shut {rs : List Str} {c : Nat × Nat} : clA rs c = (shutC rs).filter fun x => Cells.near x c := by
  unfold clA aroundC shutC
  have e : (Cells.allCs pCell 0 (codes rs)).filter (fun x => decide (Cells.sgn (codes rs) x = 63)) = Cells.allCs pShut 0 (codes rs) := by
    rw [Cells.all_filter (p := pCell) (q := fun k => decide (k = 63)) (codes rs)]
    exact Cells.allCs_congr (fun k => shut_is k) 0 _
  rw [← e, List.filter_filter, List.filter_filter]
  congr 1
  funext x
  exact Bool.and_comm _ _
section
variable {P : Program} {w : World} {K : PySem.W.Frag} {mg : Str → Option Value} {base : Heap} {f : Addr} {fd : FuncData}
theorem sc_law_near : FnScope ["_law_one", "_law_other"] ["_law_one", "_law_other"] (defScope s_law_near) := ⟨rfl, rfl, rfl, by decide +kernel, rfl, by decide +kernel, by decide +kernel⟩
theorem ok_law_near (T : Txt mg) (D : DefAt K mg "_law_near" s_law_near ["_law_one", "_law_other"] f fd) : FnOk P w K mg base CX0 1 f fd ["_law_one", "_law_other"] spNearB := by
  refine D.F.ok sc_law_near (fun vs H Q E h => ?_) (fun cdv A outer s H vs Q E hr h => ?_)
  · obtain ⟨a, b, c, d, rfl, _⟩ := h
    rfl
  · obtain ⟨a, b, c, d, rfl, ha, hb, q⟩ := h
    refine ⟨_, (pss_one (ps_ret (pe_and (pe_cmpR (op_ne_deep hr.units) (pv 0) (pv 1) (nomark _)) (pe_and (pe_cmpR op_lt (pe_callB call_abs (by rfl) T.b_abs PyProof.Rows.boot_abs (pa_cons (pe_op op_sub (pe_ix ix_tup (pv 0) pe_int (fun _ _ => rfl)) (pe_ix ix_tup (pv 1) pe_int (fun _ _ => rfl))) pa_nil)) pe_int (nomark _)) (pe_one (pe_cmpR op_lt (pe_callB call_abs (by rfl) T.b_abs PyProof.Rows.boot_abs (pa_cons (pe_op op_sub (pe_ix ix_tup (pv 0) pe_int (fun _ _ => rfl)) (pe_ix ix_tup (pv 1) pe_int (fun _ _ => rfl))) pa_nil)) pe_int (nomark _))))))), ?_⟩
    have nf : ∀ x : Bool, (x = true ↔ Cells.near c d = true) → Cells.near c d = x := fun x h => Bool.eq_iff_iff.mpr h.symm
    have ni := Cells.near_iff (x := c) (y := d)
    refine ⟨_, rfl, _, rfl, cData c, cData d, CelR.rdv ⟨a, rfl, ha⟩, CelR.rdv ⟨b, rfl, hb⟩, cData_cmp c d, ?_⟩
    have e1 : (if true = true then !PyData.eqv (cData c) (cData d) else PyData.eqv (cData c) (cData d)) = !decide (c = d) := by
      show (!PyData.eqv _ _) = _
      rw [cData_eqv]
    rw [e1]
    refine ⟨_, rfl, ?_⟩
    by_cases hcd : c = d
    · rw [decide_eq_true hcd]
      refine iteF ?_
      have : Cells.near c d = false := by
        rw [Bool.eq_false_iff, ne_eq, ni]
        exact fun h => h.2.2 hcd
      rw [this] at q
      exact q
    · rw [decide_eq_false hcd]
      refine iteT ?_
      refine ⟨_, rfl, a, _, 0, _, rfl, rfl, SqT.of ha, rfl, _, rfl, b, _, 0, _, rfl, rfl, SqT.of hb, rfl, _, _, rfl, rfl, _, rfl, _, _, rfl, rfl, ?_⟩
      refine ⟨decide (c.1 ≤ d.1 + 1 ∧ d.1 ≤ c.1 + 1), congrArg V.bl (abs2 c.1 d.1), ?_⟩
      by_cases h1 : c.1 ≤ d.1 + 1 ∧ d.1 ≤ c.1 + 1
      · rw [decide_eq_true h1]
        refine iteT ⟨_, rfl, a, _, 1, _, rfl, rfl, SqT.of ha, rfl, _, rfl, b, _, 1, _, rfl, rfl, SqT.of hb, rfl, _, _, rfl, rfl, _, rfl, _, _, rfl, rfl, ?_⟩
        have : Cells.near c d = decide (c.2 ≤ d.2 + 1 ∧ d.2 ≤ c.2 + 1) := by
          rw [Bool.eq_iff_iff, ni, decide_eq_true_eq]
          exact ⟨fun h => h.2.1, fun h => ⟨h1, h, hcd⟩⟩
        show Q (V.bl (decide ((if ((c.2 : Nat) : Int) - ((d.2 : Nat) : Int) < 0 then -(((c.2 : Nat) : Int) - ((d.2 : Nat) : Int)) else ((c.2 : Nat) : Int) - ((d.2 : Nat) : Int)) < 2))) H
        rw [abs2, ← this]
        exact q
      · rw [decide_eq_false h1]
        refine iteF ?_
        have : Cells.near c d = false := by
          rw [Bool.eq_false_iff, ne_eq, ni]
          exact fun h => h1 h.1
        rw [this] at q
        exact q
theorem sc_law_looked : FnScope ["_law_board_here", "_law_thing", "_law_cells_here"] ["_law_board_here", "_law_thing"] (defScope s_law_looked) := ⟨rfl, rfl, rfl, by decide +kernel, rfl, by decide +kernel, by decide +kernel⟩
theorem ok_law_looked {f1 f2 : Addr} {fd1 fd2 : FuncData} (T : Txt mg) (D : DefAt K mg "_law_looked" s_law_looked ["_law_board_here", "_law_thing"] f fd) (D_law_cells : DefAt K mg "_law_cells" s_law_cells ["_law_rows", "_law_signs"] f1 fd1) (D_law_near : DefAt K mg "_law_near" s_law_near ["_law_one", "_law_other"] f2 fd2) : FnOk P w K mg base CX0 2 f fd ["_law_board_here", "_law_thing"] spLooked := by
  have G_law_cells : FnOk P w K mg base CX0 1 f1 fd1 ["_law_rows", "_law_signs"] spLCells := ok_law_cells T D_law_cells
  have G_law_near : FnOk P w K mg base CX0 1 f2 fd2 ["_law_one", "_law_other"] spNearB := ok_law_near T D_law_near
  refine D.F.ok sc_law_looked (fun vs H Q E h => ?_) (fun cdv A outer s H vs Q E hr h => ?_)
  · obtain ⟨p, l, rs, n, v, th, rfl, _⟩ := h
    rfl
  · obtain ⟨p, l, rs, n, v, th, rfl, b, R, hth, q⟩ := h
    refine ⟨_, (pss_cons (ps_set (i := 2) sc_law_looked.nd rfl (Or.inl rfl) (pe_call G_law_cells (hr.mono (by decide)) (by rfl) D_law_cells.g D_law_cells.F.kp D_law_cells.b .nil pass0 (pa_cons (pe_ix ix_tup (pv 0) pe_int (fun _ _ => rfl)) (pa_cons (pe_lst (pa_cons pe_str pa_nil)) pa_nil))))
      (pss_cons (ps_if (pt_cmpR (op_eq_deep hr.units) (pv 1) pe_str (nomark _)) (pss_one (ps_ret (pv 2))) pss_nil)
      (pss_one (ps_ret (pe_comp (N := ["_law_cell", "_law_thing"]) (src := [none, some 1]) (CompOk.free (O := (defScope s_law_looked).names) (XN := ["_law_board_here", "_law_thing", "_law_cells_here"]) rfl rfl ⟨_, rfl⟩ rfl rfl (by decide +kernel) (by decide +kernel) (by decide +kernel) rfl (by decide +kernel)) rfl (pi_list (pv 2)) (fun _ _ _ _ _ => (pg_name (i := 0) (by show List.Nodup (["_law_cell", "_law_thing"] : List Str); decide +kernel) rfl (Or.inl rfl))) (fun _ _ _ _ _ => (pifs_one (pt_truthK (K := K) (by rfl) (pe_call G_law_near (hr.mono (by decide)) (by rfl) D_law_near.g D_law_near.F.kp D_law_near.b .nil pass0 (pa_cons (pv 0) (pa_cons (pv 1) pa_nil))) (fun _ => rfl)))) (fun _ _ _ _ _ => (pv 0))))))), ?_⟩
    refine ⟨_, rfl, p, _, 0, _, rfl, rfl, SqT.of b.tp, rfl, (by show 1 ≤ sizeLine; decide), fun sg hsg => ?_⟩
    have z1 := same_new (o := .lst [V.str "?"]) hsg
    have b1 := b.mono z1
    refine ⟨l, sg, _, codes rs, [63], rfl, b1.rw, GridAt.rows _ rs, by rw [codes_len]; exact R.hi, R.short, ?_, fun d ws H2 hd hd2 hc2 s2 => ?_⟩
    · rw [upd_same, ask_is]
      rfl
    have ec : Cells.allCs (pZ [63]) 0 (codes rs) = shutC rs := Cells.allCs_congr (fun c => by
      show decide (c ∈ [63]) = decide (c = 63)
      simp) 0 _
    rw [ec] at hc2
    have s12 := z1.trans s2
    cases th with
    | none =>
      have ev : v = V.str "all" := hth
      subst ev
      refine ⟨_, rfl, .str "all", .str "all", .str _, .str _, ⟨by decide +kernel, by decide +kernel, by decide +kernel⟩, _, rfl, iteP (by decide +kernel) ⟨_, rfl, q d ws H2 (z1.free hd) hd2 hc2 s12⟩⟩
    | some c =>
      obtain ⟨ca, rfl, hca⟩ := hth
      have hca2 := s12 _ _ hca
      refine ⟨_, rfl, cData c, .str "all", CelR.rdv ⟨ca, rfl, hca2⟩, .str _, ⟨rfl, by decide +kernel, by show max 0 (max 0 0) + 1 ≤ 64; decide⟩, _, rfl, iteN rfl ?_⟩
      refine ⟨_, rfl, d, rfl, ⟨_, SqL.of hd2⟩, fun z hz => ?_⟩
      refine comp_data (K := K) (a := d) (xs := ws) (fun a => a ≠ z) ((shutC rs).map fun x => if Cells.near x c = true then some (cData x) else none) (fun σ => ∃ u0, σ = [u0, some (.ref ca)]) hz (fun _ h => h) ⟨_, rfl⟩ (by rw [List.length_map]; exact hc2.length.symm) (by rw [hc2.length]; exact Nat.le_trans (all_short R) (by decide)) (SqL.of hd2) ?_ ?_
      · rintro k x o σ H3 hx ho s3 _ ⟨u0, rfl⟩ Y Z yes no
        obtain ⟨y, hy, ya, rfl, hya⟩ := Cel.get (Cel.mono s3 hc2) hx
        have eo := map_at hy ho
        refine ⟨_, rfl, _, rfl, ya, ca, y, c, rfl, hya, s3 _ _ hca2, _, rfl, ?_⟩
        by_cases hp : Cells.near y c = true
        · rw [if_pos hp] at eo
          exact iteP hp ⟨_, rfl, yes _ _ _ _ eo ⟨_, rfl⟩ (Same.refl _) (CelR.rdn ⟨ya, rfl, hya⟩)⟩
        · rw [if_neg hp] at eo
          exact iteN (Bool.eq_false_iff.mpr hp) (no _ _ eo ⟨_, rfl⟩ (Same.refl _))
      · rintro ys H3 s3 hz3 hr3
        rw [outs_filter, ← near_shut] at hr3
        exact q z ys H3 (s12.free hz) hz3 (RdnAll.cel hr3) (s12.trans s3)
end

def spNumberL : Sp := fun vs H Q _ => ∃ (p l : Addr) (rs : List Str) (n : Int) (v : V) (th : Option (Nat × Nat)), vs = [.ref p, v] ∧ BoardAt H p l rs n ∧ Rows bd.cps.toList rs ∧ ThAt H v th ∧ (∀ c, th = some c → c ∈ openC rs) ∧ Q (.int (askN rs n th)) H
def spThings : Sp := fun vs H Q _ => ∃ (p l : Addr) (rs : List Str) (n : Int), vs = [.ref p] ∧ BoardAt H p l rs n ∧ Rows bd.cps.toList rs ∧
  ∀ (d : Addr) (ws : List V) (H' : Hp), H d = none → H' d = some (.lst (ws ++ [.str "all"])) → Cel H' ws (openC rs) → Same H H' → Q (.ref d) H'
def spToldF : Sp := fun vs H Q _ => ∃ (p l th fa fc fs : Addr) (rs : List Str) (n : Int) (v1 v2 : V) (tg1 tg2 : Option (Nat × Nat)) (us ws : List V) (cl st : List (Nat × Nat)), vs = [.ref p, .ref th, .ref fa] ∧ Ask2 H p l th fa fc fs rs n v1 v2 tg1 tg2 us ws cl st ∧
  (loOf (freeN rs tg1 cl st) (freeN rs tg2 cl st) (restN rs n tg1 st) (restN rs n tg2 st) ≤ hiOf (freeN rs tg1 cl st) (freeN rs tg2 cl st) (restN rs n tg1 st) (restN rs n tg2 st) → ∀ (t d1 d2 : Addr) (w1 w2 : List V) (c1 c2 : List (Nat × Nat)) (H' : Hp), H' t = some (.tup [.ref d1, .ref d2]) → H' d1 = some (.lst w1) → H' d2 = some (.lst w2) → Cel H' w1 c1 → Cel H' w2 c2 → c1.Perm (clearsOf (gsOf (freeN rs tg1 cl st) (freeN rs tg2 cl st) (restN rs n tg1 st) (restN rs n tg2 st))) → c2.Perm (stonesOf (gsOf (freeN rs tg1 cl st) (freeN rs tg2 cl st) (restN rs n tg1 st) (restN rs n tg2 st))) → c1.Pairwise Cells.lex → c2.Pairwise Cells.lex → Same H H' → Q (.ref t) H') ∧
  (hiOf (freeN rs tg1 cl st) (freeN rs tg2 cl st) (restN rs n tg1 st) (restN rs n tg2 st) < loOf (freeN rs tg1 cl st) (freeN rs tg2 cl st) (restN rs n tg1 st) (restN rs n tg2 st) → ∀ H', Same H H' → Q .non H')
theorem nine_is : ("012345678" : Str).cps.toList = [48, 49, 50, 51, 52, 53, 54, 55, 56] := by decide +kernel
theorem pZ_open : ∀ k ∈ bd.cps.toList, pZ [48, 49, 50, 51, 52, 53, 54, 55, 56] k = pOpen k := by decide +kernel
theorem rowCs_at {p q : Nat → Bool} (i : Nat) : ∀ (j : Nat) (t : List Nat), (∀ k ∈ t, p k = q k) → Cells.rowCs p i j t = Cells.rowCs q i j t
  | _, [], _ => rfl
  | j, c :: r, h => by
    rw [Cells.rowCs, Cells.rowCs, h c List.mem_cons_self, rowCs_at i (j + 1) r fun k hk => h k (List.mem_cons_of_mem _ hk)]
theorem allCs_at {p q : Nat → Bool} : ∀ (i : Nat) (gs : List (List Nat)), (∀ t ∈ gs, ∀ k ∈ t, p k = q k) → Cells.allCs p i gs = Cells.allCs q i gs
  | _, [], _ => rfl
  | i, t :: r, h => by
    rw [Cells.allCs, Cells.allCs, rowCs_at i 0 t (h t List.mem_cons_self), allCs_at (i + 1) r fun u hu => h u (List.mem_cons_of_mem _ hu)]
theorem Rows.signsIn {rs : List Str} (R : Rows bd.cps.toList rs) : ∀ t ∈ codes rs, ∀ k ∈ t, k ∈ bd.cps.toList := fun t ht k hk => by
  obtain ⟨u, hu, rfl⟩ := List.mem_map.mp ht
  obtain ⟨n, _, _, q⟩ := R.ex
  exact (q u hu).mem k hk
section
variable {P : Program} {w : World} {K : PySem.W.Frag} {mg : Str → Option Value} {base : Heap} {f : Addr} {fd : FuncData} {C_NoLaying : Addr}
theorem sc_law_number : FnScope ["_law_board_here", "_law_thing"] ["_law_board_here", "_law_thing"] (defScope s_law_number) := ⟨rfl, rfl, rfl, by decide +kernel, rfl, by decide +kernel, by decide +kernel⟩
theorem ok_law_number (T : Txt mg) (D : DefAt K mg "_law_number" s_law_number ["_law_board_here", "_law_thing"] f fd) : FnOk P w K mg base CX0 1 f fd ["_law_board_here", "_law_thing"] spNumberL := by
  refine D.F.ok sc_law_number (fun vs H Q E h => ?_) (fun cdv A outer s H vs Q E hr h => ?_)
  · obtain ⟨p, l, rs, n, v, th, rfl, _⟩ := h
    rfl
  · obtain ⟨p, l, rs, n, v, th, rfl, b, R, hth, hop, q⟩ := h
    refine ⟨_, (pss_cons (ps_if (pt_cmpR (op_eq_deep hr.units) (pv 1) pe_str (nomark _)) (pss_one (ps_ret (pe_ix ix_tup (pv 0) pe_int (fun _ _ => rfl)))) pss_nil)
      (pss_one (ps_ret (pe_callTy call_int_str (by rfl) T.b_int PyProof.Rows.boot_int (pa_cons (pe_ix ix_str (pe_ix ix_list (pe_ix ix_tup (pv 0) pe_int (fun _ _ => rfl)) (pe_ix ix_tup (pv 1) pe_int (fun _ _ => rfl)) (fun _ _ => rfl)) (pe_ix ix_tup (pv 1) pe_int (fun _ _ => rfl)) (fun _ _ => rfl)) pa_nil))))), ?_⟩
    cases th with
    | none =>
      have ev : v = V.str "all" := hth
      subst ev
      refine ⟨_, rfl, .str "all", .str "all", .str _, .str _, ⟨by decide +kernel, by decide +kernel, by decide +kernel⟩, _, rfl, iteP (by decide +kernel) ⟨_, rfl, p, _, 1, _, rfl, rfl, SqT.of b.tp, rfl, q⟩⟩
    | some c =>
      obtain ⟨ca, rfl, hca⟩ := hth
      obtain ⟨t0, k, ht0, hk, hpo, hkin, tln⟩ := R.openAt (hop c rfl)
      obtain ⟨k1, k2⟩ := open_sign hkin hpo
      have es : Cells.sgn (codes rs) c = k := Cells.sgn_at (codes_get ht0) hk
      have q' : Q (.int ((k : Int) - 48)) H := by
        have q2 : Q (.int (((Cells.sgn (codes rs) c : Nat) : Int) - 48)) H := q
        rw [es] at q2
        exact q2
      refine ⟨_, rfl, cData c, .str "all", CelR.rdv ⟨ca, rfl, hca⟩, .str _, ⟨rfl, by decide +kernel, by show max 0 (max 0 0) + 1 ≤ 64; decide⟩, _, rfl, iteN rfl ?_⟩
      exact ⟨_, rfl, p, _, 0, _, rfl, rfl, SqT.of b.tp, rfl, _, rfl, ca, _, 0, _, rfl, rfl, SqT.of hca, rfl, l, _, _, .str t0, rfl, rfl, SqL.of b.rw, atI_nat (by rw [List.getElem?_map, ht0]; rfl), _, rfl, ca, _, 1, _, rfl, rfl, SqT.of hca, rfl, t0, _, k, rfl, rfl, tln, atI_nat hk, _, _, rfl, int_sign k1 k2, (by show 1 ≤ 640; decide), q'⟩
theorem sc_law_things : FnScope ["_law_board_here"] ["_law_board_here"] (defScope s_law_things) := ⟨rfl, rfl, rfl, by decide +kernel, rfl, by decide +kernel, by decide +kernel⟩
theorem ok_law_things {f1 : Addr} {fd1 : FuncData} (T : Txt mg) (D : DefAt K mg "_law_things" s_law_things ["_law_board_here"] f fd) (D_law_cells : DefAt K mg "_law_cells" s_law_cells ["_law_rows", "_law_signs"] f1 fd1) : FnOk P w K mg base CX0 2 f fd ["_law_board_here"] spThings := by
  have G_law_cells : FnOk P w K mg base CX0 1 f1 fd1 ["_law_rows", "_law_signs"] spLCells := ok_law_cells T D_law_cells
  refine D.F.ok sc_law_things (fun vs H Q E h => ?_) (fun cdv A outer s H vs Q E hr h => ?_)
  · obtain ⟨p, l, rs, n, rfl, _⟩ := h
    rfl
  · obtain ⟨p, l, rs, n, rfl, b, R, q⟩ := h
    refine ⟨_, (pss_one (ps_ret (pe_op op_cat (pe_call G_law_cells (hr.mono (by decide)) (by rfl) D_law_cells.g D_law_cells.F.kp D_law_cells.b .nil pass0 (pa_cons (pe_ix ix_tup (pv 0) pe_int (fun _ _ => rfl)) (pa_cons (pe_callTy (call_list_text rfl) (by rfl) T.b_list PyProof.Rows.boot_list (pa_cons pe_str pa_nil)) pa_nil))) (pe_lst (pa_cons pe_str pa_nil))))), ?_⟩
    refine ⟨_, rfl, p, _, 0, _, rfl, rfl, SqT.of b.tp, rfl, "012345678", rfl, by decide, fun sg hsg => ?_⟩
    have z1 := same_new (o := .lst (("012345678" : Str).cps.toList.map fun c => V.str ⟨#[c]⟩)) hsg
    refine ⟨l, sg, _, codes rs, [48, 49, 50, 51, 52, 53, 54, 55, 56], rfl, z1 _ _ b.rw, GridAt.rows _ rs, by rw [codes_len]; exact R.hi, R.short, by rw [upd_same, nine_is], fun d ws H2 hd hd2 hc2 s2 => ?_⟩
    have ec : Cells.allCs (pZ [48, 49, 50, 51, 52, 53, 54, 55, 56]) 0 (codes rs) = openC rs := allCs_at 0 _ fun t ht k hk => pZ_open k (R.signsIn t ht k hk)
    rw [ec] at hc2
    refine ⟨(by show 1 ≤ sizeLine; decide), fun e he => ?_⟩
    have z3 := same_new (o := .lst [V.str "all"]) he
    refine ⟨d, e, ws, [.str "all"], rfl, rfl, z3 _ _ hd2, upd_same, ?_, fun r hr4 => ?_⟩
    · rw [hc2.length]
      have := all_short (p := pOpen) R
      exact Nat.le_trans (show _ ≤ 65 by show (openC rs).length + 1 ≤ 65; unfold openC; omega) (by decide)
    · have z4 := same_new (o := .lst (ws ++ [.str "all"])) hr4
      exact q r ws _ ((z1.trans (s2.trans z3)).free hr4) upd_same (hc2.mono (z3.trans z4)) (z1.trans (s2.trans (z3.trans z4)))
theorem sc_law_told : FnScope ["_law_board_here", "_law_things_here", "_law_finding_here"] ["_law_board_here", "_law_things_here", "_law_finding_here"] (defScope s_law_told) := ⟨rfl, rfl, rfl, by decide +kernel, rfl, by decide +kernel, by decide +kernel⟩
theorem ok_law_told {f1 f2 f3 f4 f5 f6 f7 f8 f9 f10 f11 f12 : Addr} {fd1 fd2 fd3 fd4 fd5 fd6 fd7 fd8 fd9 fd10 fd11 fd12 : FuncData} (T : Txt mg) (O_NoLaying : ExCls K mg "NoLaying" C_NoLaying) (FN : PySem.W.mroIn K C_NoLaying (.ref C_NoLaying) = some true) (D : DefAt K mg "_law_told" s_law_told ["_law_board_here", "_law_things_here", "_law_finding_here"] f fd)
    (D_around : DefAt K mg "around" s_around ["board", "cell"] f1 fd1) (D_sign_at : DefAt K mg "sign_at" s_sign_at ["board", "cell"] f2 fd2) (D_cells_of : DefAt K mg "cells_of" s_cells_of ["board"] f3 fd3)
    (D_closed : DefAt K mg "closed" s_closed ["board"] f4 fd4) (D_number_at : DefAt K mg "number_at" s_number_at ["board", "cell"] f5 fd5) (D_closed_around : DefAt K mg "closed_around" s_closed_around ["board", "cell"] f6 fd6)
    (D_asked_by : DefAt K mg "asked_by" s_asked_by ["board", "thing"] f7 fd7) (D_known_of : DefAt K mg "known_of" s_known_of ["finding"] f8 fd8) (D_still_asked : DefAt K mg "still_asked" s_still_asked ["asked", "known"] f9 fd9) (D_settled : DefAt K mg "settled" s_settled ["regions"] f10 fd10) (D_gained : DefAt K mg "gained" s_gained ["asked"] f11 fd11) (D_follows : DefAt K mg "follows" s_follows ["board", "things", "finding"] f12 fd12) :
    FnOk P w K mg base CX0 5 f fd ["_law_board_here", "_law_things_here", "_law_finding_here"] spToldF := by
  have G_follows : FnOk P w K mg base (CXE P w) 4 f12 fd12 ["board", "things", "finding"] (spFollows2 C_NoLaying) := ok_follows T O_NoLaying D_follows D_around D_sign_at D_cells_of D_closed D_number_at D_closed_around D_asked_by D_known_of D_still_asked D_settled D_gained
  refine D.F.ok sc_law_told (fun vs H Q E h => ?_) (fun cdv A outer s H vs Q E hr h => ?_)
  · obtain ⟨p, l, th, fa, fc, fs, rs, n, v1, v2, tg1, tg2, us, ws, cl, st, rfl, _⟩ := h
    rfl
  · obtain ⟨p, l, th, fa, fc, fs, rs, n, v1, v2, tg1, tg2, us, ws, cl, st, rfl, X, q, e⟩ := h
    refine ⟨_, (pss_one (ps_tryR rfl rfl G_follows (hr.mono (by decide)) (by rfl) D_follows.g D_follows.F.kp D_follows.b (by rfl) O_NoLaying (pa_cons (pv 0) (pa_cons (pv 1) (pa_cons (pv 2) pa_nil))) (fun _ => (pss_one (ps_ret pe_non))))), ?_⟩
    exact ⟨_, rfl, _, rfl, _, rfl, p, l, th, fa, fc, fs, rs, n, v1, v2, tg1, tg2, us, ws, cl, st, rfl, X, q, fun hn H' s' => ⟨C_NoLaying, rfl, FN, fun e0 he0 => e hn _ (s'.trans (same_new he0))⟩⟩
end

/-! _law_choices: all choices of cells that keep what is found. -/
def lD (S : List (Nat × Nat)) : PyData := .list (S.map cData)
mutual
theorem Rdn.off {N : Addr → Prop} {H : Hp} {z : Addr} (hz : H z = none) : ∀ {v : V} {d : PyData}, Rdn N H v d → Rdn (fun a => a ≠ z) H v d
  | _, _, .non => .non
  | _, _, .bl b => .bl b
  | _, _, .int i => .int i
  | _, _, .str x => .str x
  | _, _, .lst _ h t => .lst (ne_of_none h hz) h (RdnAll.off hz t)
  | _, _, .tup h t => .tup h (RdnAll.off hz t)
theorem RdnAll.off {N : Addr → Prop} {H : Hp} {z : Addr} (hz : H z = none) : ∀ {vs : List V} {ds : List PyData}, RdnAll N H vs ds → RdnAll (fun a => a ≠ z) H vs ds
  | _, _, .nil => .nil
  | _, _, .cons h t => .cons (Rdn.off hz h) (RdnAll.off hz t)
end
theorem lst_at {N : Addr → Prop} {H : Hp} {ws : List V} {L : List (List (Nat × Nat))} {i : Nat} {v : V} (h : RdnAll N H ws (L.map lD)) (e : ws[i]? = some v) : ∃ S a us, L[i]? = some S ∧ v = V.ref a ∧ H a = some (.lst us) ∧ Cel H us S ∧ Rdn N H v (lD S) := by
  obtain ⟨d, hd, r⟩ := h.get e
  rw [List.getElem?_map] at hd
  cases hS : L[i]? with
  | none =>
    rw [hS] at hd
    cases hd
  | some S =>
    rw [hS] at hd
    have ed : d = lD S := (Option.some.inj hd).symm
    subst ed
    generalize hg : lD S = g at r
    cases r with
    | lst n h t =>
      unfold lD at hg
      have := PyData.list.inj hg
      subst this
      exact ⟨S, _, _, rfl, rfl, h, RdnAll.cel t, .lst n h t⟩
    | _ => cases hg
def spChoices : Sp := fun vs H Q _ => ∃ (ca fa fc fs : Addr) (us u w' : List V) (cs cl st : List (Nat × Nat)), vs = [.ref ca, .ref fa] ∧ H ca = some (.lst us) ∧ Cel H us cs ∧ cs.length ≤ 8 ∧ FindAt H fa fc fs u w' cl st ∧
  ∀ (d : Addr) (ws : List V) (H' : Hp), H' d = some (.lst ws) → RdnAll (fun _ => True) H' ws ((Two.cho cl st cs).map lD) → Same H H' → Q (.ref d) H'
section
variable {P : Program} {w : World} {K : PySem.W.Frag} {mg : Str → Option Value} {base : Heap} {f : Addr} {fd : FuncData}
theorem sc_law_choices : FnScope ["_law_cells_here", "_law_finding_here", "_law_found", "_law_cell", "_law_longer", "_law_some"] ["_law_cells_here", "_law_finding_here"] (defScope s_law_choices) := ⟨rfl, rfl, rfl, by decide +kernel, rfl, by decide +kernel, by decide +kernel⟩
theorem ok_law_choices (T : Txt mg) (D : DefAt K mg "_law_choices" s_law_choices ["_law_cells_here", "_law_finding_here"] f fd) : FnOk P w K mg base CX0 1 f fd ["_law_cells_here", "_law_finding_here"] spChoices := by
  refine D.F.ok sc_law_choices (fun vs H Q E h => ?_) (fun cdv A outer s H vs Q E hr h => ?_)
  · obtain ⟨ca, fa, fc, fs, us, u, w', cs, cl, st, rfl, _⟩ := h
    rfl
  · obtain ⟨ca, fa, fc, fs, us, u, w', cs, cl, st, rfl, hca, hcs, l8, X, q⟩ := h
    refine ⟨_, (pss_cons (ps_set (i := 2) sc_law_choices.nd rfl (Or.inl rfl) (pe_lst (pa_cons (pe_lst pa_nil) pa_nil)))
      (pss_cons (ps_for PassesOwn.never rfl (pi_list (pv 0)) (pg_name (i := 3) sc_law_choices.nd rfl (Or.inl rfl)) (pss_cons (ps_set (i := 4) sc_law_choices.nd rfl (Or.inl rfl) (pe_lst pa_nil))
      (pss_cons (ps_for PassesOwn.never rfl (pi_list (pv 2)) (pg_name (i := 5) sc_law_choices.nd rfl (Or.inl rfl)) (pss_mid (ps_if (pt_cmpR (op_notIn_deep hr.units) (pv 3) (pe_ix ix_tup (pv 1) pe_int (fun _ _ => rfl)) (by rfl)) (pss_one (ps_expr (pe_bm PySem.F.plainAttrs_list PySem.F.slot_list_append PySem.F.type_list_append mt_append (pv 4) (pa_cons (pv 5) pa_nil)))) pss_nil)
      (pss_one (ps_if (pt_cmpR (op_notIn_deep hr.units) (pv 3) (pe_ix ix_tup (pv 1) pe_int (fun _ _ => rfl)) (by rfl)) (pss_one (ps_expr (pe_bm PySem.F.plainAttrs_list PySem.F.slot_list_append PySem.F.type_list_append mt_append (pv 4) (pa_cons (pe_op op_cat (pv 5) (pe_lst (pa_cons (pv 3) pa_nil))) pa_nil)))) pss_nil))))
      (pss_one (ps_set (i := 2) sc_law_choices.nd rfl (Or.inl rfl) (pv 4))))))
      (pss_one (ps_ret (pv 2))))), ?_⟩
    refine ⟨(by show 0 ≤ sizeLine; decide), fun e1 he1 => ⟨(by show 1 ≤ sizeLine; decide), fun f0 hf0 => ?_⟩⟩
    have z1 := same_new (o := .lst []) he1
    have z2 := same_new (o := .lst [V.ref e1]) hf0
    have s2 := z1.trans z2
    have he2 : upd (upd H e1 (.lst [])) f0 (.lst [V.ref e1]) e1 = some (.lst []) := z2 _ _ upd_same
    have hf2 : upd (upd H e1 (.lst [])) f0 (.lst [V.ref e1]) f0 = some (.lst [V.ref e1]) := upd_same
    generalize upd (upd H e1 (.lst [])) f0 (.lst [V.ref e1]) = H2 at *
    refine ⟨_, rfl, ca, rfl, ⟨_, SqL.of (s2 _ _ hca)⟩, ?_⟩
    refine for_list (K := K) (a := ca) (xs := us) (fun i σ H' => ∃ (fo : Addr) (ws : List V) (v3 v4 v5 : Option V), σ = [some (.ref ca), some (.ref fa), some (.ref fo), v3, v4, v5] ∧ Same H H' ∧ H' fo = some (.lst ws) ∧ RdnAll (fun _ => True) H' ws ((Two.cho cl st (cs.take i)).map lD)) ⟨f0, _, _, _, _, rfl, s2, hf2, .cons (.lst trivial he2 .nil) .nil⟩ (fun i σ H' _ ⟨_, _, _, _, _, _, z, _⟩ => SqL.of (z _ _ hca)) ?_ ?_
    · rintro i x σ H3 hx ⟨fo, ws, v3, v4, v5, rfl, s3, hfo, hL⟩
      obtain ⟨c, hc, rc⟩ := Cel.get (hcs.mono s3) hx
      obtain ⟨cx, rfl, hcx⟩ := rc
      have il := (List.getElem?_eq_some_iff.mp hc).1
      have st1 : Two.cho cl st (cs.take (i + 1)) = (Two.cho cl st (cs.take i)).flatMap (Two.ext cl st c) := by
        rw [List.take_add_one, hc]
        exact Two.cho_snoc _ _ _ _
      have Ll : (Two.cho cl st (cs.take i)).length ≤ 256 := by
        have h1 := Two.cho_len cl st (cs.take i)
        have h2 : 2 ^ (cs.take i).length ≤ 2 ^ 8 := Nat.pow_le_pow_right (by decide) (by rw [List.length_take]; omega)
        exact Nat.le_trans h1 h2
      have Sl : ∀ S ∈ Two.cho cl st (cs.take i), S.length ≤ 8 := fun S hS => by
        have h1 := (Two.cho_of hS).1.length_le
        rw [List.length_take] at h1
        omega
      generalize Two.cho cl st (cs.take i) = L at *
      refine ⟨(by show 0 ≤ sizeLine; decide), fun lo hlo => ?_⟩
      have z4 := same_new (o := .lst []) hlo
      have hlo4 : upd H3 lo (.lst []) lo = some (.lst []) := upd_same
      have hL3 := RdnAll.off hlo hL
      generalize upd H3 lo (.lst []) = H4 at *
      have s4 := s3.trans z4
      have X4 := X.mono s4
      refine ⟨_, rfl, fo, rfl, ⟨_, SqL.of (z4 _ _ hfo)⟩, ?_⟩
      refine for_list (K := K) (a := fo) (xs := ws) (fun j σ H' => ∃ (xs : List V) (v5 : Option V), σ = [some (.ref ca), some (.ref fa), some (.ref fo), some (.ref cx), some (.ref lo), v5] ∧ Same H3 H' ∧ H' lo = some (.lst xs) ∧ RdnAll (fun a => a ≠ lo) H' xs (((L.take j).flatMap (Two.ext cl st c)).map lD)) ⟨[], _, rfl, z4, hlo4, .nil⟩ (fun j σ H' _ ⟨_, _, _, z, _⟩ => SqL.of (z _ _ hfo)) ?_ ?_
      · rintro j y σ H5 hy ⟨xs, v5, rfl, s5, hlo5, hR⟩
        obtain ⟨S, sa, su, hS, rfl, hsa, hcS, hrS⟩ := lst_at hL3 hy
        have st2 : (L.take (j + 1)).flatMap (Two.ext cl st c) = (L.take j).flatMap (Two.ext cl st c) ++ Two.ext cl st c S := by
          rw [List.take_add_one, hS, List.flatMap_append]
          simp
        have s35 := s3.trans s5
        have X5 := X.mono s35
        have xl : xs.length ≤ 600 := by
          rw [hR.length, List.length_map]
          have h1 := Two.flat_len (Two.ext cl st c) (Two.ext_len cl st c) (L.take j)
          rw [List.length_take] at h1
          omega
        have hcx5 := s5 _ _ hcx
        refine ⟨fun σ' H' => ∃ xs' : List V, σ' = [some (.ref ca), some (.ref fa), some (.ref fo), some (.ref cx), some (.ref lo), some (.ref sa)] ∧ Same H3 H' ∧ H' lo = some (.lst xs') ∧ RdnAll (fun a => a ≠ lo) H' xs' (((L.take j).flatMap (Two.ext cl st c) ++ (if c ∈ st then [] else [S])).map lD) ∧ xs'.length ≤ 601, ?_, ?_⟩
        · refine ⟨_, rfl, _, rfl, fa, _, 1, _, rfl, rfl, SqT.of X5.tp, rfl, cData c, st.map cData, CelR.rdv ⟨cx, rfl, hcx5⟩, .lst (SqL.of X5.h2) (cRdv X5.c2), rfl, lays _, (by show 1 ≤ 60; decide), _, rfl, ?_⟩
          rw [notin_is]
          by_cases hp : c ∈ st
          · rw [if_pos hp, List.append_nil]
            exact iteN (by rw [decide_eq_true hp]; rfl) ⟨xs, rfl, s5, hlo5, hR, by omega⟩
          · rw [if_neg hp, List.map_append]
            refine iteP (by rw [decide_eq_false hp]; rfl) ⟨_, rfl, .inl ⟨rfl, _, SqL.of hlo5⟩, _, rfl, lo, _, _, rfl, rfl, hlo5, Nat.lt_of_le_of_lt xl (by decide), xs ++ [.ref sa], rfl, fun b o e => ?_, upd_same, ?_, by rw [List.length_append]; show xs.length + 1 ≤ 601; omega⟩
            · rw [upd_ne (ne_of_none e hlo)]
              exact s5 _ _ e
            · exact RdnAll.into hlo5 (fun _ h => h) (RdnAll.snoc hR (hrS.keep s5))
        · rintro _ H6 ⟨xs', rfl, s6, hlo6, hR6, xl'⟩
          have s36 := s3.trans s6
          have X6 := X.mono s36
          have hcx6 := s6 _ _ hcx
          refine ⟨_, rfl, _, rfl, fa, _, 0, _, rfl, rfl, SqT.of X6.tp, rfl, cData c, cl.map cData, CelR.rdv ⟨cx, rfl, hcx6⟩, .lst (SqL.of X6.h1) (cRdv X6.c1), rfl, lays _, (by show 1 ≤ 60; decide), _, rfl, ?_⟩
          rw [notin_is]
          have st3 : ((L.take (j + 1)).flatMap (Two.ext cl st c)).map lD = (((L.take j).flatMap (Two.ext cl st c) ++ (if c ∈ st then [] else [S])).map lD) ++ ((if c ∈ cl then [] else [S ++ [c]]).map lD) := by
            rw [st2, ← List.map_append, List.append_assoc]
            rfl
          by_cases hp : c ∈ cl
          · rw [if_pos hp, List.map_nil, List.append_nil] at st3
            refine iteN (by rw [decide_eq_true hp]; rfl) ⟨xs', _, rfl, s6, hlo6, ?_⟩
            rw [st3]
            exact hR6
          · rw [if_neg hp] at st3
            refine iteP (by rw [decide_eq_false hp]; rfl) ?_
            refine ⟨_, rfl, .inl ⟨rfl, _, SqL.of hlo6⟩, _, rfl, _, rfl, (by show 1 ≤ sizeLine; decide), fun e2 he2 => ?_⟩
            have z7 := same_new (o := .lst [V.ref cx]) he2
            have sul : su.length ≤ 64 := by
              rw [hcS.length]
              exact Nat.le_trans (Sl S (List.mem_of_getElem? hS)) (by decide)
            refine ⟨sa, e2, su, [.ref cx], rfl, rfl, z7 _ _ (s6 _ _ hsa), upd_same, Nat.le_trans (show su.length + 1 ≤ 65 by omega) (by decide), fun r hr4 => ?_⟩
            have z8 := same_new (o := .lst (su ++ [V.ref cx])) hr4
            have z78 := z7.trans z8
            have hlo8 := z78 _ _ hlo6
            have nr : r ≠ lo := fun z => by
              rw [z, z7 _ _ hlo6] at hr4
              cases hr4
            refine ⟨lo, _, _, rfl, rfl, hlo8, Nat.lt_of_le_of_lt xl' (by decide), xs' ++ [.ref r], _, rfl, fun b o e => ?_, upd_same, ?_⟩
            · rw [upd_ne (ne_of_none e hlo)]
              exact z78 _ _ (s6 _ _ e)
            · rw [st3]
              refine RdnAll.into hlo8 (fun _ h => h) (RdnAll.snoc (hR6.keep z78) ?_)
              refine .lst nr upd_same ?_
              exact Cel.rdn (Cel.snoc (hcS.mono (s6.trans z78)) ⟨cx, rfl, z78 _ _ hcx6⟩)
      · rintro σ H5 ⟨xs, v5, rfl, s5, hlo5, hR⟩
        have wl : ws.length = L.length := by
          rw [hL.length, List.length_map]
        refine ⟨_, rfl, lo, xs, _, _, _, rfl, s3.trans s5, hlo5, ?_⟩
        rw [wl, List.take_length] at hR
        rw [st1]
        exact hR.mono (Same.refl _) fun _ _ => trivial
    · rintro σ H3 ⟨fo, ws, v3, v4, v5, rfl, s3, hfo, hL⟩
      rw [hcs.length, List.take_length] at hL
      exact ⟨_, rfl, q fo ws H3 hfo hL s3⟩
end

/-! _law_due: what all choices have in common. -/
def fitL (rs : List Str) (n : Int) (tg : Option (Nat × Nat)) (L : List (List (Nat × Nat))) : List (List (Nat × Nat)) := L.filter fun S => decide ((((S.filter fun c => decide (c ∈ askL rs tg)).length : Nat) : Int) = askN rs n tg)
def clearL (L : List (List (Nat × Nat))) (F : List (Nat × Nat)) : List (Nat × Nat) := F.filter fun c => (L.filter fun S => decide (c ∈ S)).isEmpty
def stoneL (L : List (List (Nat × Nat))) (F : List (Nat × Nat)) : List (Nat × Nat) := F.filter fun c => (L.filter fun S => !decide (c ∈ S)).isEmpty
def spDue : Sp := fun vs H Q _ => ∃ (p l th fa fc fs : Addr) (rs : List Str) (n : Int) (v1 v2 : V) (tg1 tg2 : Option (Nat × Nat)) (us ws : List V) (cl st : List (Nat × Nat)), vs = [.ref p, .ref th, .ref fa] ∧ Ask2 H p l th fa fc fs rs n v1 v2 tg1 tg2 us ws cl st ∧ (shutC rs).length ≤ 8 ∧
  (fitL rs n tg2 (fitL rs n tg1 (Two.cho cl st (shutC rs))) ≠ [] → ∀ (t d1 d2 : Addr) (w1 w2 : List V) (H' : Hp), H' t = some (.tup [.ref d1, .ref d2]) → H' d1 = some (.lst w1) → H' d2 = some (.lst w2) → Cel H' w1 (clearL (fitL rs n tg2 (fitL rs n tg1 (Two.cho cl st (shutC rs)))) (freeC cl st (shutC rs))) → Cel H' w2 (stoneL (fitL rs n tg2 (fitL rs n tg1 (Two.cho cl st (shutC rs)))) (freeC cl st (shutC rs))) → Same H H' → Q (.ref t) H') ∧
  (fitL rs n tg2 (fitL rs n tg1 (Two.cho cl st (shutC rs))) = [] → ∀ H', Same H H' → Q .non H')
theorem lls_lay : ∀ L : List (List (Nat × Nat)), PyData.canLayAll0 (L.map lD) = true
  | [] => rfl
  | S :: r => by
    show (PyData.canLay0 (lD S) && PyData.canLayAll0 (r.map lD)) = true
    rw [lls_lay r, show PyData.canLay0 (lD S) = true from lays S]
    rfl
theorem lls_depth : ∀ L : List (List (Nat × Nat)), PyData.depthAll (L.map lD) ≤ 2
  | [] => Nat.zero_le _
  | S :: r => by
    show max (PyData.depthAll (S.map cData) + 1) (PyData.depthAll (r.map lD)) ≤ 2
    have := lls_depth r
    have := depths S
    omega
theorem lls_cmp (L : List (List (Nat × Nat))) : CmpD (.list (L.map lD)) (.list []) := ⟨lls_lay L, rfl, by
  show PyData.depthAll (L.map lD) + 1 ≤ 64
  have := lls_depth L
  omega⟩
theorem lls_nil (L : List (List (Nat × Nat))) : PyData.eqv (.list (L.map lD)) (.list []) = L.isEmpty := by
  cases L <;> rfl
section
variable {P : Program} {w : World} {K : PySem.W.Frag} {mg : Str → Option Value} {base : Heap} {f : Addr} {fd : FuncData}
theorem sc_law_due : FnScope ["_law_board_here", "_law_things_here", "_law_finding_here", "_law_cells_here", "_law_some", "_law_thing", "_law_looked_here", "_law_number_here", "_law_free", "_law_clears"] ["_law_board_here", "_law_things_here", "_law_finding_here"] (defScope s_law_due) := ⟨rfl, rfl, rfl, by decide +kernel, rfl, by decide +kernel, by decide +kernel⟩
theorem ok_law_due {f1 f2 f3 f4 f5 : Addr} {fd1 fd2 fd3 fd4 fd5 : FuncData} (T : Txt mg) (D : DefAt K mg "_law_due" s_law_due ["_law_board_here", "_law_things_here", "_law_finding_here"] f fd) (D_law_cells : DefAt K mg "_law_cells" s_law_cells ["_law_rows", "_law_signs"] f1 fd1) (D_law_near : DefAt K mg "_law_near" s_law_near ["_law_one", "_law_other"] f2 fd2) (D_law_looked : DefAt K mg "_law_looked" s_law_looked ["_law_board_here", "_law_thing"] f3 fd3) (D_law_number : DefAt K mg "_law_number" s_law_number ["_law_board_here", "_law_thing"] f4 fd4) (D_law_choices : DefAt K mg "_law_choices" s_law_choices ["_law_cells_here", "_law_finding_here"] f5 fd5) : FnOk P w K mg base CX0 3 f fd ["_law_board_here", "_law_things_here", "_law_finding_here"] spDue := by
  have G_law_looked : FnOk P w K mg base CX0 2 f3 fd3 ["_law_board_here", "_law_thing"] spLooked := ok_law_looked T D_law_looked D_law_cells D_law_near
  have G_law_number : FnOk P w K mg base CX0 1 f4 fd4 ["_law_board_here", "_law_thing"] spNumberL := ok_law_number T D_law_number
  have G_law_choices : FnOk P w K mg base CX0 1 f5 fd5 ["_law_cells_here", "_law_finding_here"] spChoices := ok_law_choices T D_law_choices
  refine D.F.ok sc_law_due (fun vs H Q E h => ?_) (fun cdv A outer s H vs Q E hr h => ?_)
  · obtain ⟨p, l, th, fa, fc, fs, rs, n, v1, v2, tg1, tg2, us, ws, cl, st, rfl, _⟩ := h
    rfl
  · obtain ⟨p, l, th, fa, fc, fs, rs, n, v1, v2, tg1, tg2, us, ws, cl, st, rfl, X, l8, q, e⟩ := h
    refine ⟨_, (pss_cons (ps_set (i := 3) sc_law_due.nd rfl (Or.inl rfl) (pe_call G_law_looked (hr.mono (by decide)) (by rfl) D_law_looked.g D_law_looked.F.kp D_law_looked.b .nil pass0 (pa_cons (pv 0) (pa_cons pe_str pa_nil))))
      (pss_cons (ps_set (i := 4) sc_law_due.nd rfl (Or.inr rfl) (pe_call G_law_choices (hr.mono (by decide)) (by rfl) D_law_choices.g D_law_choices.F.kp D_law_choices.b .nil pass0 (pa_cons (pv 3) (pa_cons (pv 2) pa_nil))))
      (pss_cons (ps_for PassesOwn.never rfl (pi_list (pv 1)) (pg_name (i := 5) sc_law_due.nd rfl (Or.inl rfl)) (pss_cons (ps_set (i := 6) sc_law_due.nd rfl (Or.inr rfl) (pe_call G_law_looked (hr.mono (by decide)) (by rfl) D_law_looked.g D_law_looked.F.kp D_law_looked.b .nil pass0 (pa_cons (pv 0) (pa_cons (pv 5) pa_nil))))
      (pss_cons (ps_set (i := 7) sc_law_due.nd rfl (Or.inr rfl) (pe_call G_law_number (hr.mono (by decide)) (by rfl) D_law_number.g D_law_number.F.kp D_law_number.b .nil pass0 (pa_cons (pv 0) (pa_cons (pv 5) pa_nil))))
      (pss_one (ps_set (i := 4) sc_law_due.nd rfl (Or.inr rfl) (pe_comp (N := ["_law_one", "_law_number_here", "_law_looked_here"]) (src := [none, some 7, some 6]) (CompOk.free (O := (defScope s_law_due).names) (XN := ["_law_board_here", "_law_things_here", "_law_finding_here", "_law_cells_here", "_law_some", "_law_thing", "_law_looked_here", "_law_number_here", "_law_free", "_law_clears"]) rfl rfl ⟨_, rfl⟩ rfl rfl (by decide +kernel) (by decide +kernel) (by decide +kernel) rfl (by decide +kernel)) rfl (pi_list (pv 4)) (fun _ _ _ _ _ => (pg_name (i := 0) (by show List.Nodup (["_law_one", "_law_number_here", "_law_looked_here"] : List Str); decide +kernel) rfl (Or.inl rfl))) (fun _ _ _ _ _ => (pifs_one (pt_cmpR op_eq (pe_callB (call_len_seqK (K := K) (by rfl)) (by rfl) T.b_len PySem.boot_len (pa_cons (pe_comp (N := ["_law_cell", "_law_looked_here"]) (src := [none, some 2]) (CompOk.byRfl rfl (by decide +kernel) (by decide +kernel) (by rfl) rfl (by rfl)) (by rfl) (pi_listK (K := K) (by rfl) (pv 0)) (fun _ _ _ _ _ => (pg_name (i := 0) (by show List.Nodup (["_law_cell", "_law_looked_here"] : List Str); decide +kernel) rfl (Or.inl rfl))) (fun _ _ _ _ _ => (pifs_one (pt_cmpR (op_in_deepK (K := K) (by rfl) hr.units) (pv 0) (pv 1) (by rfl)))) (fun _ _ _ _ _ => (pv 0))) pa_nil)) (pv 1) (nomark _)))) (fun _ _ _ _ _ => (pv 0))))))))
      (pss_cons (ps_if (pt_cmpR (op_eq_deep hr.units) (pv 4) (pe_lst pa_nil) (nomark _)) (pss_one (ps_ret pe_non)) pss_nil)
      (pss_cons (ps_setC (i := 8) sc_law_due.nd rfl rfl (N := ["_law_cell", "_law_finding_here"]) (src := [none, some 2]) (CompOk.free (O := (defScope s_law_due).names) (XN := ["_law_board_here", "_law_things_here", "_law_finding_here", "_law_cells_here", "_law_some", "_law_thing", "_law_looked_here", "_law_number_here", "_law_free", "_law_clears"]) rfl rfl ⟨_, rfl⟩ rfl rfl (by decide +kernel) (by decide +kernel) (by decide +kernel) rfl (by decide +kernel)) rfl (pi_list (pv 3)) (fun _ _ _ _ _ => (pg_name (i := 0) (by show List.Nodup (["_law_cell", "_law_finding_here"] : List Str); decide +kernel) rfl (Or.inl rfl))) (fun _ _ _ _ _ => (pifs_one (PW.pt (pw_and (pt_cmpR (op_notIn_deepK (K := K) (by rfl) hr.units) (pv 0) (pe_ix (ix_tupK (K := K) (by rfl)) (pv 1) pe_int (fun _ _ => rfl)) (by rfl)) (pw_and1 (pt_cmpR (op_notIn_deepK (K := K) (by rfl) hr.units) (pv 0) (pe_ix (ix_tupK (K := K) (by rfl)) (pv 1) pe_int (fun _ _ => rfl)) (by rfl))))))) (fun _ _ _ _ _ => (pv 0)))
      (pss_cons (ps_setC1 (i := 9) sc_law_due.nd rfl rfl (N := ["_law_cell", "_law_some"]) (src := [none, some 4]) (CompOk1.byRfl (y := "_law_cell") rfl (fun _ _ => rfl) (fun _ => rfl) (by decide +kernel) (by decide +kernel) (by rfl) rfl (by rfl)) rfl (pi_list (pv 8)) (fun _ _ _ _ _ => (pg_name (i := 0) (by show List.Nodup (["_law_cell", "_law_some"] : List Str); decide +kernel) rfl (Or.inr rfl))) (fun _ _ _ _ _ => (pifs_one (pt_cmpR (op_eq_deepK (K := K) (by rfl) hr.units) (pe_comp (N := ["_law_one", "_law_cell"]) (src := [none, some 0]) (CompOk.byRfl rfl (by decide +kernel) (by decide +kernel) (by rfl) rfl (by rfl)) (by rfl) (pi_listK (K := K) (by rfl) (pv 1)) (fun _ _ _ _ _ => (pg_name (i := 0) (by show List.Nodup (["_law_one", "_law_cell"] : List Str); decide +kernel) rfl (Or.inl rfl))) (fun _ _ _ _ _ => (pifs_one (pt_cmpR (op_in_deepK (K := K) (by rfl) hr.units) (pv 1) (pv 0) (by rfl)))) (fun _ _ _ _ _ => (pv 0))) (pe_lst pa_nil) (nomark _)))) (fun _ _ _ _ _ => (pv 0)))
      (pss_one (ps_ret (pe_tup (pa_cons (pv 9) (pa_cons (pe_comp1 (N := ["_law_cell", "_law_some"]) (src := [none, some 4]) (CompOk1.byRfl (y := "_law_cell") rfl (fun _ _ => rfl) (fun _ => rfl) (by decide +kernel) (by decide +kernel) (by rfl) rfl (by rfl)) rfl (pi_list (pv 8)) (fun _ _ _ _ _ => (pg_name (i := 0) (by show List.Nodup (["_law_cell", "_law_some"] : List Str); decide +kernel) rfl (Or.inr rfl))) (fun _ _ _ _ _ => (pifs_one (pt_cmpR (op_eq_deepK (K := K) (by rfl) hr.units) (pe_comp (N := ["_law_one", "_law_cell"]) (src := [none, some 0]) (CompOk.byRfl rfl (by decide +kernel) (by decide +kernel) (by rfl) rfl (by rfl)) (by rfl) (pi_listK (K := K) (by rfl) (pv 1)) (fun _ _ _ _ _ => (pg_name (i := 0) (by show List.Nodup (["_law_one", "_law_cell"] : List Str); decide +kernel) rfl (Or.inl rfl))) (fun _ _ _ _ _ => (pifs_one (pt_cmpR (op_notIn_deepK (K := K) (by rfl) hr.units) (pv 1) (pv 0) (by rfl)))) (fun _ _ _ _ _ => (pv 0))) (pe_lst pa_nil) (nomark _)))) (fun _ _ _ _ _ => (pv 0))) pa_nil))))))))))), ?_⟩
    refine ⟨_, rfl, p, l, rs, n, _, none, rfl, X.b, X.R, rfl, fun d uc H1 hd hd1 hc1 s1 => ?_⟩
    have hc1' : Cel H1 uc (shutC rs) := hc1
    refine ⟨_, rfl, _, rfl, d, fa, fc, fs, uc, us, ws, shutC rs, cl, st, rfl, hd1, hc1', l8, X.f.mono s1, fun so sw H2 hso hL s2 => ?_⟩
    have s12 := s1.trans s2
    have cl256 : (Two.cho cl st (shutC rs)).length ≤ 256 := Nat.le_trans (Two.cho_len cl st (shutC rs)) (Nat.pow_le_pow_right (n := 2) (by decide) l8)
    have S8 : ∀ S ∈ Two.cho cl st (shutC rs), S.length ≤ 8 := fun S hS => Nat.le_trans (Two.cho_of hS).1.length_le l8
    generalize Two.cho cl st (shutC rs) = L0 at *
    refine ⟨_, rfl, th, rfl, ⟨_, SqL.of (s12 _ _ X.h)⟩, ?_⟩
    refine for_list (K := K) (a := th) (xs := [v1, v2]) (fun i σ H' => ∃ (sa : Addr) (vs : List V) (L : List (List (Nat × Nat))) (v5 v6 v7 v8 v9 : Option V), σ = [some (.ref p), some (.ref th), some (.ref fa), some (.ref d), some (.ref sa), v5, v6, v7, v8, v9] ∧ Same H2 H' ∧ H' sa = some (.lst vs) ∧ RdnAll (fun _ => True) H' vs (L.map lD) ∧ L = ([tg1, tg2].take i).foldl (fun L tg => fitL rs n tg L) L0 ∧ L.length ≤ 256 ∧ ∀ S ∈ L, S.length ≤ 8)
      ⟨so, sw, L0, _, _, _, _, _, rfl, Same.refl _, hso, hL, rfl, cl256, S8⟩ (fun i σ H' _ ⟨_, _, _, _, _, _, _, _, _, z, _⟩ => SqL.of (z _ _ (s12 _ _ X.h))) ?_ ?_
    · rintro i x σ H3 hx ⟨sa, vs, L, v5, v6, v7, v8, v9, rfl, s3, hsa, hR, eL, L256, SL8⟩
      have s13 := s12.trans s3
      obtain ⟨tg, ht, ho, hl, et⟩ : ∃ tg, ThAt H3 x tg ∧ (∀ c, tg = some c → c ∈ openC rs) ∧ (askL rs tg).length ≤ 20 ∧ ([tg1, tg2].take (i + 1)) = ([tg1, tg2].take i) ++ [tg] := by
        match i, hx with
        | 0, hx =>
          have ex : v1 = x := by simpa using hx
          subst ex
          exact ⟨tg1, X.t1.mono s13, X.o1, X.l1, rfl⟩
        | 1, hx =>
          have ex : v2 = x := by simpa using hx
          subst ex
          exact ⟨tg2, X.t2.mono s13, X.o2, X.l2, rfl⟩
        | i + 2, hx =>
          simp at hx
      refine ⟨_, rfl, _, rfl, p, l, rs, n, x, tg, rfl, X.b.mono s13, X.R, ht, fun lk lu H4 hlk hlk4 hck s4 => ?_⟩
      refine ⟨_, rfl, _, rfl, p, l, rs, n, x, tg, rfl, X.b.mono (s13.trans s4), X.R, ht.mono s4, ho, ?_⟩
      have vl : vs.length = L.length := by rw [hR.length, List.length_map]
      refine ⟨_, rfl, sa, rfl, ⟨_, SqL.of (s4 _ _ hsa)⟩, fun z hz => ?_⟩
      refine comp_data (K := K) (a := sa) (xs := vs) (fun a => a ≠ z) (L.map fun S => if decide ((((S.filter fun c => decide (c ∈ askL rs tg)).length : Nat) : Int) = askN rs n tg) = true then some (lD S) else none) (fun σ => ∃ u0, σ = [u0, some (.int (askN rs n tg)), some (.ref lk)]) hz (fun _ h => h) ⟨_, rfl⟩ (by rw [List.length_map]; exact vl.symm) (by rw [vl]; exact Nat.le_trans L256 (by decide)) (SqL.of (s4 _ _ hsa)) ?_ ?_
      · rintro k y o σ H5 hy ho5 s5 _ ⟨u0, rfl⟩ Y Z yes no
        obtain ⟨S, ya, su, hS, rfl, hya, hcS, hrS⟩ := lst_at (RdnAll.off hz (hR.keep s4)) hy
        have eo := map_at hS ho5
        have S8 := SL8 S (List.mem_of_getElem? hS)
        have hya5 := s5 _ _ hya
        refine ⟨_, rfl, ya, rfl, ⟨_, SqL.of hya5⟩, fun z2 hz2 => ?_⟩
        refine comp_data (K := K) (a := ya) (xs := su) (fun a => a ≠ z2) (S.map fun c => if decide (c ∈ askL rs tg) = true then some (cData c) else none) (fun σ => ∃ u0, σ = [u0, some (.ref lk)]) hz2 (fun _ h => h) ⟨_, rfl⟩ (by rw [List.length_map]; exact hcS.length.symm) (by rw [hcS.length]; exact Nat.le_trans S8 (by decide)) (SqL.of hya5) ?_ ?_
        · rintro m yv o2 σ H6 hyv ho6 s6 _ ⟨u1, rfl⟩ Y2 Z2 yes2 no2
          obtain ⟨c, hc, rc⟩ := Cel.get (hcS.mono (s5.trans s6)) hyv
          have eo2 := map_at hc ho6
          refine ⟨_, rfl, _, rfl, cData c, (askL rs tg).map cData, rc.rdv, .lst (SqL.of (s6 _ _ (s5 _ _ hlk4))) (cRdv (hck.mono (s5.trans s6))), rfl, lays _, (by show 1 ≤ 60; decide), _, rfl, ?_⟩
          rw [in_is]
          by_cases hp : decide (c ∈ askL rs tg) = true
          · rw [if_pos hp] at eo2
            exact iteP hp ⟨_, rfl, yes2 _ _ _ _ eo2 ⟨_, rfl⟩ (Same.refl _) rc.rdn⟩
          · rw [if_neg hp] at eo2
            exact iteN (Bool.eq_false_iff.mpr hp) (no2 _ _ eo2 ⟨_, rfl⟩ (Same.refl _))
        · rintro y6 H6 s6 hz6 hr6
          rw [outs_filter] at hr6
          have yl : y6.length = (S.filter fun c => decide (c ∈ askL rs tg)).length := (RdnAll.cel hr6).length
          refine ⟨z2, _, rfl, .inl (SqL.of hz6), _, rfl, rfl, _, rfl, ?_⟩
          have ed : decide (V.int ((y6.length : Nat) : Int) = V.int (askN rs n tg)) = decide ((((S.filter fun c => decide (c ∈ askL rs tg)).length : Nat) : Int) = askN rs n tg) := by
            rw [yl, decide_eq_decide]
            exact ⟨fun h => V.int.inj h, fun h => by rw [h]⟩
          rw [ed]
          by_cases hp : decide ((((S.filter fun c => decide (c ∈ askL rs tg)).length : Nat) : Int) = askN rs n tg) = true
          · rw [if_pos hp] at eo
            exact iteP hp ⟨_, rfl, yes _ _ _ _ eo ⟨_, rfl⟩ s6 (hrS.keep (s5.trans s6))⟩
          · rw [if_neg hp] at eo
            exact iteN (Bool.eq_false_iff.mpr hp) (no _ _ eo ⟨_, rfl⟩ s6)
      · rintro ys H5 s5 hz5 hr5
        rw [outs_filter] at hr5
        refine ⟨z, ys, fitL rs n tg L, _, _, _, _, _, rfl, (s3.trans s4).trans s5, hz5, hr5.mono (Same.refl _) (fun _ _ => trivial), ?_, Nat.le_trans (List.length_filter_le _ _) L256, fun S hS => SL8 S (List.mem_filter.mp hS).1⟩
        rw [et, List.foldl_append, ← eL]
        rfl
    · rintro σ H3 ⟨sa, vs, L, v5, v6, v7, v8, v9, rfl, s3, hsa, hR, eL, L256, SL8⟩
      have eL' : L = fitL rs n tg2 (fitL rs n tg1 L0) := eL
      rw [← eL'] at q e
      have s13 := s12.trans s3
      have vl : vs.length = L.length := by rw [hR.length, List.length_map]
      refine ⟨_, rfl, (by show 0 ≤ sizeLine; decide), fun e0 he0 => ?_⟩
      have z4 := same_new (o := .lst []) he0
      refine ⟨.list (L.map lD), .list [], .lst (SqL.of (z4 _ _ hsa)) (RdnAll.rdv (hR.keep z4)), .lst (SqL.of upd_same) .nil, lls_cmp L, _, rfl, ?_⟩
      have ee : (if false = true then !PyData.eqv (.list (L.map lD)) (.list []) else PyData.eqv (.list (L.map lD)) (.list [])) = L.isEmpty := lls_nil L
      rw [ee]
      by_cases hE : L = []
      · exact iteP (by rw [hE]; rfl) (e hE _ (s13.trans z4))
      have hq := q hE
      refine iteN (by cases L with | nil => exact absurd rfl hE | cons _ _ => rfl) ?_
      generalize upd H3 e0 (.lst []) = H4 at *
      have s14 := s13.trans z4
      have s24 := s2.trans (s3.trans z4)
      have hd4 := s24 _ _ hd1
      have hc4 : Cel H4 uc (shutC rs) := hc1'.mono s24
      have X4 := X.f.mono s14
      have hR4 := hR.keep z4
      have hsa4 := z4 _ _ hsa
      -- free
      refine ⟨_, rfl, d, rfl, ⟨_, SqL.of hd4⟩, fun z hz => ?_⟩
      refine comp_data (K := K) (a := d) (xs := uc) (fun a => a ≠ z) ((shutC rs).map fun c => if (!(decide (c ∈ st) || decide (c ∈ cl))) = true then some (cData c) else none) (fun σ => ∃ u0, σ = [u0, some (.ref fa)]) hz (fun _ h => h) ⟨_, rfl⟩ (by rw [List.length_map]; exact hc4.length.symm) (by rw [hc4.length]; exact Nat.le_trans l8 (by decide)) (SqL.of hd4) ?_ ?_
      · rintro k x o σ H5 hx ho s5 _ ⟨u0, rfl⟩ Y Z yes no
        obtain ⟨y, hy, rc⟩ := Cel.get (Cel.mono s5 hc4) hx
        have eo := map_at hy ho
        have X5 := X4.mono s5
        refine ⟨_, rfl, _, rfl, fa, _, 0, _, rfl, rfl, SqT.of X5.tp, rfl, cData y, cl.map cData, rc.rdv, .lst (SqL.of X5.h1) (cRdv X5.c1), rfl, lays _, (by show 1 ≤ 60; decide), _, rfl, ?_⟩
        rw [notin_is]
        by_cases h1 : y ∈ cl
        · rw [decide_eq_true h1] at eo ⊢
          rw [Bool.or_true, if_neg (by decide)] at eo
          exact iteF (iteF (no _ _ eo ⟨_, rfl⟩ (Same.refl _)))
        · rw [decide_eq_false h1] at eo ⊢
          rw [Bool.or_false] at eo
          refine iteT ⟨_, rfl, _, rfl, fa, _, 1, _, rfl, rfl, SqT.of X5.tp, rfl, cData y, st.map cData, rc.rdv, .lst (SqL.of X5.h2) (cRdv X5.c2), rfl, lays _, (by show 1 ≤ 60; decide), _, rfl, ?_⟩
          rw [notin_is]
          by_cases hp : (!decide (y ∈ st)) = true
          · rw [if_pos hp] at eo
            exact iteP hp ⟨_, rfl, yes _ _ _ _ eo ⟨_, rfl⟩ (Same.refl _) rc.rdn⟩
          · rw [if_neg hp] at eo
            exact iteN (Bool.eq_false_iff.mpr hp) (no _ _ eo ⟨_, rfl⟩ (Same.refl _))
      rintro yf H5 s5 hz5 hr5
      rw [outs_filter] at hr5
      have hcf : Cel H5 yf (freeC cl st (shutC rs)) := RdnAll.cel hr5
      have f8 : (freeC cl st (shutC rs)).length ≤ 8 := Nat.le_trans (List.length_filter_le _ _) l8
      generalize freeC cl st (shutC rs) = F at *
      have hR5 := hR4.keep s5
      have hsa5 := s5 _ _ hsa4
      -- clears
      refine ⟨_, rfl, z, rfl, ⟨_, SqL.of hz5⟩, fun y1 hy1 => ?_⟩
      refine comp_data (K := K) (a := z) (xs := yf) (fun a => a ≠ y1) (F.map fun c => if ((L.filter fun S => decide (c ∈ S)).isEmpty) = true then some (cData c) else none) (fun σ => ∃ u0, σ = [u0, some (.ref sa)]) hy1 (fun _ h => h) ⟨_, rfl⟩ (by rw [List.length_map]; exact hcf.length.symm) (by rw [hcf.length]; exact Nat.le_trans f8 (by decide)) (SqL.of hz5) ?_ ?_
      · rintro k x o σ H6 hx ho s6 _ ⟨u0, rfl⟩ Y Z yes no
        obtain ⟨c, hc, rc⟩ := Cel.get (Cel.mono s6 hcf) hx
        have eo := map_at hc ho
        refine ⟨_, rfl, sa, rfl, ⟨_, SqL.of (s6 _ _ hsa5)⟩, fun y2 hy2 => ?_⟩
        refine comp_data (K := K) (a := sa) (xs := vs) (fun a => a ≠ y2) (L.map fun S => if decide (c ∈ S) = true then some (lD S) else none) (fun σ => ∃ u0, σ = [u0, some x]) hy2 (fun _ h => h) ⟨_, rfl⟩ (by rw [List.length_map]; exact vl.symm) (by rw [vl]; exact Nat.le_trans L256 (by decide)) (SqL.of (s6 _ _ hsa5)) ?_ ?_
        · rintro m yv o2 σ H7 hyv ho7 s7 _ ⟨u1, rfl⟩ Y2 Z2 yes2 no2
          obtain ⟨S, ya, su, hS, rfl, hya, hcS, hrS⟩ := lst_at (RdnAll.off hy2 (hR5.keep s6)) hyv
          have eo2 := map_at hS ho7
          refine ⟨_, rfl, _, rfl, cData c, S.map cData, Rdv.kept s7 rc.rdv, .lst (SqL.of (s7 _ _ hya)) (cRdv (hcS.mono s7)), rfl, lays _, (by show 1 ≤ 60; decide), _, rfl, ?_⟩
          rw [in_is]
          by_cases hp : decide (c ∈ S) = true
          · rw [if_pos hp] at eo2
            exact iteP hp ⟨_, rfl, yes2 _ _ _ _ eo2 ⟨_, rfl⟩ (Same.refl _) (hrS.keep s7)⟩
          · rw [if_neg hp] at eo2
            exact iteN (Bool.eq_false_iff.mpr hp) (no2 _ _ eo2 ⟨_, rfl⟩ (Same.refl _))
        · rintro y7 H7 s7 hy7 hr7
          rw [outs_filter] at hr7
          refine ⟨(by show 0 ≤ sizeLine; decide), fun e8 he8 => ?_⟩
          have z8 := same_new (o := .lst []) he8
          refine ⟨.list ((L.filter fun S => decide (c ∈ S)).map lD), .list [], .lst (SqL.of (z8 _ _ hy7)) (RdnAll.rdv (hr7.keep z8)), .lst (SqL.of upd_same) .nil, lls_cmp _, _, rfl, ?_⟩
          have e9 : (if false = true then !PyData.eqv (.list ((L.filter fun S => decide (c ∈ S)).map lD)) (.list []) else PyData.eqv (.list ((L.filter fun S => decide (c ∈ S)).map lD)) (.list [])) = (L.filter fun S => decide (c ∈ S)).isEmpty := lls_nil _
          rw [e9]
          have s78 := s7.trans z8
          by_cases hp : (L.filter fun S => decide (c ∈ S)).isEmpty = true
          · rw [if_pos hp] at eo
            exact iteP hp ⟨_, rfl, yes _ _ _ _ eo ⟨_, rfl⟩ s78 (rc.rdn.keep s78)⟩
          · rw [if_neg hp] at eo
            exact iteN (Bool.eq_false_iff.mpr hp) (no _ _ eo ⟨_, rfl⟩ s78)
      rintro yc H6 s6 hy6 hr6
      rw [outs_filter] at hr6
      have hcc : Cel H6 yc (clearL L F) := RdnAll.cel hr6
      have hR6 := hR5.keep s6
      have hsa6 := s6 _ _ hsa5
      have hz6 := s6 _ _ hz5
      have hcf6 := hcf.mono s6
      -- stones
      refine ⟨_, rfl, _, rfl, z, rfl, ⟨_, SqL.of hz6⟩, fun y1' hy1' => ?_⟩
      refine comp_data (K := K) (a := z) (xs := yf) (fun a => a ≠ y1') (F.map fun c => if ((L.filter fun S => !decide (c ∈ S)).isEmpty) = true then some (cData c) else none) (fun σ => ∃ u0, σ = [u0, some (.ref sa)]) hy1' (fun _ h => h) ⟨_, rfl⟩ (by rw [List.length_map]; exact hcf.length.symm) (by rw [hcf.length]; exact Nat.le_trans f8 (by decide)) (SqL.of hz6) ?_ ?_
      · rintro k x o σ H7 hx ho s7 _ ⟨u0, rfl⟩ Y Z yes no
        obtain ⟨c, hc, rc⟩ := Cel.get (Cel.mono s7 hcf6) hx
        have eo := map_at hc ho
        refine ⟨_, rfl, sa, rfl, ⟨_, SqL.of (s7 _ _ hsa6)⟩, fun y2 hy2 => ?_⟩
        refine comp_data (K := K) (a := sa) (xs := vs) (fun a => a ≠ y2) (L.map fun S => if (!decide (c ∈ S)) = true then some (lD S) else none) (fun σ => ∃ u0, σ = [u0, some x]) hy2 (fun _ h => h) ⟨_, rfl⟩ (by rw [List.length_map]; exact vl.symm) (by rw [vl]; exact Nat.le_trans L256 (by decide)) (SqL.of (s7 _ _ hsa6)) ?_ ?_
        · rintro m yv o2 σ H8 hyv ho8 s8 _ ⟨u1, rfl⟩ Y2 Z2 yes2 no2
          obtain ⟨S, ya, su, hS, rfl, hya, hcS, hrS⟩ := lst_at (RdnAll.off hy2 (hR6.keep s7)) hyv
          have eo2 := map_at hS ho8
          refine ⟨_, rfl, _, rfl, cData c, S.map cData, Rdv.kept s8 rc.rdv, .lst (SqL.of (s8 _ _ hya)) (cRdv (hcS.mono s8)), rfl, lays _, (by show 1 ≤ 60; decide), _, rfl, ?_⟩
          rw [notin_is]
          by_cases hp : (!decide (c ∈ S)) = true
          · rw [if_pos hp] at eo2
            exact iteP hp ⟨_, rfl, yes2 _ _ _ _ eo2 ⟨_, rfl⟩ (Same.refl _) (hrS.keep s8)⟩
          · rw [if_neg hp] at eo2
            exact iteN (Bool.eq_false_iff.mpr hp) (no2 _ _ eo2 ⟨_, rfl⟩ (Same.refl _))
        · rintro y7 H8 s8 hy8 hr8
          rw [outs_filter] at hr8
          refine ⟨(by show 0 ≤ sizeLine; decide), fun e8 he8 => ?_⟩
          have z8 := same_new (o := .lst []) he8
          refine ⟨.list ((L.filter fun S => !decide (c ∈ S)).map lD), .list [], .lst (SqL.of (z8 _ _ hy8)) (RdnAll.rdv (hr8.keep z8)), .lst (SqL.of upd_same) .nil, lls_cmp _, _, rfl, ?_⟩
          have e9 : (if false = true then !PyData.eqv (.list ((L.filter fun S => !decide (c ∈ S)).map lD)) (.list []) else PyData.eqv (.list ((L.filter fun S => !decide (c ∈ S)).map lD)) (.list [])) = (L.filter fun S => !decide (c ∈ S)).isEmpty := lls_nil _
          rw [e9]
          have s88 := s8.trans z8
          by_cases hp : (L.filter fun S => !decide (c ∈ S)).isEmpty = true
          · rw [if_pos hp] at eo
            exact iteP hp ⟨_, rfl, yes _ _ _ _ eo ⟨_, rfl⟩ s88 (rc.rdn.keep s88)⟩
          · rw [if_neg hp] at eo
            exact iteN (Bool.eq_false_iff.mpr hp) (no _ _ eo ⟨_, rfl⟩ s88)
      rintro yt H7 s7 hy7 hr7
      rw [outs_filter] at hr7
      have hct : Cel H7 yt (stoneL L F) := RdnAll.cel hr7
      refine ⟨(by show 2 ≤ sizeLine; decide), fun t ht => ?_⟩
      have z9 := same_new (o := .tup [.ref y1, .ref y1']) ht
      have s9 := s7.trans z9
      exact hq t y1 y1' yc yt _ upd_same (s9 _ _ hy6) (z9 _ _ hy7) (hcc.mono s9) (hct.mono z9) (s14.trans (s5.trans (s6.trans s9)))
end

/-! The choices that fit, and what is told of two things. -/
theorem lie_len (st : List (Nat × Nat)) : ∀ cs : List (Nat × Nat), (lieC st cs).sum = (((cs.filter fun c => decide (c ∈ st)).length : Nat) : Int)
  | [] => rfl
  | c :: r => by
    have ih := lie_len st r
    have e : (lieC st (c :: r)).sum = (if c ∈ st then 1 else 0) + (lieC st r).sum := by
      unfold lieC
      rw [List.map_cons, List.sum_cons]
    rw [e, ih, List.filter_cons]
    by_cases h : c ∈ st
    · rw [if_pos h, if_pos (decide_eq_true h), List.length_cons]
      omega
    · rw [if_neg h, if_neg (by rw [decide_eq_false h]; exact Bool.false_ne_true)]
      omega
theorem ask_cnt {cl st cs ask S : List (Nat × Nat)} (hcs : cs.Nodup) (ha : ask.Nodup) (sub : ∀ c ∈ ask, c ∈ cs) (hS : S ∈ Two.cho cl st cs) : (((S.filter fun c => decide (c ∈ ask)).length : Nat) : Int) = (lieC st ask).sum + (Two.cnt (freeC cl st ask) S : Nat) := by
  obtain ⟨h1, h2, h3⟩ := Two.cho_of hS
  have e0 : (S.filter fun c => decide (c ∈ ask)).length = Two.cnt ask S := Two.cnt_turn (h1.nodup hcs) ha
  rw [e0, lie_len, Two.cnt_part (fun c => decide (c ∈ st)) S ask]
  have e1 : Two.cnt (ask.filter fun c => decide (c ∈ st)) S = (ask.filter fun c => decide (c ∈ st)).length := by
    unfold Two.cnt
    rw [List.filter_eq_self.mpr]
    intro x hx
    have hm := List.mem_filter.mp hx
    exact decide_eq_true (h2 x (sub x hm.1) (of_decide_eq_true hm.2))
  have e2 : Two.cnt (ask.filter fun c => !decide (c ∈ st)) S = Two.cnt (freeC cl st ask) S := by
    unfold Two.cnt freeC
    rw [List.filter_filter, List.filter_filter]
    congr 1
    refine List.filter_congr fun x hx => ?_
    by_cases a1 : x ∈ S
    · have a2 := h3 x a1
      rw [decide_eq_true a1, decide_eq_false a2, Bool.or_false]
    · rw [decide_eq_false a1]
      rfl
  rw [e1, e2]
  omega
theorem ask_in {rs : List Str} : ∀ {tg : Option (Nat × Nat)} {c : Nat × Nat}, c ∈ askL rs tg → c ∈ shutC rs
  | none, _, h => h
  | some _, _, h => by
    have h' : _ ∈ clA rs _ := h
    rw [near_shut] at h'
    exact (List.mem_filter.mp h').1
theorem free_of {cl st ask : List (Nat × Nat)} {c : Nat × Nat} : c ∈ freeC cl st ask ↔ c ∈ ask ∧ c ∉ st ∧ c ∉ cl := by
  unfold freeC
  rw [List.mem_filter]
  constructor
  · rintro ⟨h1, h2⟩
    refine ⟨h1, fun z => ?_, fun z => ?_⟩
    · rw [decide_eq_true z] at h2
      cases h2
    · rw [decide_eq_true z, Bool.or_true] at h2
      cases h2
  · rintro ⟨h1, h2, h3⟩
    refine ⟨h1, ?_⟩
    rw [decide_eq_false h2, decide_eq_false h3]
    rfl
section
variable {rs : List Str} {n : Int} {tg1 tg2 : Option (Nat × Nat)} {cl st : List (Nat × Nat)}
theorem shut_nd (rs : List Str) : (shutC rs).Nodup := lex_nodup (Cells.allCs_lex _ 0 (codes rs))
theorem two_in (ap : ∀ c ∈ cl, c ∉ st) : Two.In cl st (shutC rs) (freeN rs tg1 cl st) (freeN rs tg2 cl st) := by
  have nd : ∀ tg, (freeN rs tg cl st).Nodup := fun tg => lex_nodup ((ask_lex rs tg).sublist List.filter_sublist)
  refine ⟨shut_nd rs, nd _, nd _, fun c hc => ?_, fun c hc => ?_, ap⟩
  · have h := free_of.mp hc
    exact ⟨ask_in h.1, h.2⟩
  · have h := free_of.mp hc
    exact ⟨ask_in h.1, h.2⟩
theorem two_ends (A B : List (Nat × Nat)) (a b : Int) : Two.Ends A B a b (loOf A B a b) (hiOf A B a b) := by
  unfold loOf hiOf mx3 mn3
  constructor <;> (repeat' split) <;> omega
theorem fit_mem (S : List (Nat × Nat)) : S ∈ fitL rs n tg2 (fitL rs n tg1 (Two.cho cl st (shutC rs))) ↔ Two.Fit cl st (shutC rs) (freeN rs tg1 cl st) (freeN rs tg2 cl st) (restN rs n tg1 st) (restN rs n tg2 st) S := by
  have one : ∀ tg, S ∈ Two.cho cl st (shutC rs) → ((((S.filter fun c => decide (c ∈ askL rs tg)).length : Nat) : Int) = askN rs n tg ↔ (Two.cnt (freeN rs tg cl st) S : Int) = restN rs n tg st) := fun tg hS => by
    have h := ask_cnt (cl := cl) (st := st) (ask := askL rs tg) (shut_nd rs) (lex_nodup (ask_lex rs tg)) (fun c hc => ask_in hc) hS
    unfold restN freeN
    omega
  unfold fitL
  rw [List.mem_filter, List.mem_filter, decide_eq_true_eq, decide_eq_true_eq]
  constructor
  · rintro ⟨⟨h1, h2⟩, h3⟩
    exact ⟨h1, (one tg1 h1).mp h2, (one tg2 h1).mp h3⟩
  · rintro ⟨h1, h2, h3⟩
    exact ⟨⟨h1, (one tg1 h1).mpr h2⟩, (one tg2 h1).mpr h3⟩
end
theorem fit_turn {cl st cs A B S : List (Nat × Nat)} {a b : Int} : Two.Fit cl st cs A B a b S ↔ Two.Fit cl st cs B A b a S := ⟨fun h => ⟨h.ch, h.fb, h.fa⟩, fun h => ⟨h.ch, h.fb, h.fa⟩⟩
section
variable {cl st cs A B : List (Nat × Nat)} {a b : Int} {L : List (List (Nat × Nat))}
theorem due_some (I : Two.In cl st cs A B) (hL : ∀ S, S ∈ L ↔ Two.Fit cl st cs A B a b S) : L ≠ [] ↔ loOf A B a b ≤ hiOf A B a b := by
  rw [← Two.fit_iff I (two_ends A B a b)]
  constructor
  · intro h
    obtain ⟨S, hS⟩ := List.exists_mem_of_ne_nil L h
    exact ⟨S, (hL S).mp hS⟩
  · rintro ⟨S, hS⟩ z
    have := (hL S).mpr hS
    rw [z] at this
    cases this
theorem due_clear (I : Two.In cl st cs A B) (hL : ∀ S, S ∈ L ↔ Two.Fit cl st cs A B a b S) (h : loOf A B a b ≤ hiOf A B a b) (lx : cs.Pairwise Cells.lex) {c1 : List (Nat × Nat)} (p : c1.Perm (clearsOf (gsOf A B a b))) (x : c1.Pairwise Cells.lex) : c1 = clearL L (freeC cl st cs) := by
  have lx2 : (clearL L (freeC cl st cs)).Pairwise Cells.lex := (lx.sublist List.filter_sublist).sublist List.filter_sublist
  refine lex_same ((List.perm_ext_iff_of_nodup (lex_nodup x) (lex_nodup lx2)).mpr fun c => ?_) x lx2
  have e1 : c ∈ clearsOf (gsOf A B a b) ↔ (c ∈ Two.both A B ∧ hiOf A B a b = 0) ∨ (c ∈ Two.alone A B ∧ a - loOf A B a b = 0) ∨ (c ∈ Two.alone B A ∧ b - loOf A B a b = 0) := by
    unfold clearsOf gsOf
    simp only [List.flatMap_cons, List.flatMap_nil, List.append_nil, List.mem_append]
    have m : ∀ (q : Prop) [Decidable q] (l : List (Nat × Nat)), c ∈ (if q then l else []) ↔ c ∈ l ∧ q := fun q _ l => by
      split
      · rename_i hq
        exact ⟨fun z => ⟨z, hq⟩, fun z => z.1⟩
      · rename_i hq
        exact ⟨(fun z => nomatch z), fun z => absurd z.2 hq⟩
    rw [m, m, m]
  have e2 : c ∈ clearL L (freeC cl st cs) ↔ c ∈ freeC cl st cs ∧ ∀ S, Two.Fit cl st cs A B a b S → c ∉ S := by
    unfold clearL
    rw [List.mem_filter]
    refine and_congr_right fun _ => ?_
    rw [List.isEmpty_iff, List.filter_eq_nil_iff]
    constructor
    · intro z S hS hc
      exact z S ((hL S).mpr hS) (decide_eq_true hc)
    · intro z S hS hc
      exact z S ((hL S).mp hS) (of_decide_eq_true hc)
  rw [p.mem_iff, e1, e2]
  constructor
  · intro z
    have hc : c ∈ cs ∧ c ∉ st ∧ c ∉ cl := by
      rcases z with z | z | z
      · exact I.a c (List.mem_filter.mp z.1).1
      · exact I.a c (List.mem_filter.mp z.1).1
      · exact I.b c (List.mem_filter.mp z.1).1
    exact ⟨free_of.mpr hc, (Two.clear_iff I (two_ends A B a b) h hc.1 hc.2.1 hc.2.2).mpr z⟩
  · rintro ⟨h1, h2⟩
    have hc := free_of.mp h1
    exact (Two.clear_iff I (two_ends A B a b) h hc.1 hc.2.1 hc.2.2).mp h2
theorem due_stone (I : Two.In cl st cs A B) (hL : ∀ S, S ∈ L ↔ Two.Fit cl st cs A B a b S) (h : loOf A B a b ≤ hiOf A B a b) (lx : cs.Pairwise Cells.lex) {c1 : List (Nat × Nat)} (p : c1.Perm (stonesOf (gsOf A B a b))) (x : c1.Pairwise Cells.lex) : c1 = stoneL L (freeC cl st cs) := by
  have lx2 : (stoneL L (freeC cl st cs)).Pairwise Cells.lex := (lx.sublist List.filter_sublist).sublist List.filter_sublist
  refine lex_same ((List.perm_ext_iff_of_nodup (lex_nodup x) (lex_nodup lx2)).mpr fun c => ?_) x lx2
  have e1 : c ∈ stonesOf (gsOf A B a b) ↔ (c ∈ Two.both A B ∧ loOf A B a b = ((Two.both A B).length : Nat)) ∨ (c ∈ Two.alone A B ∧ a - hiOf A B a b = ((Two.alone A B).length : Nat)) ∨ (c ∈ Two.alone B A ∧ b - hiOf A B a b = ((Two.alone B A).length : Nat)) := by
    unfold stonesOf gsOf
    simp only [List.flatMap_cons, List.flatMap_nil, List.append_nil, List.mem_append]
    have m : ∀ (q : Prop) [Decidable q] (l : List (Nat × Nat)), c ∈ (if q then l else []) ↔ c ∈ l ∧ q := fun q _ l => by
      split
      · rename_i hq
        exact ⟨fun z => ⟨z, hq⟩, fun z => z.1⟩
      · rename_i hq
        exact ⟨(fun z => nomatch z), fun z => absurd z.2 hq⟩
    rw [m, m, m]
  have e2 : c ∈ stoneL L (freeC cl st cs) ↔ c ∈ freeC cl st cs ∧ ∀ S, Two.Fit cl st cs A B a b S → c ∈ S := by
    unfold stoneL
    rw [List.mem_filter]
    refine and_congr_right fun _ => ?_
    rw [List.isEmpty_iff, List.filter_eq_nil_iff]
    constructor
    · intro z S hS
      have := z S ((hL S).mpr hS)
      simpa using this
    · intro z S hS hc
      have := z S ((hL S).mp hS)
      rw [decide_eq_true this] at hc
      cases hc
  rw [p.mem_iff, e1, e2]
  constructor
  · intro z
    have hc : c ∈ cs ∧ c ∉ st ∧ c ∉ cl := by
      rcases z with z | z | z
      · exact I.a c (List.mem_filter.mp z.1).1
      · exact I.a c (List.mem_filter.mp z.1).1
      · exact I.b c (List.mem_filter.mp z.1).1
    exact ⟨free_of.mpr hc, (Two.stone_iff I (two_ends A B a b) h hc.1 hc.2.1 hc.2.2).mpr z⟩
  · rintro ⟨h1, h2⟩
    have hc := free_of.mp h1
    exact (Two.stone_iff I (two_ends A B a b) h hc.1 hc.2.1 hc.2.2).mp h2
end

/-! _law_is_finding, _law_mixed, _law_mark. -/
def fData (c1 c2 : List (Nat × Nat)) : PyData := .tuple [.list (c1.map cData), .list (c2.map cData)]
theorem fData_cmp (c1 c2 : List (Nat × Nat)) : CmpD (fData c1 c2) (fData c1 c2) := by
  have h1 : PyData.canLay0 (fData c1 c2) = true := by
    show (PyData.canLay0 (.list (c1.map cData)) && (PyData.canLay0 (.list (c2.map cData)) && true)) = true
    rw [show PyData.canLay0 (.list (c1.map cData)) = true from lays c1, show PyData.canLay0 (.list (c2.map cData)) = true from lays c2]
    rfl
  refine ⟨h1, h1, ?_⟩
  show max (PyData.depthAll (c1.map cData) + 1) (max (PyData.depthAll (c2.map cData) + 1) 0) + 1 ≤ 64
  have a := depths c1
  have b := depths c2
  omega
theorem FindAt.rdv {K : PySem.W.Frag} {H : Hp} {fa fc fs : Addr} {us ws : List V} {cl st : List (Nat × Nat)} (x : FindAt H fa fc fs us ws cl st) : Rdv K H (.ref fa) (fData cl st) := .tup (SqT.of x.tp) (.cons (.lst (SqL.of x.h1) (cRdv x.c1)) (.cons (.lst (SqL.of x.h2) (cRdv x.c2)) .nil))
def spIsF : Sp := fun vs H Q _ => ∃ (a a1 a2 b b1 b2 : Addr) (u1 u2 w1 w2 : List V) (c1 c2 : List (Nat × Nat)), vs = [.ref a, .ref b] ∧ FindAt H a a1 a2 u1 u2 c1 c2 ∧ FindAt H b b1 b2 w1 w2 c1 c2 ∧ Q (.bl true) H
def spMixed : Sp := fun vs H Q _ => ∃ (c k : Int), vs = [.int c, .int k] ∧ ∀ z : Int, Q (.int z) H
def marks : List Nat := [35, 111, 99, 46]
def spMark : Sp := fun vs H Q _ => ∃ (x o m : Int) (r : Bool), vs = [.int x, .int o, .int m, .bl r] ∧ 0 < o ∧ ∀ k : Nat, k ∈ marks → (r = false → k ≠ 111 ∧ k ≠ 99) → Q (.str ⟨#[k]⟩) H
theorem mk_o : ("o" : Str) = ⟨#[111]⟩ := by decide +kernel
theorem mk_c : ("c" : Str) = ⟨#[99]⟩ := by decide +kernel
theorem mk_d : ("." : Str) = ⟨#[46]⟩ := by decide +kernel
section
variable {P : Program} {w : World} {K : PySem.W.Frag} {mg : Str → Option Value} {base : Heap} {f : Addr} {fd : FuncData}
theorem sc_law_is_finding : FnScope ["_law_found", "_law_due_here"] ["_law_found", "_law_due_here"] (defScope s_law_is_finding) := ⟨rfl, rfl, rfl, by decide +kernel, rfl, by decide +kernel, by decide +kernel⟩
theorem ok_law_is_finding (T : Txt mg) (D : DefAt K mg "_law_is_finding" s_law_is_finding ["_law_found", "_law_due_here"] f fd) : FnOk P w K mg base CX0 1 f fd ["_law_found", "_law_due_here"] spIsF := by
  refine D.F.ok sc_law_is_finding (fun vs H Q E h => ?_) (fun cdv A outer s H vs Q E hr h => ?_)
  · obtain ⟨a, a1, a2, b, b1, b2, u1, u2, w1, w2, c1, c2, rfl, _⟩ := h
    rfl
  · obtain ⟨a, a1, a2, b, b1, b2, u1, u2, w1, w2, c1, c2, rfl, X, Y, q⟩ := h
    refine ⟨_, (pss_cons (ps_if (PW.pt (pw_or (pt_not (pt_truth (pe_callB call_isinst (by rfl) T.b_isinstance PyProof.Rows.boot_isinstance (pa_cons (pv 0) (pa_cons (pe_bltn (v := .ty "tuple") (by rfl) T.b_tuple PyProof.Rows.boot_tuple (by rfl)) pa_nil))) (fun _ => rfl))) (pw_or (pt_cmpR op_ne (pe_callB call_len_seq (by rfl) T.b_len PySem.boot_len (pa_cons (pv 0) pa_nil)) pe_int (nomark _)) (pw_or1 (pt_cmpR (op_ne_deep hr.units) (pv 0) (pv 1) (nomark _)))))) (pss_one (ps_ret pe_bl)) pss_nil)
      (pss_one (ps_ret (pe_and (pe_callB call_isinst (by rfl) T.b_isinstance PyProof.Rows.boot_isinstance (pa_cons (pe_ix ix_tup (pv 0) pe_int (fun _ _ => rfl)) (pa_cons (pe_bltn (v := .ty "list") (by rfl) T.b_list PyProof.Rows.boot_list (by rfl)) pa_nil))) (pe_one (pe_callB call_isinst (by rfl) T.b_isinstance PyProof.Rows.boot_isinstance (pa_cons (pe_ix ix_tup (pv 0) pe_int (fun _ _ => rfl)) (pa_cons (pe_bltn (v := .ty "list") (by rfl) T.b_list PyProof.Rows.boot_list (by rfl)) pa_nil)))))))), ?_⟩
    refine ⟨_, rfl, _, "tuple", "tuple", true, rfl, .tup X.tp, (by decide +kernel), true, rfl, iteF ?_⟩
    refine ⟨_, rfl, a, _, rfl, .inr (SqT.of X.tp), rfl, _, rfl, iteNS rfl ?_⟩
    refine ⟨_, rfl, _, rfl, _, _, X.rdv, Y.rdv, fData_cmp c1 c2, _, rfl, iteN ?_ ?_⟩
    · show (!PyData.eqv (fData c1 c2) (fData c1 c2)) = false
      rw [SeqAt.eqv_refl _ (fData_cmp c1 c2).l1]
      rfl
    refine ⟨_, rfl, a, _, 0, _, rfl, rfl, SqT.of X.tp, rfl, _, "list", "list", true, rfl, .lst X.h1, (by decide +kernel), true, rfl, iteT ?_⟩
    exact ⟨_, rfl, a, _, 1, _, rfl, rfl, SqT.of X.tp, rfl, _, "list", "list", true, rfl, .lst X.h2, (by decide +kernel), q⟩
theorem sc_law_mixed : FnScope ["_law_cell", "_law_k", "_law_drawn_here"] ["_law_cell", "_law_k"] (defScope s_law_mixed) := ⟨rfl, rfl, rfl, by decide +kernel, rfl, by decide +kernel, by decide +kernel⟩
theorem ok_law_mixed (D : DefAt K mg "_law_mixed" s_law_mixed ["_law_cell", "_law_k"] f fd) : FnOk P w K mg base CX0 1 f fd ["_law_cell", "_law_k"] spMixed := by
  refine D.F.ok sc_law_mixed (fun vs H Q E h => ?_) (fun cdv A outer s H vs Q E hr h => ?_)
  · obtain ⟨c, i, rfl, _⟩ := h
    rfl
  · obtain ⟨c, i, rfl, k⟩ := h
    refine ⟨_, (pss_cons (ps_set (i := 2) sc_law_mixed.nd rfl (Or.inl rfl) (pe_op op_mod (pe_op op_add (pe_op op_add (pe_op op_mod (pv 0) pe_int) (pe_op op_mulG pe_int (pv 1))) pe_int) pe_int))
      (pss_cons (ps_set (i := 2) sc_law_mixed.nd rfl (Or.inl rfl) (pe_op op_mod (pe_op op_mulG (pe_op op_mod (pe_op op_mulG (pv 2) (pv 2)) pe_int) pe_int) pe_int))
      (pss_one (ps_ret (pe_op op_fdivG (pv 2) pe_int))))), ?_⟩
    refine ⟨_, rfl, _, _, rfl, rfl, (by show (0 : Int) < 2147483629; decide), _, rfl, _, _, rfl, rfl, mulL (by decide) (by decide), _, _, rfl, rfl, _, _, rfl, rfl, _, _, rfl, rfl, (by show (0 : Int) < 2147483647; decide), ?_⟩
    have a0 := Int.emod_nonneg (c % 2147483629 + 7919 * i + 11) (show (2147483647 : Int) ≠ 0 by decide)
    have a1 := Int.emod_lt_of_pos (c % 2147483629 + 7919 * i + 11) (show (0 : Int) < 2147483647 by decide)
    generalize (c % 2147483629 + 7919 * i + 11) % 2147483647 = d at *
    refine ⟨_, rfl, _, rfl, _, _, rfl, rfl, mulL (by omega) (by omega), _, _, rfl, rfl, (by show (0 : Int) < 2147483647; decide), _, _, rfl, rfl, mulS (by decide) (by decide), _, _, rfl, rfl, (by show (0 : Int) < 2147483587; decide), ?_⟩
    exact ⟨_, rfl, _, _, rfl, rfl, CDivG.small (by decide) (by decide), k _⟩
theorem sc_law_mark : FnScope ["_law_drawn_here", "_law_often", "_law_many", "_law_room"] ["_law_drawn_here", "_law_often", "_law_many", "_law_room"] (defScope s_law_mark) := ⟨rfl, rfl, rfl, by decide +kernel, rfl, by decide +kernel, by decide +kernel⟩
theorem ok_law_mark (D : DefAt K mg "_law_mark" s_law_mark ["_law_drawn_here", "_law_often", "_law_many", "_law_room"] f fd) : FnOk P w K mg base CX0 1 f fd ["_law_drawn_here", "_law_often", "_law_many", "_law_room"] spMark := by
  refine D.F.ok sc_law_mark (fun vs H Q E h => ?_) (fun cdv A outer s H vs Q E hr h => ?_)
  · obtain ⟨x, o, m, r, rfl, _⟩ := h
    rfl
  · obtain ⟨x, o, m, r, rfl, ho, q⟩ := h
    refine ⟨_, (pss_cons (ps_if (pt_cmpR op_eq (pe_op op_mod (pe_op op_fdivG (pv 0) pe_int) pe_int) pe_int (nomark _)) (pss_one (ps_ret pe_str)) pss_nil)
      (pss_cons (ps_if (PW.pt (pw_and (pt_truth (pv 3) (fun _ => rfl)) (pw_and1 (pt_cmpR op_eq (pe_op op_mod (pe_op op_mod (pv 0) pe_int) (pv 1)) pe_int (nomark _))))) (pss_one (ps_ret pe_str)) pss_nil)
      (pss_cons (ps_if (PW.pt (pw_and (pt_truth (pv 3) (fun _ => rfl)) (pw_and1 (pt_cmpR op_lt (pe_op op_mod (pe_op op_fdivG (pv 0) pe_int) pe_int) (pv 2) (nomark _))))) (pss_one (ps_ret pe_str)) pss_nil)
      (pss_one (ps_ret pe_str))))), ?_⟩
    have q1 : Q (.str "#") H := by
      rw [hash_is]
      exact q 35 (by decide) (fun _ => ⟨by decide, by decide⟩)
    have q4 : Q (.str ".") H := by
      rw [mk_d]
      exact q 46 (by decide) (fun _ => ⟨by decide, by decide⟩)
    refine ⟨_, rfl, _, _, rfl, rfl, CDivG.small (by decide) (by decide), _, _, rfl, rfl, (by show (0 : Int) < 13; decide), rfl, _, rfl, ite2 (fun _ => q1) (fun _ => ?_)⟩
    cases r with
    | false =>
      refine ⟨_, rfl, _, rfl, iteF (iteF ?_)⟩
      exact ⟨_, rfl, _, rfl, iteF (iteF q4)⟩
    | true =>
      have q2 : Q (.str "o") H := by
        rw [mk_o]
        exact q 111 (by decide) (fun h => nomatch h)
      have q3 : Q (.str "c") H := by
        rw [mk_c]
        exact q 99 (by decide) (fun h => nomatch h)
      refine ⟨_, rfl, _, rfl, iteT ⟨_, rfl, _, _, rfl, rfl, (by show (0 : Int) < 64; decide), _, rfl, _, _, rfl, rfl, ho, rfl, _, rfl, ite2 (fun _ => q2) (fun _ => ?_)⟩⟩
      exact ⟨_, rfl, _, rfl, iteT ⟨_, rfl, _, _, rfl, rfl, CDivG.small (by decide) (by decide), _, _, rfl, rfl, (by show (0 : Int) < 5; decide), _, rfl, _, _, rfl, rfl, _, rfl, ite2 (fun _ => q3) (fun _ => q4)⟩⟩
end

/-! _law_drawn: the marks of a board. -/
def isShut (k : Nat) : Bool := decide (k = 111) || decide (k = 99)
def cntR (t : List Nat) : Nat := (t.filter isShut).length
def cntG (gs : List (List Nat)) : Nat := (gs.map cntR).sum
theorem cntR_snoc (t : List Nat) (k : Nat) : cntR (t ++ [k]) = cntR t + (if isShut k = true then 1 else 0) := by
  unfold cntR
  rw [List.filter_append, List.length_append, List.filter_cons]
  split <;> rfl
theorem cntG_snoc (gs : List (List Nat)) (t : List Nat) : cntG (gs ++ [t]) = cntG gs + cntR t := by
  unfold cntG
  rw [List.map_append, List.sum_append]
  simp
/-- marks as they lie: lists of signs -/
def MrkR (H : Hp) (v : V) (t : List Nat) : Prop := ∃ a, v = V.ref a ∧ H a = some (.lst (t.map fun c => V.str ⟨#[c]⟩))
def MrkAt (H : Hp) : List V → List (List Nat) → Prop := Paired (MrkR H)
theorem MrkAt.mono {H H' : Hp} (s : Same H H') : ∀ {vs : List V} {gs : List (List Nat)}, MrkAt H vs gs → MrkAt H' vs gs
  | _, _, .nil => .nil
  | _, _, .cons ⟨a, e, h⟩ t => .cons ⟨a, e, s _ _ h⟩ (MrkAt.mono s t)
theorem MrkAt.keep {H H' : Hp} {d : Addr} (k : ∀ b o, b ≠ d → H b = some o → H' b = some o) : ∀ {vs : List V} {gs : List (List Nat)}, MrkAt H vs gs → (∀ v ∈ vs, v ≠ V.ref d) → MrkAt H' vs gs
  | _, _, .nil, _ => .nil
  | _, _, .cons ⟨a, e, h⟩ t, hn => .cons ⟨a, e, k a _ (fun z => hn _ List.mem_cons_self (by rw [e, z])) h⟩ (MrkAt.keep k t fun v hv => hn v (List.mem_cons_of_mem _ hv))
theorem MrkAt.grid {H : Hp} : ∀ {vs : List V} {gs : List (List Nat)}, MrkAt H vs gs → GridAt H vs gs
  | _, _, .nil => .nil
  | _, _, .cons ⟨a, e, h⟩ t => .cons (.inr ⟨a, e, h⟩) (MrkAt.grid t)
structure Marks (gs : List (List Nat)) : Prop where
  lo : 1 ≤ gs.length
  hi : gs.length ≤ 8
  ex : ∃ n, 1 ≤ n ∧ n ≤ 8 ∧ ∀ t ∈ gs, t.length = n ∧ ∀ k ∈ t, k ∈ marks
  few : cntG gs ≤ 8
def spDrawn (K : PySem.W.Frag) : Sp := fun vs H Q _ => ∃ (a : Addr) (ns : List Int), vs = [.ref a, .int 18, .int 8] ∧ SqL K H a (ns.map V.int) ∧
  ∀ (d : Addr) (us : List V) (gs : List (List Nat)) (H' : Hp), H d = none → H' d = some (.lst us) → MrkAt H' us gs → Marks gs → Same H H' → Q (.ref d) H'
theorem mr8 (x : Int) : 1 ≤ 1 + x % 8 ∧ 1 + x % 8 ≤ 8 := by
  have a := Int.emod_nonneg x (show (8 : Int) ≠ 0 by decide)
  have b := Int.emod_lt_of_pos x (show (0 : Int) < 8 by decide)
  omega
theorem m18 {x : Int} (h1 : 1 ≤ x) (h8 : x ≤ 8) : (0 : Int) < (if 18 / x < 8 then 18 / x else 8) := by
  have h : x = 1 ∨ x = 2 ∨ x = 3 ∨ x = 4 ∨ x = 5 ∨ x = 6 ∨ x = 7 ∨ x = 8 := by omega
  rcases h with rfl | rfl | rfl | rfl | rfl | rfl | rfl | rfl <;> decide
def wd (c0 c1 : Int) : Int := 1 + c1 / 8 % (if 18 / (1 + c0 % 8) < 8 then 18 / (1 + c0 % 8) else 8)
theorem wide18 {c0 c1 : Int} (_ : Int) (h1 : 1 ≤ 1 + c0 % 8) (h8 : 1 + c0 % 8 ≤ 8) : 1 ≤ wd c0 c1 ∧ wd c0 c1 ≤ 8 := by
  have m := m18 h1 h8
  have a := Int.emod_nonneg (c1 / 8) (Int.ne_of_gt m)
  have b := Int.emod_lt_of_pos (c1 / 8) m
  unfold wd
  have c : (if 18 / (1 + c0 % 8) < 8 then 18 / (1 + c0 % 8) else 8) ≤ 8 := by split <;> omega
  omega
theorem shut_in : ∀ k ∈ marks, ([PyData.str "o", PyData.str "c"].any fun z => PyData.eqv z (.str ⟨#[k]⟩)) = isShut k := by decide +kernel
theorem mark_lay : ∀ k ∈ marks, PyData.canLay0 (.str ⟨#[k]⟩) = true := by decide +kernel
theorem atI_last {α : Type} (xs : List α) (v : α) : atI (xs ++ [v]) (-1) = some v := by
  have hl : (xs ++ [v]).length = xs.length + 1 := by simp
  have e : ixN (xs.length + 1) (-1) = some xs.length := by
    unfold ixN
    rw [if_neg (by decide), if_pos (by omega)]
    congr 1
    omega
  unfold atI
  rw [hl, e]
  show (xs ++ [v])[xs.length]? = some v
  simp
section
variable {P : Program} {w : World} {K : PySem.W.Frag} {mg : Str → Option Value} {base : Heap} {f : Addr} {fd : FuncData}
theorem sc_law_drawn : FnScope ["_law_script", "_law_most", "_law_limit", "_law_high", "_law_wide", "_law_often", "_law_many", "_law_marks", "_law_shut", "_law_row", "_law_line", "_law_column", "_law_place", "_law_drawn_here"] ["_law_script", "_law_most", "_law_limit"] (defScope s_law_drawn) := ⟨rfl, rfl, rfl, by decide +kernel, rfl, by decide +kernel, by decide +kernel⟩
theorem ok_law_drawn {f1 f2 f3 : Addr} {fd1 fd2 fd3 : FuncData} (T : Txt mg) (D : DefAt K mg "_law_drawn" s_law_drawn ["_law_script", "_law_most", "_law_limit"] f fd) (D_law_cell_at : DefAt K mg "_law_cell_at" s_law_cell_at ["_law_script", "_law_k"] f1 fd1) (D_law_mixed : DefAt K mg "_law_mixed" s_law_mixed ["_law_cell", "_law_k"] f2 fd2) (D_law_mark : DefAt K mg "_law_mark" s_law_mark ["_law_drawn_here", "_law_often", "_law_many", "_law_room"] f3 fd3) : FnOk P w K mg base CX0 2 f fd ["_law_script", "_law_most", "_law_limit"] (spDrawn K) := by
  have G_law_cell_at : FnOk P w K mg base CX0 1 f1 fd1 ["_law_script", "_law_k"] (spCell K) := ok_law_cell_at T D_law_cell_at
  have G_law_mixed : FnOk P w K mg base CX0 1 f2 fd2 ["_law_cell", "_law_k"] spMixed := ok_law_mixed D_law_mixed
  have G_law_mark : FnOk P w K mg base CX0 1 f3 fd3 ["_law_drawn_here", "_law_often", "_law_many", "_law_room"] spMark := ok_law_mark D_law_mark
  refine D.F.ok sc_law_drawn (fun vs H Q E h => ?_) (fun cdv A outer s H vs Q E hr h => ?_)
  · obtain ⟨a, ns, rfl, _⟩ := h
    rfl
  · obtain ⟨a, ns, rfl, hS, q⟩ := h
    refine ⟨_, (pss_cons (ps_set (i := 3) sc_law_drawn.nd rfl (Or.inl rfl) (pe_op op_add pe_int (pe_op op_mod (pe_call G_law_cell_at (hr.mono (by decide)) (by rfl) D_law_cell_at.g D_law_cell_at.F.kp D_law_cell_at.b .nil pass0 (pa_cons (pv 0) (pa_cons pe_int pa_nil))) (pe_callB (call_min2 rfl) (by rfl) T.b_min PyProof.Rows.boot_min (pa_cons pe_int (pa_cons (pv 1) pa_nil))))))
      (pss_cons (ps_set (i := 4) sc_law_drawn.nd rfl (Or.inl rfl) (pe_op op_add pe_int (pe_op op_mod (pe_op op_fdivG (pe_call G_law_cell_at (hr.mono (by decide)) (by rfl) D_law_cell_at.g D_law_cell_at.F.kp D_law_cell_at.b .nil pass0 (pa_cons (pv 0) (pa_cons pe_int pa_nil))) pe_int) (pe_callB (call_min2 rfl) (by rfl) T.b_min PyProof.Rows.boot_min (pa_cons pe_int (pa_cons (pe_op op_fdivG (pv 1) (pv 3)) pa_nil))))))
      (pss_cons (ps_set (i := 5) sc_law_drawn.nd rfl (Or.inl rfl) (pe_op op_add pe_int (pe_op op_mod (pe_call G_law_cell_at (hr.mono (by decide)) (by rfl) D_law_cell_at.g D_law_cell_at.F.kp D_law_cell_at.b .nil pass0 (pa_cons (pv 0) (pa_cons pe_int pa_nil))) pe_int)))
      (pss_cons (ps_set (i := 6) sc_law_drawn.nd rfl (Or.inl rfl) (pe_op op_mod (pe_op op_fdivG (pe_call G_law_cell_at (hr.mono (by decide)) (by rfl) D_law_cell_at.g D_law_cell_at.F.kp D_law_cell_at.b .nil pass0 (pa_cons (pv 0) (pa_cons pe_int pa_nil))) pe_int) pe_int))
      (pss_cons (ps_set (i := 7) sc_law_drawn.nd rfl (Or.inl rfl) (pe_lst pa_nil))
      (pss_cons (ps_set (i := 8) sc_law_drawn.nd rfl (Or.inl rfl) pe_int)
      (pss_cons (ps_for PassesOwn.never rfl (pi_range1 (by rfl) T.b_range (pa_cons (pv 3) pa_nil)) (pg_name (i := 9) sc_law_drawn.nd rfl (Or.inl rfl)) (pss_cons (ps_set (i := 10) sc_law_drawn.nd rfl (Or.inl rfl) (pe_lst pa_nil))
      (pss_cons (ps_for PassesOwn.never rfl (pi_range1 (by rfl) T.b_range (pa_cons (pv 4) pa_nil)) (pg_name (i := 11) sc_law_drawn.nd rfl (Or.inl rfl)) (pss_cons (ps_set (i := 12) sc_law_drawn.nd rfl (Or.inl rfl) (pe_op op_add (pe_op op_mulG pe_int (pv 9)) (pv 11)))
      (pss_cons (ps_set (i := 13) sc_law_drawn.nd rfl (Or.inl rfl) (pe_call G_law_mixed (hr.mono (by decide)) (by rfl) D_law_mixed.g D_law_mixed.F.kp D_law_mixed.b .nil pass0 (pa_cons (pe_call G_law_cell_at (hr.mono (by decide)) (by rfl) D_law_cell_at.g D_law_cell_at.F.kp D_law_cell_at.b .nil pass0 (pa_cons (pv 0) (pa_cons (pe_op op_add pe_int (pe_op op_mod (pv 12) pe_int)) pa_nil))) (pa_cons (pv 12) pa_nil))))
      (pss_cons (ps_expr (pe_bm PySem.F.plainAttrs_list PySem.F.slot_list_append PySem.F.type_list_append mt_append (pv 10) (pa_cons (pe_call G_law_mark (hr.mono (by decide)) (by rfl) D_law_mark.g D_law_mark.F.kp D_law_mark.b .nil pass0 (pa_cons (pv 13) (pa_cons (pv 5) (pa_cons (pv 6) (pa_cons (pe_cmpR op_lt (pv 8) (pv 2) (nomark _)) pa_nil))))) pa_nil)))
      (pss_one (ps_set (i := 8) sc_law_drawn.nd rfl (Or.inl rfl) (pe_op op_add (pv 8) (pe_callTy call_int1 (by rfl) T.b_int PyProof.Rows.boot_int (pa_cons (pe_cmpR (op_in_tup hr.units) (pe_ix ix_list (pv 10) (pe_un un_neg pe_int) (fun _ _ => rfl)) (pe_tup (pa_cons pe_str (pa_cons pe_str pa_nil))) (by rfl)) pa_nil)))))))))
      (pss_one (ps_expr (pe_bm PySem.F.plainAttrs_list PySem.F.slot_list_append PySem.F.type_list_append mt_append (pv 7) (pa_cons (pv 10) pa_nil)))))))
      (pss_one (ps_ret (pv 7)))))))))), ?_⟩
    refine ⟨_, rfl, a, ns, _, rfl, hS, by decide, fun c0 => ⟨_, rfl, 8, 18, rfl, _, _, rfl, rfl, (by show (0 : Int) < 8; decide), _, _, rfl, rfl, ?_⟩⟩
    obtain ⟨h1, h8⟩ := mr8 c0
    refine ⟨_, rfl, a, ns, _, rfl, hS, by decide, fun c1 => ⟨_, _, rfl, rfl, CDivG.small (by decide) (by decide), _, rfl, _, rfl, _, _, rfl, rfl, CDivG.small (by show (0 : Int) < 1 + c0 % 8; omega) (by show 1 + c0 % 8 < _; exact Int.lt_of_le_of_lt h8 (by decide)), 8, _, rfl, _, _, rfl, rfl, ?_, _, _, rfl, rfl, ?_⟩⟩
    · show (0 : Int) < (if 18 / (1 + c0 % 8) < 8 then 18 / (1 + c0 % 8) else 8)
      exact m18 h1 h8
    obtain ⟨w1, w8⟩ := wide18 (c0 := c0) (c1 := c1) 0 h1 h8
    refine ⟨_, rfl, a, ns, _, rfl, hS, by decide, fun c2 => ⟨_, _, rfl, rfl, (by show (0 : Int) < 5; decide), _, _, rfl, rfl, ?_⟩⟩
    have o0 := Int.emod_nonneg c2 (show (5 : Int) ≠ 0 by decide)
    refine ⟨_, rfl, a, ns, _, rfl, hS, by decide, fun c3 => ⟨_, _, rfl, rfl, CDivG.small (by decide) (by decide), _, _, rfl, rfl, (by show (0 : Int) < 5; decide), ?_⟩⟩
    refine ⟨(by show 0 ≤ sizeLine; decide), fun d hd => ?_⟩
    have s0 := same_new (o := .lst []) hd
    refine ⟨_, rfl, 1 + c0 % 8, rfl, by omega, by omega, ?_⟩
    refine for_range (lo := 0) (n := (1 + c0 % 8).toNat) (fun i σ H' => ∃ (v9 v10 v11 v12 v13 : Option V) (us : List V) (gs : List (List Nat)), σ = [some (.ref a), some (.int 18), some (.int 8), some (.int (1 + c0 % 8)), some (.int (wd c0 c1)), some (.int (2 + c2 % 5)), some (.int (c3 / 5 % 5)), some (.ref d), some (.int ((cntG gs : Nat) : Int)), v9, v10, v11, v12, v13] ∧ Same H H' ∧ H' d = some (.lst us) ∧ MrkAt H' us gs ∧ (∀ v ∈ us, v ≠ V.ref d) ∧ gs.length = i ∧ (∀ t ∈ gs, t.length = (wd c0 c1).toNat ∧ ∀ k ∈ t, k ∈ marks) ∧ cntG gs ≤ 8) ⟨_, _, _, _, _, [], [], rfl, s0, upd_same, .nil, (fun _ h => nomatch h), rfl, (fun _ h => nomatch h), by decide⟩ ?_ ?_
    · rintro i σ H1 hi ⟨v9, v10, v11, v12, v13, us, gs, rfl, s1, hd1, hM, hnd, gl, hgs, hcnt⟩
      refine ⟨(by show 0 ≤ sizeLine; decide), fun ln hln => ?_⟩
      have z2 := same_new (o := .lst []) hln
      refine ⟨_, rfl, wd c0 c1, rfl, by omega, by omega, ?_⟩
      refine for_range (lo := 0) (n := (wd c0 c1).toNat) (fun j σ H' => ∃ (v11 v12 v13 : Option V) (t : List Nat), σ = [some (.ref a), some (.int 18), some (.int 8), some (.int (1 + c0 % 8)), some (.int (wd c0 c1)), some (.int (2 + c2 % 5)), some (.int (c3 / 5 % 5)), some (.ref d), some (.int (((cntG gs + cntR t) : Nat) : Int)), some (.int (0 + (i : Int))), some (.ref ln), v11, v12, v13] ∧ Same H1 H' ∧ H' ln = some (.lst (t.map fun c => V.str ⟨#[c]⟩)) ∧ t.length = j ∧ (∀ k ∈ t, k ∈ marks) ∧ cntG gs + cntR t ≤ 8) ⟨_, _, _, [], rfl, z2, upd_same, rfl, (fun _ h => nomatch h), hcnt⟩ ?_ ?_
      · rintro j σ H2 hj ⟨v11, v12, v13, t, rfl, s2, hln2, tl, htm, hc2⟩
        have s12 := s1.trans s2
        refine ⟨_, rfl, _, _, rfl, rfl, mulL (by decide) (by decide), _, rfl, _, _, rfl, rfl, ?_⟩
        have p0 := Int.emod_nonneg (8 * (0 + (i : Int)) + (0 + (j : Int))) (show (58 : Int) ≠ 0 by decide)
        refine ⟨_, rfl, _, rfl, _, _, rfl, rfl, (by show (0 : Int) < 58; decide), _, _, rfl, rfl, a, ns, _, rfl, s12.seq hS, (by show (0 : Int) ≤ 4 + (8 * (0 + (i : Int)) + (0 + (j : Int))) % 58; omega), fun cc => ⟨_, rfl, _, _, rfl, fun dr => ?_⟩⟩
        refine ⟨_, rfl, .inl ⟨rfl, _, SqL.of hln2⟩, _, rfl, _, rfl, _, rfl, _, rfl, _, rfl, _, _, rfl, rfl, _, _, _, _, rfl, (by show (0 : Int) < 2 + c2 % 5; omega), fun k hk hroom => ?_⟩
        refine ⟨ln, _, _, rfl, rfl, hln2, ?_, ?_⟩
        · rw [List.length_map]
          exact Nat.lt_of_le_of_lt (show _ ≤ 8 by omega) (by decide)
        have t1 : (t ++ [k]).map (fun c => V.str ⟨#[c]⟩) = t.map (fun c => V.str ⟨#[c]⟩) ++ [V.str ⟨#[k]⟩] := by rw [List.map_append]; rfl
        have hln3 : upd H2 ln (.lst (t.map (fun c => V.str ⟨#[c]⟩) ++ [V.str ⟨#[k]⟩])) ln = some (.lst (t.map (fun c => V.str ⟨#[c]⟩) ++ [V.str ⟨#[k]⟩])) := upd_same
        have s3 : Same H1 (upd H2 ln (.lst (t.map (fun c => V.str ⟨#[c]⟩) ++ [V.str ⟨#[k]⟩]))) := fun b o e => by
          rw [upd_ne (ne_of_none e hln)]
          exact s2 _ _ e
        generalize upd H2 ln (.lst (t.map (fun c => V.str ⟨#[c]⟩) ++ [V.str ⟨#[k]⟩])) = H3 at *
        refine ⟨_, rfl, _, rfl, _, rfl, ln, _, _, V.str ⟨#[k]⟩, rfl, rfl, SqL.of hln3, atI_last _ _, (by show 2 ≤ sizeLine; decide), fun tp htp => ?_⟩
        have z4 := same_new (o := .tup [V.str "o", V.str "c"]) htp
        refine ⟨.str ⟨#[k]⟩, [.str "o", .str "c"], .str _, .tup (SqT.of upd_same) (.cons (.str _) (.cons (.str _) .nil)), mark_lay k hk, by decide +kernel, by show 0 ≤ 60; decide, ?_⟩
        rw [shut_in k hk]
        refine .inr ⟨_, rfl, _, _, rfl, rfl, ?_⟩
        have ec : ((cntG gs + cntR t : Nat) : Int) + (if isShut k = true then 1 else 0) = ((cntG gs + cntR (t ++ [k]) : Nat) : Int) := by
          rw [cntR_snoc]
          split <;> omega
        refine ⟨some (.int (0 + (j : Int))), some (.int (8 * (0 + (i : Int)) + (0 + (j : Int)))), some (.int dr), t ++ [k], ?_, s3.trans z4, ?_, by rw [List.length_append, tl]; rfl, fun x hx => ?_, ?_⟩
        · show [_, _, _, _, _, _, _, _, some (V.int (((cntG gs + cntR t : Nat) : Int) + (if isShut k = true then 1 else 0))), _, _, _, _, _] = _
          rw [ec]
        · rw [t1]
          exact z4 _ _ hln3
        · rcases List.mem_append.mp hx with h | h
          · exact htm x h
          · have : x = k := by simpa using h
            rw [this]
            exact hk
        · rw [cntR_snoc]
          split
          · rename_i hsk
            have hlt : ((cntG gs + cntR t : Nat) : Int) < 8 := by
              refine Classical.byContradiction fun hc => ?_
              have hf := hroom (decide_eq_false hc)
              unfold isShut at hsk
              rw [decide_eq_false hf.1, decide_eq_false hf.2] at hsk
              cases hsk
            omega
          · omega
      · rintro σ H2 ⟨v11, v12, v13, t, rfl, s2, hln2, tl, htm, hc2⟩
        have hd2 := s2 _ _ hd1
        have nld : ln ≠ d := fun z => by
          rw [z, hd1] at hln
          cases hln
        have ul : us.length = gs.length := Paired.length hM
        refine ⟨_, rfl, .inl ⟨rfl, _, SqL.of hd2⟩, _, rfl, d, _, _, rfl, rfl, hd2, ?_, ?_⟩
        · exact Nat.lt_of_le_of_lt (show _ ≤ 8 by omega) (by decide)
        have hg2 := cntG_snoc gs t
        refine ⟨some (.int (0 + (i : Int))), some (.ref ln), v11, v12, v13, us ++ [.ref ln], gs ++ [t], ?_, fun b o e => ?_, upd_same, ?_, fun v hv => ?_, by rw [List.length_append, gl]; rfl, fun u hu => ?_, by rw [hg2]; exact hc2⟩
        · rw [hg2]
        · rw [upd_ne (ne_of_none e hd)]
          exact s2 _ _ (s1 _ _ e)
        · refine Paired.snoc (MrkAt.keep (d := d) (fun b o nb e => by rw [upd_ne nb]; exact s2 _ _ e) hM hnd) ⟨ln, rfl, ?_⟩
          rw [upd_ne nld]
          exact hln2
        · rcases List.mem_append.mp hv with h | h
          · exact hnd v h
          · have : v = V.ref ln := by simpa using h
            rw [this]
            exact fun z => nld (V.ref.inj z)
        · rcases List.mem_append.mp hu with h | h
          · exact hgs u h
          · have : u = t := by simpa using h
            rw [this]
            exact ⟨tl, htm⟩
    · rintro σ H1 ⟨v9, v10, v11, v12, v13, us, gs, rfl, s1, hd1, hM, hnd, gl, hgs, hcnt⟩
      exact ⟨_, rfl, q d us gs H1 hd hd1 hM ⟨by omega, by omega, ⟨(wd c0 c1).toNat, by omega, by omega, hgs⟩, hcnt⟩ s1⟩
end

/-! _law_finding: cells found clear and found to be stones. -/
def cellsM (gs : List (List Nat)) : List (Nat × Nat) := Cells.allCs (pZ [111, 99]) 0 gs
def spFinding : Sp := fun vs H Q _ => ∃ (d : Addr) (us : List V) (gs : List (List Nat)) (c : Int), vs = [.ref d, .int c] ∧ H d = some (.lst us) ∧ MrkAt H us gs ∧ Marks gs ∧
  ∀ (fa fc fs : Addr) (u w : List V) (cl st : List (Nat × Nat)) (H' : Hp), H fa = none → H fc = none → H fs = none → FindAt H' fa fc fs u w cl st → Fine cl st → (∀ c ∈ cl, c ∉ st) → Same H H' → Q (.ref fa) H'
theorem pick5 (c : Int) : ∃ v : Int, atI [V.int 2, V.int 4, V.int 8, V.int 16, V.int 1000000] (c % 5) = some (.int v) ∧ 0 < v := by
  have h : c % 5 = 0 ∨ c % 5 = 1 ∨ c % 5 = 2 ∨ c % 5 = 3 ∨ c % 5 = 4 := by omega
  rcases h with h | h | h | h | h <;> rw [h]
  · exact ⟨2, rfl, by decide⟩
  · exact ⟨4, rfl, by decide⟩
  · exact ⟨8, rfl, by decide⟩
  · exact ⟨16, rfl, by decide⟩
  · exact ⟨1000000, rfl, by decide⟩
theorem mark_at {H : Hp} : ∀ {vs : List V} {gs : List (List Nat)} {i : Nat} {t : List Nat}, MrkAt H vs gs → gs[i]? = some t → ∃ a, vs[i]? = some (V.ref a) ∧ H a = some (.lst (t.map fun c => V.str ⟨#[c]⟩))
  | _, _, _, _, .nil, e => by simp at e
  | _, _, 0, _, .cons ⟨a, r, h⟩ _, e => by
    simp at e
    subst e
    exact ⟨a, by rw [r]; rfl, h⟩
  | _, _, i + 1, t, .cons _ q, e => by
    obtain ⟨c, h1, h2⟩ := mark_at (i := i) (t := t) q (by simpa using e)
    exact ⟨c, by simpa using h1, h2⟩
theorem Marks.t8 {gs : List (List Nat)} (M : Marks gs) : ∀ t ∈ gs, t.length ≤ 8 := fun t ht => by
  obtain ⟨n, _, h8, h⟩ := M.ex
  rw [(h t ht).1]
  exact h8
theorem cellM_at {gs : List (List Nat)} (M : Marks gs) {c : Nat × Nat} (h : c ∈ cellsM gs) : ∃ t k, gs[c.1]? = some t ∧ t[c.2]? = some k ∧ c.1 < 8 ∧ c.2 < 8 := by
  obtain ⟨i, j, u, k, e, h1, h2, _⟩ := Cells.mem_allCs h
  rw [Nat.zero_add] at e
  subst e
  have a := (List.getElem?_eq_some_iff.mp h1).1
  have b := (List.getElem?_eq_some_iff.mp h2).1
  have d := M.t8 u (List.mem_of_getElem? h1)
  have e := M.hi
  exact ⟨u, k, h1, h2, by show i < 8; omega, by show j < 8; omega⟩
theorem take_off {l : List (Nat × Nat)} (h : l.Nodup) {i : Nat} {c : Nat × Nat} (e : l[i]? = some c) : c ∉ l.take i := fun z => by
  have hl := (List.getElem?_eq_some_iff.mp e).1
  have h2 : (l.take i ++ l.drop i).Nodup := by
    rw [List.take_append_drop]
    exact h
  have h3 : c ∈ l.drop i := by
    rw [List.drop_eq_getElem_cons hl, (List.getElem?_eq_some_iff.mp e).2]
    exact List.mem_cons_self
  exact (List.nodup_append.mp h2).2.2 c z c h3 rfl
section
variable {P : Program} {w : World} {K : PySem.W.Frag} {mg : Str → Option Value} {base : Heap} {f : Addr} {fd : FuncData}
theorem sc_law_finding : FnScope ["_law_marks", "_law_cell", "_law_clears", "_law_stones", "_law_rest", "_law_k", "_law_one", "_law_found", "_law_stone"] ["_law_marks", "_law_cell"] (defScope s_law_finding) := ⟨rfl, rfl, rfl, by decide +kernel, rfl, by decide +kernel, by decide +kernel⟩
theorem ok_law_finding {f1 f2 : Addr} {fd1 fd2 : FuncData} (T : Txt mg) (D : DefAt K mg "_law_finding" s_law_finding ["_law_marks", "_law_cell"] f fd) (D_law_mixed : DefAt K mg "_law_mixed" s_law_mixed ["_law_cell", "_law_k"] f1 fd1) (D_law_cells : DefAt K mg "_law_cells" s_law_cells ["_law_rows", "_law_signs"] f2 fd2) : FnOk P w K mg base CX0 2 f fd ["_law_marks", "_law_cell"] spFinding := by
  have G_law_mixed : FnOk P w K mg base CX0 1 f1 fd1 ["_law_cell", "_law_k"] spMixed := ok_law_mixed D_law_mixed
  have G_law_cells : FnOk P w K mg base CX0 1 f2 fd2 ["_law_rows", "_law_signs"] spLCells := ok_law_cells T D_law_cells
  refine D.F.ok sc_law_finding (fun vs H Q E h => ?_) (fun cdv A outer s H vs Q E hr h => ?_)
  · obtain ⟨d, us, gs, c, rfl, _⟩ := h
    rfl
  · obtain ⟨d, us, gs, c, rfl, hd, hM, M, q⟩ := h
    refine ⟨_, (pss_cons (ps_set (i := 2) sc_law_finding.nd rfl (Or.inl rfl) (pe_lst pa_nil))
      (pss_cons (ps_set (i := 3) sc_law_finding.nd rfl (Or.inl rfl) (pe_lst pa_nil))
      (pss_cons (ps_set (i := 4) sc_law_finding.nd rfl (Or.inl rfl) (pe_op op_fdivG (pv 1) pe_int))
      (pss_cons (ps_for PassesOwn.never rfl (pi_enumL (by rfl) T.b_enumerate (pa_cons (pe_call G_law_cells (hr.mono (by decide)) (by rfl) D_law_cells.g D_law_cells.F.kp D_law_cells.b .nil pass0 (pa_cons (pv 0) (pa_cons (pe_lst (pa_cons pe_str (pa_cons pe_str pa_nil))) pa_nil))) pa_nil)) (pg_tup rfl (pgs_cons (pg_name (i := 5) sc_law_finding.nd rfl (Or.inl rfl)) (pgs_cons (pg_name (i := 6) sc_law_finding.nd rfl (Or.inl rfl)) pgs_nil))) (pss_cons (ps_set (i := 7) sc_law_finding.nd rfl (Or.inl rfl) (pe_cmpR op_lt (pe_op op_mod (pe_call G_law_mixed (hr.mono (by decide)) (by rfl) D_law_mixed.g D_law_mixed.F.kp D_law_mixed.b .nil pass0 (pa_cons (pv 4) (pa_cons (pv 5) pa_nil))) (pe_ix ix_list (pe_lst (pa_cons pe_int (pa_cons pe_int (pa_cons pe_int (pa_cons pe_int (pa_cons pe_int pa_nil)))))) (pe_op op_mod (pv 1) pe_int) (fun _ _ => rfl))) pe_int (nomark _)))
      (pss_cons (ps_set (i := 8) sc_law_finding.nd rfl (Or.inl rfl) (pe_cmpR op_ne (pe_cmpR op_eq (pe_ix ix_list (pe_ix ix_list (pv 0) (pe_ix ix_tup (pv 6) pe_int (fun _ _ => rfl)) (fun _ _ => rfl)) (pe_ix ix_tup (pv 6) pe_int (fun _ _ => rfl)) (fun _ _ => rfl)) pe_str (nomark _)) (pe_and (pe_cmpR op_eq (pe_op op_mod (pe_call G_law_mixed (hr.mono (by decide)) (by rfl) D_law_mixed.g D_law_mixed.F.kp D_law_mixed.b .nil pass0 (pa_cons (pv 4) (pa_cons (pv 5) pa_nil))) pe_int) pe_int (nomark _)) (pe_one (pe_cmpR op_eq (pe_op op_mod (pe_op op_fdivG (pv 1) pe_int) pe_int) pe_int (nomark _)))) (nomark _)))
      (pss_mid (ps_if (pt_cmpR op_eq (pe_op op_mod (pe_op op_fdivG (pv 1) pe_int) pe_int) pe_int (nomark _)) (pss_cons (ps_set (i := 7) sc_law_finding.nd rfl (Or.inl rfl) (pe_cmpR op_gt (pe_op op_mod (pv 4) pe_int) pe_int (nomark _)))
      (pss_cons (ps_set (i := 8) sc_law_finding.nd rfl (Or.inl rfl) (pe_cmpR op_eq (pe_op op_mod (pv 4) pe_int) pe_int (nomark _)))
      (pss_one (ps_set (i := 4) sc_law_finding.nd rfl (Or.inl rfl) (pe_op op_fdivG (pv 4) pe_int))))) pss_nil)
      (pss_one (ps_if (PW.pt (pw_and (pt_truth (pv 7) (fun _ => rfl)) (pw_and1 (pt_truth (pv 8) (fun _ => rfl))))) (pss_one (ps_expr (pe_bm PySem.F.plainAttrs_list PySem.F.slot_list_append PySem.F.type_list_append mt_append (pv 3) (pa_cons (pv 6) pa_nil)))) (pss_one (ps_if (pt_truth (pv 7) (fun _ => rfl)) (pss_one (ps_expr (pe_bm PySem.F.plainAttrs_list PySem.F.slot_list_append PySem.F.type_list_append mt_append (pv 2) (pa_cons (pv 6) pa_nil)))) pss_nil))))))))
      (pss_one (ps_ret (pe_tup (pa_cons (pv 2) (pa_cons (pv 3) pa_nil))))))))), ?_⟩
    refine ⟨(by show 0 ≤ sizeLine; decide), fun fc hfc => ⟨(by show 0 ≤ sizeLine; decide), fun fs hfs => ?_⟩⟩
    have y1 := same_new (o := .lst []) hfc
    have y2 := same_new (o := .lst []) hfs
    have nfs : fc ≠ fs := ne_of_none (show upd H fc (.lst []) fc = some (.lst []) from upd_same) hfs
    have ffs := y1.free hfs
    have s2 := y1.trans y2
    have g1 : upd (upd H fc (.lst [])) fs (.lst []) fc = some (.lst []) := y2 _ _ upd_same
    have g2 : upd (upd H fc (.lst [])) fs (.lst []) fs = some (.lst []) := upd_same
    generalize upd (upd H fc (.lst [])) fs (.lst []) = H2 at *
    refine ⟨_, rfl, _, _, rfl, rfl, CDivG.small (by decide) (by decide), ?_⟩
    refine ⟨_, rfl, (by show 2 ≤ sizeLine; decide), fun sg hsg => ?_⟩
    have y3 := same_new (o := .lst [V.str "o", V.str "c"]) hsg
    refine ⟨d, sg, us, gs, [111, 99], rfl, y3 _ _ (s2 _ _ hd), (hM.mono (s2.trans y3)).grid, M.hi, M.t8, by rw [upd_same, mk_o, mk_c]; rfl, fun ce wc H4 hce hce4 hc4 s4 => ⟨ce, rfl, ⟨_, SqL.of hce4⟩, ?_⟩⟩
    have hc4' : Cel H4 wc (cellsM gs) := hc4
    have s24 := y3.trans s4
    have nc1 : ce ≠ fc := (ne_of_none (y3 _ _ g1) hce).symm
    have nc2 : ce ≠ fs := (ne_of_none (y3 _ _ g2) hce).symm
    have c64 : (cellsM gs).length ≤ 64 := by
      have h1 := Cells.allCs_length (pZ [111, 99]) 0 gs M.t8
      have h2 := M.hi
      unfold cellsM
      omega
    refine for_enumL (K := K) (l := ce) (xs := wc) (fun i σ H' => ∃ (r : Int) (v5 v6 v7 v8 : Option V) (u w' : List V) (cl st : List (Nat × Nat)), σ = [some (.ref d), some (.int c), some (.ref fc), some (.ref fs), some (.int r), v5, v6, v7, v8] ∧ Same H H' ∧ (∀ b o, b ≠ fc → b ≠ fs → H4 b = some o → H' b = some o) ∧ H' fc = some (.lst u) ∧ H' fs = some (.lst w') ∧ Cel H' u cl ∧ Cel H' w' st ∧ cl.length ≤ i ∧ st.length ≤ i ∧ (∀ x ∈ cl, x ∈ (cellsM gs).take i) ∧ (∀ x ∈ st, x ∈ (cellsM gs).take i) ∧ ∀ x ∈ cl, x ∉ st)
      ⟨c / 30, _, _, _, _, [], [], [], [], rfl, s2.trans s24, fun b o _ _ e => e, s24 _ _ g1, s24 _ _ g2, .nil, .nil, Nat.le_refl _, Nat.le_refl _, (fun _ h => nomatch h), (fun _ h => nomatch h), (fun _ h => nomatch h)⟩ ?_ ?_ ?_
    · rintro i σ H5 _ ⟨r, v5, v6, v7, v8, u, w', cl, st, rfl, s5, k5, _⟩
      exact SqL.of (k5 _ _ nc1 nc2 hce4)
    · rintro i x T1 σ H5 hx hT1 ⟨r, v5, v6, v7, v8, u, w', cl, st, rfl, s5, k5, h1, h2, hc1, hc2, l1, l2, m1, m2, m3⟩
      obtain ⟨cc, hcc, a, rfl, ha4⟩ := hc4'.get hx
      have ccm : cc ∈ cellsM gs := List.mem_of_getElem? hcc
      have tk : ∀ {x}, x ∈ (cellsM gs).take i → x ∈ (cellsM gs).take (i + 1) := fun {x} h => by rw [List.take_add_one]; exact List.mem_append_left _ h
      have ccn : cc ∈ (cellsM gs).take (i + 1) := by rw [List.take_add_one, hcc]; exact List.mem_append_right _ List.mem_cons_self
      have cco : cc ∉ (cellsM gs).take i := take_off (lex_nodup (Cells.allCs_lex _ 0 gs)) hcc
      obtain ⟨t, k, ht, hk, b1, b2⟩ := cellM_at M ccm
      have na1 : a ≠ fc := fun e => by rw [e, s24 _ _ g1] at ha4; cases ha4
      have na2 : a ≠ fs := fun e => by rw [e, s24 _ _ g2] at ha4; cases ha4
      have ha5 := k5 _ _ na1 na2 ha4
      have z1 : Same H5 (upd H5 T1 (.tup [.int (i : Nat), .ref a])) := same_new hT1
      refine ⟨T1, _, rfl, SqT.of upd_same, rfl, _, _, rfl, _, _, rfl, rfl, ?_⟩
      generalize upd H5 T1 (.tup [.int (i : Nat), .ref a]) = H6 at *
      obtain ⟨v, hv, v0⟩ := pick5 c
      refine ⟨_, rfl, _, rfl, r, (i : Nat), rfl, fun z => ⟨(by show 5 ≤ sizeLine; decide), fun lz hlz => ⟨_, rfl, _, _, rfl, rfl, (by show (0 : Int) < 5; decide), lz, _, _, _, rfl, rfl, SqL.of upd_same, hv, _, _, rfl, rfl, v0, _, _, rfl, rfl, ?_⟩⟩⟩
      have z2 := z1.trans (same_new (o := .lst [V.int 2, V.int 4, V.int 8, V.int 16, V.int 1000000]) hlz)
      generalize upd H6 lz (.lst [V.int 2, V.int 4, V.int 8, V.int 16, V.int 1000000]) = H7 at *
      have hM7 := hM.mono (s5.trans z2)
      obtain ⟨ra, hra, hrow⟩ := mark_at hM7 ht
      have hd7 := (s5.trans z2) _ _ hd
      have ha7 := z2 _ _ ha5
      have h17 := z2 _ _ h1
      have h27 := z2 _ _ h2
      have n12 : fs ≠ fc := fun e => nfs e.symm
      have lu : u.length ≤ i := by rw [hc1.length]; exact l1
      have lw : w'.length ≤ i := by rw [hc2.length]; exact l2
      have hi64 : i < 64 := by
        have := (List.getElem?_eq_some_iff.mp hx).1
        have := hc4'.length
        omega
      have s7 := s5.trans z2
      have hk7 : (t.map fun c => V.str ⟨#[c]⟩)[((cc.2 : Nat) : Int).toNat]? = some (V.str ⟨#[k]⟩) := by
        rw [Int.toNat_natCast, List.getElem?_map, hk]
        rfl
      refine ⟨_, rfl, _, rfl, a, _, 0, _, rfl, rfl, SqT.of ha7, rfl, d, _, _, _, rfl, rfl, SqL.of hd7, atI_lt (by omega) (by rw [Int.toNat_natCast]; exact hra), _, rfl, a, _, 1, _, rfl, rfl, SqT.of ha7, rfl, ra, _, _, _, rfl, rfl, SqL.of hrow, atI_lt (by omega) hk7, rfl, ?_⟩
      refine ⟨_, rfl, _, rfl, r, (i : Nat), rfl, fun z' => ⟨_, _, rfl, rfl, (by show (0 : Int) < 7; decide), rfl, _, rfl, ite2 (fun _ => ⟨_, rfl, _, _, rfl, rfl, CDivG.small (by decide) (by decide), _, _, rfl, rfl, (by show (0 : Int) < 3; decide), rfl, rfl, ?_⟩) (fun _ => ⟨rfl, ?_⟩)⟩⟩
      all_goals
        refine ⟨fun σ' H' => ∃ (r' : Int) (p1 p2 : Bool), σ' = [some (.ref d), some (.int c), some (.ref fc), some (.ref fs), some (.int r'), some (.int (i : Nat)), some (.ref a), some (.bl p1), some (.bl p2)] ∧ H' = H7, ?_, ?_⟩
        · refine ⟨_, rfl, _, _, rfl, rfl, CDivG.small (by decide) (by decide), _, _, rfl, rfl, (by show (0 : Int) < 2; decide), rfl, _, rfl, ite2 (fun _ => ?_) (fun _ => ⟨r, _, _, rfl, rfl⟩)⟩
          exact ⟨_, rfl, _, _, rfl, rfl, (by show (0 : Int) < 4; decide), _, _, rfl, rfl, _, rfl, _, _, rfl, rfl, (by show (0 : Int) < 2; decide), rfl, _, rfl, _, _, rfl, rfl, CDivG.small (by decide) (by decide), r / 4, _, _, rfl, rfl⟩
        · rintro _ _ ⟨r', p1, p2, rfl, rfl⟩
          cases p1 with
          | false =>
            refine ⟨_, rfl, false, rfl, iteF ⟨_, rfl, false, rfl, iteF ?_⟩⟩
            exact ⟨r', _, _, _, _, u, w', cl, st, rfl, s7, fun b o e1 e2 e => z2 _ _ (k5 b o e1 e2 e), h17, h27, hc1.mono z2, hc2.mono z2, by omega, by omega, fun x hx => tk (m1 x hx), fun x hx => tk (m2 x hx), m3⟩
          | true =>
            cases p2 with
            | true =>
              refine ⟨_, rfl, true, rfl, iteT ⟨_, rfl, true, rfl, iteT ?_⟩⟩
              refine ⟨_, rfl, .inl ⟨rfl, _, SqL.of h27⟩, _, rfl, fs, _, _, rfl, rfl, h27, Nat.lt_of_le_of_lt (show w'.length ≤ 64 by omega) (by decide), r', _, _, _, _, u, w' ++ [.ref a], cl, st ++ [cc], rfl, fun b o e => ?_, fun b o e1 e2 e => ?_, ?_, upd_same, Cel.into fs _ h27 (hc1.mono z2), Cel.into fs _ h27 (Cel.snoc (hc2.mono z2) ⟨a, rfl, ha7⟩), by omega, by simp; omega, fun x hx => tk (m1 x hx), fun y hy => ?_, fun x hx z => ?_⟩
              · rw [upd_ne (ne_of_none e ffs)]
                exact s7 _ _ e
              · rw [upd_ne e2]
                exact z2 _ _ (k5 b o e1 e2 e)
              · rw [upd_ne nfs]
                exact h17
              · rcases List.mem_append.mp hy with hy | hy
                · exact tk (m2 y hy)
                · rw [List.mem_singleton.mp hy]
                  exact ccn
              · rcases List.mem_append.mp z with z | z
                · exact m3 x hx z
                · rw [List.mem_singleton.mp z] at hx
                  exact cco (m1 _ hx)
            | false =>
              refine ⟨_, rfl, true, rfl, iteT ⟨_, rfl, false, rfl, iteF ⟨_, rfl, true, rfl, iteT ?_⟩⟩⟩
              refine ⟨_, rfl, .inl ⟨rfl, _, SqL.of h17⟩, _, rfl, fc, _, _, rfl, rfl, h17, Nat.lt_of_le_of_lt (show u.length ≤ 64 by omega) (by decide), r', _, _, _, _, u ++ [.ref a], w', cl ++ [cc], st, rfl, fun b o e => ?_, fun b o e1 e2 e => ?_, upd_same, ?_, Cel.into fc _ h17 (Cel.snoc (hc1.mono z2) ⟨a, rfl, ha7⟩), Cel.into fc _ h17 (hc2.mono z2), by simp; omega, by omega, fun y hy => ?_, fun x hx => tk (m2 x hx), fun x hx z => ?_⟩
              · rw [upd_ne (ne_of_none e hfc)]
                exact s7 _ _ e
              · rw [upd_ne e1]
                exact z2 _ _ (k5 b o e1 e2 e)
              · rw [upd_ne n12]
                exact h27
              · rcases List.mem_append.mp hy with hy | hy
                · exact tk (m1 y hy)
                · rw [List.mem_singleton.mp hy]
                  exact ccn
              · rcases List.mem_append.mp hx with hx | hx
                · exact m3 x hx z
                · rw [List.mem_singleton.mp hx] at z
                  exact cco (m2 _ z)
    · rintro σ H5 ⟨r, v5, v6, v7, v8, u, w', cl, st, rfl, s5, k5, h1, h2, hc1, hc2, l1, l2, m1, m2, m3⟩
      refine ⟨_, rfl, _, rfl, (by show 2 ≤ sizeLine; decide), fun fa hfa => ?_⟩
      have y6 := same_new (o := .tup [.ref fc, .ref fs]) hfa
      have wl := hc4'.length
      refine q fa fc fs u w' cl st _ (s5.free hfa) hfc ffs ⟨upd_same, y6 _ _ h1, y6 _ _ h2, hc1.mono y6, hc2.mono y6⟩ ⟨fun x hx => ?_, fun x hx => ?_, by omega, by omega⟩ m3 (s5.trans y6)
      · obtain ⟨_, _, _, _, a, b⟩ := cellM_at M (List.mem_of_mem_take (m1 x hx))
        exact ⟨a, b⟩
      · obtain ⟨_, _, _, _, a, b⟩ := cellM_at M (List.mem_of_mem_take (m2 x hx))
        exact ⟨a, b⟩
end

/-! _law_bent: the board with one number, or the number of stones, bent. -/
theorem cut_set {t : Str} {j : Nat} (c : Nat) (hj : j < t.cps.toList.length) : (cutS t none (some (j : Int)) ++ ⟨#[c]⟩ ++ cutS t (some ((j : Int) + 1)) none).cps.toList = t.cps.toList.set j c := by
  have te : t.length = t.cps.toList.length := (Array.length_toList).symm
  have e1 : (cutS t none (some (j : Int))).cps.toList = t.cps.toList.take j := by
    have e : HT.sIx t.length t.length (some (j : Int)) = j := by
      rw [HT.sIx_nat]
      omega
    unfold cutS
    rw [e]
    show ((t.cps.toList.drop 0).take (j - 0)).toArray.toList = _
    simp
  have e2 : (cutS t (some ((j : Int) + 1)) none).cps.toList = t.cps.toList.drop (j + 1) := by
    have e : HT.sIx t.length 0 (some ((j : Int) + 1)) = j + 1 := by
      have := HT.sIx_nat t.length 0 (j + 1)
      rw [Int.natCast_add] at this
      rw [show ((j : Int) + 1) = (j : Int) + ((1 : Nat) : Int) from rfl, this]
      omega
    unfold cutS
    rw [e]
    show ((t.cps.toList.drop (j + 1)).take (t.length - (j + 1))).toArray.toList = _
    rw [List.toList_toArray, List.take_of_length_le (by rw [List.length_drop]; omega)]
  show ((cutS t none (some (j : Int))).cps ++ #[c] ++ (cutS t (some ((j : Int) + 1)) none).cps).toList = _
  rw [Array.toList_append, Array.toList_append, e1, e2, List.set_eq_take_append_cons_drop, if_pos hj]
  simp
theorem cutV_set {xs : List V} {j : Nat} (v : V) (hj : j < xs.length) : cutV xs none (some (j : Int)) ++ [v] ++ cutV xs (some ((j : Int) + 1)) none = xs.set j v := by
  have e1 : cutV xs none (some (j : Int)) = xs.take j := by
    have e : HT.sIx xs.length xs.length (some (j : Int)) = j := by
      rw [HT.sIx_nat]
      omega
    unfold cutV
    rw [e]
    show ((xs.drop 0).take (j - 0)) = _
    simp
  have e2 : cutV xs (some ((j : Int) + 1)) none = xs.drop (j + 1) := by
    have e : HT.sIx xs.length 0 (some ((j : Int) + 1)) = j + 1 := by
      have := HT.sIx_nat xs.length 0 (j + 1)
      rw [Int.natCast_add] at this
      rw [show ((j : Int) + 1) = (j : Int) + ((1 : Nat) : Int) from rfl, this]
      omega
    unfold cutV
    rw [e]
    show ((xs.drop (j + 1)).take (xs.length - (j + 1))) = _
    rw [List.take_of_length_le (by rw [List.length_drop]; omega)]
  rw [e1, e2, List.set_eq_take_append_cons_drop, if_pos hj]
  simp
theorem rowCs_set {p : Nat → Bool} (i : Nat) : ∀ (j : Nat) (t : List Nat) (m k k' : Nat), t[m]? = some k → p k' = p k → Cells.rowCs p i j (t.set m k') = Cells.rowCs p i j t
  | j, c :: r, 0, k, k', h, e => by
    have : c = k := by simpa using h
    subst this
    rw [List.set_cons_zero, Cells.rowCs, Cells.rowCs, e]
  | j, c :: r, m + 1, k, k', h, e => by
    rw [List.set_cons_succ, Cells.rowCs, Cells.rowCs, rowCs_set i (j + 1) r m k k' (by simpa using h) e]
theorem allCs_set {p : Nat → Bool} : ∀ (i : Nat) (gs : List (List Nat)) (m : Nat) (t t' : List Nat), gs[m]? = some t → (∀ i, Cells.rowCs p i 0 t' = Cells.rowCs p i 0 t) → Cells.allCs p i (gs.set m t') = Cells.allCs p i gs
  | i, c :: r, 0, t, t', h, e => by
    have : c = t := by simpa using h
    subst this
    rw [List.set_cons_zero, Cells.allCs, Cells.allCs, e]
  | i, c :: r, m + 1, t, t', h, e => by
    rw [List.set_cons_succ, Cells.allCs, Cells.allCs, allCs_set (i + 1) r m t t' (by simpa using h) e]
def spBentL : Sp := fun vs H Q _ => ∃ (p l : Addr) (rs : List Str) (n c : Int), vs = [.ref p, .int c] ∧ BoardAt H p l rs n ∧ Rows bd.cps.toList rs ∧
  ∀ (p' l' : Addr) (rs' : List Str) (n' : Int) (H' : Hp), BoardAt H' p' l' rs' n' → Rows bd.cps.toList rs' → shutC rs' = shutC rs → Same H H' → Q (.ref p') H'
theorem pick2 (c : Int) : ∃ v : Int, atI [V.int (-1), V.int 1] (c % 2) = some (.int v) ∧ -1 ≤ v ∧ v ≤ 1 := by
  have h : c % 2 = 0 ∨ c % 2 = 1 := by omega
  rcases h with h | h
  · rw [h]
    exact ⟨-1, rfl, by decide, by decide⟩
  · rw [h]
    exact ⟨1, rfl, by decide, by decide⟩
theorem bdig : ∀ d : Nat, d < 9 → ((toString (d : Int) : String) : Str) = ⟨#[48 + d]⟩ ∧ 48 + d ∈ bd.cps.toList ∧ pShut (48 + d) = false := by decide +kernel
theorem bshut : ∀ k : Nat, k < 57 → 48 ≤ k → pShut k = false := by decide +kernel
theorem bopen : ∀ k ∈ bd.cps.toList, pOpen k = true → 48 ≤ k ∧ k ≤ 56 := by decide +kernel
section
variable {P : Program} {w : World} {K : PySem.W.Frag} {mg : Str → Option Value} {base : Heap} {f : Addr} {fd : FuncData}
theorem sc_law_bent : FnScope ["_law_board_here", "_law_cell", "_law_rows", "_law_stones", "_law_opens", "_law_row", "_law_column", "_law_number_here", "_law_text"] ["_law_board_here", "_law_cell"] (defScope s_law_bent) := ⟨rfl, rfl, rfl, by decide +kernel, rfl, by decide +kernel, by decide +kernel⟩
theorem ok_law_bent {f2 : Addr} {fd2 : FuncData} (T : Txt mg) (D : DefAt K mg "_law_bent" s_law_bent ["_law_board_here", "_law_cell"] f fd) (D_law_cells : DefAt K mg "_law_cells" s_law_cells ["_law_rows", "_law_signs"] f2 fd2) : FnOk P w K mg base CX0 2 f fd ["_law_board_here", "_law_cell"] spBentL := by
  have G_law_cells : FnOk P w K mg base CX0 1 f2 fd2 ["_law_rows", "_law_signs"] spLCells := ok_law_cells T D_law_cells
  refine D.F.ok sc_law_bent (fun vs H Q E h => ?_) (fun cdv A outer s H vs Q E hr h => ?_)
  · obtain ⟨p, l, rs, n, c, rfl, _⟩ := h
    rfl
  · obtain ⟨p, l, rs, n, c, rfl, b, R, q⟩ := h
    refine ⟨_, (pss_cons (ps_asg (pv 0) (pg_tup rfl (pgs_cons (pg_name (i := 2) sc_law_bent.nd rfl (Or.inl rfl)) (pgs_cons (pg_name (i := 3) sc_law_bent.nd rfl (Or.inl rfl)) pgs_nil))))
      (pss_cons (ps_set (i := 4) sc_law_bent.nd rfl (Or.inl rfl) (pe_call G_law_cells (hr.mono (by decide)) (by rfl) D_law_cells.g D_law_cells.F.kp D_law_cells.b .nil pass0 (pa_cons (pv 2) (pa_cons (pe_callTy (call_list_text rfl) (by rfl) T.b_list PyProof.Rows.boot_list (pa_cons pe_str pa_nil)) pa_nil))))
      (pss_cons (ps_if (PW.pt (pw_and (pt_cmpR op_eq (pe_op op_mod (pv 1) pe_int) pe_int (nomark _)) (pw_and1 (pt_cmpR (op_ne_deep hr.units) (pv 4) (pe_lst pa_nil) (nomark _))))) (pss_cons (ps_asg (pe_ix ix_list (pv 4) (pe_op op_mod (pe_op op_fdivG (pv 1) pe_int) (pe_callB call_len_seq (by rfl) T.b_len PySem.boot_len (pa_cons (pv 4) pa_nil))) (fun _ _ => rfl)) (pg_tup rfl (pgs_cons (pg_name (i := 5) sc_law_bent.nd rfl (Or.inl rfl)) (pgs_cons (pg_name (i := 6) sc_law_bent.nd rfl (Or.inl rfl)) pgs_nil))))
      (pss_cons (ps_set (i := 7) sc_law_bent.nd rfl (Or.inl rfl) (pe_callB (call_max2 rfl) (by rfl) T.b_max PyProof.Rows.boot_max (pa_cons pe_int (pa_cons (pe_callB (call_min2 rfl) (by rfl) T.b_min PyProof.Rows.boot_min (pa_cons pe_int (pa_cons (pe_op op_add (pe_callTy call_int_str (by rfl) T.b_int PyProof.Rows.boot_int (pa_cons (pe_ix ix_str (pe_ix ix_list (pv 2) (pv 5) (fun _ _ => rfl)) (pv 6) (fun _ _ => rfl)) pa_nil)) (pe_ix ix_list (pe_lst (pa_cons (pe_un un_neg pe_int) (pa_cons pe_int pa_nil))) (pe_op op_mod (pe_op op_fdivG (pv 1) pe_int) pe_int) (fun _ _ => rfl))) pa_nil))) pa_nil))))
      (pss_cons (ps_set (i := 8) sc_law_bent.nd rfl (Or.inl rfl) (pe_op op_add_str (pe_op op_add_str (pe_slice sl_str (pe_ix ix_list (pv 2) (pv 5) (fun _ _ => rfl)) po_none (po_some (pv 6))) (pe_callTy call_str_int (by rfl) T.b_str PyProof.Rows.boot_str (pa_cons (pv 7) pa_nil))) (pe_slice sl_str (pe_ix ix_list (pv 2) (pv 5) (fun _ _ => rfl)) (po_some (pe_op op_add (pv 6) pe_int)) po_none)))
      (pss_one (ps_ret (pe_tup (pa_cons (pe_op op_cat (pe_op op_cat (pe_slice sl_list (pv 2) po_none (po_some (pv 5))) (pe_lst (pa_cons (pv 8) pa_nil))) (pe_slice sl_list (pv 2) (po_some (pe_op op_add (pv 5) pe_int)) po_none)) (pa_cons (pv 3) pa_nil)))))))) pss_nil)
      (pss_cons (ps_if (pt_cmpR op_eq (pe_op op_mod (pv 1) pe_int) pe_int (nomark _)) (pss_one (ps_ret (pe_tup (pa_cons (pv 2) (pa_cons (pe_callB (call_max2 rfl) (by rfl) T.b_max PyProof.Rows.boot_max (pa_cons pe_int (pa_cons (pe_op op_add (pv 3) (pe_ix ix_list (pe_lst (pa_cons (pe_un un_neg pe_int) (pa_cons pe_int pa_nil))) (pe_op op_mod (pe_op op_fdivG (pv 1) pe_int) pe_int) (fun _ _ => rfl))) pa_nil))) pa_nil))))) pss_nil)
      (pss_one (ps_ret (pv 0))))))), ?_⟩
    refine ⟨_, rfl, p, _, rfl, SqT.of b.tp, rfl, _, _, rfl, _, _, rfl, rfl, ?_⟩
    refine ⟨_, rfl, "012345678", rfl, by decide, fun sg hsg => ?_⟩
    have z1 := same_new (o := .lst (("012345678" : Str).cps.toList.map fun c => V.str ⟨#[c]⟩)) hsg
    refine ⟨l, sg, _, codes rs, [48, 49, 50, 51, 52, 53, 54, 55, 56], rfl, z1 _ _ b.rw, GridAt.rows _ rs, by rw [codes_len]; exact R.hi, R.short, by rw [upd_same, nine_is], fun d ws H2 hd hd2 hc2 s2 => ?_⟩
    have ec : Cells.allCs (pZ [48, 49, 50, 51, 52, 53, 54, 55, 56]) 0 (codes rs) = openC rs := allCs_at 0 _ fun t ht k hk => pZ_open k (R.signsIn t ht k hk)
    rw [ec] at hc2
    have s12 := z1.trans s2
    refine ⟨_, rfl, _, _, rfl, rfl, (by show (0 : Int) < 4; decide), rfl, _, rfl, ite2 (fun _ => ?_) (fun _ => ?_)⟩
    · refine ⟨_, rfl, (by show 0 ≤ sizeLine; decide), fun e he => ?_⟩
      have z3 := same_new (o := .lst []) he
      refine ⟨.list ((openC rs).map cData), .list (([] : List (Nat × Nat)).map cData), .lst (SqL.of (z3 _ _ hd2)) (cRdv (hc2.mono z3)), .lst (SqL.of upd_same) .nil, cs_cmp _ _, _, rfl, ite2 (fun hne => ?_) (fun _ => ?_)⟩
      · have s13 := s12.trans z3
        have hd3 := z3 _ _ hd2
        have hc3 := hc2.mono z3
        have hl3 := s13 _ _ b.rw
        have wl := hc3.length
        have pos : 0 < ws.length := by
          cases hb : openC rs with
          | nil =>
            rw [hb] at hne
            exact absurd hne (by decide)
          | cons x y =>
            rw [wl, hb]
            exact Nat.succ_pos _
        generalize upd H2 e (.lst []) = H3 at *
        have m0 := Int.emod_nonneg (c / 8) (show ((ws.length : Nat) : Int) ≠ 0 by omega)
        have m1 := Int.emod_lt_of_pos (c / 8) (show (0 : Int) < ((ws.length : Nat) : Int) by omega)
        obtain ⟨x, hx⟩ : ∃ x, ws[(c / 8 % ((ws.length : Nat) : Int)).toNat]? = some x := ⟨_, List.getElem?_eq_getElem (by omega)⟩
        obtain ⟨y, hy, ya, rfl, hya⟩ := Cel.get hc3 hx
        obtain ⟨i, j, u, k, ey, hu, hk, pk⟩ := Cells.mem_allCs (List.mem_of_getElem? hy)
        rw [Nat.zero_add] at ey
        subst ey
        obtain ⟨t, ht, rfl⟩ : ∃ t, rs[i]? = some t ∧ t.cps.toList = u := by
          unfold codes at hu
          rw [List.getElem?_map] at hu
          cases e1 : rs[i]? with
          | none =>
            rw [e1] at hu
            cases hu
          | some t =>
            rw [e1] at hu
            exact ⟨t, rfl, Option.some.inj hu⟩
        refine ⟨_, rfl, _, rfl, _, _, rfl, rfl, CDivG.small (by decide) (by decide), _, rfl, d, _, rfl, .inl (SqL.of hd3), _, _, rfl, rfl, (by show (0 : Int) < ((ws.length : Nat) : Int); omega), d, _, _, _, rfl, rfl, SqL.of hd3, atI_lt m0 hx, ?_⟩
        refine ⟨ya, _, rfl, SqT.of hya, rfl, _, _, rfl, _, _, rfl, rfl, ?_⟩
        have hat : (rs.map V.str)[((i : Nat) : Int).toNat]? = some (V.str t) := by
          rw [Int.toNat_natCast, List.getElem?_map, ht]
          rfl
        have hkj : t.cps.toList[((j : Nat) : Int).toNat]? = some k := by rw [Int.toNat_natCast]; exact hk
        have tm := List.mem_of_getElem? ht
        have tl : t.cps.toList.length ≤ 8 := R.short _ (List.mem_of_getElem? hu)
        have tll : t.length ≤ 8 := by
          rw [← show t.cps.toList.length = t.length from Array.length_toList]
          exact tl
        have szl : t.length ≤ sizeLine := Nat.le_trans tll (by decide)
        have jl := (List.getElem?_eq_some_iff.mp hk).1
        have il := (List.getElem?_eq_some_iff.mp ht).1
        obtain ⟨k0, k1⟩ := bopen k (R.signsIn _ (List.mem_of_getElem? hu) k (List.mem_of_getElem? hk)) pk
        obtain ⟨v, hv, v0, v1⟩ := pick2 (c / 4)
        refine ⟨_, rfl, _, rfl, l, _, _, .str t, rfl, rfl, SqL.of hl3, atI_lt (by omega) hat, _, rfl, t, _, k, rfl, rfl, szl, atI_lt (by omega) hkj, _, _, rfl, int_sign k0 k1, (by show 1 ≤ 640; decide), _, rfl, (by show 2 ≤ sizeLine; decide), fun lz hlz => ⟨_, rfl, _, _, rfl, rfl, CDivG.small (by decide) (by decide), _, _, rfl, rfl, (by show (0 : Int) < 2; decide), lz, _, _, _, rfl, rfl, SqL.of upd_same, hv, _, _, rfl, rfl, _, _, rfl, _, _, rfl, ?_⟩⟩
        have s14 := s13.trans (same_new (o := .lst [V.int (-1), V.int 1]) hlz)
        generalize upd H3 lz (.lst [V.int (-1), V.int 1]) = H4 at *
        have hl4 := s14 _ _ b.rw
        obtain ⟨D9, hD, eD⟩ : ∃ D : Nat, D < 9 ∧ (if (if (k : Int) - 48 + v < 8 then (k : Int) - 48 + v else 8) > 0 then (if (k : Int) - 48 + v < 8 then (k : Int) - 48 + v else 8) else 0) = (D : Int) := by
          refine ⟨(if (if (k : Int) - 48 + v < 8 then (k : Int) - 48 + v else 8) > 0 then (if (k : Int) - 48 + v < 8 then (k : Int) - 48 + v else 8) else 0).toNat, ?_, ?_⟩
          · split <;> split <;> omega
          · split <;> split <;> omega
        rw [eD]
        obtain ⟨d1, d2, d3⟩ := bdig D9 hD
        have hlog : ((D9 : Nat) : Int).natAbs.log2 < 1920 := by
          rw [Int.natAbs_natCast]
          have : ∀ d : Nat, d < 9 → d.log2 < 1920 := by decide +kernel
          exact this _ hD
        have cs := cut_set (t := t) (48 + D9) jl
        have cl : ((cutS t none (some ((j : Nat) : Int)) ++ (⟨#[48 + D9]⟩ : Str)) ++ cutS t (some (((j : Nat) : Int) + 1)) none).cps.size = t.cps.toList.length := by
          rw [← Array.length_toList, cs, List.length_set]
        have cl2 : ((cutS t none (some ((j : Nat) : Int))).cps ++ #[48 + D9] ++ (cutS t (some (((j : Nat) : Int) + 1)) none).cps).size = t.cps.toList.length := cl
        rw [Array.size_append, Array.size_append] at cl2
        have hc : #[48 + D9].size = 1 := rfl
        refine ⟨_, rfl, _, rfl, l, _, _, .str t, rfl, rfl, SqL.of hl4, atI_lt (by omega) hat, _, rfl, _, rfl, t, rfl, szl, _, rfl, _, rfl, hlog, _, _, rfl, rfl, ?_, _, rfl, _, rfl, l, _, _, .str t, rfl, rfl, SqL.of hl4, atI_lt (by omega) hat, _, rfl, _, _, rfl, rfl, _, rfl, t, rfl, szl, _, _, rfl, rfl, ?_, ?_⟩
        · rw [d1]
          refine Nat.le_trans (show _ ≤ 20 from ?_) (by decide)
          show (cutS t none (some ((j : Nat) : Int))).cps.size + #[48 + D9].size ≤ 20
          omega
        · rw [d1]
          refine Nat.le_trans (show _ ≤ 20 from ?_) (by decide)
          show ((cutS t none (some ((j : Nat) : Int))).cps ++ #[48 + D9]).size + (cutS t (some (((j : Nat) : Int) + 1)) none).cps.size ≤ 20
          rw [Array.size_append]
          omega
        rw [d1]
        generalize cutS t none (some ((j : Nat) : Int)) ++ (⟨#[48 + D9]⟩ : Str) ++ cutS t (some (((j : Nat) : Int) + 1)) none = tx at *
        have cv := cutV_set (xs := rs.map V.str) (j := i) (.str tx) (by rw [List.length_map]; exact il)
        have rl : (rs.map V.str).length ≤ 8 := by rw [List.length_map]; exact R.hi
        have c1 := cutV_length (rs.map V.str) none (some ((i : Nat) : Int))
        have c2 := cutV_length (rs.map V.str) (some (((i : Nat) : Int) + 1)) none
        refine ⟨_, rfl, _, rfl, _, rfl, l, _, rfl, SqL.of hl4, fun q1 hq1 => ⟨_, rfl, (by show 1 ≤ sizeLine; decide), fun q2 hq2 => ?_⟩⟩
        have x1 := same_new (o := .lst (cutV (rs.map V.str) none (some ((i : Nat) : Int)))) hq1
        have x2 := same_new (o := .lst [V.str tx]) hq2
        refine ⟨q1, q2, _, _, rfl, rfl, x2 _ _ upd_same, upd_same, ?_, fun q3 hq3 => ?_⟩
        · exact Nat.le_trans (show (cutV (rs.map V.str) none (some ((i : Nat) : Int))).length + 1 ≤ 20 by omega) (by decide)
        have x3 := same_new (o := .lst (cutV (rs.map V.str) none (some ((i : Nat) : Int)) ++ [V.str tx])) hq3
        have x13 := x1.trans (x2.trans x3)
        refine ⟨_, rfl, _, rfl, _, _, rfl, rfl, _, rfl, l, _, rfl, SqL.of (x13 _ _ hl4), fun q4 hq4 => ?_⟩
        have x4 := same_new (o := .lst (cutV (rs.map V.str) (some (((i : Nat) : Int) + 1)) none)) hq4
        refine ⟨q3, q4, _, _, rfl, rfl, x4 _ _ upd_same, upd_same, ?_, fun q5 hq5 => ?_⟩
        · rw [List.length_append]
          exact Nat.le_trans (show (cutV (rs.map V.str) none (some ((i : Nat) : Int))).length + 1 + (cutV (rs.map V.str) (some (((i : Nat) : Int) + 1)) none).length ≤ 20 by omega) (by decide)
        have x5 := same_new (o := .lst (cutV (rs.map V.str) none (some ((i : Nat) : Int)) ++ [V.str tx] ++ cutV (rs.map V.str) (some (((i : Nat) : Int) + 1)) none)) hq5
        refine ⟨_, rfl, (by show 2 ≤ sizeLine; decide), fun tp htp => ?_⟩
        have x6 := same_new (o := .tup [.ref q5, .int n]) htp
        refine q tp q5 (rs.set i tx) n _ ⟨upd_same, ?_⟩ ⟨by rw [List.length_set]; exact R.lo, by rw [List.length_set]; exact R.hi, ?_⟩ ?_ (s14.trans (x13.trans (x4.trans (x5.trans x6))))
        · refine x6 _ _ ?_
          rw [upd_same, cv, List.map_set]
        · obtain ⟨m, a1, a8, hr⟩ := R.ex
          refine ⟨m, a1, a8, fun u hu => ?_⟩
          rcases List.mem_or_eq_of_mem_set hu with hu | hu
          · exact hr u hu
          · rw [hu]
            refine ⟨?_, fun z hz => ?_⟩
            · rw [cl, Array.length_toList]
              exact (hr t tm).len
            · rw [cs] at hz
              rcases List.mem_or_eq_of_mem_set hz with hz | hz
              · exact (hr t tm).mem z hz
              · rw [hz]
                exact d2
        · unfold shutC codes
          rw [List.map_set]
          refine allCs_set 0 _ i t.cps.toList _ hu fun i' => ?_
          rw [cs]
          exact rowCs_set i' 0 _ j k _ hk (d3.trans (bshut k (by omega) k0).symm)
      · have s13 := s12.trans z3
        refine ⟨_, rfl, _, _, rfl, rfl, (by show (0 : Int) < 4; decide), rfl, _, rfl, ite2 (fun _ => ?_) (fun _ => ⟨_, rfl, q p l rs n _ (b.mono s13) R rfl s13⟩)⟩
        obtain ⟨v, hv, _, _⟩ := pick2 (c / 4)
        refine ⟨_, rfl, _, rfl, _, rfl, (by show 2 ≤ sizeLine; decide), fun lz hlz => ⟨_, rfl, _, _, rfl, rfl, CDivG.small (by decide) (by decide), _, _, rfl, rfl, (by show (0 : Int) < 2; decide), lz, _, _, _, rfl, rfl, SqL.of upd_same, hv, _, _, rfl, rfl, _, _, rfl, (by show 2 ≤ sizeLine; decide), fun tp htp => ?_⟩⟩
        have y1 := s13.trans (same_new (o := .lst [V.int (-1), V.int 1]) hlz)
        exact q tp l rs _ _ ⟨upd_same, same_new htp _ _ (y1 _ _ b.rw)⟩ R rfl (y1.trans (same_new htp))
    · refine iteF ?_
      refine ⟨_, rfl, _, _, rfl, rfl, (by show (0 : Int) < 4; decide), rfl, _, rfl, ite2 (fun _ => ?_) (fun _ => ⟨_, rfl, q p l rs n _ (b.mono s12) R rfl s12⟩)⟩
      obtain ⟨v, hv, _, _⟩ := pick2 (c / 4)
      refine ⟨_, rfl, _, rfl, _, rfl, (by show 2 ≤ sizeLine; decide), fun lz hlz => ⟨_, rfl, _, _, rfl, rfl, CDivG.small (by decide) (by decide), _, _, rfl, rfl, (by show (0 : Int) < 2; decide), lz, _, _, _, rfl, rfl, SqL.of upd_same, hv, _, _, rfl, rfl, _, _, rfl, (by show 2 ≤ sizeLine; decide), fun tp htp => ?_⟩⟩
      have y1 := s12.trans (same_new (o := .lst [V.int (-1), V.int 1]) hlz)
      exact q tp l rs _ _ ⟨upd_same, same_new htp _ _ (y1 _ _ b.rw)⟩ R rfl (y1.trans (same_new htp))
end

/-! _law_board: the board of marks. -/
theorem rise_len : ∀ (l : List Nat) (lo hi : Nat), l.Pairwise (fun a b => a < b) → (∀ x ∈ l, lo ≤ x ∧ x < hi) → l.length ≤ hi - lo
  | [], _, _, _, _ => Nat.zero_le _
  | x :: r, lo, hi, hp, hb => by
    have h1 := List.pairwise_cons.mp hp
    have h2 := rise_len r (x + 1) hi h1.2 fun y hy => ⟨h1.1 y hy, (hb y (List.mem_cons_of_mem _ hy)).2⟩
    have h3 := hb x List.mem_cons_self
    rw [List.length_cons]
    omega
def nearNo (c x : Nat × Nat) : Nat := if 3 * (x.1 + 1 - c.1) + (x.2 + 1 - c.2) > 4 then 3 * (x.1 + 1 - c.1) + (x.2 + 1 - c.2) - 1 else 3 * (x.1 + 1 - c.1) + (x.2 + 1 - c.2)
theorem near_few {p : Nat → Bool} (gs : List (List Nat)) (c : Nat × Nat) : ((Cells.allCs p 0 gs).filter fun x => Cells.near x c).length ≤ 8 := by
  have hp := (Cells.allCs_lex p 0 gs).filter fun x => Cells.near x c
  have hn : ∀ x ∈ (Cells.allCs p 0 gs).filter (fun x => Cells.near x c), (x.1 ≤ c.1 + 1 ∧ c.1 ≤ x.1 + 1) ∧ (x.2 ≤ c.2 + 1 ∧ c.2 ≤ x.2 + 1) ∧ ¬ (x.1 = c.1 ∧ x.2 = c.2) := fun x hx => by
    have h := (Cells.near_iff x c).mp (List.mem_filter.mp hx).2
    exact ⟨h.1, h.2.1, fun z => h.2.2 (Prod.ext z.1 z.2)⟩
  generalize (Cells.allCs p 0 gs).filter (fun x => Cells.near x c) = L at *
  have h := rise_len (L.map (nearNo c)) 0 8 (List.pairwise_map.mpr (hp.imp_of_mem fun {a b} ha hb hl => ?_)) fun y hy => ?_
  · rw [List.length_map] at h
    exact h
  · have h1 := hn a ha
    have h2 := hn b hb
    have h3 : a.1 < b.1 ∨ (a.1 = b.1 ∧ a.2 < b.2) := hl
    unfold nearNo
    split <;> split <;> omega
  · obtain ⟨x, hx, rfl⟩ := List.mem_map.mp hy
    have h1 := hn x hx
    unfold nearNo
    split <;> omega
def stM (gs : List (List Nat)) : List (Nat × Nat) := Cells.allCs (pZ [111]) 0 gs
def nrM (gs : List (List Nat)) (i j : Nat) : List (Nat × Nat) := (stM gs).filter fun x => Cells.near x (i, j)
def brdS (gs : List (List Nat)) (i j k : Nat) : Nat := if k = 46 then 48 + (nrM gs i j).length else if isShut k = true then 63 else k
def brdT (gs : List (List Nat)) (i : Nat) (t : List Nat) : List Nat := t.mapIdx (brdS gs i)
def brdG (gs : List (List Nat)) : List (List Nat) := gs.mapIdx (brdT gs)
theorem mapIdx_step {α β : Type} (f : Nat → α → β) {t : List α} {j : Nat} {k : α} (h : t[j]? = some k) : (t.take (j + 1)).mapIdx f = (t.take j).mapIdx f ++ [f j k] := by
  obtain ⟨hl, e⟩ := List.getElem?_eq_some_iff.mp h
  rw [List.take_add_one, h, List.mapIdx_append]
  simp only [Option.toList_some, List.mapIdx_cons, List.mapIdx_nil, List.length_take]
  rw [Nat.zero_add, Nat.min_eq_left (by omega)]
theorem rowCs_mapIdx {p q : Nat → Bool} {f : Nat → Nat → Nat} (i : Nat) (hf : ∀ m c, p (f m c) = q c) : ∀ (j m : Nat) (t : List Nat), Cells.rowCs p i j (t.mapIdx fun a => f (a + m)) = Cells.rowCs q i j t
  | _, _, [] => rfl
  | j, m, c :: r => by
    rw [List.mapIdx_cons, Cells.rowCs, Cells.rowCs, hf]
    have := rowCs_mapIdx i hf (j + 1) (m + 1) r
    have e : (fun a => f (a + (m + 1))) = fun a => f (a + 1 + m) := by
      funext a
      congr 1
      omega
    rw [e] at this
    rw [this]
theorem allCs_mapIdx {p q : Nat → Bool} {f : Nat → List Nat → List Nat} (hf : ∀ m i t, Cells.rowCs p i 0 (f m t) = Cells.rowCs q i 0 t) : ∀ (i m : Nat) (gs : List (List Nat)), Cells.allCs p i (gs.mapIdx fun a => f (a + m)) = Cells.allCs q i gs
  | _, _, [] => rfl
  | i, m, t :: r => by
    rw [List.mapIdx_cons, Cells.allCs, Cells.allCs, hf]
    have := allCs_mapIdx hf (i + 1) (m + 1) r
    have e : (fun a => f (a + (m + 1))) = fun a => f (a + 1 + m) := by
      funext a
      congr 1
      omega
    rw [e] at this
    rw [this]
theorem brdS_shut (gs : List (List Nat)) (i j k : Nat) : pShut (brdS gs i j k) = (isShut k || decide (k = 63)) := by
  unfold brdS
  have h8 : (nrM gs i j).length ≤ 8 := near_few gs (i, j)
  by_cases h1 : k = 46
  · rw [if_pos h1, h1]
    show decide (48 + (nrM gs i j).length = 63) = false
    exact decide_eq_false (by omega)
  · rw [if_neg h1]
    by_cases h2 : isShut k = true
    · rw [if_pos h2, h2]
      rfl
    · rw [if_neg h2, Bool.eq_false_iff.mpr h2]
      rfl
theorem brd_shut {gs : List (List Nat)} : Cells.allCs pShut 0 (brdG gs) = Cells.allCs (fun k => isShut k || decide (k = 63)) 0 gs := by
  have h := allCs_mapIdx (p := pShut) (q := fun k => isShut k || decide (k = 63)) (f := brdT gs) (fun m i t => rowCs_mapIdx (f := brdS gs m) i (fun a c => brdS_shut gs m a c) 0 0 t) 0 0 gs
  exact h
theorem rowCs_cnt (i : Nat) : ∀ (j : Nat) (t : List Nat), (∀ k ∈ t, k ∈ marks) → (Cells.rowCs (fun k => isShut k || decide (k = 63)) i j t).length = cntR t
  | _, [], _ => rfl
  | j, c :: r, h => by
    have ih := rowCs_cnt i (j + 1) r fun k hk => h k (List.mem_cons_of_mem _ hk)
    have hc : ∀ k ∈ marks, (isShut k || decide (k = 63)) = isShut k := by decide
    have e := hc c (h c List.mem_cons_self)
    unfold cntR at ih ⊢
    rw [Cells.rowCs, List.filter_cons]
    by_cases hs : isShut c = true
    · rw [if_pos hs, if_pos (e.trans hs), List.length_append, List.length_cons, List.length_cons, List.length_nil, ih]
      omega
    · rw [if_neg hs, if_neg (by rw [e]; exact hs), List.nil_append, ih]
theorem allCs_cnt : ∀ (i : Nat) (gs : List (List Nat)), (∀ t ∈ gs, ∀ k ∈ t, k ∈ marks) → (Cells.allCs (fun k => isShut k || decide (k = 63)) i gs).length = cntG gs
  | _, [], _ => rfl
  | i, t :: r, h => by
    have ih := allCs_cnt (i + 1) r fun u hu => h u (List.mem_cons_of_mem _ hu)
    have e := rowCs_cnt i 0 t (h t List.mem_cons_self)
    unfold cntG at ih ⊢
    rw [Cells.allCs, List.length_append, List.map_cons, List.sum_cons, ih, e]
/-- rows that are the board of these marks -/
theorem Marks.few8 {gs : List (List Nat)} {rs : List Str} (M : Marks gs) (h : codes rs = brdG gs) : (shutC rs).length ≤ 8 := by
  unfold shutC
  obtain ⟨n, _, _, hn⟩ := M.ex
  rw [h, brd_shut, allCs_cnt 0 gs fun t ht => (hn t ht).2]
  exact Nat.le_trans M.few (by decide)
theorem Marks.rows {gs : List (List Nat)} {rs : List Str} (M : Marks gs) (h : codes rs = brdG gs) : Rows bd.cps.toList rs := by
  have hl : rs.length = gs.length := by
    have e : (codes rs).length = (brdG gs).length := by rw [h]
    rw [codes_len] at e
    unfold brdG at e
    rw [List.length_mapIdx] at e
    exact e
  obtain ⟨n, n1, n8, hn⟩ := M.ex
  refine ⟨by rw [hl]; exact M.lo, by rw [hl]; exact M.hi, n, n1, n8, fun t ht => ?_⟩
  have hm : t.cps.toList ∈ brdG gs := by
    rw [← h]
    exact List.mem_map_of_mem ht
  unfold brdG at hm
  obtain ⟨i, hi, e⟩ := List.mem_mapIdx.mp hm
  have hg := hn gs[i] (List.getElem_mem hi)
  refine ⟨?_, fun k hk => ?_⟩
  · have e2 : t.cps.toList.length = n := by
      rw [← e]
      unfold brdT
      rw [List.length_mapIdx, hg.1]
    rw [Array.length_toList] at e2
    exact e2
  · rw [← e] at hk
    unfold brdT at hk
    obtain ⟨j, hj, e3⟩ := List.mem_mapIdx.mp hk
    have hx := hg.2 _ (List.getElem_mem hj)
    have h8 : (nrM gs i j).length ≤ 8 := near_few gs (i, j)
    rw [← e3]
    unfold brdS
    split
    · have : ∀ d : Nat, d < 9 → 48 + d ∈ bd.cps.toList := by decide +kernel
      exact this _ (by omega)
    · split
      · decide +kernel
      · rename_i a b
        have : ∀ k ∈ marks, k ≠ 46 → isShut k ≠ true → k ∈ bd.cps.toList := by decide +kernel
        exact this _ hx a b
def spBoardL : Sp := fun vs H Q _ => ∃ (d : Addr) (us : List V) (gs : List (List Nat)), vs = [.ref d] ∧ H d = some (.lst us) ∧ MrkAt H us gs ∧ Marks gs ∧
  ∀ (p l : Addr) (rs : List Str) (H' : Hp), H p = none → H l = none → BoardAt H' p l rs ((stM gs).length : Nat) → codes rs = brdG gs → Same H H' → Q (.ref p) H'
theorem get_oc : ∀ k ∈ marks, k ≠ 46 → (valV (mergeK [] [(.inr "o", V.str "?"), (.inr "c", V.str "?")]) (.inr ⟨#[k]⟩)).getD (V.str ⟨#[k]⟩) = V.str ⟨#[if isShut k = true then 63 else k]⟩ := by
  intro k hk h
  have hm : k = 35 ∨ k = 111 ∨ k = 99 ∨ k = 46 := by simpa [marks] using hk
  rcases hm with rfl | rfl | rfl | rfl
  · rfl
  · rfl
  · rfl
  · exact absurd rfl h
theorem get_no : ∀ d : Nat, d < 9 → (valV (mergeK [] [(.inr "o", V.str "?"), (.inr "c", V.str "?")]) (.inr ⟨#[48 + d]⟩)).getD (V.str ⟨#[48 + d]⟩) = V.str ⟨#[48 + d]⟩ := by
  intro d hd
  have hm : d = 0 ∨ d = 1 ∨ d = 2 ∨ d = 3 ∨ d = 4 ∨ d = 5 ∨ d = 6 ∨ d = 7 ∨ d = 8 := by omega
  rcases hm with rfl | rfl | rfl | rfl | rfl | rfl | rfl | rfl | rfl <;> rfl
section
variable {P : Program} {w : World} {K : PySem.W.Frag} {mg : Str → Option Value} {base : Heap} {f : Addr} {fd : FuncData}
theorem sc_law_board : FnScope ["_law_marks", "_law_stones", "_law_rows", "_law_row", "_law_text", "_law_column", "_law_sign"] ["_law_marks"] (defScope s_law_board) := ⟨rfl, rfl, rfl, by decide +kernel, rfl, by decide +kernel, by decide +kernel⟩
theorem ok_law_board {f1 f2 : Addr} {fd1 fd2 : FuncData} (T : Txt mg) (D : DefAt K mg "_law_board" s_law_board ["_law_marks"] f fd) (D_law_near : DefAt K mg "_law_near" s_law_near ["_law_one", "_law_other"] f1 fd1) (D_law_cells : DefAt K mg "_law_cells" s_law_cells ["_law_rows", "_law_signs"] f2 fd2) : FnOk P w K mg base CX0 2 f fd ["_law_marks"] spBoardL := by
  have G_law_near : FnOk P w K mg base CX0 1 f1 fd1 ["_law_one", "_law_other"] spNearB := ok_law_near T D_law_near
  have G_law_cells : FnOk P w K mg base CX0 1 f2 fd2 ["_law_rows", "_law_signs"] spLCells := ok_law_cells T D_law_cells
  refine D.F.ok sc_law_board (fun vs H Q E h => ?_) (fun cdv A outer s H vs Q E hr h => ?_)
  · obtain ⟨d, us, gs, rfl, _⟩ := h
    rfl
  · obtain ⟨d, us, gs, rfl, hd, hM, M, q⟩ := h
    refine ⟨_, (pss_cons (ps_set (i := 1) sc_law_board.nd rfl (Or.inl rfl) (pe_call G_law_cells (hr.mono (by decide)) (by rfl) D_law_cells.g D_law_cells.F.kp D_law_cells.b .nil pass0 (pa_cons (pv 0) (pa_cons (pe_lst (pa_cons pe_str pa_nil)) pa_nil))))
      (pss_cons (ps_set (i := 2) sc_law_board.nd rfl (Or.inl rfl) (pe_lst pa_nil))
      (pss_cons (ps_for PassesOwn.never rfl (pi_range1 (by rfl) T.b_range (pa_cons (pe_callB call_len_seq (by rfl) T.b_len PySem.boot_len (pa_cons (pv 0) pa_nil)) pa_nil)) (pg_name (i := 3) sc_law_board.nd rfl (Or.inr rfl)) (pss_cons (ps_set (i := 4) sc_law_board.nd rfl (Or.inl rfl) pe_str)
      (pss_cons (ps_for PassesOwn.never rfl (pi_range1 (by rfl) T.b_range (pa_cons (pe_callB call_len_seq (by rfl) T.b_len PySem.boot_len (pa_cons (pe_ix ix_list (pv 0) (pv 3) (fun _ _ => rfl)) pa_nil)) pa_nil)) (pg_name (i := 5) sc_law_board.nd rfl (Or.inr rfl)) (pss_cons (ps_set (i := 6) sc_law_board.nd rfl (Or.inl rfl) (pe_ix ix_list (pe_ix ix_list (pv 0) (pv 3) (fun _ _ => rfl)) (pv 5) (fun _ _ => rfl)))
      (pss_mid (ps_if (pt_cmpR op_eq (pv 6) pe_str (nomark _)) (pss_one (ps_set (i := 6) sc_law_board.nd rfl (Or.inl rfl) (pe_callTy call_str_int (by rfl) T.b_str PyProof.Rows.boot_str (pa_cons (pe_callB call_len_seq (by rfl) T.b_len PySem.boot_len (pa_cons (pe_comp (N := ["_law_one", "_law_row", "_law_column"]) (src := [none, some 3, some 5]) (CompOk.free (O := (defScope s_law_board).names) (XN := ["_law_marks", "_law_stones", "_law_rows", "_law_row", "_law_text", "_law_column", "_law_sign"]) rfl rfl ⟨_, rfl⟩ rfl rfl (by decide +kernel) (by decide +kernel) (by decide +kernel) rfl (by decide +kernel)) rfl (pi_list (pv 1)) (fun _ _ _ _ _ => (pg_name (i := 0) (by show List.Nodup (["_law_one", "_law_row", "_law_column"] : List Str); decide +kernel) rfl (Or.inl rfl))) (fun _ _ _ _ _ => (pifs_one (pt_truthK (K := K) (by rfl) (pe_call G_law_near (hr.mono (by decide)) (by rfl) D_law_near.g D_law_near.F.kp D_law_near.b .nil pass0 (pa_cons (pv 0) (pa_cons (pe_tup (pa_cons (pv 1) (pa_cons (pv 2) pa_nil))) pa_nil))) (fun _ => rfl)))) (fun _ _ _ _ _ => (pv 0))) pa_nil)) pa_nil)))) pss_nil)
      (pss_one (ps_set (i := 4) sc_law_board.nd rfl (Or.inl rfl) (pe_op op_add_str (pv 4) (pe_dget2 (u1 hr.units) (pe_disp (pps_cons pe_str pe_str (pps_cons pe_str pe_str pps_nil)) rfl rfl (by simp) (by decide)) (pv 6) (pv 6) ⟨rfl, rfl, rfl, rfl⟩)))))))
      (pss_one (ps_expr (pe_bm PySem.F.plainAttrs_list PySem.F.slot_list_append PySem.F.type_list_append mt_append (pv 2) (pa_cons (pv 4) pa_nil)))))))
      (pss_one (ps_ret (pe_tup (pa_cons (pv 2) (pa_cons (pe_callB call_len_seq (by rfl) T.b_len PySem.boot_len (pa_cons (pv 1) pa_nil)) pa_nil)))))))), ?_⟩
    have ul : us.length = gs.length := Paired.length hM
    have g8 := M.hi
    refine ⟨_, rfl, (by show 1 ≤ sizeLine; decide), fun sg hsg => ?_⟩
    have z1 := same_new (o := .lst [V.str "o"]) hsg
    refine ⟨d, sg, us, gs, [111], rfl, z1 _ _ hd, (hM.mono z1).grid, M.hi, M.t8, by rw [upd_same, mk_o]; rfl, fun sa sv H2 hsa hsa2 hc2 s2 => ?_⟩
    have hcs : Cel H2 sv (stM gs) := hc2
    have s02 := z1.trans s2
    refine ⟨(by show 0 ≤ sizeLine; decide), fun l hl => ?_⟩
    have z3 := same_new (o := .lst []) hl
    have s03 := s02.trans z3
    have hl3 : upd H2 l (.lst []) l = some (.lst []) := upd_same
    have hsa3 := z3 _ _ hsa2
    have hcs3 := hcs.mono z3
    have lfree := s02.free hl
    generalize upd H2 l (.lst []) = H3 at *
    refine ⟨_, rfl, d, _, rfl, .inl (SqL.of (s03 _ _ hd)), _, rfl, by omega, by omega, ?_⟩
    rw [Int.toNat_natCast, ul]
    refine for_range (lo := 0) (n := gs.length) (fun i σ H' => ∃ (v3 v4 v5 v6 : Option V) (rs : List Str), σ = [some (.ref d), some (.ref sa), some (.ref l), v3, v4, v5, v6] ∧ Same H H' ∧ Same1 H3 H' l ∧ H' l = some (.lst (rs.map V.str)) ∧ codes rs = (gs.take i).mapIdx (brdT gs)) ⟨_, _, _, _, [], rfl, s03, fun _ _ _ e => e, hl3, rfl⟩ ?_ ?_
    · rintro i σ H4 hi ⟨v3, v4, v5, v6, rs, rfl, s4, s34, hl4, er⟩
      obtain ⟨t, ht⟩ : ∃ t, gs[i]? = some t := ⟨_, List.getElem?_eq_getElem hi⟩
      have tl := M.t8 t (List.mem_of_getElem? ht)
      obtain ⟨ra, hra, hra0⟩ := mark_at (hM.mono s4) ht
      have hat : atI us (0 + (i : Int)) = some (V.ref ra) := by
        rw [Int.zero_add]
        exact atI_nat hra
      have nsa : sa ≠ l := ne_of_none hsa2 hl
      have hsa4 := s34 _ _ nsa hsa3
      have hcs4 : Cel H4 sv (stM gs) := Cel.one s34 hl3 hcs3
      have zl : (t.map fun c => V.str ⟨#[c]⟩).length = t.length := List.length_map _
      refine ⟨_, rfl, _, rfl, d, _, _, _, rfl, rfl, SqL.of (s4 _ _ hd), hat, ra, _, rfl, .inl (SqL.of hra0), _, rfl, by rw [zl]; omega, by rw [zl]; omega, ?_⟩
      rw [Int.toNat_natCast, zl]
      refine for_range (lo := 0) (n := t.length) (fun j σ H' => ∃ (v5 v6 : Option V) (tx : Str), σ = [some (.ref d), some (.ref sa), some (.ref l), some (.int (0 + (i : Int))), some (.str tx), v5, v6] ∧ Same H4 H' ∧ tx.cps.toList = (t.take j).mapIdx (brdS gs i)) ⟨_, _, _, rfl, Same.refl _, rfl⟩ ?_ ?_
      · rintro j σ H5 hj ⟨v5, v6, tx, rfl, s5, et⟩
        obtain ⟨k, hk⟩ : ∃ k, t[j]? = some k := ⟨_, List.getElem?_eq_getElem hj⟩
        obtain ⟨n, n1, n8, hn⟩ := M.ex
        have km := (hn t (List.mem_of_getElem? ht)).2 k (List.mem_of_getElem? hk)
        have txl : tx.length = j := by
          rw [← show tx.cps.toList.length = tx.length from Array.length_toList, et, List.length_mapIdx, List.length_take]
          omega
        have s45 := s4.trans s5
        refine ⟨_, rfl, _, rfl, d, _, _, _, rfl, rfl, SqL.of (s45 _ _ hd), hat, _, rfl, ra, _, _, V.str ⟨#[k]⟩, rfl, rfl, SqL.of (s5 _ _ hra0), (by rw [Int.zero_add]; exact atI_nat (by rw [List.getElem?_map, hk]; rfl)), ?_⟩
        have fin : ∀ (c : Nat) (H6 : Hp) (v6 : V), Same H5 H6 → c = brdS gs i j k → ∃ (v5 v6' : Option V) (tx' : Str), [some (V.ref d), some (V.ref sa), some (V.ref l), some (V.int (0 + (i : Int))), some (V.str (tx ++ ⟨#[c]⟩)), some (V.int (0 + (j : Int))), some v6] = [some (V.ref d), some (V.ref sa), some (V.ref l), some (V.int (0 + (i : Int))), some (V.str tx'), v5, v6'] ∧ Same H4 H6 ∧ tx'.cps.toList = (t.take (j + 1)).mapIdx (brdS gs i) := fun c H6 v6 s6 ec => by
          refine ⟨_, _, _, rfl, s5.trans s6, ?_⟩
          rw [mapIdx_step _ hk, ← et, ← ec]
          show (tx.cps ++ #[c]).toList = _
          rw [Array.toList_append]
        refine ⟨fun σ' H' => ∃ c : Nat, σ' = [some (.ref d), some (.ref sa), some (.ref l), some (.int (0 + (i : Int))), some (.str tx), some (.int (0 + (j : Int))), some (.str ⟨#[c]⟩)] ∧ Same H5 H' ∧ (valV (mergeK [] [(.inr "o", V.str "?"), (.inr "c", V.str "?")]) (.inr ⟨#[c]⟩)).getD (V.str ⟨#[c]⟩) = V.str ⟨#[brdS gs i j k]⟩, ?_, ?_⟩
        · by_cases h46 : k = 46
          · have hsa5 := s5 _ _ hsa4
            have hcs5 := hcs4.mono s5
            have n8' : (nrM gs i j).length ≤ 8 := near_few gs (i, j)
            refine ⟨_, rfl, rfl, _, rfl, iteP (by rw [h46]; decide +kernel) ?_⟩
            refine ⟨_, rfl, sa, rfl, ⟨_, SqL.of hsa5⟩, fun z hz => ?_⟩
            refine comp_data (K := K) (a := sa) (xs := sv) (fun a => a ≠ z) ((stM gs).map fun x => if Cells.near x (i, j) = true then some (cData x) else none) (fun σ => ∃ u0, σ = [u0, some (.int (0 + (i : Int))), some (.int (0 + (j : Int)))]) hz (fun _ h => h) ⟨_, rfl⟩ (by rw [List.length_map]; exact hcs5.length.symm) (by rw [hcs5.length]; exact Nat.le_trans (show (stM gs).length ≤ 64 from Nat.le_trans (Cells.allCs_length (pZ [111]) 0 gs M.t8) (by omega)) (by decide)) (SqL.of hsa5) ?_ ?_
            · rintro m x o σ H6 hx ho s6 _ ⟨u0, rfl⟩ Y Z yes no
              obtain ⟨y, hy, ya, rfl, hya⟩ := Cel.get (Cel.mono s6 hcs5) hx
              have eo := map_at hy ho
              refine ⟨_, rfl, _, rfl, _, rfl, (by show 2 ≤ sizeLine; decide), fun tq htq => ?_⟩
              have z7 := same_new (o := .tup [V.int (0 + (i : Int)), V.int (0 + (j : Int))]) htq
              refine ⟨ya, tq, y, (i, j), rfl, z7 _ _ hya, by rw [upd_same, Int.zero_add, Int.zero_add], _, rfl, ?_⟩
              by_cases hp : Cells.near y (i, j) = true
              · rw [if_pos hp] at eo
                exact iteP hp ⟨_, rfl, yes _ _ _ _ eo ⟨_, rfl⟩ z7 (CelR.rdn ⟨ya, rfl, z7 _ _ hya⟩)⟩
              · rw [if_neg hp] at eo
                exact iteN (Bool.eq_false_iff.mpr hp) (no _ _ eo ⟨_, rfl⟩ z7)
            · rintro ys H6 s6 hz6 hr6
              rw [outs_filter] at hr6
              have yl : ys.length = (nrM gs i j).length := (RdnAll.cel hr6).length
              have y9 : ys.length < 9 := by omega
              obtain ⟨d1, d2, d3⟩ := bdig ys.length y9
              have hlog : ((ys.length : Nat) : Int).natAbs.log2 < 1920 := by
                rw [Int.natAbs_natCast]
                have : ∀ d : Nat, d < 9 → d.log2 < 1920 := by decide +kernel
                exact this _ y9
              refine ⟨z, _, rfl, .inl (SqL.of hz6), _, rfl, hlog, 48 + ys.length, ?_, s6, ?_⟩
              · rw [← d1]
                rfl
              · rw [get_no _ y9, yl]
                unfold brdS
                rw [if_pos h46]
          · refine ⟨_, rfl, rfl, _, rfl, iteN ?_ ⟨k, rfl, Same.refl _, ?_⟩⟩
            · have : ∀ k ∈ marks, k ≠ 46 → decide (V.str ⟨#[k]⟩ = V.str ".") = false := by decide +kernel
              exact this k km h46
            · rw [get_oc k km h46]
              unfold brdS
              rw [if_neg h46]
        · rintro _ H6 ⟨c, rfl, s6, hg⟩
          refine ⟨_, rfl, fun dp hdp => ?_⟩
          have z7 := same_new (o := .dK []) hdp
          have hup : Same H6 (upd (upd H6 dp (.dK [])) dp (.dK (mergeK [] [(.inr "o", V.str "?"), (.inr "c", V.str "?")]))) := fun b o e => by
            rw [upd_ne (ne_of_none e hdp)]
            exact z7 _ _ e
          refine ⟨upd_same, [(.inr "o", V.str "?"), (.inr "c", V.str "?")], rfl, by decide, dp, rfl, .inl ⟨_, .inl upd_same⟩, _, rfl, _, rfl, _, DGet.k (k := .inr ⟨#[c]⟩) upd_same, tx, ⟨#[brdS gs i j k]⟩, rfl, hg, ?_, fin _ _ _ (s6.trans hup) rfl⟩
          rw [txl]
          exact Nat.le_trans (show j + 1 ≤ 20 by omega) (by decide)
      · rintro σ H5 ⟨v5, v6, tx, rfl, s5, et⟩
        rw [List.take_length] at et
        have hl5 := s5 _ _ hl4
        have rl : rs.length ≤ 8 := by
          have : (codes rs).length = ((gs.take i).mapIdx (brdT gs)).length := by rw [er]
          rw [codes_len, List.length_mapIdx, List.length_take] at this
          omega
        refine ⟨_, rfl, .inl ⟨rfl, _, SqL.of hl5⟩, _, rfl, l, _, _, rfl, rfl, hl5, ?_, ?_⟩
        · rw [List.length_map]
          exact Nat.lt_of_le_of_lt rl (by decide)
        refine ⟨_, _, _, _, rs ++ [tx], rfl, fun b o e => ?_, fun b o nb e => ?_, ?_, ?_⟩
        · rw [upd_ne (ne_of_none e lfree)]
          exact s5 _ _ (s4 _ _ e)
        · rw [upd_ne nb]
          exact s5 _ _ (s34 _ _ nb e)
        · rw [upd_same, List.map_append]
          rfl
        · rw [mapIdx_step _ ht, ← er]
          unfold codes
          rw [List.map_append]
          show _ ++ [tx.cps.toList] = _
          rw [et]
          rfl
    · rintro σ H4 ⟨v3, v4, v5, v6, rs, rfl, s4, s34, hl4, er⟩
      rw [List.take_length] at er
      have nsa : sa ≠ l := ne_of_none hsa2 hl
      have hsa4 := s34 _ _ nsa hsa3
      refine ⟨_, rfl, _, rfl, sa, _, rfl, .inl (SqL.of hsa4), (by show 2 ≤ sizeLine; decide), fun p hp => ?_⟩
      have z5 := same_new (o := .tup [V.ref l, V.int ((sv.length : Nat) : Int)]) hp
      refine q p l rs _ (s4.free hp) lfree ⟨?_, z5 _ _ hl4⟩ er (s4.trans z5)
      rw [upd_same, hcs3.length]
end

/-! law. -/
def spLaw (K : PySem.W.Frag) : Sp := fun vs H Q _ => ∃ (a : Addr) (ns : List Int), vs = [.ref a] ∧ SqL K H a (ns.map V.int) ∧ ns.length ≤ 63 ∧ ∀ H', Q (.bl true) H'
theorem ask_few (rs : List Str) : ∀ tg : Option (Nat × Nat), (askL rs tg).length ≤ (shutC rs).length
  | none => Nat.le_refl _
  | some c => by
    show (clA rs c).length ≤ _
    rw [near_shut]
    exact List.length_filter_le _ _
theorem thing_at {H : Hp} {ws : List V} {cs : List (Nat × Nat)} {i : Nat} {v : V} (h : Cel H ws cs) (e : (ws ++ [V.str "all"])[i]? = some v) : ∃ tg : Option (Nat × Nat), ThAt H v tg ∧ ∀ c, tg = some c → c ∈ cs := by
  by_cases hi : i < ws.length
  · rw [List.getElem?_append_left hi] at e
    obtain ⟨c, hc, r⟩ := h.get e
    exact ⟨some c, r, fun c' e' => by cases e'; exact List.mem_of_getElem? hc⟩
  · rw [List.getElem?_append_right (by omega)] at e
    have : v = V.str "all" := by
      cases hk : i - ws.length with
      | zero =>
        rw [hk] at e
        exact (Option.some.inj e).symm
      | succ m =>
        rw [hk] at e
        cases e
    exact ⟨none, this, fun _ e' => nomatch e'⟩
/-- an index below the length of the things -/
theorem mod_at {xs : List V} (h : 0 < xs.length) (z : Int) : ∃ v, atI xs (z % ((xs.length : Nat) : Int)) = some v ∧ xs[(z % ((xs.length : Nat) : Int)).toNat]? = some v := by
  have m0 := Int.emod_nonneg z (show ((xs.length : Nat) : Int) ≠ 0 by omega)
  have m1 := Int.emod_lt_of_pos z (show (0 : Int) < ((xs.length : Nat) : Int) by omega)
  have hl : (z % ((xs.length : Nat) : Int)).toNat < xs.length := by omega
  exact ⟨_, atI_lt m0 (List.getElem?_eq_getElem hl), List.getElem?_eq_getElem hl⟩
section
variable {P : Program} {w : World} {K : PySem.W.Frag} {mg : Str → Option Value} {base : Heap} {f : Addr} {fd : FuncData} {C_NoLaying : Addr}
theorem sc_law : FnScope ["_law_script", "_law_marks", "_law_board_here", "_law_finding_here", "_law_some", "_law_k", "_law_one", "_law_other", "_law_things_here", "_law_due_here", "_law_told_here", "_law_found"] ["_law_script"] (defScope s_law) := ⟨rfl, rfl, rfl, by decide +kernel, rfl, by decide +kernel, by decide +kernel⟩
theorem ok_law {f1 f2 f3 f4 f5 f6 f7 f8 f9 f10 f11 f12 f13 f14 f15 f16 f17 f18 f19 f20 f21 f22 f23 f24 f25 f26 f27 f28 : Addr} {fd1 fd2 fd3 fd4 fd5 fd6 fd7 fd8 fd9 fd10 fd11 fd12 fd13 fd14 fd15 fd16 fd17 fd18 fd19 fd20 fd21 fd22 fd23 fd24 fd25 fd26 fd27 fd28 : FuncData} (T : Txt mg) (O_NoLaying : ExCls K mg "NoLaying" C_NoLaying) (FN : PySem.W.mroIn K C_NoLaying (.ref C_NoLaying) = some true) (D : DefAt K mg "law" s_law ["_law_script"] f fd)
    (D_around : DefAt K mg "around" s_around ["board", "cell"] f1 fd1) (D_sign_at : DefAt K mg "sign_at" s_sign_at ["board", "cell"] f2 fd2) (D_cells_of : DefAt K mg "cells_of" s_cells_of ["board"] f3 fd3)
    (D_closed : DefAt K mg "closed" s_closed ["board"] f4 fd4) (D_number_at : DefAt K mg "number_at" s_number_at ["board", "cell"] f5 fd5) (D_closed_around : DefAt K mg "closed_around" s_closed_around ["board", "cell"] f6 fd6)
    (D_asked_by : DefAt K mg "asked_by" s_asked_by ["board", "thing"] f7 fd7) (D_known_of : DefAt K mg "known_of" s_known_of ["finding"] f8 fd8) (D_still_asked : DefAt K mg "still_asked" s_still_asked ["asked", "known"] f9 fd9) (D_settled : DefAt K mg "settled" s_settled ["regions"] f10 fd10) (D_gained : DefAt K mg "gained" s_gained ["asked"] f11 fd11) (D_follows : DefAt K mg "follows" s_follows ["board", "things", "finding"] f12 fd12)
    (D_law_cell_at : DefAt K mg "_law_cell_at" s_law_cell_at ["_law_script", "_law_k"] f13 fd13) (D_law_mixed : DefAt K mg "_law_mixed" s_law_mixed ["_law_cell", "_law_k"] f14 fd14) (D_law_mark : DefAt K mg "_law_mark" s_law_mark ["_law_drawn_here", "_law_often", "_law_many", "_law_room"] f15 fd15) (D_law_drawn : DefAt K mg "_law_drawn" s_law_drawn ["_law_script", "_law_most", "_law_limit"] f16 fd16) (D_law_cells : DefAt K mg "_law_cells" s_law_cells ["_law_rows", "_law_signs"] f17 fd17)
    (D_law_near : DefAt K mg "_law_near" s_law_near ["_law_one", "_law_other"] f18 fd18) (D_law_board : DefAt K mg "_law_board" s_law_board ["_law_marks"] f19 fd19) (D_law_bent : DefAt K mg "_law_bent" s_law_bent ["_law_board_here", "_law_cell"] f20 fd20) (D_law_finding : DefAt K mg "_law_finding" s_law_finding ["_law_marks", "_law_cell"] f21 fd21) (D_law_looked : DefAt K mg "_law_looked" s_law_looked ["_law_board_here", "_law_thing"] f22 fd22)
    (D_law_number : DefAt K mg "_law_number" s_law_number ["_law_board_here", "_law_thing"] f23 fd23) (D_law_things : DefAt K mg "_law_things" s_law_things ["_law_board_here"] f24 fd24) (D_law_is_finding : DefAt K mg "_law_is_finding" s_law_is_finding ["_law_found", "_law_due_here"] f25 fd25) (D_law_told : DefAt K mg "_law_told" s_law_told ["_law_board_here", "_law_things_here", "_law_finding_here"] f26 fd26) (D_law_choices : DefAt K mg "_law_choices" s_law_choices ["_law_cells_here", "_law_finding_here"] f27 fd27) (D_law_due : DefAt K mg "_law_due" s_law_due ["_law_board_here", "_law_things_here", "_law_finding_here"] f28 fd28) :
    FnOk P w K mg base CX0 8 f fd ["_law_script"] (spLaw K) := by
  have G_law_cell_at : FnOk P w K mg base CX0 1 f13 fd13 ["_law_script", "_law_k"] (spCell K) := ok_law_cell_at T D_law_cell_at
  have G_law_mixed : FnOk P w K mg base CX0 1 f14 fd14 ["_law_cell", "_law_k"] spMixed := ok_law_mixed D_law_mixed
  have G_law_drawn : FnOk P w K mg base CX0 2 f16 fd16 ["_law_script", "_law_most", "_law_limit"] (spDrawn K) := ok_law_drawn T D_law_drawn D_law_cell_at D_law_mixed D_law_mark
  have G_law_board : FnOk P w K mg base CX0 2 f19 fd19 ["_law_marks"] spBoardL := ok_law_board T D_law_board D_law_near D_law_cells
  have G_law_bent : FnOk P w K mg base CX0 2 f20 fd20 ["_law_board_here", "_law_cell"] spBentL := ok_law_bent T D_law_bent D_law_cells
  have G_law_finding : FnOk P w K mg base CX0 2 f21 fd21 ["_law_marks", "_law_cell"] spFinding := ok_law_finding T D_law_finding D_law_mixed D_law_cells
  have G_law_things : FnOk P w K mg base CX0 2 f24 fd24 ["_law_board_here"] spThings := ok_law_things T D_law_things D_law_cells
  have G_law_is_finding : FnOk P w K mg base CX0 1 f25 fd25 ["_law_found", "_law_due_here"] spIsF := ok_law_is_finding T D_law_is_finding
  have G_law_told : FnOk P w K mg base CX0 5 f26 fd26 ["_law_board_here", "_law_things_here", "_law_finding_here"] spToldF := ok_law_told T O_NoLaying FN D_law_told D_around D_sign_at D_cells_of D_closed D_number_at D_closed_around D_asked_by D_known_of D_still_asked D_settled D_gained D_follows
  have G_law_due : FnOk P w K mg base CX0 3 f28 fd28 ["_law_board_here", "_law_things_here", "_law_finding_here"] spDue := ok_law_due T D_law_due D_law_cells D_law_near D_law_looked D_law_number D_law_choices
  refine D.F.ok sc_law (fun vs H Q E h => ?_) (fun cdv A outer s H vs Q E hr h => ?_)
  · obtain ⟨a, ns, rfl, _⟩ := h
    rfl
  · obtain ⟨a, ns, rfl, hS, hlen, q⟩ := h
    refine ⟨_, (pss_cons (ps_set (i := 1) sc_law.nd rfl (Or.inl rfl) (pe_call G_law_drawn (hr.mono (by decide)) (by rfl) D_law_drawn.g D_law_drawn.F.kp D_law_drawn.b .nil pass0 (pa_cons (pv 0) (pa_cons pe_int (pa_cons pe_int pa_nil)))))
      (pss_cons (ps_set (i := 2) sc_law.nd rfl (Or.inl rfl) (pe_call G_law_bent (hr.mono (by decide)) (by rfl) D_law_bent.g D_law_bent.F.kp D_law_bent.b .nil pass0 (pa_cons (pe_call G_law_board (hr.mono (by decide)) (by rfl) D_law_board.g D_law_board.F.kp D_law_board.b .nil pass0 (pa_cons (pv 1) pa_nil)) (pa_cons (pe_call G_law_cell_at (hr.mono (by decide)) (by rfl) D_law_cell_at.g D_law_cell_at.F.kp D_law_cell_at.b .nil pass0 (pa_cons (pv 0) (pa_cons pe_int pa_nil))) pa_nil))))
      (pss_cons (ps_set (i := 3) sc_law.nd rfl (Or.inl rfl) (pe_call G_law_finding (hr.mono (by decide)) (by rfl) D_law_finding.g D_law_finding.F.kp D_law_finding.b .nil pass0 (pa_cons (pv 1) (pa_cons (pe_call G_law_cell_at (hr.mono (by decide)) (by rfl) D_law_cell_at.g D_law_cell_at.F.kp D_law_cell_at.b .nil pass0 (pa_cons (pv 0) (pa_cons pe_int pa_nil))) pa_nil))))
      (pss_cons (ps_set (i := 4) sc_law.nd rfl (Or.inl rfl) (pe_call G_law_things (hr.mono (by decide)) (by rfl) D_law_things.g D_law_things.F.kp D_law_things.b .nil pass0 (pa_cons (pv 2) pa_nil)))
      (pss_cons (ps_for PassesOwn.never rfl (pi_range1 (by rfl) T.b_range (pa_cons pe_int pa_nil)) (pg_name (i := 5) sc_law.nd rfl (Or.inl rfl)) (pss_cons (ps_set (i := 6) sc_law.nd rfl (Or.inl rfl) (pe_op op_mod (pe_call G_law_mixed (hr.mono (by decide)) (by rfl) D_law_mixed.g D_law_mixed.F.kp D_law_mixed.b .nil pass0 (pa_cons (pe_call G_law_cell_at (hr.mono (by decide)) (by rfl) D_law_cell_at.g D_law_cell_at.F.kp D_law_cell_at.b .nil pass0 (pa_cons (pv 0) (pa_cons pe_int pa_nil))) (pa_cons (pv 5) pa_nil))) (pe_callB call_len_seq (by rfl) T.b_len PySem.boot_len (pa_cons (pv 4) pa_nil))))
      (pss_cons (ps_set (i := 7) sc_law.nd rfl (Or.inl rfl) (pe_op op_mod (pe_call G_law_mixed (hr.mono (by decide)) (by rfl) D_law_mixed.g D_law_mixed.F.kp D_law_mixed.b .nil pass0 (pa_cons (pe_call G_law_cell_at (hr.mono (by decide)) (by rfl) D_law_cell_at.g D_law_cell_at.F.kp D_law_cell_at.b .nil pass0 (pa_cons (pv 0) (pa_cons pe_int pa_nil))) (pa_cons (pv 5) pa_nil))) (pe_callB call_len_seq (by rfl) T.b_len PySem.boot_len (pa_cons (pv 4) pa_nil))))
      (pss_one (ps_if (pt_cmpR op_ne (pv 6) (pv 7) (nomark _)) (pss_cons (ps_set (i := 8) sc_law.nd rfl (Or.inl rfl) (pe_lst (pa_cons (pe_ix ix_list (pv 4) (pv 6) (fun _ _ => rfl)) (pa_cons (pe_ix ix_list (pv 4) (pv 7) (fun _ _ => rfl)) pa_nil))))
      (pss_cons (ps_set (i := 9) sc_law.nd rfl (Or.inl rfl) (pe_call G_law_due (hr.mono (by decide)) (by rfl) D_law_due.g D_law_due.F.kp D_law_due.b .nil pass0 (pa_cons (pv 2) (pa_cons (pv 8) (pa_cons (pv 3) pa_nil)))))
      (pss_one (ps_for PassesOwn.never rfl (pi_tup (pe_tup (pa_cons (pv 8) (pa_cons (pe_rev (pv 8) (pe_un un_neg pe_int)) pa_nil)))) (pg_name (i := 10) sc_law.nd rfl (Or.inl rfl)) (pss_cons (ps_set (i := 11) sc_law.nd rfl (Or.inl rfl) (pe_call G_law_told (hr.mono (by decide)) (by rfl) D_law_told.g D_law_told.F.kp D_law_told.b .nil pass0 (pa_cons (pv 2) (pa_cons (pe_callTy call_list_of (by rfl) T.b_list PyProof.Rows.boot_list (pa_cons (pv 10) pa_nil)) (pa_cons (pv 3) pa_nil)))))
      (pss_one (ps_if (PW.pt (pw_or (PW.pt (pw_and (pt_cmpR op_isN (pv 9) pe_non (nomark _)) (pw_and1 (pt_cmpR op_notN (pv 11) pe_non (nomark _))))) (pw_or1 (PW.pt (pw_and (pt_cmpR op_notN (pv 9) pe_non (nomark _)) (pw_and1 (pt_not (pt_truth (pe_call G_law_is_finding (hr.mono (by decide)) (by rfl) D_law_is_finding.g D_law_is_finding.F.kp D_law_is_finding.b .nil pass0 (pa_cons (pv 11) (pa_cons (pv 9) pa_nil))) (fun _ => rfl))))))))) (pss_one (ps_ret pe_bl)) pss_nil))))))) pss_nil)))))
      (pss_one (ps_ret pe_bl))))))), ?_⟩
    refine ⟨_, rfl, a, ns, rfl, hS, fun d us gs H1 hd hd1 hM M s1 => ?_⟩
    refine ⟨_, rfl, d, us, gs, rfl, hd1, hM, M, fun p0 l0 rs0 H2 hp0 hl0 B0 er s2 => ?_⟩
    have R0 := M.rows er
    refine ⟨_, rfl, a, ns, _, rfl, (s1.trans s2).seq hS, by decide, fun c2 => ?_⟩
    refine ⟨p0, l0, rs0, _, c2, rfl, B0, R0, fun p l rs n H3 B R esh s3 => ?_⟩
    have s03 := (s1.trans s2).trans s3
    have few : (shutC rs).length ≤ 8 := by
      rw [esh]
      exact M.few8 er
    refine ⟨_, rfl, _, rfl, a, ns, _, rfl, s03.seq hS, by decide, fun c3 => ?_⟩
    refine ⟨d, us, gs, c3, rfl, (s2.trans s3) _ _ hd1, hM.mono (s2.trans s3), M, fun fa fc fs u w' cl st H4 _ _ _ F Fi ap s4 => ?_⟩
    have B4 := B.mono s4
    have s04 := s03.trans s4
    refine ⟨_, rfl, p, l, rs, n, rfl, B4, R, fun td ws H5 htd htd5 hcw s5 => ?_⟩
    have B5 := B4.mono s5
    have F5 := F.mono s5
    have s05 := s04.trans s5
    have al : (ws ++ [V.str "all"]).length = ws.length + 1 := by rw [List.length_append]; rfl
    have pos : 0 < (ws ++ [V.str "all"]).length := by omega
    refine ⟨_, rfl, by decide, by decide, ?_⟩
    refine for_range (lo := 0) (n := 4) (fun i σ H' => ∃ (v5 v6 v7 v8 v9 v10 v11 : Option V), σ = [some (.ref a), some (.ref d), some (.ref p), some (.ref fa), some (.ref td), v5, v6, v7, v8, v9, v10, v11] ∧ Same H5 H') ⟨_, _, _, _, _, _, _, rfl, Same.refl _⟩ ?_ ?_
    · rintro i σ H6 hi ⟨v5, v6, v7, v8, v9, v10, v11, rfl, s6⟩
      have htd6 := s6 _ _ htd5
      have s06 := s05.trans s6
      refine ⟨_, rfl, a, ns, _, rfl, s06.seq hS, by decide, fun x3 => ⟨_, rfl, _, _, rfl, fun m1 => ⟨_, rfl, td, _, rfl, .inl (SqL.of htd6), _, _, rfl, rfl, (by show (0 : Int) < (((ws ++ [V.str "all"]).length : Nat) : Int); omega), ?_⟩⟩⟩
      refine ⟨_, rfl, a, ns, _, rfl, s06.seq hS, by decide, fun x2 => ⟨_, rfl, _, _, rfl, fun m2 => ⟨_, rfl, td, _, rfl, .inl (SqL.of htd6), _, _, rfl, rfl, (by show (0 : Int) < (((ws ++ [V.str "all"]).length : Nat) : Int); omega), ?_⟩⟩⟩
      refine ⟨_, rfl, _, rfl, rfl, _, rfl, ite2 (fun _ => ?_) (fun _ => ⟨_, _, _, _, _, _, _, rfl, s6⟩)⟩
      obtain ⟨t1, ht1, gt1⟩ := mod_at pos m1
      obtain ⟨t2, ht2, gt2⟩ := mod_at pos m2
      refine ⟨_, rfl, _, rfl, td, _, _, t1, rfl, rfl, SqL.of htd6, ht1, _, rfl, _, rfl, td, _, _, t2, rfl, rfl, SqL.of htd6, ht2, (by show 2 ≤ sizeLine; decide), fun th hth => ?_⟩
      have z7 := same_new (o := .lst [t1, t2]) hth
      have hth7 : upd H6 th (.lst [t1, t2]) th = some (.lst [t1, t2]) := upd_same
      generalize upd H6 th (.lst [t1, t2]) = H7 at *
      have s57 := s6.trans z7
      obtain ⟨tg1, a1, o1⟩ := thing_at (hcw.mono s57) gt1
      obtain ⟨tg2, a2, o2⟩ := thing_at (hcw.mono s57) gt2
      have l1 := Nat.le_trans (ask_few rs tg1) few
      have l2 := Nat.le_trans (ask_few rs tg2) few
      have I12 := two_in (rs := rs) (tg1 := tg1) (tg2 := tg2) ap
      have I21 := two_in (rs := rs) (tg1 := tg2) (tg2 := tg1) ap
      have hL := fit_mem (rs := rs) (n := n) (tg1 := tg1) (tg2 := tg2) (cl := cl) (st := st)
      have ask12 : ∀ (t : Addr) (H' : Hp), Same H7 H' → H' t = some (.lst [t1, t2]) → Ask2 H' p l t fa fc fs rs n t1 t2 tg1 tg2 u w' cl st := fun t H' s' e => ⟨B5.mono (s57.trans s'), R, e, a1.mono s', a2.mono s', o1, o2, by omega, by omega, F5.mono (s57.trans s'), Fi⟩
      have ask21 : ∀ (t : Addr) (H' : Hp), Same H7 H' → H' t = some (.lst [t2, t1]) → Ask2 H' p l t fa fc fs rs n t2 t1 tg2 tg1 u w' cl st := fun t H' s' e => ⟨B5.mono (s57.trans s'), R, e, a2.mono s', a1.mono s', o2, o1, by omega, by omega, F5.mono (s57.trans s'), Fi⟩
      have lx : (shutC rs).Pairwise Cells.lex := Cells.allCs_lex _ 0 (codes rs)
      refine ⟨_, rfl, _, rfl, _, rfl, p, l, th, fa, fc, fs, rs, n, t1, t2, tg1, tg2, u, w', cl, st, rfl, ask12 th H7 (Same.refl _) hth7, few, ?_, ?_⟩
      all_goals
        generalize fitL rs n tg2 (fitL rs n tg1 (Two.cho cl st (shutC rs))) = L at *
      · intro hne t d1 d2 w1 w2 H8 e1 e2 e3 c1 c2 s8
        have hL2 : ∀ S, S ∈ L ↔ Two.Fit cl st (shutC rs) (freeN rs tg2 cl st) (freeN rs tg1 cl st) (restN rs n tg2 st) (restN rs n tg1 st) S := fun S => (hL S).trans fit_turn
        have d12 := due_some I12 hL
        have d21 := due_some I21 hL2
        refine ⟨_, rfl, _, rfl, 1, rfl, -1, rfl, rfl, th, [t1, t2], rfl, SqL.of (s8 _ _ hth7), fun rv hrv => ⟨(by show 2 ≤ sizeLine; decide), fun tp htp => ⟨tp, rfl, ⟨_, SqT.of upd_same⟩, ?_⟩⟩⟩
        have z9 := same_new (o := .lst [t2, t1]) hrv
        have z10 := same_new (o := .tup [V.ref th, V.ref rv]) htp
        have s10 : Same H8 (upd (upd H8 rv (.lst [t1, t2].reverse)) tp (.tup [V.ref th, V.ref rv])) := z9.trans z10
        have hrv10 : upd (upd H8 rv (.lst [t1, t2].reverse)) tp (.tup [V.ref th, V.ref rv]) rv = some (.lst [t2, t1]) := z10 _ _ upd_same
        have htp10 : upd (upd H8 rv (.lst [t1, t2].reverse)) tp (.tup [V.ref th, V.ref rv]) tp = some (.tup [V.ref th, V.ref rv]) := upd_same
        generalize upd (upd H8 rv (.lst [t1, t2].reverse)) tp (.tup [V.ref th, V.ref rv]) = H10 at *
        have s710 := s8.trans s10
        refine for_tup (K := K) (a := tp) (xs := [.ref th, .ref rv]) (fun j σ H' => ∃ (v10 v11 : Option V), σ = [some (.ref a), some (.ref d), some (.ref p), some (.ref fa), some (.ref td), some (.int (0 + (i : Int))), some (.int (m1 % (((ws ++ [V.str "all"]).length : Nat) : Int))), some (.int (m2 % (((ws ++ [V.str "all"]).length : Nat) : Int))), some (.ref th), some (.ref t), v10, v11] ∧ Same H10 H') ⟨_, _, rfl, Same.refl _⟩ (fun j σ H' _ ⟨_, _, _, z⟩ => SqT.of (z _ _ htp10)) ?_ ?_
        · rintro j x σ H11 hx ⟨v10, v11, rfl, s11⟩
          have s711 := s710.trans s11
          have fin : ∀ (t' d1' d2' : Addr) (w1' w2' : List V) (H12 : Hp), Same H11 H12 → H12 t' = some (.tup [.ref d1', .ref d2']) → H12 d1' = some (.lst w1') → H12 d2' = some (.lst w2') → Cel H12 w1' (clearL L (freeC cl st (shutC rs))) → Cel H12 w2' (stoneL L (freeC cl st (shutC rs))) → FindAt H12 t' d1' d2' w1' w2' (clearL L (freeC cl st (shutC rs))) (stoneL L (freeC cl st (shutC rs))) ∧ FindAt H12 t d1 d2 w1 w2 (clearL L (freeC cl st (shutC rs))) (stoneL L (freeC cl st (shutC rs))) := fun t' d1' d2' w1' w2' H12 s12 g1 g2 g3 k1 k2 => ⟨⟨g1, g2, g3, k1, k2⟩, ⟨s12 _ _ (s11 _ _ (s10 _ _ e1)), s12 _ _ (s11 _ _ (s10 _ _ e2)), s12 _ _ (s11 _ _ (s10 _ _ e3)), c1.mono (s10.trans (s11.trans s12)), c2.mono (s10.trans (s11.trans s12))⟩⟩
          match j, hx with
          | 0, hx =>
            have ex : V.ref th = x := by simpa using hx
            subst ex
            have hth11 := s711 _ _ hth7
            refine ⟨_, rfl, _, rfl, th, _, rfl, .inl (SqL.of hth11), fun lc hlc => ⟨_, rfl, p, l, lc, fa, fc, fs, rs, n, t1, t2, tg1, tg2, u, w', cl, st, rfl, ask12 lc _ (s711.trans (same_new hlc)) upd_same, fun h0 t' d1' d2' w1' w2' k1 k2 H12 g1 g2 g3 q1 q2 p1 p2 x1 x2 s12 => ?_, fun hlt => absurd (d12.mp hne) (by omega)⟩⟩
            rw [due_clear I12 hL h0 lx p1 x1] at q1
            rw [due_stone I12 hL h0 lx p2 x2] at q2
            have sA := (same_new (o := .lst [t1, t2]) hlc).trans s12
            obtain ⟨FT, FD⟩ := fin t' d1' d2' w1' w2' H12 sA g1 g2 g3 q1 q2
            exact ⟨_, rfl, rfl, _, rfl, iteN rfl (iteF ⟨_, rfl, rfl, _, rfl, iteP rfl ⟨_, rfl, _, rfl, t', d1', d2', t, d1, d2, w1', w2', w1, w2, _, _, rfl, FT, FD, true, rfl, iteF ⟨_, _, rfl, s11.trans sA⟩⟩⟩)⟩
          | 1, hx =>
            have ex : V.ref rv = x := by simpa using hx
            subst ex
            have hrv11 := s11 _ _ hrv10
            refine ⟨_, rfl, _, rfl, rv, _, rfl, .inl (SqL.of hrv11), fun lc hlc => ⟨_, rfl, p, l, lc, fa, fc, fs, rs, n, t2, t1, tg2, tg1, u, w', cl, st, rfl, ask21 lc _ (s711.trans (same_new hlc)) upd_same, fun h0 t' d1' d2' w1' w2' k1 k2 H12 g1 g2 g3 q1 q2 p1 p2 x1 x2 s12 => ?_, fun hlt => absurd (d21.mp hne) (by omega)⟩⟩
            rw [due_clear I21 hL2 h0 lx p1 x1] at q1
            rw [due_stone I21 hL2 h0 lx p2 x2] at q2
            have sA := (same_new (o := .lst [t2, t1]) hlc).trans s12
            obtain ⟨FT, FD⟩ := fin t' d1' d2' w1' w2' H12 sA g1 g2 g3 q1 q2
            exact ⟨_, rfl, rfl, _, rfl, iteN rfl (iteF ⟨_, rfl, rfl, _, rfl, iteP rfl ⟨_, rfl, _, rfl, t', d1', d2', t, d1, d2, w1', w2', w1, w2, _, _, rfl, FT, FD, true, rfl, iteF ⟨_, _, rfl, s11.trans sA⟩⟩⟩)⟩
          | j + 2, hx => simp at hx
        · rintro σ H11 ⟨v10, v11, rfl, s11⟩
          exact ⟨_, _, _, _, _, _, _, rfl, s57.trans (s710.trans s11)⟩
      · intro hE H8 s8
        have hL2 : ∀ S, S ∈ L ↔ Two.Fit cl st (shutC rs) (freeN rs tg2 cl st) (freeN rs tg1 cl st) (restN rs n tg2 st) (restN rs n tg1 st) S := fun S => (hL S).trans fit_turn
        have d12 := due_some I12 hL
        have d21 := due_some I21 hL2
        refine ⟨_, rfl, _, rfl, 1, rfl, -1, rfl, rfl, th, [t1, t2], rfl, SqL.of (s8 _ _ hth7), fun rv hrv => ⟨(by show 2 ≤ sizeLine; decide), fun tp htp => ⟨tp, rfl, ⟨_, SqT.of upd_same⟩, ?_⟩⟩⟩
        have z9 := same_new (o := .lst [t2, t1]) hrv
        have z10 := same_new (o := .tup [V.ref th, V.ref rv]) htp
        have s10 : Same H8 (upd (upd H8 rv (.lst [t1, t2].reverse)) tp (.tup [V.ref th, V.ref rv])) := z9.trans z10
        have hrv10 : upd (upd H8 rv (.lst [t1, t2].reverse)) tp (.tup [V.ref th, V.ref rv]) rv = some (.lst [t2, t1]) := z10 _ _ upd_same
        have htp10 : upd (upd H8 rv (.lst [t1, t2].reverse)) tp (.tup [V.ref th, V.ref rv]) tp = some (.tup [V.ref th, V.ref rv]) := upd_same
        generalize upd (upd H8 rv (.lst [t1, t2].reverse)) tp (.tup [V.ref th, V.ref rv]) = H10 at *
        have s710 := s8.trans s10
        refine for_tup (K := K) (a := tp) (xs := [.ref th, .ref rv]) (fun j σ H' => ∃ (v10 v11 : Option V), σ = [some (.ref a), some (.ref d), some (.ref p), some (.ref fa), some (.ref td), some (.int (0 + (i : Int))), some (.int (m1 % (((ws ++ [V.str "all"]).length : Nat) : Int))), some (.int (m2 % (((ws ++ [V.str "all"]).length : Nat) : Int))), some (.ref th), some .non, v10, v11] ∧ Same H10 H') ⟨_, _, rfl, Same.refl _⟩ (fun j σ H' _ ⟨_, _, _, z⟩ => SqT.of (z _ _ htp10)) ?_ ?_
        · rintro j x σ H11 hx ⟨v10, v11, rfl, s11⟩
          have s711 := s710.trans s11
          match j, hx with
          | 0, hx =>
            have ex : V.ref th = x := by simpa using hx
            subst ex
            have hth11 := s711 _ _ hth7
            refine ⟨_, rfl, _, rfl, th, _, rfl, .inl (SqL.of hth11), fun lc hlc => ⟨_, rfl, p, l, lc, fa, fc, fs, rs, n, t1, t2, tg1, tg2, u, w', cl, st, rfl, ask12 lc _ (s711.trans (same_new hlc)) upd_same, fun h0 => absurd hE (d12.mpr h0), fun hlt H12 s12 => ?_⟩⟩
            exact ⟨_, rfl, rfl, _, rfl, iteP rfl ⟨_, rfl, rfl, _, rfl, iteN rfl ⟨_, rfl, rfl, _, rfl, iteN rfl (iteF ⟨_, _, rfl, s11.trans ((same_new hlc).trans s12)⟩)⟩⟩⟩
          | 1, hx =>
            have ex : V.ref rv = x := by simpa using hx
            subst ex
            have hrv11 := s11 _ _ hrv10
            refine ⟨_, rfl, _, rfl, rv, _, rfl, .inl (SqL.of hrv11), fun lc hlc => ⟨_, rfl, p, l, lc, fa, fc, fs, rs, n, t2, t1, tg2, tg1, u, w', cl, st, rfl, ask21 lc _ (s711.trans (same_new hlc)) upd_same, fun h0 => absurd hE (d21.mpr h0), fun hlt H12 s12 => ?_⟩⟩
            exact ⟨_, rfl, rfl, _, rfl, iteP rfl ⟨_, rfl, rfl, _, rfl, iteN rfl ⟨_, rfl, rfl, _, rfl, iteN rfl (iteF ⟨_, _, rfl, s11.trans ((same_new hlc).trans s12)⟩)⟩⟩⟩
          | j + 2, hx => simp at hx
        · rintro σ H11 ⟨v10, v11, rfl, s11⟩
          exact ⟨_, _, _, _, _, _, _, rfl, s57.trans (s710.trans s11)⟩
    · rintro σ H6 ⟨v5, v6, v7, v8, v9, v10, v11, rfl, s6⟩
      exact q _
end

theorem all_mk {l : PySem.W.OpenLaw} {w : World} {K : PySem.W.Frag} {h : Heap} {mg : Str → Option Value} {fa : Addr} {f_closed : Addr} {od_closed an_closed : Option Addr} {sl_closed : Array (Option Value)} {oc_closed kV_closed dc_closed pm_closed cd_closed ct_closed : Value}
    {f_around : Addr} {od_around an_around : Option Addr} {sl_around : Array (Option Value)} {oc_around kV_around dc_around pm_around cd_around ct_around : Value}
    {f_number_at : Addr} {od_number_at an_number_at : Option Addr} {sl_number_at : Array (Option Value)} {oc_number_at kV_number_at dc_number_at pm_number_at cd_number_at ct_number_at : Value}
    {f_cells_of : Addr} {od_cells_of an_cells_of : Option Addr} {sl_cells_of : Array (Option Value)} {oc_cells_of kV_cells_of dc_cells_of pm_cells_of cd_cells_of ct_cells_of : Value}
    {f_sign_at : Addr} {od_sign_at an_sign_at : Option Addr} {sl_sign_at : Array (Option Value)} {oc_sign_at kV_sign_at dc_sign_at pm_sign_at cd_sign_at ct_sign_at : Value}
    {f_closed_around : Addr} {od_closed_around an_closed_around : Option Addr} {sl_closed_around : Array (Option Value)} {oc_closed_around kV_closed_around dc_closed_around pm_closed_around cd_closed_around ct_closed_around : Value}
    {f_follows : Addr} {od_follows an_follows : Option Addr} {sl_follows : Array (Option Value)} {oc_follows kV_follows dc_follows pm_follows cd_follows ct_follows : Value}
    {f_asked_by : Addr} {od_asked_by an_asked_by : Option Addr} {sl_asked_by : Array (Option Value)} {oc_asked_by kV_asked_by dc_asked_by pm_asked_by cd_asked_by ct_asked_by : Value}
    {f_known_of : Addr} {od_known_of an_known_of : Option Addr} {sl_known_of : Array (Option Value)} {oc_known_of kV_known_of dc_known_of pm_known_of cd_known_of ct_known_of : Value}
    {f_still_asked : Addr} {od_still_asked an_still_asked : Option Addr} {sl_still_asked : Array (Option Value)} {oc_still_asked kV_still_asked dc_still_asked pm_still_asked cd_still_asked ct_still_asked : Value}
    {f_gained : Addr} {od_gained an_gained : Option Addr} {sl_gained : Array (Option Value)} {oc_gained kV_gained dc_gained pm_gained cd_gained ct_gained : Value}
    {f_settled : Addr} {od_settled an_settled : Option Addr} {sl_settled : Array (Option Value)} {oc_settled kV_settled dc_settled pm_settled cd_settled ct_settled : Value}
    {f_law_cell_at : Addr} {od_law_cell_at an_law_cell_at : Option Addr} {sl_law_cell_at : Array (Option Value)} {oc_law_cell_at kV_law_cell_at dc_law_cell_at pm_law_cell_at cd_law_cell_at ct_law_cell_at : Value}
    {f_law_mixed : Addr} {od_law_mixed an_law_mixed : Option Addr} {sl_law_mixed : Array (Option Value)} {oc_law_mixed kV_law_mixed dc_law_mixed pm_law_mixed cd_law_mixed ct_law_mixed : Value}
    {f_law_mark : Addr} {od_law_mark an_law_mark : Option Addr} {sl_law_mark : Array (Option Value)} {oc_law_mark kV_law_mark dc_law_mark pm_law_mark cd_law_mark ct_law_mark : Value}
    {f_law_drawn : Addr} {od_law_drawn an_law_drawn : Option Addr} {sl_law_drawn : Array (Option Value)} {oc_law_drawn kV_law_drawn dc_law_drawn pm_law_drawn cd_law_drawn ct_law_drawn : Value}
    {f_law_cells : Addr} {od_law_cells an_law_cells : Option Addr} {sl_law_cells : Array (Option Value)} {oc_law_cells kV_law_cells dc_law_cells pm_law_cells cd_law_cells ct_law_cells : Value}
    {f_law_near : Addr} {od_law_near an_law_near : Option Addr} {sl_law_near : Array (Option Value)} {oc_law_near kV_law_near dc_law_near pm_law_near cd_law_near ct_law_near : Value}
    {f_law_board : Addr} {od_law_board an_law_board : Option Addr} {sl_law_board : Array (Option Value)} {oc_law_board kV_law_board dc_law_board pm_law_board cd_law_board ct_law_board : Value}
    {f_law_bent : Addr} {od_law_bent an_law_bent : Option Addr} {sl_law_bent : Array (Option Value)} {oc_law_bent kV_law_bent dc_law_bent pm_law_bent cd_law_bent ct_law_bent : Value}
    {f_law_finding : Addr} {od_law_finding an_law_finding : Option Addr} {sl_law_finding : Array (Option Value)} {oc_law_finding kV_law_finding dc_law_finding pm_law_finding cd_law_finding ct_law_finding : Value}
    {f_law_looked : Addr} {od_law_looked an_law_looked : Option Addr} {sl_law_looked : Array (Option Value)} {oc_law_looked kV_law_looked dc_law_looked pm_law_looked cd_law_looked ct_law_looked : Value}
    {f_law_number : Addr} {od_law_number an_law_number : Option Addr} {sl_law_number : Array (Option Value)} {oc_law_number kV_law_number dc_law_number pm_law_number cd_law_number ct_law_number : Value}
    {f_law_things : Addr} {od_law_things an_law_things : Option Addr} {sl_law_things : Array (Option Value)} {oc_law_things kV_law_things dc_law_things pm_law_things cd_law_things ct_law_things : Value}
    {f_law_is_finding : Addr} {od_law_is_finding an_law_is_finding : Option Addr} {sl_law_is_finding : Array (Option Value)} {oc_law_is_finding kV_law_is_finding dc_law_is_finding pm_law_is_finding cd_law_is_finding ct_law_is_finding : Value}
    {f_law_told : Addr} {od_law_told an_law_told : Option Addr} {sl_law_told : Array (Option Value)} {oc_law_told kV_law_told dc_law_told pm_law_told cd_law_told ct_law_told : Value}
    {f_law_choices : Addr} {od_law_choices an_law_choices : Option Addr} {sl_law_choices : Array (Option Value)} {oc_law_choices kV_law_choices dc_law_choices pm_law_choices cd_law_choices ct_law_choices : Value}
    {f_law_due : Addr} {od_law_due an_law_due : Option Addr} {sl_law_due : Array (Option Value)} {oc_law_due kV_law_due dc_law_due pm_law_due cd_law_due ct_law_due : Value}
    {f_law : Addr} {od_law an_law : Option Addr} {sl_law : Array (Option Value)} {oc_law kV_law dc_law pm_law cd_law ct_law : Value}
    {C_NoLaying : Addr}
    {t_ALL : Tok}
    {t_CLOSED_SIGN : Tok}
    {t_NO_CELL_SIGN : Tok}
    (X : K.In h) (G : h.Ns mainGlobals mg) (hfa : mg "law" = some (.ref fa))
    (a_closed : PySem.W.nsIn K mainGlobals "closed" = some (some (.ref f_closed)))
    (l_closed : K.lookup f_closed = some ⟨oc_closed, od_closed, .func (PySem.W.fnOf "closed" "closed" (defArgs s_closed) (defBody s_closed) (defScope s_closed) .none kV_closed dc_closed pm_closed an_closed cd_closed ct_closed), sl_closed⟩)
    (c_closed : PySem.W.codeIn K cd_closed "closed" = true) (k_closed : PySem.W.keepIn K (.ref f_closed) = true)
    (a_around : PySem.W.nsIn K mainGlobals "around" = some (some (.ref f_around)))
    (l_around : K.lookup f_around = some ⟨oc_around, od_around, .func (PySem.W.fnOf "around" "around" (defArgs s_around) (defBody s_around) (defScope s_around) .none kV_around dc_around pm_around an_around cd_around ct_around), sl_around⟩)
    (c_around : PySem.W.codeIn K cd_around "around" = true) (k_around : PySem.W.keepIn K (.ref f_around) = true)
    (a_number_at : PySem.W.nsIn K mainGlobals "number_at" = some (some (.ref f_number_at)))
    (l_number_at : K.lookup f_number_at = some ⟨oc_number_at, od_number_at, .func (PySem.W.fnOf "number_at" "number_at" (defArgs s_number_at) (defBody s_number_at) (defScope s_number_at) .none kV_number_at dc_number_at pm_number_at an_number_at cd_number_at ct_number_at), sl_number_at⟩)
    (c_number_at : PySem.W.codeIn K cd_number_at "number_at" = true) (k_number_at : PySem.W.keepIn K (.ref f_number_at) = true)
    (a_cells_of : PySem.W.nsIn K mainGlobals "cells_of" = some (some (.ref f_cells_of)))
    (l_cells_of : K.lookup f_cells_of = some ⟨oc_cells_of, od_cells_of, .func (PySem.W.fnOf "cells_of" "cells_of" (defArgs s_cells_of) (defBody s_cells_of) (defScope s_cells_of) .none kV_cells_of dc_cells_of pm_cells_of an_cells_of cd_cells_of ct_cells_of), sl_cells_of⟩)
    (c_cells_of : PySem.W.codeIn K cd_cells_of "cells_of" = true) (k_cells_of : PySem.W.keepIn K (.ref f_cells_of) = true)
    (a_sign_at : PySem.W.nsIn K mainGlobals "sign_at" = some (some (.ref f_sign_at)))
    (l_sign_at : K.lookup f_sign_at = some ⟨oc_sign_at, od_sign_at, .func (PySem.W.fnOf "sign_at" "sign_at" (defArgs s_sign_at) (defBody s_sign_at) (defScope s_sign_at) .none kV_sign_at dc_sign_at pm_sign_at an_sign_at cd_sign_at ct_sign_at), sl_sign_at⟩)
    (c_sign_at : PySem.W.codeIn K cd_sign_at "sign_at" = true) (k_sign_at : PySem.W.keepIn K (.ref f_sign_at) = true)
    (a_closed_around : PySem.W.nsIn K mainGlobals "closed_around" = some (some (.ref f_closed_around)))
    (l_closed_around : K.lookup f_closed_around = some ⟨oc_closed_around, od_closed_around, .func (PySem.W.fnOf "closed_around" "closed_around" (defArgs s_closed_around) (defBody s_closed_around) (defScope s_closed_around) .none kV_closed_around dc_closed_around pm_closed_around an_closed_around cd_closed_around ct_closed_around), sl_closed_around⟩)
    (c_closed_around : PySem.W.codeIn K cd_closed_around "closed_around" = true) (k_closed_around : PySem.W.keepIn K (.ref f_closed_around) = true)
    (a_follows : PySem.W.nsIn K mainGlobals "follows" = some (some (.ref f_follows)))
    (l_follows : K.lookup f_follows = some ⟨oc_follows, od_follows, .func (PySem.W.fnOf "follows" "follows" (defArgs s_follows) (defBody s_follows) (defScope s_follows) .none kV_follows dc_follows pm_follows an_follows cd_follows ct_follows), sl_follows⟩)
    (c_follows : PySem.W.codeIn K cd_follows "follows" = true) (k_follows : PySem.W.keepIn K (.ref f_follows) = true)
    (a_asked_by : PySem.W.nsIn K mainGlobals "asked_by" = some (some (.ref f_asked_by)))
    (l_asked_by : K.lookup f_asked_by = some ⟨oc_asked_by, od_asked_by, .func (PySem.W.fnOf "asked_by" "asked_by" (defArgs s_asked_by) (defBody s_asked_by) (defScope s_asked_by) .none kV_asked_by dc_asked_by pm_asked_by an_asked_by cd_asked_by ct_asked_by), sl_asked_by⟩)
    (c_asked_by : PySem.W.codeIn K cd_asked_by "asked_by" = true) (k_asked_by : PySem.W.keepIn K (.ref f_asked_by) = true)
    (a_known_of : PySem.W.nsIn K mainGlobals "known_of" = some (some (.ref f_known_of)))
    (l_known_of : K.lookup f_known_of = some ⟨oc_known_of, od_known_of, .func (PySem.W.fnOf "known_of" "known_of" (defArgs s_known_of) (defBody s_known_of) (defScope s_known_of) .none kV_known_of dc_known_of pm_known_of an_known_of cd_known_of ct_known_of), sl_known_of⟩)
    (c_known_of : PySem.W.codeIn K cd_known_of "known_of" = true) (k_known_of : PySem.W.keepIn K (.ref f_known_of) = true)
    (a_still_asked : PySem.W.nsIn K mainGlobals "still_asked" = some (some (.ref f_still_asked)))
    (l_still_asked : K.lookup f_still_asked = some ⟨oc_still_asked, od_still_asked, .func (PySem.W.fnOf "still_asked" "still_asked" (defArgs s_still_asked) (defBody s_still_asked) (defScope s_still_asked) .none kV_still_asked dc_still_asked pm_still_asked an_still_asked cd_still_asked ct_still_asked), sl_still_asked⟩)
    (c_still_asked : PySem.W.codeIn K cd_still_asked "still_asked" = true) (k_still_asked : PySem.W.keepIn K (.ref f_still_asked) = true)
    (a_gained : PySem.W.nsIn K mainGlobals "gained" = some (some (.ref f_gained)))
    (l_gained : K.lookup f_gained = some ⟨oc_gained, od_gained, .func (PySem.W.fnOf "gained" "gained" (defArgs s_gained) (defBody s_gained) (defScope s_gained) .none kV_gained dc_gained pm_gained an_gained cd_gained ct_gained), sl_gained⟩)
    (c_gained : PySem.W.codeIn K cd_gained "gained" = true) (k_gained : PySem.W.keepIn K (.ref f_gained) = true)
    (a_settled : PySem.W.nsIn K mainGlobals "settled" = some (some (.ref f_settled)))
    (l_settled : K.lookup f_settled = some ⟨oc_settled, od_settled, .func (PySem.W.fnOf "settled" "settled" (defArgs s_settled) (defBody s_settled) (defScope s_settled) .none kV_settled dc_settled pm_settled an_settled cd_settled ct_settled), sl_settled⟩)
    (c_settled : PySem.W.codeIn K cd_settled "settled" = true) (k_settled : PySem.W.keepIn K (.ref f_settled) = true)
    (a_law_cell_at : PySem.W.nsIn K mainGlobals "_law_cell_at" = some (some (.ref f_law_cell_at)))
    (l_law_cell_at : K.lookup f_law_cell_at = some ⟨oc_law_cell_at, od_law_cell_at, .func (PySem.W.fnOf "_law_cell_at" "_law_cell_at" (defArgs s_law_cell_at) (defBody s_law_cell_at) (defScope s_law_cell_at) .none kV_law_cell_at dc_law_cell_at pm_law_cell_at an_law_cell_at cd_law_cell_at ct_law_cell_at), sl_law_cell_at⟩)
    (c_law_cell_at : PySem.W.codeIn K cd_law_cell_at "_law_cell_at" = true) (k_law_cell_at : PySem.W.keepIn K (.ref f_law_cell_at) = true)
    (a_law_mixed : PySem.W.nsIn K mainGlobals "_law_mixed" = some (some (.ref f_law_mixed)))
    (l_law_mixed : K.lookup f_law_mixed = some ⟨oc_law_mixed, od_law_mixed, .func (PySem.W.fnOf "_law_mixed" "_law_mixed" (defArgs s_law_mixed) (defBody s_law_mixed) (defScope s_law_mixed) .none kV_law_mixed dc_law_mixed pm_law_mixed an_law_mixed cd_law_mixed ct_law_mixed), sl_law_mixed⟩)
    (c_law_mixed : PySem.W.codeIn K cd_law_mixed "_law_mixed" = true) (k_law_mixed : PySem.W.keepIn K (.ref f_law_mixed) = true)
    (a_law_mark : PySem.W.nsIn K mainGlobals "_law_mark" = some (some (.ref f_law_mark)))
    (l_law_mark : K.lookup f_law_mark = some ⟨oc_law_mark, od_law_mark, .func (PySem.W.fnOf "_law_mark" "_law_mark" (defArgs s_law_mark) (defBody s_law_mark) (defScope s_law_mark) .none kV_law_mark dc_law_mark pm_law_mark an_law_mark cd_law_mark ct_law_mark), sl_law_mark⟩)
    (c_law_mark : PySem.W.codeIn K cd_law_mark "_law_mark" = true) (k_law_mark : PySem.W.keepIn K (.ref f_law_mark) = true)
    (a_law_drawn : PySem.W.nsIn K mainGlobals "_law_drawn" = some (some (.ref f_law_drawn)))
    (l_law_drawn : K.lookup f_law_drawn = some ⟨oc_law_drawn, od_law_drawn, .func (PySem.W.fnOf "_law_drawn" "_law_drawn" (defArgs s_law_drawn) (defBody s_law_drawn) (defScope s_law_drawn) .none kV_law_drawn dc_law_drawn pm_law_drawn an_law_drawn cd_law_drawn ct_law_drawn), sl_law_drawn⟩)
    (c_law_drawn : PySem.W.codeIn K cd_law_drawn "_law_drawn" = true) (k_law_drawn : PySem.W.keepIn K (.ref f_law_drawn) = true)
    (a_law_cells : PySem.W.nsIn K mainGlobals "_law_cells" = some (some (.ref f_law_cells)))
    (l_law_cells : K.lookup f_law_cells = some ⟨oc_law_cells, od_law_cells, .func (PySem.W.fnOf "_law_cells" "_law_cells" (defArgs s_law_cells) (defBody s_law_cells) (defScope s_law_cells) .none kV_law_cells dc_law_cells pm_law_cells an_law_cells cd_law_cells ct_law_cells), sl_law_cells⟩)
    (c_law_cells : PySem.W.codeIn K cd_law_cells "_law_cells" = true) (k_law_cells : PySem.W.keepIn K (.ref f_law_cells) = true)
    (a_law_near : PySem.W.nsIn K mainGlobals "_law_near" = some (some (.ref f_law_near)))
    (l_law_near : K.lookup f_law_near = some ⟨oc_law_near, od_law_near, .func (PySem.W.fnOf "_law_near" "_law_near" (defArgs s_law_near) (defBody s_law_near) (defScope s_law_near) .none kV_law_near dc_law_near pm_law_near an_law_near cd_law_near ct_law_near), sl_law_near⟩)
    (c_law_near : PySem.W.codeIn K cd_law_near "_law_near" = true) (k_law_near : PySem.W.keepIn K (.ref f_law_near) = true)
    (a_law_board : PySem.W.nsIn K mainGlobals "_law_board" = some (some (.ref f_law_board)))
    (l_law_board : K.lookup f_law_board = some ⟨oc_law_board, od_law_board, .func (PySem.W.fnOf "_law_board" "_law_board" (defArgs s_law_board) (defBody s_law_board) (defScope s_law_board) .none kV_law_board dc_law_board pm_law_board an_law_board cd_law_board ct_law_board), sl_law_board⟩)
    (c_law_board : PySem.W.codeIn K cd_law_board "_law_board" = true) (k_law_board : PySem.W.keepIn K (.ref f_law_board) = true)
    (a_law_bent : PySem.W.nsIn K mainGlobals "_law_bent" = some (some (.ref f_law_bent)))
    (l_law_bent : K.lookup f_law_bent = some ⟨oc_law_bent, od_law_bent, .func (PySem.W.fnOf "_law_bent" "_law_bent" (defArgs s_law_bent) (defBody s_law_bent) (defScope s_law_bent) .none kV_law_bent dc_law_bent pm_law_bent an_law_bent cd_law_bent ct_law_bent), sl_law_bent⟩)
    (c_law_bent : PySem.W.codeIn K cd_law_bent "_law_bent" = true) (k_law_bent : PySem.W.keepIn K (.ref f_law_bent) = true)
    (a_law_finding : PySem.W.nsIn K mainGlobals "_law_finding" = some (some (.ref f_law_finding)))
    (l_law_finding : K.lookup f_law_finding = some ⟨oc_law_finding, od_law_finding, .func (PySem.W.fnOf "_law_finding" "_law_finding" (defArgs s_law_finding) (defBody s_law_finding) (defScope s_law_finding) .none kV_law_finding dc_law_finding pm_law_finding an_law_finding cd_law_finding ct_law_finding), sl_law_finding⟩)
    (c_law_finding : PySem.W.codeIn K cd_law_finding "_law_finding" = true) (k_law_finding : PySem.W.keepIn K (.ref f_law_finding) = true)
    (a_law_looked : PySem.W.nsIn K mainGlobals "_law_looked" = some (some (.ref f_law_looked)))
    (l_law_looked : K.lookup f_law_looked = some ⟨oc_law_looked, od_law_looked, .func (PySem.W.fnOf "_law_looked" "_law_looked" (defArgs s_law_looked) (defBody s_law_looked) (defScope s_law_looked) .none kV_law_looked dc_law_looked pm_law_looked an_law_looked cd_law_looked ct_law_looked), sl_law_looked⟩)
    (c_law_looked : PySem.W.codeIn K cd_law_looked "_law_looked" = true) (k_law_looked : PySem.W.keepIn K (.ref f_law_looked) = true)
    (a_law_number : PySem.W.nsIn K mainGlobals "_law_number" = some (some (.ref f_law_number)))
    (l_law_number : K.lookup f_law_number = some ⟨oc_law_number, od_law_number, .func (PySem.W.fnOf "_law_number" "_law_number" (defArgs s_law_number) (defBody s_law_number) (defScope s_law_number) .none kV_law_number dc_law_number pm_law_number an_law_number cd_law_number ct_law_number), sl_law_number⟩)
    (c_law_number : PySem.W.codeIn K cd_law_number "_law_number" = true) (k_law_number : PySem.W.keepIn K (.ref f_law_number) = true)
    (a_law_things : PySem.W.nsIn K mainGlobals "_law_things" = some (some (.ref f_law_things)))
    (l_law_things : K.lookup f_law_things = some ⟨oc_law_things, od_law_things, .func (PySem.W.fnOf "_law_things" "_law_things" (defArgs s_law_things) (defBody s_law_things) (defScope s_law_things) .none kV_law_things dc_law_things pm_law_things an_law_things cd_law_things ct_law_things), sl_law_things⟩)
    (c_law_things : PySem.W.codeIn K cd_law_things "_law_things" = true) (k_law_things : PySem.W.keepIn K (.ref f_law_things) = true)
    (a_law_is_finding : PySem.W.nsIn K mainGlobals "_law_is_finding" = some (some (.ref f_law_is_finding)))
    (l_law_is_finding : K.lookup f_law_is_finding = some ⟨oc_law_is_finding, od_law_is_finding, .func (PySem.W.fnOf "_law_is_finding" "_law_is_finding" (defArgs s_law_is_finding) (defBody s_law_is_finding) (defScope s_law_is_finding) .none kV_law_is_finding dc_law_is_finding pm_law_is_finding an_law_is_finding cd_law_is_finding ct_law_is_finding), sl_law_is_finding⟩)
    (c_law_is_finding : PySem.W.codeIn K cd_law_is_finding "_law_is_finding" = true) (k_law_is_finding : PySem.W.keepIn K (.ref f_law_is_finding) = true)
    (a_law_told : PySem.W.nsIn K mainGlobals "_law_told" = some (some (.ref f_law_told)))
    (l_law_told : K.lookup f_law_told = some ⟨oc_law_told, od_law_told, .func (PySem.W.fnOf "_law_told" "_law_told" (defArgs s_law_told) (defBody s_law_told) (defScope s_law_told) .none kV_law_told dc_law_told pm_law_told an_law_told cd_law_told ct_law_told), sl_law_told⟩)
    (c_law_told : PySem.W.codeIn K cd_law_told "_law_told" = true) (k_law_told : PySem.W.keepIn K (.ref f_law_told) = true)
    (a_law_choices : PySem.W.nsIn K mainGlobals "_law_choices" = some (some (.ref f_law_choices)))
    (l_law_choices : K.lookup f_law_choices = some ⟨oc_law_choices, od_law_choices, .func (PySem.W.fnOf "_law_choices" "_law_choices" (defArgs s_law_choices) (defBody s_law_choices) (defScope s_law_choices) .none kV_law_choices dc_law_choices pm_law_choices an_law_choices cd_law_choices ct_law_choices), sl_law_choices⟩)
    (c_law_choices : PySem.W.codeIn K cd_law_choices "_law_choices" = true) (k_law_choices : PySem.W.keepIn K (.ref f_law_choices) = true)
    (a_law_due : PySem.W.nsIn K mainGlobals "_law_due" = some (some (.ref f_law_due)))
    (l_law_due : K.lookup f_law_due = some ⟨oc_law_due, od_law_due, .func (PySem.W.fnOf "_law_due" "_law_due" (defArgs s_law_due) (defBody s_law_due) (defScope s_law_due) .none kV_law_due dc_law_due pm_law_due an_law_due cd_law_due ct_law_due), sl_law_due⟩)
    (c_law_due : PySem.W.codeIn K cd_law_due "_law_due" = true) (k_law_due : PySem.W.keepIn K (.ref f_law_due) = true)
    (a_law : PySem.W.nsIn K mainGlobals "law" = some (some (.ref f_law)))
    (l_law : K.lookup f_law = some ⟨oc_law, od_law, .func (PySem.W.fnOf "law" "law" (defArgs s_law) (defBody s_law) (defScope s_law) .none kV_law dc_law pm_law an_law cd_law ct_law), sl_law⟩)
    (c_law : PySem.W.codeIn K cd_law "law" = true) (k_law : PySem.W.keepIn K (.ref f_law) = true)
    (a_NoLaying : PySem.W.nsIn K mainGlobals "NoLaying" = some (some (.ref C_NoLaying))) (x_NoLaying : PySem.W.excIn K C_NoLaying vmro "ValueError.__new__" = true)
    (y_FN_0 : PySem.W.mroIn K C_NoLaying (.ref C_NoLaying) = some true)
    (z_abs : PySem.W.nsIn K mainGlobals "abs" = some none)
    (z_dict : PySem.W.nsIn K mainGlobals "dict" = some none)
    (z_enumerate : PySem.W.nsIn K mainGlobals "enumerate" = some none)
    (z_int : PySem.W.nsIn K mainGlobals "int" = some none)
    (z_isinstance : PySem.W.nsIn K mainGlobals "isinstance" = some none)
    (z_len : PySem.W.nsIn K mainGlobals "len" = some none)
    (z_list : PySem.W.nsIn K mainGlobals "list" = some none)
    (z_max : PySem.W.nsIn K mainGlobals "max" = some none)
    (z_min : PySem.W.nsIn K mainGlobals "min" = some none)
    (z_range : PySem.W.nsIn K mainGlobals "range" = some none)
    (z_sorted : PySem.W.nsIn K mainGlobals "sorted" = some none)
    (z_str : PySem.W.nsIn K mainGlobals "str" = some none)
    (z_sum : PySem.W.nsIn K mainGlobals "sum" = some none)
    (z_tuple : PySem.W.nsIn K mainGlobals "tuple" = some none)
    (g_ALL : PySem.W.nsIn K mainGlobals "ALL" = some (some (.str "all" t_ALL)))
    (g_CLOSED_SIGN : PySem.W.nsIn K mainGlobals "CLOSED_SIGN" = some (some (.str "?" t_CLOSED_SIGN)))
    (g_NO_CELL_SIGN : PySem.W.nsIn K mainGlobals "NO_CELL_SIGN" = some (some (.str "#" t_NO_CELL_SIGN))) :
    ∃ fd : FuncData, (∀ (s : Shared) (v : Value), BindsTo s fd ⟨[v], []⟩ [("_law_script", v)]) ∧ ∀ base : Heap, K.In base → base.Ns mainGlobals mg → FnOk l.prog w K mg base CX0 8 fa fd ["_law_script"] (spLaw K) := by
  have e := hfa.symm.trans (PySem.W.mg_of X G a_law)
  cases e
  have T : Txt mg := ⟨PySem.W.mg_none_of X G z_abs, PySem.W.mg_none_of X G z_dict, PySem.W.mg_none_of X G z_enumerate, PySem.W.mg_none_of X G z_int, PySem.W.mg_none_of X G z_isinstance, PySem.W.mg_none_of X G z_len, PySem.W.mg_none_of X G z_list, PySem.W.mg_none_of X G z_max, PySem.W.mg_none_of X G z_min, PySem.W.mg_none_of X G z_range, PySem.W.mg_none_of X G z_sorted, PySem.W.mg_none_of X G z_str, PySem.W.mg_none_of X G z_sum, PySem.W.mg_none_of X G z_tuple, ⟨_, PySem.W.mg_of X G g_ALL⟩, ⟨_, PySem.W.mg_of X G g_CLOSED_SIGN⟩, ⟨_, PySem.W.mg_of X G g_NO_CELL_SIGN⟩⟩
  have F_closed := fun_mk (st := s_closed) l_closed c_closed k_closed
  have D_closed : DefAt K mg "closed" s_closed ["board"] _ _ := ⟨F_closed, PySem.W.mg_of X G a_closed, F_closed.binds (ps := ["board"]) fun _ _ _ _ _ _ us hl => match us, hl with | [_], _ => rfl⟩
  have F_around := fun_mk (st := s_around) l_around c_around k_around
  have D_around : DefAt K mg "around" s_around ["board", "cell"] _ _ := ⟨F_around, PySem.W.mg_of X G a_around, F_around.binds (ps := ["board", "cell"]) fun _ _ _ _ _ _ us hl => match us, hl with | [_, _], _ => rfl⟩
  have F_number_at := fun_mk (st := s_number_at) l_number_at c_number_at k_number_at
  have D_number_at : DefAt K mg "number_at" s_number_at ["board", "cell"] _ _ := ⟨F_number_at, PySem.W.mg_of X G a_number_at, F_number_at.binds (ps := ["board", "cell"]) fun _ _ _ _ _ _ us hl => match us, hl with | [_, _], _ => rfl⟩
  have F_cells_of := fun_mk (st := s_cells_of) l_cells_of c_cells_of k_cells_of
  have D_cells_of : DefAt K mg "cells_of" s_cells_of ["board"] _ _ := ⟨F_cells_of, PySem.W.mg_of X G a_cells_of, F_cells_of.binds (ps := ["board"]) fun _ _ _ _ _ _ us hl => match us, hl with | [_], _ => rfl⟩
  have F_sign_at := fun_mk (st := s_sign_at) l_sign_at c_sign_at k_sign_at
  have D_sign_at : DefAt K mg "sign_at" s_sign_at ["board", "cell"] _ _ := ⟨F_sign_at, PySem.W.mg_of X G a_sign_at, F_sign_at.binds (ps := ["board", "cell"]) fun _ _ _ _ _ _ us hl => match us, hl with | [_, _], _ => rfl⟩
  have F_closed_around := fun_mk (st := s_closed_around) l_closed_around c_closed_around k_closed_around
  have D_closed_around : DefAt K mg "closed_around" s_closed_around ["board", "cell"] _ _ := ⟨F_closed_around, PySem.W.mg_of X G a_closed_around, F_closed_around.binds (ps := ["board", "cell"]) fun _ _ _ _ _ _ us hl => match us, hl with | [_, _], _ => rfl⟩
  have F_follows := fun_mk (st := s_follows) l_follows c_follows k_follows
  have D_follows : DefAt K mg "follows" s_follows ["board", "things", "finding"] _ _ := ⟨F_follows, PySem.W.mg_of X G a_follows, F_follows.binds (ps := ["board", "things", "finding"]) fun _ _ _ _ _ _ us hl => match us, hl with | [_, _, _], _ => rfl⟩
  have F_asked_by := fun_mk (st := s_asked_by) l_asked_by c_asked_by k_asked_by
  have D_asked_by : DefAt K mg "asked_by" s_asked_by ["board", "thing"] _ _ := ⟨F_asked_by, PySem.W.mg_of X G a_asked_by, F_asked_by.binds (ps := ["board", "thing"]) fun _ _ _ _ _ _ us hl => match us, hl with | [_, _], _ => rfl⟩
  have F_known_of := fun_mk (st := s_known_of) l_known_of c_known_of k_known_of
  have D_known_of : DefAt K mg "known_of" s_known_of ["finding"] _ _ := ⟨F_known_of, PySem.W.mg_of X G a_known_of, F_known_of.binds (ps := ["finding"]) fun _ _ _ _ _ _ us hl => match us, hl with | [_], _ => rfl⟩
  have F_still_asked := fun_mk (st := s_still_asked) l_still_asked c_still_asked k_still_asked
  have D_still_asked : DefAt K mg "still_asked" s_still_asked ["asked", "known"] _ _ := ⟨F_still_asked, PySem.W.mg_of X G a_still_asked, F_still_asked.binds (ps := ["asked", "known"]) fun _ _ _ _ _ _ us hl => match us, hl with | [_, _], _ => rfl⟩
  have F_gained := fun_mk (st := s_gained) l_gained c_gained k_gained
  have D_gained : DefAt K mg "gained" s_gained ["asked"] _ _ := ⟨F_gained, PySem.W.mg_of X G a_gained, F_gained.binds (ps := ["asked"]) fun _ _ _ _ _ _ us hl => match us, hl with | [_], _ => rfl⟩
  have F_settled := fun_mk (st := s_settled) l_settled c_settled k_settled
  have D_settled : DefAt K mg "settled" s_settled ["regions"] _ _ := ⟨F_settled, PySem.W.mg_of X G a_settled, F_settled.binds (ps := ["regions"]) fun _ _ _ _ _ _ us hl => match us, hl with | [_], _ => rfl⟩
  have F_law_cell_at := fun_mk (st := s_law_cell_at) l_law_cell_at c_law_cell_at k_law_cell_at
  have D_law_cell_at : DefAt K mg "_law_cell_at" s_law_cell_at ["_law_script", "_law_k"] _ _ := ⟨F_law_cell_at, PySem.W.mg_of X G a_law_cell_at, F_law_cell_at.binds (ps := ["_law_script", "_law_k"]) fun _ _ _ _ _ _ us hl => match us, hl with | [_, _], _ => rfl⟩
  have F_law_mixed := fun_mk (st := s_law_mixed) l_law_mixed c_law_mixed k_law_mixed
  have D_law_mixed : DefAt K mg "_law_mixed" s_law_mixed ["_law_cell", "_law_k"] _ _ := ⟨F_law_mixed, PySem.W.mg_of X G a_law_mixed, F_law_mixed.binds (ps := ["_law_cell", "_law_k"]) fun _ _ _ _ _ _ us hl => match us, hl with | [_, _], _ => rfl⟩
  have F_law_mark := fun_mk (st := s_law_mark) l_law_mark c_law_mark k_law_mark
  have D_law_mark : DefAt K mg "_law_mark" s_law_mark ["_law_drawn_here", "_law_often", "_law_many", "_law_room"] _ _ := ⟨F_law_mark, PySem.W.mg_of X G a_law_mark, F_law_mark.binds (ps := ["_law_drawn_here", "_law_often", "_law_many", "_law_room"]) fun _ _ _ _ _ _ us hl => match us, hl with | [_, _, _, _], _ => rfl⟩
  have F_law_drawn := fun_mk (st := s_law_drawn) l_law_drawn c_law_drawn k_law_drawn
  have D_law_drawn : DefAt K mg "_law_drawn" s_law_drawn ["_law_script", "_law_most", "_law_limit"] _ _ := ⟨F_law_drawn, PySem.W.mg_of X G a_law_drawn, F_law_drawn.binds (ps := ["_law_script", "_law_most", "_law_limit"]) fun _ _ _ _ _ _ us hl => match us, hl with | [_, _, _], _ => rfl⟩
  have F_law_cells := fun_mk (st := s_law_cells) l_law_cells c_law_cells k_law_cells
  have D_law_cells : DefAt K mg "_law_cells" s_law_cells ["_law_rows", "_law_signs"] _ _ := ⟨F_law_cells, PySem.W.mg_of X G a_law_cells, F_law_cells.binds (ps := ["_law_rows", "_law_signs"]) fun _ _ _ _ _ _ us hl => match us, hl with | [_, _], _ => rfl⟩
  have F_law_near := fun_mk (st := s_law_near) l_law_near c_law_near k_law_near
  have D_law_near : DefAt K mg "_law_near" s_law_near ["_law_one", "_law_other"] _ _ := ⟨F_law_near, PySem.W.mg_of X G a_law_near, F_law_near.binds (ps := ["_law_one", "_law_other"]) fun _ _ _ _ _ _ us hl => match us, hl with | [_, _], _ => rfl⟩
  have F_law_board := fun_mk (st := s_law_board) l_law_board c_law_board k_law_board
  have D_law_board : DefAt K mg "_law_board" s_law_board ["_law_marks"] _ _ := ⟨F_law_board, PySem.W.mg_of X G a_law_board, F_law_board.binds (ps := ["_law_marks"]) fun _ _ _ _ _ _ us hl => match us, hl with | [_], _ => rfl⟩
  have F_law_bent := fun_mk (st := s_law_bent) l_law_bent c_law_bent k_law_bent
  have D_law_bent : DefAt K mg "_law_bent" s_law_bent ["_law_board_here", "_law_cell"] _ _ := ⟨F_law_bent, PySem.W.mg_of X G a_law_bent, F_law_bent.binds (ps := ["_law_board_here", "_law_cell"]) fun _ _ _ _ _ _ us hl => match us, hl with | [_, _], _ => rfl⟩
  have F_law_finding := fun_mk (st := s_law_finding) l_law_finding c_law_finding k_law_finding
  have D_law_finding : DefAt K mg "_law_finding" s_law_finding ["_law_marks", "_law_cell"] _ _ := ⟨F_law_finding, PySem.W.mg_of X G a_law_finding, F_law_finding.binds (ps := ["_law_marks", "_law_cell"]) fun _ _ _ _ _ _ us hl => match us, hl with | [_, _], _ => rfl⟩
  have F_law_looked := fun_mk (st := s_law_looked) l_law_looked c_law_looked k_law_looked
  have D_law_looked : DefAt K mg "_law_looked" s_law_looked ["_law_board_here", "_law_thing"] _ _ := ⟨F_law_looked, PySem.W.mg_of X G a_law_looked, F_law_looked.binds (ps := ["_law_board_here", "_law_thing"]) fun _ _ _ _ _ _ us hl => match us, hl with | [_, _], _ => rfl⟩
  have F_law_number := fun_mk (st := s_law_number) l_law_number c_law_number k_law_number
  have D_law_number : DefAt K mg "_law_number" s_law_number ["_law_board_here", "_law_thing"] _ _ := ⟨F_law_number, PySem.W.mg_of X G a_law_number, F_law_number.binds (ps := ["_law_board_here", "_law_thing"]) fun _ _ _ _ _ _ us hl => match us, hl with | [_, _], _ => rfl⟩
  have F_law_things := fun_mk (st := s_law_things) l_law_things c_law_things k_law_things
  have D_law_things : DefAt K mg "_law_things" s_law_things ["_law_board_here"] _ _ := ⟨F_law_things, PySem.W.mg_of X G a_law_things, F_law_things.binds (ps := ["_law_board_here"]) fun _ _ _ _ _ _ us hl => match us, hl with | [_], _ => rfl⟩
  have F_law_is_finding := fun_mk (st := s_law_is_finding) l_law_is_finding c_law_is_finding k_law_is_finding
  have D_law_is_finding : DefAt K mg "_law_is_finding" s_law_is_finding ["_law_found", "_law_due_here"] _ _ := ⟨F_law_is_finding, PySem.W.mg_of X G a_law_is_finding, F_law_is_finding.binds (ps := ["_law_found", "_law_due_here"]) fun _ _ _ _ _ _ us hl => match us, hl with | [_, _], _ => rfl⟩
  have F_law_told := fun_mk (st := s_law_told) l_law_told c_law_told k_law_told
  have D_law_told : DefAt K mg "_law_told" s_law_told ["_law_board_here", "_law_things_here", "_law_finding_here"] _ _ := ⟨F_law_told, PySem.W.mg_of X G a_law_told, F_law_told.binds (ps := ["_law_board_here", "_law_things_here", "_law_finding_here"]) fun _ _ _ _ _ _ us hl => match us, hl with | [_, _, _], _ => rfl⟩
  have F_law_choices := fun_mk (st := s_law_choices) l_law_choices c_law_choices k_law_choices
  have D_law_choices : DefAt K mg "_law_choices" s_law_choices ["_law_cells_here", "_law_finding_here"] _ _ := ⟨F_law_choices, PySem.W.mg_of X G a_law_choices, F_law_choices.binds (ps := ["_law_cells_here", "_law_finding_here"]) fun _ _ _ _ _ _ us hl => match us, hl with | [_, _], _ => rfl⟩
  have F_law_due := fun_mk (st := s_law_due) l_law_due c_law_due k_law_due
  have D_law_due : DefAt K mg "_law_due" s_law_due ["_law_board_here", "_law_things_here", "_law_finding_here"] _ _ := ⟨F_law_due, PySem.W.mg_of X G a_law_due, F_law_due.binds (ps := ["_law_board_here", "_law_things_here", "_law_finding_here"]) fun _ _ _ _ _ _ us hl => match us, hl with | [_, _, _], _ => rfl⟩
  have F_law := fun_mk (st := s_law) l_law c_law k_law
  have D_law : DefAt K mg "law" s_law ["_law_script"] _ _ := ⟨F_law, PySem.W.mg_of X G a_law, F_law.binds (ps := ["_law_script"]) fun _ _ _ _ _ _ us hl => match us, hl with | [_], _ => rfl⟩
  have O_NoLaying : ExCls K mg "NoLaying" C_NoLaying := ⟨PySem.W.mg_of X G a_NoLaying, x_NoLaying⟩
  have FN : PySem.W.mroIn K C_NoLaying (.ref C_NoLaying) = some true := y_FN_0
  exact ⟨PySem.W.fnOf "law" "law" (defArgs s_law) (defBody s_law) (defScope s_law) .none kV_law dc_law pm_law an_law cd_law ct_law, fun s v => .of_eq rfl, fun base _ _ => ok_law T O_NoLaying FN D_law D_around D_sign_at D_cells_of D_closed D_number_at D_closed_around D_asked_by D_known_of D_still_asked D_settled D_gained D_follows D_law_cell_at D_law_mixed D_law_mark D_law_drawn D_law_cells D_law_near D_law_board D_law_bent D_law_finding D_law_looked D_law_number D_law_things D_law_is_finding D_law_told D_law_choices D_law_due⟩
theorem walk {l : PySem.W.OpenLaw} {q : Program} {loose : List Str} {XP : (Str → Option Value) → Heap → Prop} {YP : World → Heap → Prop} {d : DefRec} {K : Params → PySem.W.Frag} (hn : l.most = some 63) (hdf : d.params.defaults = [])
    (hY : ∀ (w : World) (h : Heap), YP w h → (K w.params).In h)
    (F : ∀ (w : World) (mg : Str → Option Value) (fa : Addr) (h : Heap), (K w.params).In h → h.Ns mainGlobals mg → mg d.name = some (.ref fa) →
      ∃ fd : FuncData, (∀ (s : Shared) (u : Value), BindsTo s fd ⟨[u], []⟩ [("_law_script", u)]) ∧ ∀ base : Heap, (K w.params).In base → base.Ns mainGlobals mg → FnOk l.prog w (K w.params) mg base CX0 8 fa fd ["_law_script"] (spLaw (K w.params))) :
    PySem.W.WalkO q loose XP YP l.row.toRowW d [] (fun f vs => PySem.call f vs) :=
  L2.walk_of (n := 63) (k := 8) (x := "_law_script") (CX := fun _ => CX0) (sp := fun w => spLaw (K w.params)) hn (by decide) hdf ⟨rfl, by decide, by decide⟩ hY F (fun _ _ a ns hl _ hS => ⟨a, ns, rfl, hS, hl, fun _ => rfl⟩) fun _ _ _ _ _ z => z
end K51
open PySem PySem.W PyProof.Rows
set_option maxRecDepth 100000 in
set_option maxHeartbeats 0 in
theorem PySem.Challenge.cw_stonelay_k51_what_two_things_tell_holds : PySem.Challenge.rw_stonelay_k51_what_two_things_tell.Holds := by
  w_on; o_law; k_head; (case hw => w_witness2)
  k_fill
  refine K51.walk (l := PySem.Challenge.rw_stonelay_k51_what_two_things_tell) rfl rfl (fun w h Y => PySem.W.kIn_of Y) ?F
  case F =>
    intro w mg fa h KX G hmg
    refine' K51.all_mk KX G hmg ?a_closed ?l_closed ?c_closed ?k_closed ?a_around ?l_around ?c_around ?k_around ?a_number_at ?l_number_at ?c_number_at ?k_number_at ?a_cells_of ?l_cells_of ?c_cells_of ?k_cells_of ?a_sign_at ?l_sign_at ?c_sign_at ?k_sign_at ?a_closed_around ?l_closed_around ?c_closed_around ?k_closed_around ?a_follows ?l_follows ?c_follows ?k_follows ?a_asked_by ?l_asked_by ?c_asked_by ?k_asked_by ?a_known_of ?l_known_of ?c_known_of ?k_known_of ?a_still_asked ?l_still_asked ?c_still_asked ?k_still_asked ?a_gained ?l_gained ?c_gained ?k_gained ?a_settled ?l_settled ?c_settled ?k_settled ?a_law_cell_at ?l_law_cell_at ?c_law_cell_at ?k_law_cell_at ?a_law_mixed ?l_law_mixed ?c_law_mixed ?k_law_mixed ?a_law_mark ?l_law_mark ?c_law_mark ?k_law_mark ?a_law_drawn ?l_law_drawn ?c_law_drawn ?k_law_drawn ?a_law_cells ?l_law_cells ?c_law_cells ?k_law_cells ?a_law_near ?l_law_near ?c_law_near ?k_law_near ?a_law_board ?l_law_board ?c_law_board ?k_law_board ?a_law_bent ?l_law_bent ?c_law_bent ?k_law_bent ?a_law_finding ?l_law_finding ?c_law_finding ?k_law_finding ?a_law_looked ?l_law_looked ?c_law_looked ?k_law_looked ?a_law_number ?l_law_number ?c_law_number ?k_law_number ?a_law_things ?l_law_things ?c_law_things ?k_law_things ?a_law_is_finding ?l_law_is_finding ?c_law_is_finding ?k_law_is_finding ?a_law_told ?l_law_told ?c_law_told ?k_law_told ?a_law_choices ?l_law_choices ?c_law_choices ?k_law_choices ?a_law_due ?l_law_due ?c_law_due ?k_law_due ?a_law ?l_law ?c_law ?k_law ?a_NoLaying ?x_NoLaying ?y_FN_0 ?z_abs ?z_dict ?z_enumerate ?z_int ?z_isinstance ?z_len ?z_list ?z_max ?z_min ?z_range ?z_sorted ?z_str ?z_sum ?z_tuple ?g_ALL ?g_CLOSED_SIGN ?g_NO_CELL_SIGN
    (case a_closed => k_is)
    (case l_closed => k_is)
    (case c_closed => k_is)
    (case k_closed => k_is)
    (case a_around => k_is)
    (case l_around => k_is)
    (case c_around => k_is)
    (case k_around => k_is)
    (case a_number_at => k_is)
    (case l_number_at => k_is)
    (case c_number_at => k_is)
    (case k_number_at => k_is)
    (case a_cells_of => k_is)
    (case l_cells_of => k_is)
    (case c_cells_of => k_is)
    (case k_cells_of => k_is)
    (case a_sign_at => k_is)
    (case l_sign_at => k_is)
    (case c_sign_at => k_is)
    (case k_sign_at => k_is)
    (case a_closed_around => k_is)
    (case l_closed_around => k_is)
    (case c_closed_around => k_is)
    (case k_closed_around => k_is)
    (case a_follows => k_is)
    (case l_follows => k_is)
    (case c_follows => k_is)
    (case k_follows => k_is)
    (case a_asked_by => k_is)
    (case l_asked_by => k_is)
    (case c_asked_by => k_is)
    (case k_asked_by => k_is)
    (case a_known_of => k_is)
    (case l_known_of => k_is)
    (case c_known_of => k_is)
    (case k_known_of => k_is)
    (case a_still_asked => k_is)
    (case l_still_asked => k_is)
    (case c_still_asked => k_is)
    (case k_still_asked => k_is)
    (case a_gained => k_is)
    (case l_gained => k_is)
    (case c_gained => k_is)
    (case k_gained => k_is)
    (case a_settled => k_is)
    (case l_settled => k_is)
    (case c_settled => k_is)
    (case k_settled => k_is)
    (case a_law_cell_at => k_is)
    (case l_law_cell_at => k_is)
    (case c_law_cell_at => k_is)
    (case k_law_cell_at => k_is)
    (case a_law_mixed => k_is)
    (case l_law_mixed => k_is)
    (case c_law_mixed => k_is)
    (case k_law_mixed => k_is)
    (case a_law_mark => k_is)
    (case l_law_mark => k_is)
    (case c_law_mark => k_is)
    (case k_law_mark => k_is)
    (case a_law_drawn => k_is)
    (case l_law_drawn => k_is)
    (case c_law_drawn => k_is)
    (case k_law_drawn => k_is)
    (case a_law_cells => k_is)
    (case l_law_cells => k_is)
    (case c_law_cells => k_is)
    (case k_law_cells => k_is)
    (case a_law_near => k_is)
    (case l_law_near => k_is)
    (case c_law_near => k_is)
    (case k_law_near => k_is)
    (case a_law_board => k_is)
    (case l_law_board => k_is)
    (case c_law_board => k_is)
    (case k_law_board => k_is)
    (case a_law_bent => k_is)
    (case l_law_bent => k_is)
    (case c_law_bent => k_is)
    (case k_law_bent => k_is)
    (case a_law_finding => k_is)
    (case l_law_finding => k_is)
    (case c_law_finding => k_is)
    (case k_law_finding => k_is)
    (case a_law_looked => k_is)
    (case l_law_looked => k_is)
    (case c_law_looked => k_is)
    (case k_law_looked => k_is)
    (case a_law_number => k_is)
    (case l_law_number => k_is)
    (case c_law_number => k_is)
    (case k_law_number => k_is)
    (case a_law_things => k_is)
    (case l_law_things => k_is)
    (case c_law_things => k_is)
    (case k_law_things => k_is)
    (case a_law_is_finding => k_is)
    (case l_law_is_finding => k_is)
    (case c_law_is_finding => k_is)
    (case k_law_is_finding => k_is)
    (case a_law_told => k_is)
    (case l_law_told => k_is)
    (case c_law_told => k_is)
    (case k_law_told => k_is)
    (case a_law_choices => k_is)
    (case l_law_choices => k_is)
    (case c_law_choices => k_is)
    (case k_law_choices => k_is)
    (case a_law_due => k_is)
    (case l_law_due => k_is)
    (case c_law_due => k_is)
    (case k_law_due => k_is)
    (case a_law => k_is)
    (case l_law => k_is)
    (case c_law => k_is)
    (case k_law => k_is)
    (case a_NoLaying => k_is)
    (case x_NoLaying => k_exc)
    (case y_FN_0 => k_is)
    (case z_abs => k_is)
    (case z_dict => k_is)
    (case z_enumerate => k_is)
    (case z_int => k_is)
    (case z_isinstance => k_is)
    (case z_len => k_is)
    (case z_list => k_is)
    (case z_max => k_is)
    (case z_min => k_is)
    (case z_range => k_is)
    (case z_sorted => k_is)
    (case z_str => k_is)
    (case z_sum => k_is)
    (case z_tuple => k_is)
    (case g_ALL => k_is)
    (case g_CLOSED_SIGN => k_is)
    (case g_NO_CELL_SIGN => k_is)

