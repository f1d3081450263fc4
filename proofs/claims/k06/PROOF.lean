import PyProof.Rows.All
import Wide.All
import OpenK.AllK
import Wide.FinOn
import Lean
import PyProof.EqAt
import PyProof.EqKinds
import PyProof.TupleCall
import PySem.Challenge.RW_stonelay_k06_whole_boards_opened
set_option Elab.async false
set_option linter.all false
set_option maxRecDepth 100000
/-! THE HAND LAYER, for ints, bools, texts, own classes, LISTS and tuples (index, slices, in, append, pop ..), calls, loops. Paste it whole ahead of your own text; what your proof does not reach may be deleted. -/
namespace L2
open PySem PySem.Spec PyProof.Rows

/-- a key: an int or a str -/
abbrev Key := Sum Int Str
def keyIs : Key → Value → Bool
  | .inl k, v => Value.isInt k v
  | .inr x, v => Value.isStrOf x v
def keyH (w : World) : Key → Int
  | .inl k => hashInt k
  | .inr x => hashStr w x
theorem keyIs_shape : ∀ {k : Key} {v : Value}, keyIs k v = true → (∃ i t, k = Sum.inl i ∧ v = Value.int i t) ∨ (∃ x t, k = Sum.inr x ∧ v = Value.str x t)
  | .inl i, v, h => by
    obtain ⟨t, e⟩ := Value.isInt_shape (k := i) (v := v) h
    exact .inl ⟨i, t, rfl, e⟩
  | .inr x, v, h => by
    obtain ⟨t, e⟩ := Value.isStrOf_shape (x := x) (v := v) h
    exact .inr ⟨x, t, rfl, e⟩
theorem keyIs_int (i : Int) (t : Tok) : keyIs (.inl i) (.int i t) = true := by simp [keyIs, Value.isInt]
theorem keyIs_str (x : Str) (t : Tok) : keyIs (.inr x) (.str x t) = true := by simp [keyIs, Value.isStrOf]
theorem key_ll (a b : Int) : decide ((Sum.inl a : Key) = Sum.inl b) = (a == b) := by
  by_cases e : a = b
  · subst e; simp
  · have h : ¬ (Sum.inl a : Key) = Sum.inl b := fun q => e (Sum.inl.inj q)
    rw [decide_eq_false h]
    exact (beq_eq_false_iff_ne.mpr e).symm
theorem key_rr (a b : Str) : decide ((Sum.inr a : Key) = Sum.inr b) = decide (a = b) := by
  by_cases e : a = b
  · subst e; simp
  · have h : ¬ (Sum.inr a : Key) = Sum.inr b := fun q => e (Sum.inr.inj q)
    rw [decide_eq_false h, decide_eq_false e]
theorem key_lr (a : Int) (b : Str) : decide ((Sum.inl a : Key) = Sum.inr b) = false := decide_eq_false (fun q => nomatch q)
theorem key_rl (a : Str) (b : Int) : decide ((Sum.inr a : Key) = Sum.inl b) = false := decide_eq_false (fun q => nomatch q)

def mixKind (prog : Program) (w : World) : PySem.KeyKind prog w Key where
  is := keyIs
  hash := keyH w
  inj := fun v a b ha hb => by
    rcases keyIs_shape ha with ⟨i, t, rfl, rfl⟩ | ⟨x, t, rfl, rfl⟩
    · rcases keyIs_shape hb with ⟨j, u, rfl, e⟩ | ⟨y, u, rfl, e⟩
      · injection e with e1 _; rw [e1]
      · exact nomatch e
    · rcases keyIs_shape hb with ⟨j, u, rfl, e⟩ | ⟨y, u, rfl, e⟩
      · exact nomatch e
      · injection e with e1 _; rw [e1]
  byValue := fun k v h => by
    rcases keyIs_shape h with ⟨i, t, rfl, rfl⟩ | ⟨x, t, rfl, rfl⟩ <;> rfl
  pyHash := fun hv h => by
    rcases keyIs_shape hv with ⟨i, t, rfl, rfl⟩ | ⟨x, t, rfl, rfl⟩
    · exact wpAny_pyHash_int h
    · exact wpAny_pyHash_str h
  eqBool := fun hu hv h => by
    rcases keyIs_shape hu with ⟨i, t, rfl, rfl⟩ | ⟨x, t, rfl, rfl⟩
    · rcases keyIs_shape hv with ⟨j, u, rfl, rfl⟩ | ⟨y, u, rfl, rfl⟩
      · rw [key_ll] at h; exact wpAny_eqBool_int h
      · rw [key_lr] at h; exact SeqAt.EqAt.int_str i t y u _ _ _ _ h
    · rcases keyIs_shape hv with ⟨j, u, rfl, rfl⟩ | ⟨y, u, rfl, rfl⟩
      · rw [key_rl] at h; exact SeqAt.EqAt.str_int x t j u _ _ _ _ h
      · rw [key_rr] at h; exact wpAny_eqBool_str h
  «strs» := fun k x t v h => by
    rcases keyIs_shape h with ⟨i, u, rfl, e⟩ | ⟨y, u, rfl, e⟩
    · exact nomatch e
    · injection e with e1 _
      subst e1
      cases v <;> rfl

theorem mixKind_is (prog : Program) (w : World) (k : Key) (v : Value) : (mixKind prog w).is k v = keyIs k v := rfl
theorem mixKind_int (prog : Program) (w : World) (i : Int) (t : Tok) : (mixKind prog w).is (.inl i) (.int i t) = true := keyIs_int i t
theorem mixKind_str (prog : Program) (w : World) (x : Str) (t : Tok) : (mixKind prog w).is (.inr x) (.str x t) = true := keyIs_str x t
end L2

namespace L2
open PySem PySem.Spec PyProof.Rows

/-- a value, without the heap -/
inductive V where
  | non | bl (b : Bool) | int (i : Int) | str (x : Str) | byt (b : Array UInt8) | flt (b : UInt64) | ref (a : Addr) | ty (n : String)
  deriving DecidableEq

def RelV : V → Value → Prop
  | .non, u => u = Value.none
  | .bl b, u => u = Value.bool b
  | .int i, u => ∃ t, u = Value.int i t
  | .str x, u => ∃ t, u = Value.str x t
  | .byt b, u => ∃ t, u = Value.bytes b t
  | .flt b, u => ∃ t, u = Value.float b t
  | .ref a, u => u = Value.ref a
  | .ty n, u => u = Value.type n

abbrev Vals : List V → List Value → Prop := Paired RelV
theorem Vals.length {xs : List V} {us : List Value} (r : Vals xs us) : xs.length = us.length := Paired.length r
theorem Vals.get : ∀ {xs : List V} {us : List Value} {i : Nat} {x : V}, Vals xs us → xs[i]? = some x → ∃ u, us[i]? = some u ∧ RelV x u
  | _, _, _, _, .nil, e => by simp at e
  | _, _, 0, _, .cons r _, e => by simp at e; subst e; exact ⟨_, rfl, r⟩
  | _, _, i + 1, x, .cons _ t, e => by
    obtain ⟨u, h1, h2⟩ := Vals.get (i := i) (x := x) t (by simpa using e)
    exact ⟨u, by simpa using h1, h2⟩
theorem Vals.set {x : V} {u : Value} (r : RelV x u) : ∀ {xs : List V} {us : List Value} (i : Nat), Vals xs us → Vals (xs.set i x) (us.set i u)
  | _, _, _, .nil => .nil
  | _, _, 0, .cons _ t => .cons r t
  | _, _, i + 1, .cons q t => .cons q (Vals.set r i t)
theorem Vals.append : ∀ {xs ys : List V} {us ws : List Value}, Vals xs us → Vals ys ws → Vals (xs ++ ys) (us ++ ws)
  | _, _, _, _, .nil, s => s
  | _, _, _, _, .cons r t, s => .cons r (Vals.append t s)
theorem Vals.take : ∀ {xs : List V} {us : List Value} (n : Nat), Vals xs us → Vals (xs.take n) (us.take n)
  | _, _, 0, _ => .nil
  | _, _, _ + 1, .nil => .nil
  | _, _, n + 1, .cons r t => .cons r (Vals.take n t)
theorem Vals.drop : ∀ {xs : List V} {us : List Value} (n : Nat), Vals xs us → Vals (xs.drop n) (us.drop n)
  | _, _, 0, r => r
  | _, _, _ + 1, .nil => .nil
  | _, _, n + 1, .cons _ t => Vals.drop n t
theorem Vals.none_of : ∀ {xs : List V} {us : List Value} {i : Nat}, Vals xs us → xs[i]? = none → us[i]? = none := fun {xs us i} r e => by
  have h1 := r.length
  have h2 : xs.length ≤ i := List.getElem?_eq_none_iff.mp e
  exact List.getElem?_eq_none_iff.mpr (by omega)

def RelO : Option V → Option Value → Prop
  | some v, some u => RelV v u
  | none, none => True
  | _, _ => False
def KV {κ : Type} : List (κ × V) → List (κ × Value) → Prop := Paired fun (p : κ × V) (q : κ × Value) => p.1 = q.1 ∧ RelV p.2 q.2

/-- a key of a dict (00_mix): an int or a text -/
def kV : Key → V
  | .inl i => .int i
  | .inr x => .str x

/-- what stands at a tracked address -/
inductive HO where
  /-- a list -/
  | lst (xs : List V)
  /-- a tuple (never changes) -/
  | tup (xs : List V)
  /-- a dict whose keys are ints and texts; one whose keys are tuples of ints and texts (the empty one is both) -/
  | dK (kvs : List (Key × V)) | dT (kvs : List (List Key × V))
  /-- a set of ints: its members, its size -/
  | set (S : Int → Bool) (n : Nat)
  /-- an instance of the class at C, its dict at dx, its attributes -/
  | ins (C dx : Addr) (fs : List (Str × V))
  /-- the dict of the instance at x -/
  | own (x : Addr)
  /-- the dict of an exception -/
  | xd (fs : List (Str × V))
  /-- a bound method, f of x -/
  | met (f x : Addr)
  /-- a range object lo, lo + 1, .. below hi -/
  | rng (lo hi : Int)
  /-- a thing that is known to the object (the script; a dict while a loop walks it): read, never written while it is so -/
  | frz (o : Obj) (u : HO)
  /-- a code object's table -/
  | tbl (ps : Array Value)
  /-- any other thing, by what is true of its one object (a def of one's own: SetO a S n := HO.ext fun h => ..) -/
  | ext (φ : Heap → Prop)

abbrev Hp := Addr → Option HO
def upd (H : Hp) (a : Addr) (o : HO) : Hp := fun b => if b = a then some o else H b
theorem upd_same {H : Hp} {a : Addr} {o : HO} : upd H a o a = some o := by unfold upd; rw [if_pos rfl]
theorem upd_ne {H : Hp} {a b : Addr} {o : HO} (h : b ≠ a) : upd H a o b = H b := by unfold upd; rw [if_neg h]
theorem upd_upd {H : Hp} {a : Addr} {o u : HO} : upd (upd H a o) a u = upd H a u := by
  funext b; unfold upd; split <;> rfl
/-- two objects of different content stand apart -/
theorem ne_of {H : Hp} {a b : Addr} {o u : HO} (h : H a = some o) (h' : H b = some u) (d : o ≠ u) : a ≠ b := by
  intro e; subst e; rw [h] at h'; exact d (Option.some.inj h')
theorem ne_of_none {H : Hp} {a b : Addr} {o : HO} (h : H a = some o) (h' : H b = none) : a ≠ b := by
  intro e; subst e; rw [h] at h'; cases h'

section
variable (P : Program) (w : World)
def ObjOk (H : Hp) (h : Heap) (a : Addr) : HO → Prop
  | .lst xs => xs.length ≤ sizeLine ∧ ∃ (its : List Value) (n : Nat), Vals xs its ∧ h.get? a = some { cls := .type "list", data := .seq its.toArray n }
  | .tup xs => xs.length ≤ sizeLine ∧ ∃ its : List Value, Vals xs its ∧ IsTup h a its.toArray
  | .dK kvs => kvs.length ≤ sizeLine ∧ (a == sysModules) = false ∧ ∃ vs, KV kvs vs ∧ h.DictOf (mixKind P w) a vs
  | .dT kvs => kvs.length ≤ sizeLine ∧ (a == sysModules) = false ∧ ∃ xs : List (List Key × Addr × Value),
      Paired (fun (p : List Key × V) (q : List Key × Addr × Value) => p.1 = q.1 ∧ H q.2.1 = some (.tup (p.1.map kV)) ∧ RelV p.2 q.2.2) kvs xs ∧
      ∃ o es ep, h.get? a = some o ∧ o.ExactDict ∧ o.data = .dict es ep ∧ es.toList = xs.map (entryOfKey (tupleKind (mixKind P w))) ∧ (xs.map (·.1)).Nodup
  | .set S n => h.SetOf (intKind P w) a S n
  | .ins C dx fs => H dx = some (.own a) ∧ fs.length ≤ 1000 ∧ dx ≠ a ∧ h.get? a = some (PySem.W.instObj C dx) ∧
      ∃ mA, h.Ns1 dx mA ∧ (∀ f, RelO (fs.lookup f) (mA f)) ∧ PySem.Within mA (fs.map (·.1))
  | .own _ => ∃ o, h.get? a = some o
  | .xd fs => ∃ mA, h.Ns1 a mA ∧ ∀ f, RelO (fs.lookup f) (mA f)
  | .rng lo hi => ∃ t u v, h.get? a = some { cls := .type "range", data := .fields #[.int lo t, .int hi u, .int 1 v] }
  | .frz o u => h.get? a = some o ∧ ObjOk H h a u
  | .tbl ps => h.get? a = some { cls := .none, data := .fields ps }
  | .met f x => h.get? a = some (PySem.W.methodObj (.ref f) (.ref x))
  | .ext φ => φ h ∧ (∃ o, h.get? a = some o) ∧ ∀ h1 h2 : Heap, φ h1 → (∀ o, h1.get? a = some o → h2.get? a = some o) → φ h2
/-- the abstract heap is held -/
def HOk (H : Hp) (h : Heap) : Prop := ∀ a o, H a = some o → ObjOk P w H h a o
end

section
variable {P : Program} {w : World} {H H' : Hp} {h h' : Heap} {a : Addr} {o : HO}
theorem ObjOk.lt (x : ObjOk P w H h a o) : a < h.objs.size := by
  cases o with
  | lst xs => obtain ⟨_, _, _, _, e⟩ := x; exact Heap.lt_size e
  | tup xs => obtain ⟨_, _, _, p⟩ := x; exact p.lt
  | dK kvs => obtain ⟨_, _, _, _, o, _, _, e, _⟩ := x; exact Heap.lt_size e
  | dT kvs => obtain ⟨_, _, _, _, o, _, _, e, _⟩ := x; exact Heap.lt_size e
  | set S n => obtain ⟨o, _, _, _, e, _⟩ := x; exact Heap.lt_size e
  | ins C dx fs => obtain ⟨_, _, _, e, _⟩ := x; exact Heap.lt_size e
  | own y => obtain ⟨_, e⟩ := x; exact Heap.lt_size e
  | xd fs => obtain ⟨_, ⟨_, _, _, e, _⟩, _⟩ := x; exact Heap.lt_size e
  | rng lo hi => obtain ⟨_, _, _, e⟩ := x; exact Heap.lt_size e
  | frz ob u => obtain ⟨e, _⟩ := x; exact Heap.lt_size e
  | tbl ps => exact Heap.lt_size (show h.get? a = some _ from x)
  | met f y => exact Heap.lt_size (show h.get? a = some _ from x)
  | ext φ => obtain ⟨_, ⟨_, e⟩, _⟩ := x; exact Heap.lt_size e
theorem Paired.mapP {α β : Type} {F G : α → β → Prop} : ∀ {l₁ : List α} {l₂ : List β}, Paired F l₁ l₂ → (∀ a b, F a b → G a b) → Paired G l₁ l₂
  | _, _, .nil, _ => .nil
  | _, _, .cons r t, f => .cons (f _ _ r) (Paired.mapP t f)
theorem Paired.imp' {α β : Type} {F G : α → β → Prop} (f : ∀ a b, F a b → G a b) {l₁ : List α} {l₂ : List β} (r : Paired F l₁ l₂) : Paired G l₁ l₂ := Paired.mapP r f
/-- what an object's description leans on: its own object, its own dict, the tuples -/
theorem ObjOk.stay (x : ObjOk P w H h a o) (k : ∀ b u, (b = a ∨ H b = some (.own a)) → h.get? b = some u → h'.get? b = some u)
    (ho : ∀ b, H b = some (.own a) → H' b = some (.own a)) (ht : ∀ b xs, H b = some (.tup xs) → H' b = some (.tup xs)) : ObjOk P w H' h' a o := by
  induction o with
  | lst xs => obtain ⟨z, its, n, r, e⟩ := x; exact ⟨z, its, n, r, k _ _ (.inl rfl) e⟩
  | tup xs => obtain ⟨z, its, r, ob, e, c⟩ := x; exact ⟨z, its, r, ob, k _ _ (.inl rfl) e, c⟩
  | dK kvs => obtain ⟨z, y, vs, r, ob, es, ep, e, c⟩ := x; exact ⟨z, y, vs, r, ob, es, ep, k _ _ (.inl rfl) e, c⟩
  | dT kvs =>
    obtain ⟨z, y, xs, r, ob, es, ep, e, c⟩ := x
    exact ⟨z, y, xs, Paired.mapP r fun p q z => ⟨z.1, ht _ _ z.2.1, z.2.2⟩, ob, es, ep, k _ _ (.inl rfl) e, c⟩
  | set S n => obtain ⟨ob, es, ep, t, e, c⟩ := x; exact ⟨ob, es, ep, t, k _ _ (.inl rfl) e, c⟩
  | ins C dx fs =>
    obtain ⟨d, z, ne, e, mA, ⟨od, es, ep, e2, c⟩, r⟩ := x
    exact ⟨ho _ d, z, ne, k _ _ (.inl rfl) e, mA, ⟨od, es, ep, k _ _ (.inr d) e2, c⟩, r⟩
  | own y => obtain ⟨ob, e⟩ := x; exact ⟨ob, k _ _ (.inl rfl) e⟩
  | xd fs => obtain ⟨mA, ⟨od, es, ep, e, c⟩, r⟩ := x; exact ⟨mA, ⟨od, es, ep, k _ _ (.inl rfl) e, c⟩, r⟩
  | rng lo hi => obtain ⟨t, u, v, e⟩ := x; exact ⟨t, u, v, k _ _ (.inl rfl) e⟩
  | frz ob u ih => obtain ⟨e, q⟩ := x; exact ⟨k _ _ (.inl rfl) e, ih q⟩
  | tbl ps =>
    have e : h.get? a = some { cls := .none, data := .fields ps } := x
    show h'.get? a = some { cls := .none, data := .fields ps }
    exact k a _ (.inl rfl) e
  | met f y =>
    have e : h.get? a = some (PySem.W.methodObj (.ref f) (.ref y)) := x
    show h'.get? a = some (PySem.W.methodObj (.ref f) (.ref y))
    exact k a _ (.inl rfl) e
  | ext φ => obtain ⟨p, ⟨o, e⟩, st⟩ := x; exact ⟨st _ _ p fun o q => k _ _ (.inl rfl) q, ⟨o, k _ _ (.inl rfl) e⟩, st⟩
theorem HOk.lt (x : HOk P w H h) (e : H a = some o) : a < h.objs.size := (x a o e).lt
theorem HOk.fresh (x : HOk P w H h) (e : h.objs.size ≤ a) : H a = none := by
  cases q : H a with
  | none => rfl
  | some u => exact absurd (Nat.lt_of_lt_of_le (x.lt q) e) (Nat.lt_irrefl _)
/-- every object of the heap is kept -/
theorem HOk.kept (x : HOk P w H h) (k : ∀ b u, h.get? b = some u → h'.get? b = some u) : HOk P w H h' := fun a o e =>
  (x a o e).stay (fun b u _ q => k b u q) (fun _ q => q) fun _ _ q => q
/-- a new object is laid and tracked -/
theorem HOk.laid (x : HOk P w H h) (k : ∀ b u, h.get? b = some u → h'.get? b = some u) (hp : h.objs.size ≤ a) (new : ObjOk P w (upd H a o) h' a o) : HOk P w (upd H a o) h' := fun b u e => by
  have hn := x.fresh hp
  by_cases hb : b = a
  · subst hb; rw [upd_same] at e; cases e; exact new
  · rw [upd_ne hb] at e
    exact (x b u e).stay (fun c v _ q => k c v q) (fun c q => by rw [upd_ne (ne_of_none q hn)]; exact q) fun c xs q => by rw [upd_ne (ne_of_none q hn)]; exact q
end

/-- what may be read as u: it is u, or a known u -/
def Rd (H : Hp) (a : Addr) (u : HO) : Prop := H a = some u ∨ ∃ o, H a = some (.frz o u)
theorem Rd.of {H : Hp} {a : Addr} {u : HO} (h : H a = some u) : Rd H a u := .inl h
theorem Rd.ok {P : Program} {w : World} {H : Hp} {h : Heap} {a : Addr} {u : HO} (r : Rd H a u) (x : HOk P w H h) : ObjOk P w H h a u := by
  rcases r with r | ⟨o, r⟩
  · exact x a u r
  · obtain ⟨_, q⟩ := x a _ r
    exact q
/-- what may be written -/
def Mut : Option HO → Prop
  | some (.lst _) => True
  | some (.dK _) => True
  | some (.dT _) => True
  | some (.set _ _) => True
  | some (.ins _ _ _) => True
  | some (.ext _) => True
  | _ => False
section
variable {P : Program} {w : World} {H : Hp} {h h' : Heap} {x e : Addr} {o' : HO}
/-- the object at e is changed: x itself, or the dict of the instance x -/
theorem HOk.write (ok : HOk P w H h) (mu : Mut (H x)) (he : e = x ∨ H e = some (.own x)) (k : ∀ b u, b ≠ e → h.get? b = some u → h'.get? b = some u) (heo : ∃ u, h'.get? e = some u)
    (new : ObjOk P w (upd H x o') h' x o') : HOk P w (upd H x o') h' := fun b u q => by
  have nown : ∀ c y, H c = some (.own y) → c ≠ x := fun c y r z => by subst z; rw [r] at mu; exact mu
  have ntup : ∀ c xs, H c = some (.tup xs) → c ≠ x := fun c xs r z => by subst z; rw [r] at mu; exact mu
  by_cases hb : b = x
  · subst hb; rw [upd_same] at q; cases q; exact new
  · rw [upd_ne hb] at q
    by_cases hbe : b = e
    · have q' : H b = some (.own x) := by
        rcases he with z | z
        · exact absurd (hbe.trans z) hb
        · rw [hbe]; exact z
      rw [q] at q'; cases q'
      obtain ⟨v, hv⟩ := heo
      exact ⟨v, by rw [hbe]; exact hv⟩
    · refine (ok b u q).stay (fun c v hc r => k c v ?_ r) (fun c r => by rw [upd_ne (nown c b r)]; exact r) fun c xs r => by rw [upd_ne (ntup c xs r)]; exact r
      rcases hc with rfl | hc
      · exact hbe
      · rintro rfl
        rcases he with z | z
        · exact nown c b hc z
        · rw [hc] at z; cases z; exact hb rfl
end

/-! ### kept unless tracked; of the frames at fs (the callers') the slots may change (an exception that passes writes there); of the records at ex (iterators) nothing is said -/
structure Un (fs ex : List Addr) (H H' : Hp) (h h' : Heap) : Prop where
  keep : ∀ b o, h.get? b = some o → H b = none → b ∉ fs → b ∉ ex → h'.get? b = some o
  slot : ∀ b o, h.get? b = some o → H b = none → b ∈ fs → b ∉ ex → ∃ sl, h'.get? b = some { o with slots := sl }
  free : ∀ b o, h.get? b = some o → H b = none → b ∉ ex → H' b = none
  there : ∀ b o, h.get? b = some o → b ∉ ex → ∃ o', h'.get? b = some o'
  tups : ∀ b xs, H b = some (.tup xs) → H' b = some (.tup xs)
  frzs : ∀ b o u, H b = some (.frz o u) → H' b = some (.frz o u)
  tbls : ∀ b ps, H b = some (.tbl ps) → ∃ more, H' b = some (.tbl (ps ++ more))
section
variable {fs fs' ex ex' : List Addr} {H H1 H2 : Hp} {h h1 h2 h' : Heap} {a x e : Addr} {o : HO}
theorem Un.any (u : Un fs ex H H1 h h1) {b : Addr} {ob : Obj} (q : h.get? b = some ob) (n : H b = none) (hx : b ∉ ex) : ∃ sl, h1.get? b = some { ob with slots := sl } := by
  by_cases hb : b ∈ fs
  · exact u.slot b ob q n hb hx
  · exact ⟨ob.slots, u.keep b ob q n hb hx⟩
theorem Un.trans (a : Un fs ex H H1 h h1) (b : Un fs ex H1 H2 h1 h2) : Un fs ex H H2 h h2 where
  keep := fun c ob q n hc hx => b.keep c ob (a.keep c ob q n hc hx) (a.free c ob q n hx) hc hx
  slot := fun c ob q n hc hx => by
    obtain ⟨sl, e1⟩ := a.slot c ob q n hc hx
    obtain ⟨sl', e2⟩ := b.slot c _ e1 (a.free c ob q n hx) hc hx
    exact ⟨sl', e2⟩
  free := fun c ob q n hx => by
    obtain ⟨o', e1⟩ := a.there c ob q hx
    exact b.free c o' e1 (a.free c ob q n hx) hx
  there := fun c ob q hx => by
    obtain ⟨o', e1⟩ := a.there c ob q hx
    exact b.there c o' e1 hx
  tups := fun c xs q => b.tups c xs (a.tups c xs q)
  frzs := fun c ob xs q => b.frzs c ob xs (a.frzs c ob xs q)
  tbls := fun c ps q => by
    obtain ⟨m1, e1⟩ := a.tbls c ps q
    obtain ⟨m2, e2⟩ := b.tbls c _ e1
    exact ⟨m1 ++ m2, by rw [e2, Array.append_assoc]⟩
theorem Un.kept (k : ∀ b u, h.get? b = some u → h'.get? b = some u) : Un fs ex H H h h' :=
  ⟨fun b ob q _ _ _ => k b ob q, fun b ob q _ _ _ => ⟨ob.slots, k b ob q⟩, fun _ _ _ n _ => n, fun b ob q _ => ⟨ob, k b ob q⟩, fun _ _ q => q, fun _ _ _ q => q, fun _ ps q => ⟨#[], by rw [q]; simp⟩⟩
theorem Un.refl : Un fs ex H H h h := Un.kept fun _ _ q => q
theorem Un.laid (k : ∀ b u, h.get? b = some u → h'.get? b = some u) (hp : h.objs.size ≤ a) (hn : H a = none) : Un fs ex H (upd H a o) h h' where
  keep := fun b u q _ _ _ => k b u q
  slot := fun b u q _ _ _ => ⟨u.slots, k b u q⟩
  free := fun b u q n _ => by rw [upd_ne (Nat.ne_of_lt (Nat.lt_of_lt_of_le (Heap.lt_size q) hp))]; exact n
  there := fun b u q _ => ⟨u, k b u q⟩
  tups := fun b xs q => by rw [upd_ne (ne_of_none q hn)]; exact q
  frzs := fun b u xs q => by rw [upd_ne (ne_of_none q hn)]; exact q
  tbls := fun b ps q => ⟨#[], by rw [upd_ne (ne_of_none q hn), q]; simp⟩
theorem Un.write (mu : Mut (H x)) (he : e = x ∨ H e = some (.own x)) (k : ∀ b u, b ≠ e → h.get? b = some u → h'.get? b = some u) (heo : ∃ u, h'.get? e = some u) : Un fs ex H (upd H x o) h h' := by
  have hx : ∀ b, H b = none → b ≠ x := fun b n z => by subst z; rw [n] at mu; exact mu
  have hb : ∀ b, H b = none → b ≠ e := fun b n z => by
    subst z
    rcases he with r | r
    · exact hx b n r
    · rw [n] at r; cases r
  have hm : ∀ b u, H b = some u → ¬ Mut (some u) → b ≠ x := fun b u q nm z => by subst z; rw [q] at mu; exact nm mu
  refine ⟨fun b u q n _ _ => k b u (hb b n) q, fun b u q n _ _ => ⟨u.slots, k b u (hb b n) q⟩, fun b u q n _ => by rw [upd_ne (hx b n)]; exact n, fun b u q _ => ?_,
    fun b xs q => by rw [upd_ne (hm b _ q fun z => z)]; exact q, fun b u xs q => by rw [upd_ne (hm b _ q fun z => z)]; exact q, fun b ps q => ⟨#[], by rw [upd_ne (hm b _ q fun z => z), q]; simp⟩⟩
  by_cases hbe : b = e
  · subst hbe; exact heo
  · exact ⟨u, k b u hbe q⟩
theorem Un.mono (u : Un fs ex H H1 h h1) (hs : ∀ b ∈ fs, b ∈ fs') (hx : ∀ b ∈ ex, b ∈ ex') : Un fs' ex' H H1 h h1 :=
  ⟨fun b ob q n hb he => u.keep b ob q n (fun z => hb (hs b z)) fun z => he (hx b z), fun _ _ q n _ he => u.any q n fun z => he (hx _ z), fun b ob q n he => u.free b ob q n fun z => he (hx b z), fun b ob q he => u.there b ob q fun z => he (hx b z), u.tups, u.frzs, u.tbls⟩
end

/-! ### the heap without what is tracked -/
def trk (h : Heap) (H : Hp) : List Addr := (List.range h.objs.size).filter fun a => (H a).isSome
def hidT (h : Heap) (H : Hp) : Heap := PySem.W.hideAll h (trk h H)
theorem hidT_size (h : Heap) (H : Hp) : (hidT h H).objs.size = h.objs.size := PySem.W.hideAll_size _ _
theorem hidT_get {h : Heap} {H : Hp} {b : Addr} {o : Obj} (e : h.get? b = some o) (n : H b = none) : (hidT h H).get? b = some o :=
  PySem.W.hideAll_get _ e fun hm => by
    have q : (H b).isSome = true := (List.mem_filter.mp hm).2
    rw [n] at q; simp at q
theorem of_hidT {h : Heap} {H : Hp} {b : Addr} {o : Obj} (e : (hidT h H).get? b = some o) : h.get? b = some o ∧ H b = none := by
  have e' : h.get? b = some o := PySem.W.of_hideAll (trk h H) e
  refine ⟨e', ?_⟩
  cases q : H b with
  | none => rfl
  | some x =>
    have hm : b ∈ trk h H := List.mem_filter.mpr ⟨List.mem_range.mpr (Heap.lt_size e'), by simp [q]⟩
    have z : (hidT h H).get? b = none := PySem.W.hideAll_none (trk h H) hm
    rw [z] at e; cases e

/-! ### OpenK's ledger, filled with every new object but one -/
def allNews (g h : Heap) (L : Addr) : List (Addr × Obj) := (List.range h.objs.size).filterMap fun a => if a = L ∨ (g.get? a).isSome = true then none else (h.get? a).map fun o => (a, o)
theorem mem_allNews {g h : Heap} {L a : Addr} {o : Obj} (h1 : a ≠ L) (h2 : g.get? a = none) (h3 : h.get? a = some o) : (a, o) ∈ allNews g h L :=
  List.mem_filterMap.mpr ⟨a, List.mem_range.mpr (Heap.lt_size h3), by simp [h1, h2, h3]⟩
theorem of_mem_allNews {g h : Heap} {L : Addr} {p : Addr × Obj} (hp : p ∈ allNews g h L) : p.1 ≠ L ∧ g.get? p.1 = none ∧ h.get? p.1 = some p.2 := by
  obtain ⟨b, _, e⟩ := List.mem_filterMap.mp hp
  split at e
  · cases e
  · rename_i hn
    cases q : h.get? b with
    | none => rw [q] at e; simp at e
    | some u =>
      rw [q] at e
      simp only [Option.map_some, Option.some.injEq] at e
      subst e
      refine ⟨fun z => hn (.inl z), ?_, q⟩
      show g.get? b = none
      cases r : g.get? b with
      | none => rfl
      | some v => exact (hn (.inr (by simp [r]))).elim
def rest (g h : Heap) (L d : Addr) : List (Addr × Obj) := (allNews g h L).filter fun p => decide (p.1 ≠ d)
theorem rest_ne {g h : Heap} {L d : Addr} : ∀ p ∈ rest g h L d, p.1 ≠ d := fun p hp => of_decide_eq_true (List.mem_filter.mp hp).2
theorem mem_rest {g h : Heap} {L d a : Addr} {o : Obj} (h1 : a ≠ L) (h2 : g.get? a = none) (h3 : h.get? a = some o) (h4 : a ≠ d) : (a, o) ∈ rest g h L d :=
  List.mem_filter.mpr ⟨mem_allNews h1 h2 h3, decide_eq_true h4⟩
theorem news_all {g h : Heap} {L : Addr} : News g L h (allNews g h L) := fun p hp => let ⟨a, b, c⟩ := of_mem_allNews hp; ⟨c, a, b⟩
theorem news_at {g h : Heap} {L d : Addr} {o : Obj} (h1 : d ≠ L) (h2 : g.get? d = none) (h3 : h.get? d = some o) : News g L h ((d, o) :: rest g h L d) := fun p hp => by
  rcases List.mem_cons.mp hp with rfl | hp
  · exact ⟨h3, h1, h2⟩
  · exact news_all p (List.mem_filter.mp hp).1
/-- behind a rule that changed d alone: all else but the frame is kept -/
theorem kept_of_news {g h h' : Heap} {L d : Addr} {m : Str → Option Value} (k : ∀ b o, g.get? b = some o → h.get? b = some o) (F : Fr g L h' m) (N : News g L h' (rest g h L d)) :
    ∀ b o, b ≠ L → b ≠ d → h.get? b = some o → h'.get? b = some o := fun b o h1 h2 e => by
  cases q : g.get? b with
  | some u =>
    have := k b u q
    rw [e] at this; cases this
    exact F.keep b _ q
  | none => exact (N (b, o) (mem_rest h1 q e h2)).1
end L2

namespace L2
open PySem PySem.Spec PyProof.Rows

/-- the module's facts, over the base: the heap at the law's entry without what is tracked there -/
structure Mod (K : PySem.W.Frag) (mg : Str → Option Value) (base : Heap) : Prop where
  kin : K.In base
  glob : base.Ns mainGlobals mg
  blt : ∃ mb, base.Ns builtinsNs mb ∧ ∀ x : Str, x ≠ "__name__" → mb x = bootBuiltins x
  nolimit : base.NoLimit

/-- the context: a def's body (or a comprehension's block) running. base: fixed through the whole law; s₀, H₀: the entry; outer: the frames whose slots others may change (a def's callers); stack: all frames that run;
   ex: iterators that were made ahead of the entry and are walked here (a comprehension's); fn: the names whose cells were made at the entry (a def: all; a comprehension's block: its own); calm: not within an except suite; pn: pins that every state bears; xe: what is wanted of an exception that leaves the code -/
structure Cx where
  prog : Program
  w : World
  K : PySem.W.Frag
  mg : Str → Option Value
  base : Heap
  A : Around
  N : List Str
  s₀ : Shared
  H₀ : Hp
  env : Env
  outer : List Env
  stack : List Env
  ex : List Addr
  fn : Str → Bool
  calm : Bool
  pn : List (Addr × Obj)
  xe : Value → Shared → Prop
/-- the callers' frames -/
def frs (l : List Env) : List Addr := l.filterMap (·.frame)
abbrev Cx.fs (X : Cx) : List Addr := frs X.outer

def Vis (sc : Scope) (x : Str) : Prop := sc.names.lookup x = some .local ∨ sc.names.lookup x = some .cell ∨ sc.names.lookup x = some .free
def Loc (sc : Scope) (x : Str) : Prop := sc.names.lookup x = some .local ∨ sc.names.lookup x = some .cell
def Look (env : Env) (h : Heap) (m : Str → Option Value) (x : Str) (u : Value) : Prop :=
  (env.kindOf x = some .local ∧ m x = some u) ∨ ((env.kindOf x = some .cell ∨ env.kindOf x = some .free) ∧ ∃ c, env.cells.lookup x = some c ∧ h.IsCell c (some u))

structure Cx.Ok (X : Cx) : Prop where
  mod : Mod X.K X.mg X.base
  kind : X.env.scope.kind = .function
  glob : X.env.globals = mainGlobals
  blt : X.env.builtins = builtinsNs
  above : X.s₀.heap.objs.size ≤ X.env.locals
  inj : ∀ x y c, X.env.cells.lookup x = some c → X.env.cells.lookup y = some c → x = y
  has : ∀ x, (X.env.kindOf x = some .cell ∨ X.env.kindOf x = some .free) → ∃ c, X.env.cells.lookup x = some c
  cab : ∀ x c, X.fn x = true → X.env.cells.lookup x = some c → X.s₀.heap.objs.size ≤ c
  hd : X.calm = true → X.A.handled = none
  frames : X.A.frames = some X.stack
  stk : X.stack = X.outer ∨ (X.stack = X.env :: X.outer ∧ X.env.frame = some X.env.locals)
  exf : ∀ b ∈ X.ex, b ≠ X.env.locals ∧ ∀ x c, X.env.cells.lookup x = some c → c ≠ b
  bs : ∀ b o, X.base.get? b = some o → X.s₀.heap.get? b = some o ∧ X.H₀ b = none
  bsz : X.base.objs.size ≤ X.s₀.heap.objs.size
  noex : ∀ b o, X.base.get? b = some o → b ∉ X.ex
  exfs : ∀ b ∈ X.ex, b ∉ X.fs
  funs : X.s₀.heap.FunFrames X.base X.outer
  frf : ∀ b ∈ X.fs, X.H₀ b = none

structure Inv (X : Cx) (pins : List (Addr × Obj)) (σ : List (Option V)) (H : Hp) (s : Shared) : Prop where
  ok : X.Ok
  os : s.os = X.s₀.os
  bare : AllBare s.gens
  base : Un X.fs X.ex X.H₀ H X.s₀.heap s.heap
  loc : ∃ m, s.heap.Ns X.env.locals m ∧ ∀ (i : Nat) (x : Str) (v : V), X.N[i]? = some x → σ[i]? = some (some v) → Vis X.env.scope x → ∃ u, RelV v u ∧ Look X.env s.heap m x u
  cell : ∀ x c, X.env.cells.lookup x = some c → ∃ v, s.heap.IsCell c v
  free : H X.env.locals = none
  freeC : ∀ x c, X.env.cells.lookup x = some c → H c = none
  pin : ∀ p ∈ X.pn ++ pins, s.heap.get? p.1 = some p.2 ∧ H p.1 = none ∧ p.1 ≠ X.env.locals ∧ p.1 ∉ X.fs ∧ ∀ v, p.2.data ≠ .cell v
  hok : HOk X.prog X.w H s.heap
  len : σ.length = X.N.length

section
variable {X : Cx} {pins : List (Addr × Obj)} {σ : List (Option V)} {H H' : Hp} {s : Shared} {h' : Heap}

theorem Cx.Ok.nofr (ok : X.Ok) {b : Addr} {o : Obj} (e : X.base.get? b = some o) : b ∉ X.fs := fun hb => by
  have := (ok.funs.mem hb).1
  rw [e] at this; cases this
theorem Inv.bs (I : Inv X pins σ H s) : ∀ b o, X.base.get? b = some o → s.heap.get? b = some o ∧ H b = none := fun b o e =>
  ⟨I.base.keep b o (I.ok.bs b o e).1 (I.ok.bs b o e).2 (I.ok.nofr e) (I.ok.noex b o e), I.base.free b o (I.ok.bs b o e).1 (I.ok.bs b o e).2 (I.ok.noex b o e)⟩
theorem Inv.bk (I : Inv X pins σ H s) : ∀ b o, X.base.get? b = some o → s.heap.get? b = some o := fun b o e => (I.bs b o e).1
theorem Inv.mod (I : Inv X pins σ H s) : Mod X.K X.mg X.base := I.ok.mod
theorem Inv.kIn (I : Inv X pins σ H s) : X.K.In s.heap := I.ok.mod.kin.keeps I.bk
theorem Inv.nolimit (I : Inv X pins σ H s) : s.heap.NoLimit := I.ok.mod.nolimit.keeps I.bk
/-- the frame over the base: for OpenK's rules (K.In X.base is I.mod.kin) -/
theorem Inv.fr (I : Inv X pins σ H s) : ∃ m, Fr X.base X.env.locals s.heap m :=
  let ⟨m, hn, _⟩ := I.loc
  ⟨m, hn, I.bk, Nat.le_trans I.ok.bsz I.ok.above⟩
theorem Inv.lt (I : Inv X pins σ H s) : X.env.locals < s.heap.objs.size := let ⟨_, hn, _⟩ := I.loc; hn.lt
theorem Inv.sz (I : Inv X pins σ H s) : X.s₀.heap.objs.size ≤ s.heap.objs.size := Nat.le_trans I.ok.above (Nat.le_of_lt I.lt)
theorem Inv.nofs (I : Inv X pins σ H s) {a : Addr} (h : s.heap.objs.size ≤ a) : a ∉ X.fs := fun hb => by
  obtain ⟨_, o, ho, _⟩ := I.ok.funs.mem hb
  exact absurd (Nat.lt_of_lt_of_le (Heap.lt_size ho) (Nat.le_trans I.sz h)) (Nat.lt_irrefl _)
theorem Inv.cne (I : Inv X pins σ H s) : ∀ x c, X.env.cells.lookup x = some c → c ≠ X.env.locals := fun x c e z => by
  obtain ⟨v, o, ho, hd⟩ := I.cell x c e
  obtain ⟨m, ⟨o', es, ep, ho', hd', _⟩, _⟩ := I.loc
  rw [z, ho'] at ho; cases ho; rw [hd'] at hd; cases hd
theorem Inv.funs (I : Inv X pins σ H s) : s.heap.FunFrames X.base X.outer := by
  have all : ∀ (l : List Env), (∀ b ∈ frs l, b ∈ X.fs) → X.s₀.heap.FunFrames X.base l → s.heap.FunFrames X.base l := by
    intro l
    induction l with
    | nil => intro _ _; trivial
    | cons env r ih =>
      intro hs hl
      obtain ⟨hk, ⟨L, o, hf, hn, ho, hd⟩, hr⟩ := hl
      have hL : L ∈ X.fs := hs L (by unfold frs; rw [List.filterMap_cons, hf]; exact List.mem_cons_self)
      obtain ⟨sl, e⟩ := I.base.slot L o ho (I.ok.frf L hL) hL fun z => I.ok.exfs L z hL
      exact ⟨hk, ⟨L, _, hf, hn, e, hd⟩, ih (fun b hb => hs b (by unfold frs; rw [List.filterMap_cons, hf]; exact List.mem_cons_of_mem _ hb)) hr⟩
  exact all X.outer (fun _ hb => hb) I.ok.funs

/-- the frames that run, for a call -/
theorem Inv.stack (I : Inv X pins σ H s) : s.heap.FunFrames X.base X.stack := by
  rcases I.ok.stk with e | ⟨e, hf⟩
  · rw [e]; exact I.funs
  · rw [e]
    obtain ⟨m, hn, _⟩ := I.loc
    refine .cons (by rw [I.ok.kind]; decide) hf hn ?_ I.funs
    exact Heap.get?_none_of_le (Nat.le_trans I.ok.bsz I.ok.above)
theorem Inv.stkSub (I : Inv X pins σ H s) : ∀ b ∈ frs X.stack, b ∈ X.env.locals :: X.fs := fun b hb => by
  rcases I.ok.stk with e | ⟨e, hf⟩
  · rw [e] at hb; exact List.mem_cons_of_mem _ hb
  · rw [e] at hb
    unfold frs at hb
    rw [List.filterMap_cons, hf] at hb
    exact hb
theorem Inv.stkFree (I : Inv X pins σ H s) : ∀ b ∈ frs X.stack, H b = none := fun b hb => by
  rcases List.mem_cons.mp (I.stkSub b hb) with e | hb
  · rw [e]; exact I.free
  · obtain ⟨_, o, ho, _⟩ := I.ok.funs.mem hb
    exact I.base.free b o ho (I.ok.frf b hb) fun z => I.ok.exfs b z hb

/-- THE STEP: the untracked objects but the frame and the records at ch are kept (the callers' frames up to slots), the frame's map is kept, the new abstract heap is held -/
theorem Inv.step {g' : Array GenState} {t' : Nat} {d' : Drawn} {ch : List Addr} (I : Inv X pins σ H s)
    (hch : ∀ b ∈ ch, (b ∈ X.ex ∨ X.s₀.heap.objs.size ≤ b) ∧ b ≠ X.env.locals ∧ (∀ x c, X.env.cells.lookup x = some c → c ≠ b) ∧ ∀ p ∈ X.pn ++ pins, p.1 ≠ b)
    (keep : ∀ b o, b ≠ X.env.locals → b ∉ X.fs → b ∉ ch → s.heap.get? b = some o → H b = none → h'.get? b = some o)
    (slot : ∀ b o, b ≠ X.env.locals → b ∈ X.fs → b ∉ ch → s.heap.get? b = some o → H b = none → ∃ sl, h'.get? b = some { o with slots := sl }) (free : ∀ b o, b ∉ ch → s.heap.get? b = some o → H b = none → H' b = none)
    (there : ∀ b o, b ∉ ch → s.heap.get? b = some o → ∃ o', h'.get? b = some o')
    (tups : ∀ b xs, H b = some (.tup xs) → H' b = some (.tup xs)) (frzs : ∀ b o u, H b = some (.frz o u) → H' b = some (.frz o u)) (tbls : ∀ b ps, H b = some (.tbl ps) → ∃ more, H' b = some (.tbl (ps ++ more)))
    (ns : ∀ m, s.heap.Ns X.env.locals m → h'.Ns X.env.locals m) (hok : HOk X.prog X.w H' h') (hg : AllBare g') :
    Inv X pins σ H' { s with heap := h', gens := g', drawn := d', toks := t' } := by
  have neL : ∀ b o, X.s₀.heap.get? b = some o → b ≠ X.env.locals := fun b o e => Nat.ne_of_lt (Nat.lt_of_lt_of_le (Heap.lt_size e) I.ok.above)
  have neC : ∀ b o, X.s₀.heap.get? b = some o → b ∉ X.ex → b ∉ ch := fun b o e hx hb => by
    rcases (hch b hb).1 with z | z
    · exact hx z
    · exact absurd (Nat.lt_of_lt_of_le (Heap.lt_size e) z) (Nat.lt_irrefl _)
  have cellK : ∀ x c, X.env.cells.lookup x = some c → ∀ v, s.heap.IsCell c v → h'.IsCell c v := fun x c e v ⟨o, ho, hd⟩ => by
    have nch : c ∉ ch := fun z => (hch c z).2.2.1 x c e rfl
    by_cases hc : c ∈ X.fs
    · obtain ⟨sl, q⟩ := slot c o (I.cne x c e) hc nch ho (I.freeC x c e)
      exact ⟨_, q, hd⟩
    · exact ⟨o, keep c o (I.cne x c e) hc nch ho (I.freeC x c e), hd⟩
  refine ⟨I.ok, I.os, hg, ⟨fun b o e n hb hx => ?_, fun b o e n hb hx => ?_, fun b o e n hx => ?_, fun b o e hx => ?_, fun b xs e => tups b xs (I.base.tups b xs e), fun b o xs e => frzs b o xs (I.base.frzs b o xs e), fun b ps e => ?_⟩, ?_, fun x c e => ?_, ?_, fun x c e => ?_, fun p hp => ?_, hok, I.len⟩
  · exact keep b o (neL b o e) hb (neC b o e hx) (I.base.keep b o e n hb hx) (I.base.free b o e n hx)
  · obtain ⟨sl, e1⟩ := I.base.slot b o e n hb hx
    obtain ⟨sl', e2⟩ := slot b _ (neL b o e) hb (neC b o e hx) e1 (I.base.free b o e n hx)
    exact ⟨sl', e2⟩
  · obtain ⟨o', e1⟩ := I.base.there b o e hx
    exact free b o' (neC b o e hx) e1 (I.base.free b o e n hx)
  · obtain ⟨o', e1⟩ := I.base.there b o e hx
    exact there b o' (neC b o e hx) e1
  · obtain ⟨m1, e1⟩ := I.base.tbls b ps e
    obtain ⟨m2, e2⟩ := tbls b _ e1
    exact ⟨m1 ++ m2, by rw [e2, Array.append_assoc]⟩
  · obtain ⟨m, hn, hl⟩ := I.loc
    refine ⟨m, ns m hn, fun i x v e1 e2 e3 => ?_⟩
    obtain ⟨u, r, l⟩ := hl i x v e1 e2 e3
    refine ⟨u, r, ?_⟩
    rcases l with l | ⟨k, c, e, z⟩
    · exact .inl l
    · exact .inr ⟨k, c, e, cellK x c e _ z⟩
  · obtain ⟨v, z⟩ := I.cell x c e
    exact ⟨v, cellK x c e v z⟩
  · obtain ⟨m, ⟨o, _, _, ho, _⟩, _⟩ := I.loc
    exact free _ o (fun z => (hch _ z).2.1 rfl) ho I.free
  · obtain ⟨v, o, ho, hd⟩ := I.cell x c e
    exact free c o (fun z => (hch c z).2.2.1 x c e rfl) ho (I.freeC x c e)
  · obtain ⟨e, n, ne, nf, d⟩ := I.pin p hp
    have nch : p.1 ∉ ch := fun z => (hch p.1 z).2.2.2 p hp rfl
    exact ⟨keep p.1 p.2 ne nf nch e n, free p.1 p.2 nch e n, ne, nf, d⟩
/-- .. where the frame's own object is kept too -/
theorem Inv.un {t' : Nat} (I : Inv X pins σ H s) (u : Un X.fs [] H H' s.heap h') (hok : HOk X.prog X.w H' h') : Inv X pins σ H' { s with heap := h', toks := t' } := by
  obtain ⟨m, ⟨o, es, ep, ho, r⟩, _⟩ := id I.loc
  obtain ⟨sl, hL⟩ := u.any ho I.free (by simp)
  exact I.step (g' := s.gens) (d' := s.drawn) (ch := []) (fun _ z => nomatch z) (fun b o _ hb _ e n => u.keep b o e n hb (by simp)) (fun b o _ hb _ e n => u.slot b o e n hb (by simp)) (fun b o _ e n => u.free b o e n (by simp)) (fun b o _ e => u.there b o e (by simp)) u.tups u.frzs u.tbls (fun m' hm => by
    obtain ⟨o', es', ep', ho', r'⟩ := hm
    rw [ho] at ho'; cases ho'
    exact ⟨_, es', ep', hL, r'⟩) hok I.bare
/-- behind a call (or a comprehension's block): the slots of this frame may have changed too, the records at ch may have turned -/
theorem Inv.call {g' : Array GenState} {t' : Nat} {d' : Drawn} {ch : List Addr} (I : Inv X pins σ H s) (u : Un (frs X.stack) ch H H' s.heap h') (hok : HOk X.prog X.w H' h') (hg : AllBare g')
    (hch : ∀ b ∈ ch, (b ∈ X.ex ∨ X.s₀.heap.objs.size ≤ b) ∧ b ≠ X.env.locals ∧ (∀ x c, X.env.cells.lookup x = some c → c ≠ b) ∧ ∀ p ∈ X.pn ++ pins, p.1 ≠ b) :
    Inv X pins σ H' { s with heap := h', gens := g', drawn := d', toks := t' } := by
  obtain ⟨m, ⟨o, es, ep, ho, r⟩, _⟩ := id I.loc
  obtain ⟨sl, hL⟩ := u.any ho I.free fun z => (hch _ z).2.1 rfl
  exact I.step (ch := ch) hch (fun b o hL hb hc e n => u.keep b o e n (fun z => (List.mem_cons.mp (I.stkSub b z)).elim hL hb) hc) (fun b o _ _ hc e n => u.any e n hc) (fun b o hc e n => u.free b o e n hc) (fun b o hc e => u.there b o e hc) u.tups u.frzs u.tbls (fun m' hm => by
    obtain ⟨o', es', ep', ho', r'⟩ := hm
    rw [ho] at ho'; cases ho'
    exact ⟨_, es', ep', hL, r'⟩) hok hg
/-- an untracked record of ours (an iterator) has turned -/
theorem Inv.turned {t' : Nat} {it : Addr} (I : Inv X pins σ H s) (k : ∀ b o, b ≠ it → s.heap.get? b = some o → h'.get? b = some o) (hn : H it = none) (hL : it ≠ X.env.locals)
    (h1 : it ∈ X.ex ∨ X.s₀.heap.objs.size ≤ it) (h2 : ∀ x c, X.env.cells.lookup x = some c → c ≠ it) (h3 : ∀ p ∈ X.pn ++ pins, p.1 ≠ it) : Inv X pins σ H { s with heap := h', toks := t' } := by
  have nit : ∀ b u, H b = some u → b ≠ it := fun b u e z => by rw [z, hn] at e; cases e
  refine I.step (g' := s.gens) (d' := s.drawn) (ch := [it]) (fun b hb => ?_) (fun b o _ _ hc e _ => k b o (fun z => hc (by simp [z])) e) (fun b o _ _ hc e _ => ⟨o.slots, k b o (fun z => hc (by simp [z])) e⟩) (fun _ _ _ _ n => n)
    (fun b o hc e => ⟨o, k b o (fun z => hc (by simp [z])) e⟩) (fun _ _ e => e) (fun _ _ _ e => e) (fun b ps e => ⟨#[], by rw [e]; simp⟩) (fun m hm => ?_) (fun b u e => ?_) I.bare
  · have e : b = it := by simpa using hb
    subst e
    exact ⟨h1, hL, h2, h3⟩
  · obtain ⟨o, es, ep, ho, r⟩ := hm
    exact ⟨o, es, ep, k _ o (Ne.symm hL) ho, r⟩
  · refine (I.hok b u e).stay (fun c v hc q => k c v ?_ q) (fun _ q => q) fun _ _ q => q
    rcases hc with z | z
    · rw [z]; exact nit b u e
    · exact nit c _ z
theorem Inv.tok (I : Inv X pins σ H s) (t : Nat) : Inv X pins σ H { s with toks := t } := I.un (h' := s.heap) (t' := t) Un.refl I.hok
/-- all objects kept -/
theorem Inv.kept {t' : Nat} (I : Inv X pins σ H s) (k : ∀ b u, s.heap.get? b = some u → h'.get? b = some u) : Inv X pins σ H { s with heap := h', toks := t' } := I.un (Un.kept k) (I.hok.kept k)
/-- a new object laid and tracked -/
theorem Inv.laid {a : Addr} {o : HO} {t' : Nat} (I : Inv X pins σ H s) (k : ∀ b u, s.heap.get? b = some u → h'.get? b = some u) (hp : s.heap.objs.size ≤ a) (new : ObjOk X.prog X.w (upd H a o) h' a o) :
    Inv X pins σ (upd H a o) { s with heap := h', toks := t' } := I.un (Un.laid k hp (I.hok.fresh hp)) (I.hok.laid k hp new)
/-- an object written -/
theorem Inv.write {x e : Addr} {o : HO} {t' : Nat} (I : Inv X pins σ H s) (mu : Mut (H x)) (he : e = x ∨ H e = some (.own x)) (k : ∀ b u, b ≠ e → s.heap.get? b = some u → h'.get? b = some u) (heo : ∃ u, h'.get? e = some u)
    (new : ObjOk X.prog X.w (upd H x o) h' x o) : Inv X pins σ (upd H x o) { s with heap := h', toks := t' } := I.un (Un.write mu he k heo) (I.hok.write mu he k heo new)
/-- forgetting slots, pins -/
theorem Inv.weak {σ' : List (Option V)} (I : Inv X pins σ H s) (hl : σ'.length = σ.length) (w : ∀ (i : Nat) v, σ'[i]? = some (some v) → σ[i]? = some (some v)) : Inv X pins σ' H s :=
  ⟨I.ok, I.os, I.bare, I.base, let ⟨m, hn, hl'⟩ := I.loc; ⟨m, hn, fun i x v e1 e2 e3 => hl' i x v e1 (w i v e2) e3⟩, I.cell, I.free, I.freeC, I.pin, I.hok, hl.trans I.len⟩
theorem Inv.pins_of {pins' : List (Addr × Obj)} (I : Inv X pins σ H s) (h : ∀ p ∈ pins', s.heap.get? p.1 = some p.2 ∧ H p.1 = none ∧ p.1 ≠ X.env.locals ∧ p.1 ∉ X.fs ∧ ∀ v, p.2.data ≠ .cell v) : Inv X pins' σ H s :=
  ⟨I.ok, I.os, I.bare, I.base, I.loc, I.cell, I.free, I.freeC, fun p hp => (List.mem_append.mp hp).elim (fun z => I.pin p (List.mem_append_left _ z)) (h p), I.hok, I.len⟩

theorem nodup_ix {N : List Str} (hN : N.Nodup) {i j : Nat} {x : Str} (a : N[i]? = some x) (b : N[j]? = some x) : i = j := by
  obtain ⟨h1, e1⟩ := List.getElem?_eq_some_iff.mp a
  obtain ⟨h2, e2⟩ := List.getElem?_eq_some_iff.mp b
  exact (List.getElem_inj hN).mp (e1.trans e2.symm)

/-- a name is stored; what changed -/
theorem store_ok2 {M : Model} {A : Around} {E : Value → Shared → Prop} {i : Nat} {x : Str} {v : V} {u : Value} {Q : Unit → Shared → Prop} (I : Inv X pins σ H s) (hN : X.N.Nodup) (hi : X.N[i]? = some x) (hx : Loc X.env.scope x) (r : RelV v u)
    (h : ∀ s', Inv X pins (σ.set i (some v)) H s' → (∃ a, Heap.SameBut a s.heap s'.heap ∧ (a = X.env.locals ∨ X.env.cells.lookup x = some a)) → Q () s') (hf : X.fn x = true ∨ X.env.scope.names.lookup x = some .local := by first | exact .inl rfl | exact .inr rfl | assumption) : wpAny M A (storeName X.env x u) Q E s := by
  obtain ⟨m, hn, hl⟩ := id I.loc
  have hcls : (X.env.scope.kind == .class || (X.env.scope.kind == .module && X.env.locals != X.env.globals)) = false := by rw [I.ok.kind]; rfl
  have hiσ : i < σ.length := by rw [I.len]; exact (List.getElem?_eq_some_iff.mp hi).1
  have cne := I.cne
  have tracked : ∀ {a : Addr} {h' : Heap}, (∃ o, s.heap.get? a = some o ∧ H a = none) → Heap.SameBut a s.heap h' → HOk X.prog X.w H h' := fun {a h'} ha hs b ob e => by
    obtain ⟨_, _, hfree⟩ := ha
    refine (I.hok b ob e).stay (fun c w' hc q => (hs.2 c ?_).trans q) (fun _ q => q) fun _ _ q => q
    rintro rfl
    rcases hc with rfl | hc
    · rw [hfree] at e; cases e
    · rw [hfree] at hc; cases hc
  rcases hx with hk | hk
  · refine wpAny_storeName_local hk hn (fun h' hn' hs => ?_) hcls
    obtain ⟨oL, _, _, hoL, _⟩ := id hn
    refine h _ ⟨I.ok, I.os, I.bare, ⟨fun b o e n hb hx => ?_, fun b o e n hb hx => ?_, I.base.free, fun b o e hx => ?_, I.base.tups, I.base.frzs, I.base.tbls⟩, ⟨_, hn', fun j y v' e1 e2 e3 => ?_⟩, fun y c e => ?_, I.free, I.freeC, fun p hp => ?_, tracked ⟨oL, hoL, I.free⟩ hs, by simpa using I.len⟩ ⟨_, hs, .inl rfl⟩
    · exact (hs.2 b (Nat.ne_of_lt (Nat.lt_of_lt_of_le (Heap.lt_size e) I.ok.above))).trans (I.base.keep b o e n hb hx)
    · obtain ⟨sl, e1⟩ := I.base.slot b o e n hb hx
      exact ⟨sl, (hs.2 b (Nat.ne_of_lt (Nat.lt_of_lt_of_le (Heap.lt_size e) I.ok.above))).trans e1⟩
    · obtain ⟨o', e1⟩ := I.base.there b o e hx
      exact ⟨o', (hs.2 b (Nat.ne_of_lt (Nat.lt_of_lt_of_le (Heap.lt_size e) I.ok.above))).trans e1⟩
    · by_cases hj : j = i
      · subst hj
        rw [hi] at e1; cases e1
        rw [List.getElem?_set_self hiσ] at e2
        cases e2
        exact ⟨u, r, .inl ⟨hk, by simp⟩⟩
      · rw [List.getElem?_set_ne (Ne.symm hj)] at e2
        obtain ⟨u', r', q⟩ := hl j y v' e1 e2 e3
        refine ⟨u', r', ?_⟩
        rcases q with ⟨k, e⟩ | ⟨k, c, e, z⟩
        · refine .inl ⟨k, ?_⟩
          have : y ≠ x := fun e => hj (nodup_ix hN e1 (e ▸ hi))
          simp [this, e]
        · exact .inr ⟨k, c, e, z.sameBut hs (cne y c e)⟩
    · obtain ⟨w', z⟩ := I.cell y c e
      exact ⟨w', z.sameBut hs (cne y c e)⟩
    · obtain ⟨e, n, ne, nf, d⟩ := I.pin p hp
      exact ⟨(hs.2 p.1 ne).trans e, n, ne, nf, d⟩
  · have hfn : X.fn x = true := by
      rcases hf with z | z
      · exact z
      · rw [z] at hk; cases hk
    obtain ⟨c, hc⟩ := I.ok.has x (.inl hk)
    obtain ⟨w', z⟩ := I.cell x c hc
    refine wpAny_storeName_cell I.ok.kind hk hc z (fun h' hc' hs => ?_)
    obtain ⟨oc, hoc, hocd⟩ := id z
    refine h { s with heap := h' } ⟨I.ok, I.os, I.bare, ⟨fun b o e n hb hx => ?_, fun b o e n hb hx => ?_, I.base.free, fun b o e hx => ?_, I.base.tups, I.base.frzs, I.base.tbls⟩, ⟨m, hn.sameBut hs (Ne.symm (cne x c hc)), fun j y v' e1 e2 e3 => ?_⟩, fun y c' e => ?_, I.free, I.freeC, fun p hp => ?_, tracked ⟨oc, hoc, I.freeC x c hc⟩ hs, by simpa using I.len⟩ ⟨c, hs, .inr hc⟩
    · exact (hs.2 b (Nat.ne_of_lt (Nat.lt_of_lt_of_le (Heap.lt_size e) (I.ok.cab x c hfn hc)))).trans (I.base.keep b o e n hb hx)
    · obtain ⟨sl, e1⟩ := I.base.slot b o e n hb hx
      exact ⟨sl, (hs.2 b (Nat.ne_of_lt (Nat.lt_of_lt_of_le (Heap.lt_size e) (I.ok.cab x c hfn hc)))).trans e1⟩
    · obtain ⟨o', e1⟩ := I.base.there b o e hx
      exact ⟨o', (hs.2 b (Nat.ne_of_lt (Nat.lt_of_lt_of_le (Heap.lt_size e) (I.ok.cab x c hfn hc)))).trans e1⟩
    · by_cases hj : j = i
      · subst hj
        rw [hi] at e1; cases e1
        rw [List.getElem?_set_self hiσ] at e2
        cases e2
        exact ⟨u, r, .inr ⟨.inl hk, c, hc, hc'⟩⟩
      · rw [List.getElem?_set_ne (Ne.symm hj)] at e2
        obtain ⟨u', r', q⟩ := hl j y v' e1 e2 e3
        refine ⟨u', r', ?_⟩
        rcases q with q | ⟨k, c', e, z'⟩
        · exact .inl q
        · refine .inr ⟨k, c', e, z'.sameBut hs ?_⟩
          rintro rfl
          exact hj (nodup_ix hN e1 (I.ok.inj _ _ _ e hc ▸ hi))
    · by_cases hcc : c' = c
      · subst hcc; exact ⟨_, hc'⟩
      · obtain ⟨w2, z2⟩ := I.cell y c' e
        exact ⟨w2, z2.sameBut hs hcc⟩
    · obtain ⟨e, n, ne, nf, d⟩ := I.pin p hp
      refine ⟨(hs.2 p.1 ?_).trans e, n, ne, nf, d⟩
      intro q
      rw [q, hoc] at e
      have q' : oc = p.2 := Option.some.inj e
      exact d w' (by rw [← q']; exact hocd)
theorem store_ok {M : Model} {A : Around} {E : Value → Shared → Prop} {i : Nat} {x : Str} {v : V} {u : Value} {Q : Unit → Shared → Prop} (I : Inv X pins σ H s) (hN : X.N.Nodup) (hi : X.N[i]? = some x) (hx : Loc X.env.scope x) (r : RelV v u)
    (h : ∀ s', Inv X pins (σ.set i (some v)) H s' → Q () s') (hf : X.fn x = true ∨ X.env.scope.names.lookup x = some .local := by first | exact .inl rfl | exact .inr rfl | assumption) : wpAny M A (storeName X.env x u) Q E s :=
  store_ok2 I hN hi hx r (fun s' I' _ => h s' I') hf
/-- behind a call or a block, the state as it is -/
theorem Inv.call' {s' : Shared} {ch : List Addr} (I : Inv X pins σ H s) (ho : s'.os = s.os) (u : Un (frs X.stack) ch H H' s.heap s'.heap) (hok : HOk X.prog X.w H' s'.heap) (hg : AllBare s'.gens)
    (hch : ∀ b ∈ ch, (b ∈ X.ex ∨ X.s₀.heap.objs.size ≤ b) ∧ b ≠ X.env.locals ∧ (∀ x c, X.env.cells.lookup x = some c → c ≠ b) ∧ ∀ p ∈ X.pn ++ pins, p.1 ≠ b) : Inv X pins σ H' s' := by
  obtain ⟨h', g', d', t', o'⟩ := s'
  have e : o' = s.os := ho
  subst e
  exact I.call (g' := g') (t' := t') (d' := d') u hok hg hch
end

/-! ### the judgements -/
/-- an exception: its class, its own dict's address (where it has one), the abstract heap behind it -/
abbrev XK := Value → Option Addr → Hp → Prop
abbrev St := List (Option V)
abbrev VK := V → Hp → Prop
/-- an expression's reading; a test's; an argument list's -/
abbrev TE := St → Hp → VK → Prop
abbrev TT := St → Hp → (Bool → Hp → Prop) → Prop
abbrev TA := St → Hp → (List V → Hp → Prop) → Prop
/-- what is wanted behind a statement -/
structure Ends where
  nx : St → Hp → Prop
  rt : VK
  bk : St → Hp → Prop := fun _ _ => False
  ct : St → Hp → Prop := fun _ _ => False
abbrev TS := Ends → St → Hp → Prop

def EP (X : Cx) (pins : List (Addr × Obj)) (σ : St) (Q : VK) (u : Value) (s' : Shared) : Prop := ∃ v H', Inv X pins σ H' s' ∧ RelV v u ∧ Q v H'
def TP (X : Cx) (pins : List (Addr × Obj)) (σ : St) (Q : Bool → Hp → Prop) (b : Bool) (s' : Shared) : Prop := ∃ H', Inv X pins σ H' s' ∧ Q b H'
def AP (X : Cx) (pins : List (Addr × Obj)) (σ : St) (Q : List V → Hp → Prop) (us : List Value) (s' : Shared) : Prop := ∃ vs H', Inv X pins σ H' s' ∧ Vals vs us ∧ Q vs H'
def SP (X : Cx) (pins : List (Addr × Obj)) (D : Ends) (f : Flow) (s' : Shared) : Prop :=
  match f with
  | .next => ∃ σ' H', Inv X pins σ' H' s' ∧ D.nx σ' H'
  | .brk => ∃ σ' H', Inv X pins σ' H' s' ∧ D.bk σ' H'
  | .cont => ∃ σ' H', Inv X pins σ' H' s' ∧ D.ct σ' H'
  | .ret u => ∃ v σ' H', Inv X pins σ' H' s' ∧ RelV v u ∧ D.rt v H'

def PE (X : Cx) (e : Expr) (t : TE) : Prop :=
  ∀ (pins : List (Addr × Obj)) (s : Shared) (σ : St) (H : Hp) (Q : VK), Inv X pins σ H s → t σ H Q → wpAny (model X.prog X.w) X.A (eval e X.env) (EP X pins σ Q) X.xe s
def PT (X : Cx) (e : Expr) (t : TT) : Prop :=
  ∀ (pins : List (Addr × Obj)) (s : Shared) (σ : St) (H : Hp) (Q : Bool → Hp → Prop), Inv X pins σ H s → t σ H Q → wpAny (model X.prog X.w) X.A (isTrue e X.env (eval e X.env)) (TP X pins σ Q) X.xe s
/-- a test whatever its 'whole' is (and, or) -/
def PW (X : Cx) (e : Expr) (t : TT) : Prop :=
  ∀ (whole : Sem Value) (pins : List (Addr × Obj)) (s : Shared) (σ : St) (H : Hp) (Q : Bool → Hp → Prop), Inv X pins σ H s → t σ H Q → wpAny (model X.prog X.w) X.A (isTrue e X.env whole) (TP X pins σ Q) X.xe s
theorem PW.pt {X : Cx} {e : Expr} {t : TT} (h : PW X e t) : PT X e t := h _
/-- an argument list (no star), from the left -/
def PA (X : Cx) (es : List Expr) (t : TA) : Prop :=
  ∀ (pos : Pos) (pins : List (Addr × Obj)) (s : Shared) (σ : St) (H : Hp) (Q : List V → Hp → Prop), Inv X pins σ H s → t σ H Q → wpAny (model X.prog X.w) X.A (spliced (backTo pos (starEach es X.env))) (AP X pins σ Q) X.xe s
def PS (X : Cx) (st : Stmt) (t : TS) : Prop :=
  ∀ (pins : List (Addr × Obj)) (s : Shared) (σ : St) (H : Hp) (D : Ends), Inv X pins σ H s → t D σ H → wpAny (model X.prog X.w) X.A (exec st X.env) (SP X pins D) X.xe s
def PSs (X : Cx) (st : List Stmt) (t : TS) : Prop :=
  ∀ (pins : List (Addr × Obj)) (s : Shared) (σ : St) (H : Hp) (D : Ends), Inv X pins σ H s → t D σ H → wpAny (model X.prog X.w) X.A (execs st X.env) (SP X pins D) X.xe s
/-- weaken the end -/
theorem thn {α : Type} {t : Sem α} {Q Q' : α → Shared → Prop} {M : Model} {A : Around} {E : Value → Shared → Prop} {s : Shared} (h : wpAny M A t Q E s) (hQ : ∀ a s, Q a s → Q' a s) : wpAny M A t Q' E s := wpAny_mono h hQ fun _ _ x => x
end L2

namespace L2
open PySem PySem.Spec PyProof.Rows
section
variable {X : Cx}

/-- two expressions in a row -/
theorem bin {a b : Expr} {ta tb : TE} (ha : PE X a ta) (hb : PE X b tb) {pins : List (Addr × Obj)} {s : Shared} {σ : St} {H : Hp} {R : V → V → Hp → Prop} (I : Inv X pins σ H s) (h : ta σ H fun x H1 => tb σ H1 fun y H2 => R x y H2)
    {α : Type} {Q : α → Shared → Prop} {f : Value → Value → Sem α}
    (hf : ∀ v u s2 x y H2, Inv X pins σ H2 s2 → RelV x v → RelV y u → R x y H2 → wpAny (model X.prog X.w) X.A (f v u) Q X.xe s2) :
    wpAny (model X.prog X.w) X.A (eval a X.env) (fun v s₁ => wpAny (model X.prog X.w) X.A (eval b X.env) (fun u s₂ => wpAny (model X.prog X.w) X.A (f v u) Q X.xe s₂) X.xe s₁) X.xe s := by
  refine thn (ha pins s σ H _ I h) fun v s1 ⟨x, H1, I1, r1, q1⟩ => ?_
  refine thn (hb pins s1 σ H1 _ I1 q1) fun u s2 ⟨y, H2, I2, r2, q2⟩ => ?_
  exact hf v u s2 x y H2 I2 r1 r2 q2

/-! ### names and constants -/
def tVar (i : Nat) : TE := fun σ H Q => ∃ v, σ[i]? = some (some v) ∧ Q v H
def tC (v : V) : TE := fun _ H Q => Q v H
theorem pe_var {i : Nat} {x : Str} {pos : Pos} (hN : X.N[i]? = some x) (hv : Vis X.env.scope x) (hd : (x == ("__debug__" : Str)) = false := by decide) (hcd : (x == ("__classdict__" : Str)) = false := by decide) : PE X (.Name x pos) (tVar i) := by
  intro pins s σ H Q I h
  obtain ⟨v, e, h⟩ := h
  obtain ⟨m, hn, hl⟩ := I.loc
  obtain ⟨u, r, l⟩ := hl i x v hN e hv
  have fin : EP X pins σ Q u s := ⟨v, H, I, r, h⟩
  rcases l with ⟨hk, hm⟩ | ⟨hk, c, hc, hcell⟩
  · exact wpAny_Name (wpAny_loadName_local I.ok.kind hk hn hm fin) hd
  · rcases hk with hk | hk
    · exact wpAny_Name (wpAny_loadName_cell I.ok.kind hk hc hcell fin) hd
    · exact wpAny_Name (wpAny_loadName_free I.ok.kind hk hc hcell fin hcd) hd
theorem pe_int {i j pos} : PE X (.Constant (.int i) j pos) (tC (.int i)) := fun _ _ _ H _ I h => wpAny_Constant_int ⟨.int i, H, I.tok _, ⟨_, rfl⟩, h⟩
theorem pe_bl {b j pos} : PE X (.Constant (.bool b) j pos) (tC (.bl b)) := fun _ _ _ H _ I h => Constant_bool ⟨.bl b, H, I, rfl, h⟩
theorem pe_non {j pos} : PE X (.Constant .none j pos) (tC .non) := fun _ _ _ H _ I h => Constant_none ⟨.non, H, I, rfl, h⟩
theorem pe_str {x j pos} : PE X (.Constant (.str x) j pos) (tC (.str x)) := fun _ _ _ H _ I h => Calls.Constant_str ⟨.str x, H, I.tok _, ⟨_, rfl⟩, h⟩

/-- a global name of the def -/
def Gl (X : Cx) (x : Str) : Prop := X.env.kindOf x = some .globalImplicit
theorem ld_glob {E : Value → Shared → Prop} {pins : List (Addr × Obj)} {s : Shared} {σ : St} {H : Hp} {x : Str} {u : Value} {pos : Pos} {Q : Value → Shared → Prop} (I : Inv X pins σ H s) (hg : Gl X x) (hm : X.mg x = some u) (h : Q u s)
    (hd : (x == ("__debug__" : Str)) = false := by decide) : wpAny (model X.prog X.w) X.A (eval (.Name x pos) X.env) Q E s :=
  Calls.Name_function_global I.ok.kind hg (Calls.loadGlobal_global (by rw [I.ok.glob]; exact I.mod.glob.keeps I.bk) hm h) hd
theorem ld_blt {E : Value → Shared → Prop} {pins : List (Addr × Obj)} {s : Shared} {σ : St} {H : Hp} {x : Str} {u : Value} {pos : Pos} {Q : Value → Shared → Prop} (I : Inv X pins σ H s) (hg : Gl X x) (hm : X.mg x = none) (hv : bootBuiltins x = some u) (h : Q u s)
    (hn : x ≠ "__name__" := by decide) (hd : (x == ("__debug__" : Str)) = false := by decide) : wpAny (model X.prog X.w) X.A (eval (.Name x pos) X.env) Q E s := by
  obtain ⟨mb, h1, h2⟩ := I.mod.blt
  exact Calls.Name_function_global I.ok.kind hg (Calls.loadGlobal_builtin (by rw [I.ok.glob]; exact I.mod.glob.keeps I.bk) hm (by rw [I.ok.blt]; exact h1.keeps I.bk) ((h2 x hn).trans hv) h) hd
/-- a module's constant, a class, a function, as a value -/
theorem pe_glob {x : Str} {v : V} {u : Value} {pos : Pos} (hg : Gl X x) (hm : X.mg x = some u) (r : RelV v u) (hd : (x == ("__debug__" : Str)) = false := by decide) : PE X (.Name x pos) (tC v) :=
  fun _ _ _ H _ I h => ld_glob I hg hm ⟨v, H, I, r, h⟩ hd
theorem pe_bltn {x : Str} {v : V} {u : Value} {pos : Pos} (hg : Gl X x) (hm : X.mg x = none) (hv : bootBuiltins x = some u) (r : RelV v u) (hn : x ≠ "__name__" := by decide) (hd : (x == ("__debug__" : Str)) = false := by decide) : PE X (.Name x pos) (tC v) :=
  fun _ _ _ H _ I h => ld_blt I hg hm hv ⟨v, H, I, r, h⟩ hn hd

/-! ### arithmetic -/
/-- two ints -/
def t2I (ta tb : TE) (k : Int → Int → Hp → Prop) : St → Hp → Prop := fun σ H => ta σ H fun x H1 => tb σ H1 fun y H2 => ∃ i j, x = .int i ∧ y = .int j ∧ k i j H2
def tAdd (ta tb : TE) : TE := fun σ H Q => t2I ta tb (fun i j H2 => Q (.int (i + j)) H2) σ H
def tSub (ta tb : TE) : TE := fun σ H Q => t2I ta tb (fun i j H2 => Q (.int (i - j)) H2) σ H
/-- the left factor below 2^64 -/
def tMul (ta tb : TE) : TE := fun σ H Q => t2I ta tb (fun i j H2 => (-(2 ^ 64) < i ∧ i < 2 ^ 64) ∧ Q (.int (i * j)) H2) σ H
variable {a b : Expr} {ta tb : TE} {pos : Pos}
theorem pe_add (ha : PE X a ta) (hb : PE X b tb) : PE X (.BinOp a .Add b pos) (tAdd ta tb) := by
  intro pins s σ H Q I h
  refine wpAny_BinOp (bin ha hb I h fun v u s2 x y H2 I2 rx ry q => ?_)
  obtain ⟨i, j, rfl, rfl, q⟩ := q
  obtain ⟨t, rfl⟩ := rx
  obtain ⟨t', rfl⟩ := ry
  exact add_int ⟨.int _, H2, I2.tok _, ⟨_, rfl⟩, q⟩
theorem pe_sub (ha : PE X a ta) (hb : PE X b tb) : PE X (.BinOp a .Sub b pos) (tSub ta tb) := by
  intro pins s σ H Q I h
  refine wpAny_BinOp (bin ha hb I h fun v u s2 x y H2 I2 rx ry q => ?_)
  obtain ⟨i, j, rfl, rfl, q⟩ := q
  obtain ⟨t, rfl⟩ := rx
  obtain ⟨t', rfl⟩ := ry
  exact sub_int ⟨.int _, H2, I2.tok _, ⟨_, rfl⟩, q⟩
theorem pe_mul (ha : PE X a ta) (hb : PE X b tb) : PE X (.BinOp a .Mult b pos) (tMul ta tb) := by
  intro pins s σ H Q I h
  refine wpAny_BinOp (bin ha hb I h fun v u s2 x y H2 I2 rx ry q => ?_)
  obtain ⟨i, j, rfl, rfl, ⟨q1, q2⟩, q⟩ := q
  obtain ⟨t, rfl⟩ := rx
  obtain ⟨t', rfl⟩ := ry
  exact mul_int ⟨.int _, H2, I2.tok _, ⟨_, rfl⟩, q⟩ (.of_left (intBits_le_64 q1 q2))

/-! ### comparisons -/
def PC (X : Cx) (op : CmpOp) (a b : Expr) (t : TE) : Prop :=
  ∀ (pins : List (Addr × Obj)) (s : Shared) (σ : St) (H : Hp) (Q : VK), Inv X pins σ H s → t σ H Q →
    wpAny (model X.prog X.w) X.A (eval a X.env) (fun v s₁ => wpAny (model X.prog X.w) X.A (eval b X.env) (fun u s₂ => wpAny (model X.prog X.w) X.A (compareOp op v u) (EP X pins σ Q) X.xe s₂) X.xe s₁) X.xe s
theorem nobehind (b : Expr) {op : CmpOp} (h : op ≠ .In) (h2 : op ≠ .NotIn) : behindInMarks op b = false := by
  have e1 : (op == CmpOp.In) = false := by cases op <;> first | rfl | exact absurd rfl h
  have e2 : (op == CmpOp.NotIn) = false := by cases op <;> first | rfl | exact absurd rfl h2
  cases b <;> simp [behindInMarks, e1, e2]
def tCmp (p : Int → Int → Bool) (ta tb : TE) : TE := fun σ H Q => t2I ta tb (fun i j H2 => Q (.bl (p i j)) H2) σ H
abbrev tLt : TE → TE → TE := tCmp fun i j => decide (i < j)
abbrev tLe : TE → TE → TE := tCmp fun i j => decide (i ≤ j)
abbrev tGt : TE → TE → TE := tCmp fun i j => decide (j < i)
abbrev tGe : TE → TE → TE := tCmp fun i j => decide (j ≤ i)
abbrev tEqI : TE → TE → TE := tCmp fun i j => decide (i = j)
abbrev tNeI : TE → TE → TE := tCmp fun i j => !decide (i = j)
/-- a comparison of two ints, by its rule -/
theorem pc_int {op : CmpOp} {p : Int → Int → Bool} (ha : PE X a ta) (hb : PE X b tb)
    (rule : ∀ (i j : Int) (t u : Tok) (Q : Value → Shared → Prop) (s : Shared), Q (.bool (p i j)) s → wpAny (model X.prog X.w) X.A (compareOp op (.int i t) (.int j u)) Q X.xe s) : PC X op a b (tCmp p ta tb) := by
  intro pins s σ H Q I h
  refine bin ha hb I h fun v u s2 x y H2 I2 rx ry q => ?_
  obtain ⟨i, j, rfl, rfl, q⟩ := q
  obtain ⟨t, rfl⟩ := rx
  obtain ⟨t', rfl⟩ := ry
  exact rule i j t t' _ s2 ⟨.bl _, H2, I2, rfl, q⟩
theorem pc_lt (ha : PE X a ta) (hb : PE X b tb) : PC X .Lt a b (tLt ta tb) := pc_int ha hb fun _ _ _ _ _ _ h => lt_int h
theorem pc_le (ha : PE X a ta) (hb : PE X b tb) : PC X .LtE a b (tLe ta tb) := pc_int ha hb fun _ _ _ _ _ _ h => le_int h
theorem pc_gt (ha : PE X a ta) (hb : PE X b tb) : PC X .Gt a b (tGt ta tb) := pc_int ha hb fun _ _ _ _ _ _ h => gt_int h
theorem pc_ge (ha : PE X a ta) (hb : PE X b tb) : PC X .GtE a b (tGe ta tb) := pc_int ha hb fun _ _ _ _ _ _ h => ge_int h
theorem pc_eqI (ha : PE X a ta) (hb : PE X b tb) : PC X .Eq a b (tEqI ta tb) := pc_int ha hb fun _ _ _ _ _ _ h => eq_int (by rw [Bool.beq_eq_decide_eq]; exact h)
theorem pc_neI (ha : PE X a ta) (hb : PE X b tb) : PC X .NotEq a b (tNeI ta tb) := pc_int ha hb fun _ _ _ _ _ _ h => ne_int (by rw [bne, Bool.beq_eq_decide_eq]; exact h)
/-- is None -/
def tIsN (ta : TE) : TE := fun σ H Q => ta σ H fun x H1 => Q (.bl (decide (x = .non))) H1
def tNotN (ta : TE) : TE := fun σ H Q => ta σ H fun x H1 => Q (.bl (!decide (x = .non))) H1
theorem RelV.none_iff {x : V} {v : Value} (r : RelV x v) : (v == Value.none) = decide (x = .non) := by
  cases x with
  | non => cases r; rfl
  | bl _ => cases r; rfl
  | int _ => obtain ⟨t, rfl⟩ := r; rfl
  | str _ => obtain ⟨t, rfl⟩ := r; rfl
  | byt _ => obtain ⟨t, rfl⟩ := r; rfl
  | flt _ => obtain ⟨t, rfl⟩ := r; rfl
  | ref _ => cases r; rfl
  | ty _ => cases r; rfl
theorem pc_isN {j pos'} (ha : PE X a ta) : PC X .Is a (.Constant .none j pos') (tIsN ta) := by
  intro pins s σ H Q I h
  refine thn (ha pins s σ H _ I h) fun v s1 ⟨x, H1, I1, r1, q1⟩ => ?_
  exact Constant_none (is_none_gen ⟨.bl _, H1, I1, by rw [r1.none_iff]; rfl, q1⟩)
theorem pc_notN {j pos'} (ha : PE X a ta) : PC X .IsNot a (.Constant .none j pos') (tNotN ta) := by
  intro pins s σ H Q I h
  refine thn (ha pins s σ H _ I h) fun v s1 ⟨x, H1, I1, r1, q1⟩ => ?_
  exact Constant_none (isnot_none_gen ⟨.bl _, H1, I1, by rw [r1.none_iff]; rfl, q1⟩)
/-- a comparison as a value, as a test -/
def tB (t : TE) : TT := fun σ H Q => t σ H fun x H1 => ∃ c, x = .bl c ∧ Q c H1
theorem pe_cmp {op : CmpOp} {t : TE} (h : PC X op a b t) (h1 : behindInMarks op b = false := by first | exact nobehind _ (by decide) (by decide) | rfl) : PE X (.Compare a [op] [b] pos) t := fun pins s σ H Q I hw => wpAny_Compare1 (h pins s σ H Q I hw) h1
theorem pt_cmp {op : CmpOp} {t : TE} (h : PC X op a b t) (h1 : behindInMarks op b = false := by first | exact nobehind _ (by decide) (by decide) | rfl) : PT X (.Compare a [op] [b] pos) (tB t) := by
  intro pins s σ H Q I hw
  refine wpAny_isTrue_Compare1 (thn (h pins s σ H _ I hw) fun v s1 h1 => thn h1 fun u s2 h2 => thn h2 fun c s3 ⟨x, H1, I1, r1, q1⟩ => ?_) h1
  obtain ⟨d, rfl, q⟩ := q1
  cases r1
  exact wpAny_truthy_bool ⟨H1, I1, q⟩
/-- an expression whose value is a bool, as a test -/
theorem pt_val {e : Expr} {t : TE} (h : PE X e t) (he : ∀ whole, isTrue e X.env whole = (do let v ← whole; standAt e.pos; holding [v] (truthy v)) := by intro _; rfl) : PT X e (tB t) := by
  intro pins s σ H Q I hw
  refine isTrue_plain (thn (h pins s σ H _ I hw) fun v s1 ⟨x, H1, I1, r1, q1⟩ => ?_) (he _)
  obtain ⟨d, rfl, q⟩ := q1
  cases r1
  exact wpAny_truthy_bool ⟨H1, I1, q⟩

/-! ### and, or, not -/
variable {tA tB' : TT} {rest : List Expr}
def tAnd (t u : TT) : TT := fun σ H Q => t σ H fun c H1 => if c = true then u σ H1 Q else Q false H1
def tOr (t u : TT) : TT := fun σ H Q => t σ H fun c H1 => if c = true then Q true H1 else u σ H1 Q
def tNot (t : TT) : TT := fun σ H Q => t σ H fun c H1 => Q (!c) H1
theorem pw_and1 (ha : PT X a tA) : PW X (.BoolOp .And [a] pos) tA := by
  intro wh pins s σ H Q I h
  refine isTrue_and (thn (ha pins s σ H Q I h) fun c s1 e => ?_)
  cases c with
  | true => exact isTrue_and_nil e
  | false => exact e
theorem pw_or1 (ha : PT X a tA) : PW X (.BoolOp .Or [a] pos) tA := by
  intro wh pins s σ H Q I h
  refine isTrue_or (thn (ha pins s σ H Q I h) fun c s1 e => ?_)
  cases c with
  | false => exact isTrue_or_nil e
  | true => exact e
theorem pw_and (ha : PT X a tA) (hb : PW X (.BoolOp .And (b :: rest) pos) tB') : PW X (.BoolOp .And (a :: b :: rest) pos) (tAnd tA tB') := by
  intro wh pins s σ H Q I h
  refine isTrue_and (thn (ha pins s σ H _ I h) fun c s1 ⟨H1, I1, q1⟩ => ?_)
  cases c with
  | true => exact hb wh pins s1 σ H1 Q I1 q1
  | false => exact ⟨H1, I1, q1⟩
theorem pw_or (ha : PT X a tA) (hb : PW X (.BoolOp .Or (b :: rest) pos) tB') : PW X (.BoolOp .Or (a :: b :: rest) pos) (tOr tA tB') := by
  intro wh pins s σ H Q I h
  refine isTrue_or (thn (ha pins s σ H _ I h) fun c s1 ⟨H1, I1, q1⟩ => ?_)
  cases c with
  | true => exact ⟨H1, I1, q1⟩
  | false => exact hb wh pins s1 σ H1 Q I1 q1
theorem pt_not (ha : PT X a tA) : PT X (.UnaryOp .Not a pos) (tNot tA) := by
  intro pins s σ H Q I h
  exact isTrue_not (ha pins s σ H (fun c H1 => Q (!c) H1) I h)
/-- .. as values (bools) -/
def tAndV (ta tb : TE) : TE := fun σ H Q => ta σ H fun x H1 => ∃ c, x = .bl c ∧ if c = true then tb σ H1 Q else Q (.bl false) H1
def tOrV (ta tb : TE) : TE := fun σ H Q => ta σ H fun x H1 => ∃ c, x = .bl c ∧ if c = true then Q (.bl true) H1 else tb σ H1 Q
def tNotV (ta : TE) : TE := fun σ H Q => ta σ H fun x H1 => ∃ c, x = .bl c ∧ Q (.bl (!c)) H1
theorem pe_one {op} {t : TE} (h : PE X a t) : PE X (.BoolOp op [a] pos) t := fun pins s σ H Q I hw => BoolOp_one (h pins s σ H Q I hw)
theorem pe_and (ha : PE X a ta) (hb : PE X (.BoolOp .And (b :: rest) pos) tb) : PE X (.BoolOp .And (a :: b :: rest) pos) (tAndV ta tb) := by
  intro pins s σ H Q I h
  refine BoolOp_and (thn (ha pins s σ H _ I h) fun v s1 ⟨x, H1, I1, r1, q1⟩ => ?_)
  obtain ⟨c, rfl, q1⟩ := q1
  cases r1
  refine wpAny_truthy_bool ?_
  cases c with
  | true => exact hb pins s1 σ H1 Q I1 q1
  | false => exact ⟨.bl false, H1, I1, rfl, q1⟩
theorem pe_or (ha : PE X a ta) (hb : PE X (.BoolOp .Or (b :: rest) pos) tb) : PE X (.BoolOp .Or (a :: b :: rest) pos) (tOrV ta tb) := by
  intro pins s σ H Q I h
  refine BoolOp_or (thn (ha pins s σ H _ I h) fun v s1 ⟨x, H1, I1, r1, q1⟩ => ?_)
  obtain ⟨c, rfl, q1⟩ := q1
  cases r1
  refine wpAny_truthy_bool ?_
  cases c with
  | false => exact hb pins s1 σ H1 Q I1 q1
  | true => exact ⟨.bl true, H1, I1, rfl, q1⟩
theorem pe_not (ha : PE X a ta) : PE X (.UnaryOp .Not a pos) (tNotV ta) := by
  intro pins s σ H Q I h
  refine UnaryOp_ (thn (ha pins s σ H _ I h) fun v s1 ⟨x, H1, I1, r1, q1⟩ => ?_)
  obtain ⟨c, rfl, q1⟩ := q1
  cases r1
  exact not_of (wpAny_truthy_bool ⟨.bl (!c), H1, I1, rfl, q1⟩)
/-- a if t else b -/
def tIf (t : TT) (ta tb : TE) : TE := fun σ H Q => t σ H fun c H1 => if c = true then ta σ H1 Q else tb σ H1 Q
theorem pe_ifExp {c : Expr} (hc : PT X c tA) (ha : PE X a ta) (hb : PE X b tb) : PE X (.IfExp c a b pos) (tIf tA ta tb) := by
  intro pins s σ H Q I h
  refine wpAny_IfExp (thn (hc pins s σ H _ I h) fun d s1 ⟨H1, I1, q1⟩ => ?_)
  cases d with
  | true => exact ha pins s1 σ H1 Q I1 q1
  | false => exact hb pins s1 σ H1 Q I1 q1
end
end L2

namespace L2
open PySem PySem.Spec PyProof.Rows

/-! ### a list, a tuple that is read: tracked, frozen, or an object of the module -/
def SqL (K : PySem.W.Frag) (H : Hp) (a : Addr) (xs : List V) : Prop :=
  Rd H a (.lst xs) ∨
    ∃ (o : Obj) (its : Array Value) (n : Nat), K.lookup a = some o ∧ o.cls = .type "list" ∧ o.dict = none ∧ o.data = .seq its n ∧ its.size ≤ sizeLine ∧ Vals xs its.toList
def SqT (K : PySem.W.Frag) (H : Hp) (a : Addr) (xs : List V) : Prop :=
  Rd H a (.tup xs) ∨
    ∃ (o : Obj) (its : Array Value) (n : Nat), K.lookup a = some o ∧ o.cls = .type "tuple" ∧ o.data = .seq its n ∧ its.size ≤ sizeLine ∧ Vals xs its.toList
def absV : Value → Option V
  | .none => some .non
  | .bool b => some (.bl b)
  | .int i _ => some (.int i)
  | .str x _ => some (.str x)
  | .bytes b _ => some (.byt b)
  | .float b _ => some (.flt b)
  | .ref a => some (.ref a)
  | .type n => some (.ty n)
  | _ => none
theorem RelV.abs {x : V} {u : Value} (r : RelV x u) : absV u = some x := by
  cases x with
  | non => cases r; rfl
  | bl _ => cases r; rfl
  | int _ => obtain ⟨t, rfl⟩ := r; rfl
  | str _ => obtain ⟨t, rfl⟩ := r; rfl
  | byt _ => obtain ⟨t, rfl⟩ := r; rfl
  | flt _ => obtain ⟨t, rfl⟩ := r; rfl
  | ref _ => cases r; rfl
  | ty _ => cases r; rfl
theorem RelV.inj {x y : V} {u : Value} (r : RelV x u) (q : RelV y u) : x = y := Option.some.inj (r.abs.symm.trans q.abs)
theorem Vals.inj : ∀ {xs ys : List V} {us : List Value}, Vals xs us → Vals ys us → xs = ys
  | _, _, _, .nil, .nil => rfl
  | _, _, _, .cons r t, .cons r' t' => by rw [r.inj r', Vals.inj t t']
section
variable {X : Cx} {pins : List (Addr × Obj)} {σ : St} {H : Hp} {s : Shared} {a : Addr} {xs ys : List V}
theorem SqL.of {K : PySem.W.Frag} (h : H a = some (.lst xs)) : SqL K H a xs := .inl (.inl h)
theorem SqT.of {K : PySem.W.Frag} (h : H a = some (.tup xs)) : SqT K H a xs := .inl (.inl h)
theorem Inv.list (I : Inv X pins σ H s) (h : SqL X.K H a xs) : ∃ its : List Value, Vals xs its ∧ PlainL s.heap a its.toArray ∧ xs.length ≤ sizeLine := by
  rcases h with h | ⟨o, its, n, hk, hc, hd, hs, hz, r⟩
  · obtain ⟨z, its, n, r, e⟩ := h.ok I.hok
    exact ⟨its, r, ⟨_, n, e, rfl, rfl, rfl⟩, z⟩
  · refine ⟨its.toList, r, ⟨o, n, I.kIn a o hk, hc, hd, by simpa using hs⟩, ?_⟩
    have e := r.length
    simp only [Array.length_toList] at e
    omega
theorem Inv.tuple (I : Inv X pins σ H s) (h : SqT X.K H a xs) : ∃ its : List Value, Vals xs its ∧ IsTup s.heap a its.toArray ∧ xs.length ≤ sizeLine := by
  rcases h with h | ⟨o, its, n, hk, hc, hs, hz, r⟩
  · obtain ⟨z, its, r, p⟩ := h.ok I.hok
    exact ⟨its, r, p, z⟩
  · refine ⟨its.toList, r, ⟨o, I.kIn a o hk, hc, n, by simpa using hs⟩, ?_⟩
    have e := r.length
    simp only [Array.length_toList] at e
    omega
theorem Inv.list_inj (I : Inv X pins σ H s) (h : SqL X.K H a xs) (h' : SqL X.K H a ys) : xs = ys := by
  obtain ⟨its, r, ⟨o, n, e, _, _, d⟩, _⟩ := I.list h
  obtain ⟨its', r', ⟨o', n', e', _, _, d'⟩, _⟩ := I.list h'
  rw [e] at e'; cases e'
  rw [d] at d'
  injection d' with d1 _
  have : its = its' := by simpa using congrArg Array.toList d1
  subst this
  exact r.inj r'
theorem Inv.tuple_inj (I : Inv X pins σ H s) (h : SqT X.K H a xs) (h' : SqT X.K H a ys) : xs = ys := by
  obtain ⟨its, r, ⟨o, e, _, n, d⟩, _⟩ := I.tuple h
  obtain ⟨its', r', ⟨o', e', _, n', d'⟩, _⟩ := I.tuple h'
  rw [e] at e'; cases e'
  rw [d] at d'
  injection d' with d1 _
  have : its = its' := by simpa using congrArg Array.toList d1
  subst this
  exact r.inj r'
end

/-! ### another wish about exceptions -/
abbrev Cx.wish (X : Cx) (E : Value → Shared → Prop) : Cx := { X with xe := E }
/-- no exception leaves -/
abbrev Cx.nox (X : Cx) : Cx := X.wish fun _ _ => False
theorem Cx.Ok.wish {X : Cx} (ok : X.Ok) (E : Value → Shared → Prop) : (X.wish E).Ok :=
  ⟨ok.mod, ok.kind, ok.glob, ok.blt, ok.above, ok.inj, ok.has, ok.cab, ok.hd, ok.frames, ok.stk, ok.exf, ok.bs, ok.bsz, ok.noex, ok.exfs, ok.funs, ok.frf⟩
theorem Cx.Ok.unwish {X : Cx} {E : Value → Shared → Prop} (ok : (X.wish E).Ok) : X.Ok :=
  ⟨ok.mod, ok.kind, ok.glob, ok.blt, ok.above, ok.inj, ok.has, ok.cab, ok.hd, ok.frames, ok.stk, ok.exf, ok.bs, ok.bsz, ok.noex, ok.exfs, ok.funs, ok.frf⟩
section
variable {X : Cx} {pins : List (Addr × Obj)} {σ : St} {H : Hp} {s : Shared} {E : Value → Shared → Prop}
theorem Inv.wish (I : Inv X pins σ H s) (E : Value → Shared → Prop) : Inv (X.wish E) pins σ H s := ⟨I.ok.wish E, I.os, I.bare, I.base, I.loc, I.cell, I.free, I.freeC, I.pin, I.hok, I.len⟩
theorem Inv.unwish (I : Inv (X.wish E) pins σ H s) : Inv X pins σ H s := ⟨I.ok.unwish, I.os, I.bare, I.base, I.loc, I.cell, I.free, I.freeC, I.pin, I.hok, I.len⟩
theorem SP.unwish {D : Ends} {f : Flow} {s' : Shared} (h : SP (X.wish E) pins D f s') : SP X pins D f s' := by
  cases f with
  | next => obtain ⟨σ', H', I, q⟩ := h; exact ⟨σ', H', I.unwish, q⟩
  | brk => obtain ⟨σ', H', I, q⟩ := h; exact ⟨σ', H', I.unwish, q⟩
  | cont => obtain ⟨σ', H', I, q⟩ := h; exact ⟨σ', H', I.unwish, q⟩
  | ret u => obtain ⟨v, σ', H', I, r, q⟩ := h; exact ⟨v, σ', H', I.unwish, r, q⟩
theorem PE.nox {e : Expr} {t : TE} (h : PE X.nox e t) : PE X e t := fun pins s σ H Q I hw =>
  wpAny_mono (h pins s σ H Q (I.wish _) hw) (fun _ _ ⟨v, H', I', r, q⟩ => ⟨v, H', I'.unwish, r, q⟩) fun _ _ z => False.elim z
theorem PT.nox {e : Expr} {t : TT} (h : PT X.nox e t) : PT X e t := fun pins s σ H Q I hw =>
  wpAny_mono (h pins s σ H Q (I.wish _) hw) (fun _ _ ⟨H', I', q⟩ => ⟨H', I'.unwish, q⟩) fun _ _ z => False.elim z
theorem PSs.nox {st : List Stmt} {t : TS} (h : PSs X.nox st t) : PSs X st t := fun pins s σ H D I hw =>
  wpAny_mono (h pins s σ H D (I.wish _) hw) (fun _ _ q => q.unwish) fun _ _ z => False.elim z
end

/-! ### blocks and small statements -/
section
variable {X : Cx} {st : Stmt} {rest : List Stmt} {t u : TS} {e : Expr} {te : TE} {pos : Pos}
def tNext : TS := fun D σ H => D.nx σ H
def tSeq (t u : TS) : TS := fun D σ H => t { D with nx := u D } σ H
theorem pss_nil : PSs X [] tNext := fun _ _ σ H _ I h => wpAny_execs_nil ⟨σ, H, I, h⟩
theorem pss_cons (h1 : PS X st t) (h2 : PSs X rest u) : PSs X (st :: rest) (tSeq t u) := by
  intro pins s σ H D I h
  refine wpAny_execs_cons (thn (h1 pins s σ H { D with nx := u D } I h) fun f s1 q => ?_)
  cases f with
  | next =>
    obtain ⟨σ', H', I', q⟩ := q
    exact h2 pins s1 σ' H' D I' q
  | ret v => exact q
  | brk => exact q
  | cont => exact q
theorem pss_one (h1 : PS X st t) : PSs X [st] t := by
  intro pins s σ H D I h
  refine wpAny_execs_cons (thn (h1 pins s σ H D I h) fun f s1 q => ?_)
  cases f with
  | next => exact wpAny_execs_nil q
  | ret v => exact q
  | brk => exact q
  | cont => exact q
def tBreak : TS := fun D σ H => D.bk σ H
def tCont : TS := fun D σ H => D.ct σ H
theorem ps_pass : PS X (.Pass pos) tNext := fun _ _ σ H _ I h => wpAny_Pass ⟨σ, H, I, h⟩
theorem ps_break : PS X (.Break pos) tBreak := fun _ _ σ H _ I h => wpAny_Break ⟨σ, H, I, h⟩
theorem ps_continue : PS X (.Continue pos) tCont := fun _ _ σ H _ I h => wpAny_Continue ⟨σ, H, I, h⟩
/-- in a def's body nothing is shown -/
theorem Inv.quiet {pins : List (Addr × Obj)} {σ : St} {H : Hp} {s : Shared} (I : Inv X pins σ H s) : interactive X.env = false := by simp [interactive, I.ok.kind]
/-- a docstring -/
theorem ps_doc {x j pos pos'} : PS X (.Expr (.Constant (.str x) j pos) pos') tNext := fun _ s σ H _ I h => wpAny_Expr (Calls.Constant_str (show SP X _ _ .next { s with toks := s.toks + 1 } from ⟨σ, H, I.tok _, h⟩)) I.quiet
/-- an expression whose value is dropped -/
def tDrop (te : TE) : TS := fun D σ H => te σ H fun _ H1 => D.nx σ H1
theorem ps_expr (he : PE X e te) (hs : swapsWith e none pos.line X.env = pure false := by rfl) : PS X (.Expr e pos) (tDrop te) := by
  intro pins s σ H D I h
  exact wpAny_Expr_any (thn (he pins s σ H _ I h) fun v s1 ⟨x, H1, I1, r1, q1⟩ => ⟨σ, H1, I1, q1⟩) I.quiet hs
def tRet (te : TE) : TS := fun D σ H => te σ H D.rt
theorem ps_ret (he : PE X e te) : PS X (.Return (some e) pos) (tRet te) := by
  intro pins s σ H D I h
  exact wpAny_Return_some (thn (he pins s σ H _ I h) fun v s1 ⟨x, H1, I1, r1, q1⟩ => ⟨x, σ, H1, I1, r1, q1⟩)
def tRetN : TS := fun D _ H => D.rt .non H
theorem ps_retN : PS X (.Return none pos) tRetN := fun _ _ σ H _ I h => wpAny_Return_none ⟨.non, σ, H, I, rfl, h⟩
def tIfS (c : TT) (t u : TS) : TS := fun D σ H => c σ H fun b H1 => if b = true then t D σ H1 else u D σ H1
theorem ps_if {c : Expr} {a b : List Stmt} {tc : TT} (hc : PT X c tc) (ha : PSs X a t) (hb : PSs X b u) : PS X (.If c a b pos) (tIfS tc t u) := by
  intro pins s σ H D I h
  refine wpAny_If (thn (hc pins s σ H _ I h) fun d s1 ⟨H1, I1, q1⟩ => ?_)
  cases d with
  | true => exact ha pins s1 σ H1 D I1 q1
  | false => exact hb pins s1 σ H1 D I1 q1
/-- code that the proof never comes to -/
def tNever : TS := fun _ _ _ => False
theorem ps_never : PS X st tNever := fun _ _ _ _ _ _ h => h.elim
theorem pss_never {sts : List Stmt} : PSs X sts tNever := fun _ _ _ _ _ _ h => h.elim
end

/-! ### targets -/
abbrev TG := V → St → Hp → (St → Hp → Prop) → Prop
abbrev TGs := List V → St → Hp → (St → Hp → Prop) → Prop
def PG (X : Cx) (target : Expr) (t : TG) : Prop :=
  ∀ (pins : List (Addr × Obj)) (s : Shared) (σ : St) (H : Hp) (v : V) (u : Value) (Q : St → Hp → Prop), Inv X pins σ H s → RelV v u → t v σ H Q →
    wpAny (model X.prog X.w) X.A (assign target X.env u) (fun _ s' => ∃ σ' H', Inv X pins σ' H' s' ∧ Q σ' H') X.xe s
/-- several targets, one after another -/
def PGs (X : Cx) (ts : List Expr) (t : TGs) : Prop :=
  ∀ (pins : List (Addr × Obj)) (s : Shared) (σ : St) (H : Hp) (vs : List V) (us : List Value) (Q : St → Hp → Prop), Inv X pins σ H s → Vals vs us → t vs σ H Q →
    wpAny (model X.prog X.w) X.A (assignInOrder ((assignEach ts X.env).map (·.2)) us) (fun _ s' => ∃ σ' H', Inv X pins σ' H' s' ∧ Q σ' H') X.xe s
/-- o[i] = v, by values -/
abbrev TSet := V → V → V → Hp → (Hp → Prop) → Prop
def PSet (X : Cx) (t : TSet) : Prop :=
  ∀ (pins : List (Addr × Obj)) (s : Shared) (σ : St) (H : Hp) (o i v : V) (ov iv u : Value) (Q : Hp → Prop), Inv X pins σ H s → RelV o ov → RelV i iv → RelV v u → t o i v H Q →
    wpAny (model X.prog X.w) X.A (setItem ov iv u) (fun _ s' => ∃ H', Inv X pins σ H' s' ∧ Q H') X.xe s
/-- a op= b, by values -/
abbrev TIp := V → V → Hp → VK → Prop
def PIp (X : Cx) (op : Operator) (t : TIp) : Prop :=
  ∀ (pins : List (Addr × Obj)) (s : Shared) (σ : St) (H : Hp) (x y : V) (v u : Value) (Q : VK), Inv X pins σ H s → RelV x v → RelV y u → t x y H Q →
    wpAny (model X.prog X.w) X.A (inplaceOp op v u) (EP X pins σ Q) X.xe s
section
variable {X : Cx} {pos : Pos}
def gName (i : Nat) : TG := fun v σ H Q => Q (σ.set i (some v)) H
theorem pg_name {i : Nat} {x : Str} (hN : X.N.Nodup) (hi : X.N[i]? = some x) (hx : Loc X.env.scope x) (hf : X.fn x = true ∨ X.env.scope.names.lookup x = some .local := by first | exact .inl rfl | exact .inr rfl | assumption) : PG X (.Name x pos) (gName i) := by
  intro pins s σ H v u Q I r h
  exact wpAny_assign_Name (store_ok I hN hi hx r (fun s' I' => ⟨_, H, I', h⟩) hf)
def gNil : TGs := fun vs σ H Q => vs = [] ∧ Q σ H
def gCons (t : TG) (u : TGs) : TGs := fun vs σ H Q => ∃ v r, vs = v :: r ∧ t v σ H fun σ' H' => u r σ' H' Q
theorem pgs_nil : PGs X [] gNil := by
  intro pins s σ H vs us Q I r h
  obtain ⟨e, h⟩ := h
  subst e
  cases r
  exact assignInOrder_nil ⟨σ, H, I, h⟩
theorem pgs_cons {e : Expr} {es : List Expr} {t : TG} {u : TGs} (h1 : PG X e t) (h2 : PGs X es u)
    (hs : (assignEach (e :: es) X.env).map (·.2) = assign e X.env :: (assignEach es X.env).map (·.2) := by rfl) : PGs X (e :: es) (gCons t u) := by
  intro pins s σ H vs us Q I r h
  obtain ⟨v, vr, e1, h⟩ := h
  subst e1
  cases r with
  | cons r rr =>
    rw [hs]
    refine assignInOrder_cons (thn (h1 pins s σ H _ _ _ I r h) fun _ s1 ⟨σ1, H1, I1, q1⟩ => ?_)
    exact h2 pins s1 σ1 H1 _ _ Q I1 rr q1
/-- (a, b, ..) = a tuple of that length -/
def gTup (K : PySem.W.Frag) (n : Nat) (t : TGs) : TG := fun v σ H Q => ∃ a xs, v = .ref a ∧ SqT K H a xs ∧ xs.length = n ∧ t xs σ H Q
theorem pg_tup {es : List Expr} {k : Nat} {t : TGs} {n : Nat} (hc : X.calm = true) (h : PGs X es t)
    (hn : (assignEach es X.env).length = n := by rfl) (hst : (assignEach es X.env).findIdx? (·.1) = none := by rfl) : PG X (.Tuple es k pos) (gTup X.K n t) := by
  intro pins s σ H v u Q I r hw
  obtain ⟨a, xs, e1, hq, hl, hw⟩ := hw
  subst e1
  cases r
  obtain ⟨its, rv, ht, hz⟩ := I.tuple hq
  refine assign_Tuple_tuple (I.ok.hd hc) ht (by simp [hn, ← hl, rv.length]) hst fun h' hx => ?_
  have I1 : Inv X pins σ H { s with heap := h' } := I.kept (t' := s.toks) fun b o e => hx b o (Nat.ne_of_lt (Heap.lt_size e)) e
  exact h pins _ σ H xs _ Q I1 (by simpa using rv) hw
/-- o[i] = .. -/
def gSub (to ti : TE) (t : TSet) : TG := fun v σ H Q => to σ H fun o H1 => ti σ H1 fun i H2 => t o i v H2 fun H3 => Q σ H3
theorem pg_sub {o i : Expr} {to ti : TE} {t : TSet} (ho : PE X o to) (hi : PE X i ti) (hs : PSet X t)
    (ha : ∀ v, assign (.Subscript o i pos) X.env v = (do
      let ov ← holding [v] (eval o X.env)
      let iv ← holding [v, ov] (eval i X.env)
      standAt pos
      holding [v, ov, iv] (setItem ov iv v)
      release [v, ov, iv] []) := by intro _; rfl) : PG X (.Subscript o i pos) (gSub to ti t) := by
  intro pins s σ H v u Q I r h
  rw [ha]
  refine wpAny_bind (wpAny_holding (thn (ho pins s σ H _ I h) fun ov s1 ⟨x, H1, I1, r1, q1⟩ => ?_))
  refine wpAny_bind (wpAny_holding (thn (hi pins s1 σ H1 _ I1 q1) fun iv s2 ⟨y, H2, I2, r2, q2⟩ => ?_))
  refine wpAny_bind (wpAny_standAt (wpAny_bind (wpAny_holding (thn (hs pins s2 σ H2 x y v ov iv u _ I2 r1 r2 r q2) fun _ s3 ⟨H3, I3, q3⟩ => ?_))))
  exact wpAny_release ⟨σ, H3, I3, q3⟩
/-- target = value -/
def tAsg (te : TE) (g : TG) : TS := fun D σ H => te σ H fun x H1 => g x σ H1 D.nx
theorem ps_asg {tg e : Expr} {te : TE} {g : TG} (he : PE X e te) (hg : PG X tg g) (hs : swapsWithSole [tg] e pos.line X.env = pure false := by rfl) (hw : swappedStores [tg] e X.env = pure none := by rfl)
    (h1 : (assignEach [tg] X.env).map (·.2) = [assign tg X.env] := by rfl) : PS X (.Assign [tg] e pos) (tAsg te g) := by
  intro pins s σ H D I h
  refine wpAny_Assign_stores (thn (he pins s σ H _ I h) fun v s1 ⟨x, H1, I1, r1, q1⟩ => ?_) hs hw
  rw [h1]
  exact thn (hg pins s1 σ H1 x v _ I1 r1 q1) fun _ s2 q => q
/-- name = value -/
theorem ps_set {i : Nat} {x : Str} {e : Expr} {te : TE} {pos' : Pos} (hN : X.N.Nodup) (hi : X.N[i]? = some x) (hx : Loc X.env.scope x) (he : PE X e te) (hs : swapsWith e (some (.Name x pos')) pos.line X.env = pure false := by rfl) (hf : X.fn x = true ∨ X.env.scope.names.lookup x = some .local := by first | exact .inl rfl | exact .inr rfl | assumption) :
    PS X (.Assign [.Name x pos'] e pos) (tAsg te (gName i)) := by
  intro pins s σ H D I h
  refine wpAny_Assign_Name (thn (he pins s σ H _ I h) fun v s1 ⟨y, H1, I1, r1, q1⟩ => ?_) hs
  exact store_ok I1 hN hi hx r1 (fun s2 I2 => ⟨_, H1, I2, q1⟩) hf
/-- a, b = x, y with plain local names: stored from the right; the pair itself is not tracked (the opening rows as in PyProof/Rows/TupAssign.lean:23) -/
def tPar (i j : Nat) (ta : TA) : TS := fun D σ H => ta σ H fun vs H1 => ∃ v w, vs = [v, w] ∧ D.nx ((σ.set i (some v)).set j (some w)) H1
theorem ps_par {i j : Nat} {x y : Str} {a b : Expr} {ta : TA} {px py pt : Pos} {kt k2 pt2} (hc : X.calm = true) (hN : X.N.Nodup) (hi : X.N[i]? = some x) (hj : X.N[j]? = some y) (hij : i ≠ j)
    (hx : X.env.scope.names.lookup x = some .local) (hy : X.env.scope.names.lookup y = some .local) (ha : PA X [a, b] ta)
    (hw : swappedStores [.Tuple [.Name x px, .Name y py] kt pt] (.Tuple [a, b] k2 pt2) X.env = pure (some [x, y]))
    (hs : swapsWithSole [.Tuple [.Name x px, .Name y py] kt pt] (.Tuple [a, b] k2 pt2) pos.line X.env = pure false := by rfl) :
    PS X (.Assign [.Tuple [.Name x px, .Name y py] kt pt] (.Tuple [a, b] k2 pt2) pos) (tPar i j ta) := by
  intro pins s σ H D I h
  rw [exec_Assign_arm]
  refine wpAny_bind (wpAny_standAt ?_)
  rw [hs]
  refine wpAny_bind (wpAny_pure ?_)
  rw [if_neg (by decide)]
  refine wpAny_bind (Tuple_ (thn (ha _ pins s σ H _ I h) fun us s1 ⟨vs, H1, I1, r1, q1⟩ => ?_))
  obtain ⟨v, w, e1, q1⟩ := q1
  subst e1
  obtain ⟨u1, u2, rfl, rv, rw'⟩ : ∃ u1 u2, us = [u1, u2] ∧ RelV v u1 ∧ RelV w u2 := by
    cases r1 with
    | cons p q =>
      cases q with
      | cons p' q' =>
        cases q'
        exact ⟨_, _, rfl, p, p'⟩
  refine wpAny_newObj_type ?_ (by show 2 ≤ sizeLine; decide)
  have I2 : Inv X pins σ H1 { s1 with heap := s1.heap.push { cls := .type "tuple", data := .seq [u1, u2].toArray } } := I1.kept (t' := s1.toks) fun b o e => Heap.get?_push_of_some _ e
  rw [hw]
  refine wpAny_bind (wpAny_pure ?_)
  show wpAny (model X.prog X.w) X.A (do rule "assign.swapped-stores"; let items ← unpackItems (.ref s1.heap.objs.size) 2 none; assignInOrder [fun v => bindName X.env y v, fun v => bindName X.env x v] items.reverse; pure Flow.next) _ _ _
  refine wpAny_bind (wpAny_rule (wpAny_bind (unpackItems_tuple (items := #[u1, u2]) (I.ok.hd hc) (IsTup.new s1.heap _) fun h' hx' => ?_)))
  have I3 := I2.kept (h' := h') (t' := s1.toks) fun b o e => hx' b o (Nat.ne_of_lt (Heap.lt_size e)) e
  show wpAny _ _ (assignInOrder [fun v => bindName X.env y v, fun v => bindName X.env x v] [u2, u1] >>= fun _ => pure Flow.next) _ _ _
  refine wpAny_bind (assignInOrder_cons (wpAny_bindName (store_ok I3 hN hj (.inl hy) rw' (fun s2 I4 => ?_) (.inr hy))))
  refine assignInOrder_cons (wpAny_bindName (store_ok I4 hN hi (.inl hx) rv (fun s3 I5 => assignInOrder_nil (wpAny_pure ?_)) (.inr hx)))
  rw [List.set_comm _ _ (Ne.symm hij)] at I5
  exact ⟨_, H1, I5, q1⟩
/-- name op= e -/
def tAug (i : Nat) (te : TE) (ti : TIp) : TS := fun D σ H => ∃ x, σ[i]? = some (some x) ∧ te σ H fun y H1 => ti x y H1 fun z H2 => D.nx (σ.set i (some z)) H2
theorem ps_aug {i : Nat} {x : Str} {e : Expr} {te : TE} {op : Operator} {ti : TIp} {pos' : Pos} (hN : X.N.Nodup) (hi : X.N[i]? = some x) (hx : Loc X.env.scope x) (he : PE X e te) (ho : PIp X op ti) (hf : X.fn x = true ∨ X.env.scope.names.lookup x = some .local := by first | exact .inl rfl | exact .inr rfl | assumption) :
    PS X (.AugAssign (.Name x pos') op e pos) (tAug i te ti) := by
  intro pins s σ H D I h
  obtain ⟨v, e1, h⟩ := h
  obtain ⟨m, hn, hl⟩ := I.loc
  have vis : Vis X.env.scope x := by rcases hx with k | k; exact .inl k; exact .inr (.inl k)
  obtain ⟨u, r, l⟩ := hl i x v hi e1 vis
  refine wpAny_AugAssign_Name ?_
  have go : wpAny (model X.prog X.w) X.A (eval e X.env) (fun w s₂ => wpAny (model X.prog X.w) X.A (inplaceOp op u w) (fun r s₃ => wpAny (model X.prog X.w) X.A (storeName X.env x r) (fun _ => SP X pins D .next) X.xe s₃) X.xe s₂) X.xe s := by
    refine thn (he pins s σ H _ I h) fun w s1 ⟨y, H1, I1, r1, q1⟩ => ?_
    refine thn (ho pins s1 σ H1 v y u w _ I1 r r1 q1) fun z s2 ⟨zv, H2, I2, r2, q2⟩ => ?_
    exact store_ok I2 hN hi hx r2 (fun s3 I3 => ⟨_, H2, I3, q2⟩) hf
  rcases l with ⟨hk, hm⟩ | ⟨hk, c, hc, hcell⟩
  · exact wpAny_loadName_local I.ok.kind hk hn hm go
  · rcases hk with hk | hk
    · exact wpAny_loadName_cell I.ok.kind hk hc hcell go
    · rcases hx with k | k
      · have : X.env.scope.names.lookup x = some .free := hk
        rw [k] at this; cases this
      · have : X.env.scope.names.lookup x = some .free := hk
        rw [k] at this; cases this
/-- o[i] op= e -/
def tAugS (to ti te : TE) (tget : V → V → Hp → VK → Prop) (tip : TIp) (tset : TSet) : TS := fun D σ H => to σ H fun o H1 => ti σ H1 fun i H2 => tget o i H2 fun x H3 => te σ H3 fun y H4 => tip x y H4 fun z H5 => tset o i z H5 fun H6 => D.nx σ H6
/-- o[i], by values -/
def PGet (X : Cx) (t : V → V → Hp → VK → Prop) : Prop :=
  ∀ (pins : List (Addr × Obj)) (s : Shared) (σ : St) (H : Hp) (o i : V) (ov iv : Value) (Q : VK), Inv X pins σ H s → RelV o ov → RelV i iv → t o i H Q →
    wpAny (model X.prog X.w) X.A (getItem ov iv) (EP X pins σ Q) X.xe s
theorem ps_augS {o i e : Expr} {to ti te : TE} {tget : V → V → Hp → VK → Prop} {tip : TIp} {tset : TSet} {op : Operator} {tpos : Pos} (ho : PE X o to) (hi : PE X i ti) (hg : PGet X tget) (he : PE X e te) (hp : PIp X op tip) (hs : PSet X tset)
    (ha : ∀ ov iv new, augStore i ov iv new = (do holding [new, ov, iv] (setItem ov iv new); release [new, ov, iv] []; pure .next) := by intros; rfl) : PS X (.AugAssign (.Subscript o i tpos) op e pos) (tAugS to ti te tget tip tset) := by
  intro pins s σ H D I h
  refine wpAny_AugAssign_SubscriptAny (thn (ho pins s σ H _ I h) fun ov s1 ⟨x1, H1, I1, r1, q1⟩ => ?_) ha
  refine thn (hi pins s1 σ H1 _ I1 q1) fun iv s2 ⟨x2, H2, I2, r2, q2⟩ => ?_
  refine thn (hg pins s2 σ H2 x1 x2 ov iv _ I2 r1 r2 q2) fun old s3 ⟨x3, H3, I3, r3, q3⟩ => ?_
  refine thn (he pins s3 σ H3 _ I3 q3) fun v s4 ⟨x4, H4, I4, r4, q4⟩ => ?_
  refine thn (hp pins s4 σ H4 x3 x4 old v _ I4 r3 r4 q4) fun new s5 ⟨x5, H5, I5, r5, q5⟩ => ?_
  exact thn (hs pins s5 σ H5 x1 x2 x5 ov iv new _ I5 r1 r2 r5 q5) fun _ s6 ⟨H6, I6, q6⟩ => ⟨σ, H6, I6, q6⟩
/-- ints -/
def ipI (f : Int → Int → Int) : TIp := fun x y H Q => ∃ i j, x = .int i ∧ y = .int j ∧ Q (.int (f i j)) H
theorem ip_add : PIp X .Add (ipI fun i j => i + j) := by
  intro pins s σ H x y v u Q I r1 r2 h
  obtain ⟨i, j, e1, e2, q⟩ := h
  subst e1; subst e2
  obtain ⟨t, rfl⟩ := r1
  obtain ⟨t', rfl⟩ := r2
  exact iadd_int ⟨.int _, H, I.tok _, ⟨_, rfl⟩, q⟩
theorem ip_sub : PIp X .Sub (ipI fun i j => i - j) := by
  intro pins s σ H x y v u Q I r1 r2 h
  obtain ⟨i, j, e1, e2, q⟩ := h
  subst e1; subst e2
  obtain ⟨t, rfl⟩ := r1
  obtain ⟨t', rfl⟩ := r2
  exact isub_int ⟨.int _, H, I.tok _, ⟨_, rfl⟩, q⟩
end

/-! ### while -/
section
variable {X : Cx} {pos : Pos}
/-- the invariant W with its measure -/
def tWhile (c : TT) (tb : TS) : TS := fun D σ H => ∃ W : Nat → St → Hp → Prop, (∃ m, W m σ H) ∧ ∀ m σ H, W m σ H →
  c σ H fun b H1 => if b = true then ∃ N : St → Hp → Prop, (∀ σ' H', N σ' H' → ∃ m', m' < m ∧ W m' σ' H') ∧ tb { D with nx := N, ct := N, bk := D.nx } σ H1 else D.nx σ H1
theorem ps_while {c : Expr} {body : List Stmt} {tc : TT} {tb : TS} (hp : PassesOwn (model X.prog X.w) X.A X.env X.xe) (hc : PT X c tc) (hb : PSs X body tb) : PS X (.While c body [] pos) (tWhile tc tb) := by
  intro pins s σ H D I h
  obtain ⟨W, ⟨m0, w0⟩, turn⟩ := h
  refine wpAny_While (codeAny_whileLoop (fun n s' => ∃ σ' H', Inv X pins σ' H' s' ∧ W n σ' H') ?_ m0 ⟨σ, H, I, w0⟩)
  rintro n s1 ⟨σ1, H1, I1, w1⟩
  refine wpAny_passesOwn hp (thn (hc pins s1 σ1 H1 _ I1 (turn n σ1 H1 w1)) fun b s2 ⟨H2, I2, q2⟩ => ?_)
  cases b with
  | true =>
    obtain ⟨N, hN, q2⟩ := q2
    rw [if_pos rfl]
    refine wpAny_passesOwn hp (thn (hb pins s2 σ1 H2 _ I2 q2) fun f s3 q3 => ?_)
    cases f with
    | next =>
      obtain ⟨σ3, H3, I3, n3⟩ := q3
      obtain ⟨m', hm, w3⟩ := hN σ3 H3 n3
      exact ⟨m', hm, σ3, H3, I3, w3⟩
    | cont =>
      obtain ⟨σ3, H3, I3, n3⟩ := q3
      obtain ⟨m', hm, w3⟩ := hN σ3 H3 n3
      exact ⟨m', hm, σ3, H3, I3, w3⟩
    | brk => exact q3
    | ret v => exact q3
  | false =>
    rw [if_neg Bool.false_ne_true]
    exact wpAny_execs_nil ⟨σ1, H2, I2, q2⟩
end

/-! ### what a loop or a comprehension walks -/
/-- at turn i: it yields x (the heap may grow), or it stops -/
structure It where
  go : Nat → Hp → Prop
  yld : Nat → Hp → V → Hp → Prop
  stop : Nat → Hp → Prop
/-- the iterator's own objects may turn: they are not the frame's, not pinned, younger than the entry (or a comprehension's own) -/
def FpOk (X : Cx) (pins : List (Addr × Obj)) (H : Hp) (b : Addr) : Prop :=
  H b = none ∧ b ≠ X.env.locals ∧ b ∉ X.fs ∧ (b ∈ X.ex ∨ X.s₀.heap.objs.size ≤ b) ∧ (∀ x c, X.env.cells.lookup x = some c → c ≠ b) ∧ ∀ p ∈ X.pn ++ pins, p.1 ≠ b
theorem Inv.fpOk {X : Cx} {pins : List (Addr × Obj)} {σ : St} {H H' : Hp} {s : Shared} {b : Addr} (I : Inv X pins σ H s) (hb : s.heap.objs.size ≤ b) (hn : H' b = none) : FpOk X pins H' b := by
  refine ⟨hn, Nat.ne_of_gt (Nat.lt_of_lt_of_le I.lt hb), I.nofs hb, .inr (Nat.le_trans I.sz hb), fun x c e z => ?_, fun p hp z => ?_⟩
  · obtain ⟨v, q⟩ := I.cell x c e
    exact absurd (Nat.lt_of_lt_of_le q.lt (by rw [z]; exact hb)) (Nat.lt_irrefl _)
  · exact absurd (Nat.lt_of_lt_of_le (Heap.lt_size (I.pin p hp).1) (by rw [z]; exact hb)) (Nat.lt_irrefl _)
structure Turn (P : Program) (w : World) (K : PySem.W.Frag) (tg : Expr) (J : It) (fp : List Addr) (it : Addr) (tn : Nat → Heap → Prop) : Prop where
  mem : it ∈ fp
  obj : ∀ i h, tn i h → ∀ b ∈ fp, ∃ o, h.get? b = some o ∧ ∀ v, o.data ≠ .cell v
  keep : ∀ i h h', tn i h → (∀ b ∈ fp, ∀ o, h.get? b = some o → h'.get? b = some o) → tn i h'
  item : ∀ (X : Cx), X.prog = P → X.w = w → X.K = K → X.calm = true → ∀ (i : Nat) (pins : List (Addr × Obj)) (s : Shared) (σ : St) (H : Hp) (E : Value → Shared → Prop), Inv X pins σ H s → (∀ b ∈ fp, FpOk X pins H b) → tn i s.heap → J.go i H →
    wpAny (model P w) X.A (pyNext (.ref it)) (fun r s1 => ∃ u, r = some u ∧
      wpAny (model P w) X.A (letOwnedTupleGo tg (.ref it) u) (fun _ s2 => ∃ x H', Inv X pins σ H' s2 ∧ RelV x u ∧ J.yld i H x H' ∧ tn (i + 1) s2.heap ∧ ∀ b ∈ fp, H' b = none) E s1) E s
  done : ∀ (X : Cx), X.prog = P → X.w = w → X.K = K → X.calm = true → ∀ (i : Nat) (pins : List (Addr × Obj)) (s : Shared) (σ : St) (H : Hp) (E : Value → Shared → Prop), Inv X pins σ H s → (∀ b ∈ fp, FpOk X pins H b) → tn i s.heap → J.stop i H →
    wpAny (model P w) X.A (pyNext (.ref it)) (fun r s1 => r = none ∧ Inv X pins σ H s1) E s
  self : ∀ (A : Around) (i : Nat) (s : Shared) (Q : Value → Shared → Prop) (E : Value → Shared → Prop), tn i s.heap → Q (.ref it) s → wpAny (model P w) A (pyIter (.ref it)) Q E s
abbrev TI := St → Hp → (It → Hp → Prop) → Prop
/-- an iterator has come -/
def PIE (X : Cx) (pins : List (Addr × Obj)) (σ : St) (tg : Expr) (R : It → Hp → Prop) (itv : Value) (s2 : Shared) : Prop :=
  ∃ (it : Addr) (fp : List Addr) (tn : Nat → Heap → Prop) (J : It) (H' : Hp), itv = .ref it ∧ Inv X pins σ H' s2 ∧ Turn X.prog X.w X.K tg J fp it tn ∧ tn 0 s2.heap ∧ (∀ b ∈ fp, FpOk X pins H' b) ∧ R J H'
def PI (X : Cx) (tg iter : Expr) (wi : TI) : Prop :=
  ∀ (pins : List (Addr × Obj)) (s : Shared) (σ : St) (H : Hp) (R : It → Hp → Prop), Inv X pins σ H s → wi σ H R →
    wpAny (model X.prog X.w) X.A (eval iter X.env) (fun v s1 => wpAny (model X.prog X.w) X.A (pyIter v) (PIE X pins σ tg R) X.xe s1) X.xe s

/-- the step ahead of the store is nothing for an iterator that keeps no tuple -/
theorem go_of {M : Model} {A : Around} {E : Value → Shared → Prop} {s : Shared} {tg : Expr} {it : Addr} {u : Value} {o : Obj} {n : String} {vs : Array Value} {Q : Unit → Shared → Prop} (ho : s.heap.get? it = some o) (hc : o.cls = .type n) (hd : o.data = .fields vs)
    (hn : ["enumerate", "zip", "dict_itemiterator", "dict_reverseitemiterator", "odict_iterator", "itertools.zip_longest", "itertools.pairwise"].contains n = false) (hQ : Q () s) : wpAny M A (letOwnedTupleGo tg (.ref it) u) Q E s := by
  unfold letOwnedTupleGo
  cases tg <;> first
    | exact wpAny_pure hQ
    | (cases u <;> first
        | exact wpAny_pure hQ
        | (refine wpAny_bind (wpAny_load ho ?_)
           rw [hc, hd]
           show wpAny M A (if (["enumerate", "zip", "dict_itemiterator", "dict_reverseitemiterator", "odict_iterator", "itertools.zip_longest", "itertools.pairwise"].contains n && vs[0]? == some (rawInt _)) = true then _ else _) Q E s
           rw [if_neg (by intro h; rw [hn, Bool.false_and] at h; cases h)]
           exact wpAny_pure hQ))

/-- the list at a, as it stands at each turn (a loop may append to it) -/
def Itl (K : PySem.W.Frag) (a : Addr) : It :=
  ⟨fun i H => ∃ xs x, SqL K H a xs ∧ xs[i]? = some x, fun i H x H' => H' = H ∧ ∀ xs, SqL K H a xs → xs[i]? = some x, fun i H => ∃ xs, SqL K H a xs ∧ xs.length ≤ i⟩
def Itt (K : PySem.W.Frag) (a : Addr) : It :=
  ⟨fun i H => ∃ xs x, SqT K H a xs ∧ xs[i]? = some x, fun i H x H' => H' = H ∧ ∀ xs, SqT K H a xs → xs[i]? = some x, fun i H => ∃ xs, SqT K H a xs ∧ xs.length ≤ i⟩
/-- lo, lo + 1, .. (n of them) -/
def Itr (lo : Int) (n : Nat) : It := ⟨fun i _ => i < n, fun i H x H' => H' = H ∧ x = .int (lo + i), fun i _ => n ≤ i⟩
theorem turn_list {P : Program} {w : World} {K : PySem.W.Frag} {tg : Expr} (a it : Addr) : Turn P w K tg (Itl K a) [it] it (fun i h => h.IsListIter it a i) where
  mem := by simp
  obj := fun i h st b hb => by
    have e : b = it := by simpa using hb
    subst e
    obtain ⟨o, e, c, d⟩ := st
    exact ⟨o, e, fun v z => by rw [d] at z; cases z⟩
  keep := fun i h h' st k => st.at fun o e => k it (by simp) o e
  item := by
    intro X hP hw hK hc i pins s σ H E I hf st hg
    subst hP hw hK
    obtain ⟨xs, x, hq, hx⟩ := hg
    obtain ⟨its, rv, p, hz⟩ := I.list hq
    obtain ⟨u, hu, ru⟩ := rv.get hx
    obtain ⟨f0, f1, f2, f3, f4, f5⟩ := hf it (by simp)
    refine wpAny_pyNext_list_item st p.isList (x := u) (by simpa using hu) fun h' st' sb => ?_
    have I1 : Inv X pins σ H { s with heap := h' } := I.turned (t' := s.toks) (fun b o hb e => (sb.2 b hb).trans e) f0 f1 f3 f4 f5
    obtain ⟨o, e, c, d⟩ := id st'
    exact ⟨u, rfl, go_of (s := { s with heap := h' }) e c d (by decide) ⟨x, H, I1, ru, ⟨rfl, fun ys hy => by rw [I.list_inj hy hq]; exact hx⟩, st', fun b hb => (hf b hb).1⟩⟩
  done := by
    intro X hP hw hK hc i pins s σ H E I hf st hg
    subst hP hw hK
    obtain ⟨xs, hq, hx⟩ := hg
    obtain ⟨its, rv, p, hz⟩ := I.list hq
    obtain ⟨f0, f1, f2, f3, f4, f5⟩ := hf it (by simp)
    have hl := rv.length
    exact wpAny_pyNext_list_end (I.ok.hd hc) st p.isList (by simp; omega) fun h' eb => ⟨rfl, I.turned (t' := s.toks) (fun b o hb e => eb b o hb e) f0 f1 f3 f4 f5⟩
  self := fun _ _ _ _ _ st h => wpAny_pyIter_listiter st h
theorem turn_tuple {P : Program} {w : World} {K : PySem.W.Frag} {tg : Expr} (a it : Addr) : Turn P w K tg (Itt K a) [it] it (fun i h => h.IsTupleIter it a i) where
  mem := by simp
  obj := fun i h st b hb => by
    have e : b = it := by simpa using hb
    subst e
    obtain ⟨o, e, c, d⟩ := st
    exact ⟨o, e, fun v z => by rw [d] at z; cases z⟩
  keep := fun i h h' st k => st.at fun o e => k it (by simp) o e
  item := by
    intro X hP hw hK hc i pins s σ H E I hf st hg
    subst hP hw hK
    obtain ⟨xs, x, hq, hx⟩ := hg
    obtain ⟨its, rv, p, hz⟩ := I.tuple hq
    obtain ⟨u, hu, ru⟩ := rv.get hx
    obtain ⟨f0, f1, f2, f3, f4, f5⟩ := hf it (by simp)
    refine wpAny_pyNext_tuple_item st (show s.heap.IsTuple a its.toArray from p) (x := u) (by simpa using hu) fun h' st' sb => ?_
    have I1 : Inv X pins σ H { s with heap := h' } := I.turned (t' := s.toks) (fun b o hb e => (sb.2 b hb).trans e) f0 f1 f3 f4 f5
    obtain ⟨o, e, c, d⟩ := id st'
    exact ⟨u, rfl, go_of (s := { s with heap := h' }) e c d (by decide) ⟨x, H, I1, ru, ⟨rfl, fun ys hy => by rw [I.tuple_inj hy hq]; exact hx⟩, st', fun b hb => (hf b hb).1⟩⟩
  done := by
    intro X hP hw hK hc i pins s σ H E I hf st hg
    subst hP hw hK
    obtain ⟨xs, hq, hx⟩ := hg
    obtain ⟨its, rv, p, hz⟩ := I.tuple hq
    obtain ⟨f0, f1, f2, f3, f4, f5⟩ := hf it (by simp)
    have hl := rv.length
    exact wpAny_pyNext_tuple_end (I.ok.hd hc) st (show s.heap.IsTuple a its.toArray from p) (by simp; omega) fun h' eb => ⟨rfl, I.turned (t' := s.toks) (fun b o hb e => eb b o hb e) f0 f1 f3 f4 f5⟩
  self := fun _ _ _ _ _ st h => wpAny_pyIter_tupleiter st h
theorem turn_range {P : Program} {w : World} {K : PySem.W.Frag} {tg : Expr} (it : Addr) (lo : Int) (n : Nat) : Turn P w K tg (Itr lo n) [it] it (fun i h => IsRangeIter h it (lo + (i : Nat) * 1) ((n : Int) - (i : Nat)) 1) where
  mem := by simp
  obj := fun i h st b hb => by
    have e : b = it := by simpa using hb
    subst e
    exact ⟨_, st, fun v z => by
      have z' : Data.fields _ = Data.cell v := z
      cases z'⟩
  keep := fun i h h' st k => k it (by simp) _ st
  item := by
    intro X hP hw hK hc i pins s σ H E I hf st hg
    subst hP hw hK
    obtain ⟨f0, f1, f2, f3, f4, f5⟩ := hf it (by simp)
    have W := Walks.range (prog := X.prog) (w := X.w) (I.ok.hd hc) it lo 1 n
    refine W.item i s _ _ hg st fun v h' tk hv st' kk => ?_
    obtain ⟨t, rfl⟩ := hv
    have I1 : Inv X pins σ H { s with heap := h', toks := tk } := I.turned (fun b o hb e => kk b o (by simpa using hb) e) f0 f1 f3 f4 f5
    refine ⟨_, rfl, go_of (s := { s with heap := h', toks := tk }) (n := "range_iterator") st' rfl rfl (by decide) ⟨.int (lo + i), H, I1, ⟨t, ?_⟩, ⟨rfl, rfl⟩, st', fun b hb => (hf b hb).1⟩⟩
    rw [Int.mul_one]
  done := by
    intro X hP hw hK hc i pins s σ H E I hf st hg
    subst hP hw hK
    obtain ⟨f0, f1, f2, f3, f4, f5⟩ := hf it (by simp)
    exact wpAny_pyNext_range_end (I.ok.hd hc) st (by have : n ≤ i := hg; omega) fun h' eb => ⟨rfl, I.turned (t' := s.toks) (fun b o hb e => eb b o hb e) f0 f1 f3 f4 f5⟩
  self := fun _ _ _ _ _ st h => wpAny_pyIter_rangeiter st h
end L2

namespace L2
open PySem PySem.Spec PyProof.Rows
section
variable {X : Cx} {tg : Expr}
def iList (K : PySem.W.Frag) (tl : TE) : TI := fun σ H R => tl σ H fun x H1 => ∃ a, x = .ref a ∧ (∃ xs, SqL K H1 a xs) ∧ R (Itl K a) H1
def iTup (K : PySem.W.Frag) (tl : TE) : TI := fun σ H R => tl σ H fun x H1 => ∃ a, x = .ref a ∧ (∃ xs, SqT K H1 a xs) ∧ R (Itt K a) H1
theorem pi_list {l : Expr} {tl : TE} (hl : PE X l tl) : PI X tg l (iList X.K tl) := by
  intro pins s σ H R I h
  refine thn (hl pins s σ H _ I h) fun v s1 ⟨x, H1, I1, r1, q1⟩ => ?_
  obtain ⟨a, e, ⟨xs, hq⟩, q⟩ := q1
  subst e
  cases r1
  obtain ⟨its, rv, p, hz⟩ := I1.list hq
  refine wpAny_pyIter_list p.isList ?_
  refine ⟨s1.heap.objs.size, [s1.heap.objs.size], _, _, H1, rfl, I1.kept (t' := s1.toks) fun b o e => Heap.get?_push_of_some _ e, turn_list a _, ⟨_, Heap.get?_push_size _ rfl, rfl, rfl⟩, fun b hb => ?_, q⟩
  have e : b = s1.heap.objs.size := by simpa using hb
  subst e
  exact I1.fpOk (Nat.le_refl _) (I1.hok.fresh (Nat.le_refl _))
theorem pi_tup {l : Expr} {tl : TE} (hl : PE X l tl) : PI X tg l (iTup X.K tl) := by
  intro pins s σ H R I h
  refine thn (hl pins s σ H _ I h) fun v s1 ⟨x, H1, I1, r1, q1⟩ => ?_
  obtain ⟨a, e, ⟨xs, hq⟩, q⟩ := q1
  subst e
  cases r1
  obtain ⟨its, rv, p, hz⟩ := I1.tuple hq
  refine wpAny_pyIter_tuple (show s1.heap.IsTuple a its.toArray from p) ?_
  refine ⟨s1.heap.objs.size, [s1.heap.objs.size], _, _, H1, rfl, I1.kept (t' := s1.toks) fun b o e => Heap.get?_push_of_some _ e, turn_tuple a _, ⟨_, Heap.get?_push_size _ rfl, rfl, rfl⟩, fun b hb => ?_, q⟩
  have e : b = s1.heap.objs.size := by simpa using hb
  subst e
  exact I1.fpOk (Nat.le_refl _) (I1.hok.fresh (Nat.le_refl _))
/-- a range object just made, walked -/
theorem range_it {pins : List (Addr × Obj)} {σ : St} {H : Hp} {s : Shared} {R : It → Hp → Prop} {E : Value → Shared → Prop} {lo hi : Int} {t u v : Tok} {tk : Nat} (I : Inv X pins σ H s) (h1 : -(2 ^ 62) ≤ lo) (h2 : lo < 2 ^ 62) (h3 : -(2 ^ 62) ≤ hi) (h4 : hi < 2 ^ 62)
    (q : R (Itr lo (hi - lo).toNat) H) : wpAny (model X.prog X.w) X.A (pyIter (.ref s.heap.objs.size)) (PIE X pins σ tg R) E { s with heap := s.heap.push { cls := .type "range", data := .fields #[.int lo t, .int hi u, .int 1 v] }, toks := tk } := by
  refine wpAny_pyIter_range (IsRange.new ..) (small_one h1 h2 h3 h4) ?_
  have I1 : Inv X pins σ H { s with heap := s.heap.push { cls := .type "range", data := .fields #[.int lo t, .int hi u, .int 1 v] }, toks := tk } := I.kept fun b o e => Heap.get?_push_of_some _ e
  refine ⟨(s.heap.push { cls := .type "range", data := .fields #[.int lo t, .int hi u, .int 1 v] }).objs.size, [(s.heap.push { cls := .type "range", data := .fields #[.int lo t, .int hi u, .int 1 v] }).objs.size], _, _, H, rfl,
    I1.kept (t' := tk) fun b o e => Heap.get?_push_of_some _ e, turn_range _ lo (hi - lo).toNat, ?_, fun b hb => ?_, q⟩
  · have e1 : lo + ((0 : Nat) : Int) * 1 = lo := by simp
    have e2 : (((hi - lo).toNat : Nat) : Int) - ((0 : Nat) : Int) = Builtin.Range.rangeSize lo hi 1 := by rw [rangeSize_one]; split <;> omega
    show IsRangeIter _ _ (lo + ((0 : Nat) : Int) * 1) ((((hi - lo).toNat : Nat) : Int) - ((0 : Nat) : Int)) 1
    rw [e1, e2]
    exact Heap.get?_push_size _ rfl
  · have e : b = (s.heap.push { cls := .type "range", data := .fields #[.int lo t, .int hi u, .int 1 v] }).objs.size := by simpa using hb
    subst e
    exact I1.fpOk (Nat.le_refl _) (I1.hok.fresh (Nat.le_refl _))
def iRng1 (ta : TA) : TI := fun σ H R => ta σ H fun vs H1 => ∃ j : Int, vs = [.int j] ∧ -(2 ^ 62) ≤ j ∧ j < 2 ^ 62 ∧ R (Itr 0 j.toNat) H1
def iRng2 (ta : TA) : TI := fun σ H R => ta σ H fun vs H1 => ∃ i j : Int, vs = [.int i, .int j] ∧ (-(2 ^ 62) ≤ i ∧ i < 2 ^ 62 ∧ -(2 ^ 62) ≤ j ∧ j < 2 ^ 62) ∧ R (Itr i (j - i).toNat) H1
theorem pi_range1 {a : Expr} {ta : TA} {p pos : Pos} (hg : Gl X "range") (hm : X.mg "range" = none) (ha : PA X [a] ta) (hs : starEach [a] X.env = [(false, eval a X.env)] := by rfl) : PI X tg (.Call (.Name "range" p) [a] [] pos) (iRng1 ta) := by
  intro pins s σ H R I h
  refine Call_ (ld_blt I hg hm boot_range (PyProof.Rows.callWith_type1 (thn (ha pos pins s σ H _ I h) fun us s1 ⟨vs, H1, I1, r1, q1⟩ => ?_) hs rfl))
  obtain ⟨j, e, q1, q2, q⟩ := q1
  subst e
  cases r1 with
  | cons r rr =>
    cases rr
    obtain ⟨t, rfl⟩ := r
    exact call_range_1 (range_it I1 (by omega) (by omega) q1 q2 (by simpa using q))
theorem pi_range2 {a b : Expr} {ta : TA} {p pos : Pos} (hg : Gl X "range") (hm : X.mg "range" = none) (ha : PA X [a, b] ta) (hs : starEach [a, b] X.env = [(false, eval a X.env), (false, eval b X.env)] := by rfl) (hs2 : starEach [b] X.env = [(false, eval b X.env)] := by rfl) :
    PI X tg (.Call (.Name "range" p) [a, b] [] pos) (iRng2 ta) := by
  intro pins s σ H R I h
  refine Call_ (ld_blt I hg hm boot_range (PyProof.Rows.callWith_type1 (thn (ha pos pins s σ H _ I h) fun us s1 ⟨vs, H1, I1, r1, q1⟩ => ?_) (by rw [hs, hs2]) (by rw [hs2]; rfl)))
  obtain ⟨i, j, e, ⟨q1, q2, q3, q4⟩, q⟩ := q1
  subst e
  cases r1 with
  | cons r rr =>
    cases rr with
    | cons r' rr =>
      cases rr
      obtain ⟨t, rfl⟩ := r
      obtain ⟨t', rfl⟩ := r'
      exact call_range_2 (range_it I1 q1 q2 q3 q4 q)

/-! ### for -/
/-- W: the invariant by the turn and a measure; N: what the body is to reach -/
def tFor (wi : TI) (g : TG) (tb : TS) : TS := fun D σ H => wi σ H fun J H1 => ∃ W : Nat → Nat → St → Hp → Prop, (∃ m, W 0 m σ H1) ∧ ∀ i m σ H, W i m σ H →
  (J.stop i H ∧ D.nx σ H) ∨ (J.go i H ∧ ∃ N : St → Hp → Prop, (∀ σ' H', N σ' H' → ∃ m', m' < m ∧ W (i + 1) m' σ' H') ∧ ∀ x H', J.yld i H x H' → g x σ H' fun σ2 H2 => tb { D with nx := N, ct := N, bk := D.nx } σ2 H2)
/-- the records at fp as they stand -/
def pinsAt (fp : List Addr) (h : Heap) : List (Addr × Obj) := fp.filterMap fun b => (h.get? b).map fun o => (b, o)
theorem mem_pinsAt {fp : List Addr} {h : Heap} {b : Addr} {o : Obj} (hb : b ∈ fp) (e : h.get? b = some o) : (b, o) ∈ pinsAt fp h := List.mem_filterMap.mpr ⟨b, hb, by rw [e]; rfl⟩
theorem of_pinsAt {fp : List Addr} {h : Heap} {p : Addr × Obj} (hp : p ∈ pinsAt fp h) : p.1 ∈ fp ∧ h.get? p.1 = some p.2 := by
  obtain ⟨b, hb, e⟩ := List.mem_filterMap.mp hp
  cases q : h.get? b with
  | none => rw [q] at e; cases e
  | some o =>
    rw [q] at e
    have e' : (b, o) = p := Option.some.inj e
    subst e'
    exact ⟨hb, q⟩
theorem Inv.pinned {pins : List (Addr × Obj)} {σ : St} {H : Hp} {s : Shared} {fp : List Addr} (I : Inv X pins σ H s) (hf : ∀ b ∈ fp, FpOk X pins H b) (ho : ∀ b ∈ fp, ∃ o, s.heap.get? b = some o ∧ ∀ v, o.data ≠ .cell v) : Inv X (pins ++ pinsAt fp s.heap) σ H s :=
  I.pins_of fun p hp => (List.mem_append.mp hp).elim (fun z => I.pin p (List.mem_append_right _ z)) fun z => by
    obtain ⟨hb, e⟩ := of_pinsAt z
    obtain ⟨f0, f1, f2, _⟩ := hf p.1 hb
    obtain ⟨o, e', d⟩ := ho p.1 hb
    rw [e] at e'; cases e'
    exact ⟨e, f0, f1, f2, d⟩
theorem Inv.unpinned {pins pl : List (Addr × Obj)} {σ : St} {H : Hp} {s : Shared} (I : Inv X (pins ++ pl) σ H s) : Inv X pins σ H s := I.pins_of fun p hp => I.pin p (List.mem_append_right _ (List.mem_append_left _ hp))
theorem ps_for {iter : Expr} {body : List Stmt} {wi : TI} {g : TG} {tb : TS} {pos : Pos} (hp : PassesOwn (model X.prog X.w) X.A X.env X.xe) (hc : X.calm = true) (hi : PI X tg iter wi) (hg : PG X tg g) (hb : PSs X body tb)
    (hs : ∀ x, foldedSetIterable iter X.env x = pure x := by intro _; rfl) : PS X (.For tg iter body [] pos) (tFor wi g tb) := by
  intro pins s σ H D I h
  refine wpAny_For (thn (hi pins s σ H _ I h) fun v s1 h1 => thn h1 fun itv s2 h2 => ?_) hs
  obtain ⟨it, fp, tn, J, H2, e, I2, T, st2, f2, W, ⟨m0, w0⟩, turn⟩ := h2
  subst e
  -- what stays true of the iterator's objects through the loop
  have stat : ∀ {H' : Hp}, (∀ b ∈ fp, H' b = none) → ∀ b ∈ fp, FpOk X pins H' b := fun hn b hb => ⟨hn b hb, (f2 b hb).2⟩
  refine codeAny_forLoop_any (fun n s' => ∃ i σ' H', Inv X pins σ' H' s' ∧ tn i s'.heap ∧ (∀ b ∈ fp, H' b = none) ∧ W i n σ' H') ?_ m0 ⟨0, σ, H2, I2, st2, fun b hb => (f2 b hb).1, w0⟩
  rintro n s3 ⟨i, σ3, H3, I3, st3, fr3, w3⟩
  rcases turn i n σ3 H3 w3 with ⟨stop, qn⟩ | ⟨go, N, hN, step⟩
  · refine wpAny_passesOwn hp (thn (T.done X rfl rfl rfl hc i pins s3 σ3 H3 X.xe I3 (stat fr3) st3 stop) fun r s4 ⟨hr, I4⟩ => ?_)
    subst hr
    exact wpAny_execs_nil ⟨σ3, H3, I4, qn⟩
  · refine wpAny_passesOwn hp (thn (T.item X rfl rfl rfl hc i pins s3 σ3 H3 X.xe I3 (stat fr3) st3 go) fun r s4 ⟨u, hr, h4⟩ => ?_)
    subst hr
    refine wpAny_passesOwn hp (thn h4 fun _ s5 ⟨x, H5, I5, r5, y5, st5, fr5⟩ => ?_)
    have I5' := I5.pinned (stat fr5) (T.obj _ _ st5)
    refine wpAny_passesOwn hp (thn (hg _ s5 σ3 H5 x u _ I5' r5 (step x H5 y5)) fun _ s6 ⟨σ6, H6, I6, q6⟩ => ?_)
    refine wpAny_passesOwn hp (thn (hb _ s6 σ6 H6 _ I6 q6) fun f s7 q7 => ?_)
    have again : ∀ {σ7 : St} {H7 : Hp}, Inv X (pins ++ pinsAt fp s5.heap) σ7 H7 s7 → N σ7 H7 → ∃ m, m < n ∧ ∃ i σ' H', Inv X pins σ' H' s7 ∧ tn i s7.heap ∧ (∀ b ∈ fp, H' b = none) ∧ W i m σ' H' := fun {σ7 H7} I7 n7 => by
      obtain ⟨m', hm, w7⟩ := hN σ7 H7 n7
      refine ⟨m', hm, i + 1, σ7, H7, I7.unpinned, T.keep _ _ _ st5 fun b hb o e => (I7.pin (b, o) (List.mem_append_right _ (List.mem_append_right _ (mem_pinsAt hb e)))).1, fun b hb => ?_, w7⟩
      obtain ⟨o, e, d⟩ := T.obj _ _ st5 b hb
      exact (I7.pin (b, o) (List.mem_append_right _ (List.mem_append_right _ (mem_pinsAt hb e)))).2.1
    cases f with
    | next => obtain ⟨σ7, H7, I7, n7⟩ := q7; exact again I7 n7
    | cont => obtain ⟨σ7, H7, I7, n7⟩ := q7; exact again I7 n7
    | brk => obtain ⟨σ7, H7, I7, q7⟩ := q7; exact ⟨σ7, H7, I7.unpinned, q7⟩
    | ret v => obtain ⟨x7, σ7, H7, I7, r7, q7⟩ := q7; exact ⟨x7, σ7, H7, I7.unpinned, r7, q7⟩
end

/-! ### the forms one uses -/
/-- over a list that the body leaves as it is -/
theorem for_list {K : PySem.W.Frag} {a : Addr} {xs : List V} {g : TG} {tb : TS} {D : Ends} {σ : St} {H : Hp} (Pv : Nat → St → Hp → Prop) (h0 : Pv 0 σ H) (hl : ∀ i σ H, i ≤ xs.length → Pv i σ H → SqL K H a xs)
    (hs : ∀ i x σ H, xs[i]? = some x → Pv i σ H → g x σ H fun σ2 H2 => tb { D with nx := Pv (i + 1), ct := Pv (i + 1), bk := D.nx } σ2 H2) (hd : ∀ σ H, Pv xs.length σ H → D.nx σ H) :
    ∃ W : Nat → Nat → St → Hp → Prop, (∃ m, W 0 m σ H) ∧ ∀ i m σ H, W i m σ H →
      ((Itl K a).stop i H ∧ D.nx σ H) ∨ ((Itl K a).go i H ∧ ∃ N : St → Hp → Prop, (∀ σ' H', N σ' H' → ∃ m', m' < m ∧ W (i + 1) m' σ' H') ∧ ∀ x H', (Itl K a).yld i H x H' → g x σ H' fun σ2 H2 => tb { D with nx := N, ct := N, bk := D.nx } σ2 H2) := by
  refine ⟨fun i m σ H => m = xs.length - i ∧ i ≤ xs.length ∧ Pv i σ H, ⟨xs.length, by simp, Nat.zero_le _, h0⟩, ?_⟩
  rintro i m σ H ⟨rfl, hi, p⟩
  have q := hl i σ H hi p
  by_cases hlt : i < xs.length
  · refine .inr ⟨⟨xs, xs[i], q, by simp [hlt]⟩, Pv (i + 1), fun σ' H' p' => ⟨xs.length - (i + 1), by omega, rfl, hlt, p'⟩, fun x H' y => ?_⟩
    obtain ⟨e, y⟩ := y
    subst e
    exact hs i x σ _ (y xs q) p
  · have e : i = xs.length := by omega
    subst e
    exact .inl ⟨⟨xs, q, Nat.le_refl _⟩, hd σ H p⟩
theorem for_tup {K : PySem.W.Frag} {a : Addr} {xs : List V} {g : TG} {tb : TS} {D : Ends} {σ : St} {H : Hp} (Pv : Nat → St → Hp → Prop) (h0 : Pv 0 σ H) (hl : ∀ i σ H, i ≤ xs.length → Pv i σ H → SqT K H a xs)
    (hs : ∀ i x σ H, xs[i]? = some x → Pv i σ H → g x σ H fun σ2 H2 => tb { D with nx := Pv (i + 1), ct := Pv (i + 1), bk := D.nx } σ2 H2) (hd : ∀ σ H, Pv xs.length σ H → D.nx σ H) :
    ∃ W : Nat → Nat → St → Hp → Prop, (∃ m, W 0 m σ H) ∧ ∀ i m σ H, W i m σ H →
      ((Itt K a).stop i H ∧ D.nx σ H) ∨ ((Itt K a).go i H ∧ ∃ N : St → Hp → Prop, (∀ σ' H', N σ' H' → ∃ m', m' < m ∧ W (i + 1) m' σ' H') ∧ ∀ x H', (Itt K a).yld i H x H' → g x σ H' fun σ2 H2 => tb { D with nx := N, ct := N, bk := D.nx } σ2 H2) := by
  refine ⟨fun i m σ H => m = xs.length - i ∧ i ≤ xs.length ∧ Pv i σ H, ⟨xs.length, by simp, Nat.zero_le _, h0⟩, ?_⟩
  rintro i m σ H ⟨rfl, hi, p⟩
  have q := hl i σ H hi p
  by_cases hlt : i < xs.length
  · refine .inr ⟨⟨xs, xs[i], q, by simp [hlt]⟩, Pv (i + 1), fun σ' H' p' => ⟨xs.length - (i + 1), by omega, rfl, hlt, p'⟩, fun x H' y => ?_⟩
    obtain ⟨e, y⟩ := y
    subst e
    exact hs i x σ _ (y xs q) p
  · have e : i = xs.length := by omega
    subst e
    exact .inl ⟨⟨xs, q, Nat.le_refl _⟩, hd σ H p⟩
theorem for_range {lo : Int} {n : Nat} {g : TG} {tb : TS} {D : Ends} {σ : St} {H : Hp} (Pv : Nat → St → Hp → Prop) (h0 : Pv 0 σ H)
    (hs : ∀ i σ H, i < n → Pv i σ H → g (.int (lo + i)) σ H fun σ2 H2 => tb { D with nx := Pv (i + 1), ct := Pv (i + 1), bk := D.nx } σ2 H2) (hd : ∀ σ H, Pv n σ H → D.nx σ H) :
    ∃ W : Nat → Nat → St → Hp → Prop, (∃ m, W 0 m σ H) ∧ ∀ i m σ H, W i m σ H →
      ((Itr lo n).stop i H ∧ D.nx σ H) ∨ ((Itr lo n).go i H ∧ ∃ N : St → Hp → Prop, (∀ σ' H', N σ' H' → ∃ m', m' < m ∧ W (i + 1) m' σ' H') ∧ ∀ x H', (Itr lo n).yld i H x H' → g x σ H' fun σ2 H2 => tb { D with nx := N, ct := N, bk := D.nx } σ2 H2) := by
  refine ⟨fun i m σ H => m = n - i ∧ i ≤ n ∧ Pv i σ H, ⟨n, by simp, Nat.zero_le _, h0⟩, ?_⟩
  rintro i m σ H ⟨rfl, hi, p⟩
  by_cases hlt : i < n
  · refine .inr ⟨hlt, Pv (i + 1), fun σ' H' p' => ⟨n - (i + 1), by omega, rfl, hlt, p'⟩, fun x H' y => ?_⟩
    obtain ⟨e, y⟩ := y
    subst e y
    exact hs i σ _ hlt p
  · have e : i = n := by omega
    subst e
    exact .inl ⟨Nat.le_refl _, hd σ H p⟩
/-- while, by a word and a measure of the state -/
theorem while_by {c : TT} {tb : TS} {D : Ends} {σ : St} {H : Hp} (Pv : St → Hp → Prop) (μ : St → Hp → Nat) (h0 : Pv σ H)
    (hs : ∀ σ H, Pv σ H → c σ H fun b H1 => if b = true then tb { D with nx := fun σ' H' => Pv σ' H' ∧ μ σ' H' < μ σ H, ct := fun σ' H' => Pv σ' H' ∧ μ σ' H' < μ σ H, bk := D.nx } σ H1 else D.nx σ H1)
    (mono : ∀ σ H Q Q', (∀ b H1, Q b H1 → Q' b H1) → c σ H Q → c σ H Q') : tWhile c tb D σ H := by
  refine ⟨fun m σ H => m = μ σ H ∧ Pv σ H, ⟨_, rfl, h0⟩, ?_⟩
  rintro m σ H ⟨rfl, p⟩
  refine mono σ H _ _ (fun b H1 q => ?_) (hs σ H p)
  cases b with
  | true => exact ⟨_, fun σ' H' ⟨p', l⟩ => ⟨_, l, rfl, p'⟩, q⟩
  | false => exact q
end L2

namespace L2
open PySem PySem.Spec PyProof.Rows

abbrev R2 := V → V → Hp → VK → Prop
/-- a two-place operation on values: f is binaryOp op, inplaceOp op or compareOp op -/
def OpR (X : Cx) (f : Value → Value → Sem Value) (r : R2) : Prop :=
  ∀ (pins : List (Addr × Obj)) (s : Shared) (σ : St) (H : Hp) (x y : V) (v u : Value) (Q : VK), Inv X pins σ H s → RelV x v → RelV y u → r x y H Q →
    wpAny (model X.prog X.w) X.A (f v u) (EP X pins σ Q) X.xe s
/-- a one-place operation -/
def UnR (X : Cx) (f : Value → Sem Value) (r : V → Hp → VK → Prop) : Prop :=
  ∀ (pins : List (Addr × Obj)) (s : Shared) (σ : St) (H : Hp) (x : V) (v : Value) (Q : VK), Inv X pins σ H s → RelV x v → r x H Q →
    wpAny (model X.prog X.w) X.A (f v) (EP X pins σ Q) X.xe s
/-- a call of a value that is known (a builtin, a type) with values -/
def CallR (X : Cx) (f : Value) (r : List V → Hp → VK → Prop) : Prop :=
  ∀ (pins : List (Addr × Obj)) (s : Shared) (σ : St) (H : Hp) (xs : List V) (us : List Value) (Q : VK), Inv X pins σ H s → Vals xs us → r xs H Q →
    wpAny (model X.prog X.w) X.A (call f us) (EP X pins σ Q) X.xe s
/-- a value's truth -/
def TruR (X : Cx) (r : V → Hp → (Bool → Hp → Prop) → Prop) : Prop :=
  ∀ (pins : List (Addr × Obj)) (s : Shared) (σ : St) (H : Hp) (x : V) (v : Value) (Q : Bool → Hp → Prop), Inv X pins σ H s → RelV x v → r x H Q →
    wpAny (model X.prog X.w) X.A (truthy v) (TP X pins σ Q) X.xe s

def tOp (r : R2) (ta tb : TE) : TE := fun σ H Q => ta σ H fun x H1 => tb σ H1 fun y H2 => r x y H2 Q
def tUn (r : V → Hp → VK → Prop) (ta : TE) : TE := fun σ H Q => ta σ H fun x H1 => r x H1 Q
/-- ints in, under C, and a value out -/
def rI (C : Int → Int → Prop) (g : Int → Int → V) : R2 := fun x y H Q => ∃ i j, x = .int i ∧ y = .int j ∧ C i j ∧ Q (g i j) H
def rI0 (g : Int → Int → V) : R2 := fun x y H Q => ∃ i j, x = .int i ∧ y = .int j ∧ Q (g i j) H
def rU (g : Int → V) : V → Hp → VK → Prop := fun x H Q => ∃ i, x = .int i ∧ Q (g i) H

section
variable {X : Cx} {a b c : Expr} {ta tb tc : TE} {pos : Pos}

theorem binT (ha : PE X a ta) (hb : PE X b tb) {pins : List (Addr × Obj)} {s : Shared} {σ : St} {H : Hp} {R : V → V → Hp → Prop} (I : Inv X pins σ H s)
    (h : ta σ H fun x H1 => tb σ H1 fun y H2 => R x y H2) {Q : Value → Shared → Prop} {f : Value → Value → Sem Value}
    (hf : ∀ v u s2 x y H2, Inv X pins σ H2 s2 → RelV x v → RelV y u → R x y H2 → wpAny (model X.prog X.w) X.A (f v u) Q X.xe s2) :
    wpAny (model X.prog X.w) X.A (eval a X.env) (fun v s₁ => wpAny (model X.prog X.w) X.A (eval b X.env) (fun u s₂ => wpAny (model X.prog X.w) X.A (f v u) Q X.xe s₂) X.xe s₁) X.xe s := by
  refine thn (ha pins s σ H _ I h) fun v s1 ⟨x, H1, I1, r1, q1⟩ => ?_
  refine thn (hb pins s1 σ H1 _ I1 q1) fun u s2 ⟨y, H2, I2, r2, q2⟩ => ?_
  exact hf v u s2 x y H2 I2 r1 r2 q2

theorem pe_op {op : Operator} {r : R2} (ho : OpR X (binaryOp op) r) (ha : PE X a ta) (hb : PE X b tb) : PE X (.BinOp a op b pos) (tOp r ta tb) := by
  intro pins s σ H Q I h
  exact wpAny_BinOp (binT ha hb I h fun v u s2 x y H2 I2 rx ry q => ho pins s2 σ H2 x y v u Q I2 rx ry q)
theorem pe_un {op : UnaryOp} {r : V → Hp → VK → Prop} (ho : UnR X (unaryOp op) r) (ha : PE X a ta) : PE X (.UnaryOp op a pos) (tUn r ta) := by
  intro pins s σ H Q I h
  exact UnaryOp_ (thn (ha pins s σ H _ I h) fun v s1 ⟨x, H1, I1, r1, q1⟩ => ho pins s1 σ H1 x v Q I1 r1 q1)
/-- a op= e at a name: the name's slot i -/
theorem augR {op : Operator} {r : R2} (ho : OpR X (inplaceOp op) r) {pins : List (Addr × Obj)} {s : Shared} {σ : St} {H : Hp} {x y : V} {v u : Value} {Q : VK} (I : Inv X pins σ H s)
    (rx : RelV x v) (ry : RelV y u) (q : r x y H Q) : wpAny (model X.prog X.w) X.A (inplaceOp op v u) (EP X pins σ Q) X.xe s := ho pins s σ H x y v u Q I rx ry q

/-! ### ints -/
theorem opI {f : Value → Value → Sem Value} {C : Int → Int → Prop} {g : Int → Int → Int}
    (rule : ∀ (i j : Int) (t u : Tok) (s : Shared) (Q : Value → Shared → Prop) (E : Value → Shared → Prop), C i j → Q (.int (g i j) s.toks) { s with toks := s.toks + 1 } → wpAny (model X.prog X.w) X.A (f (.int i t) (.int j u)) Q E s) :
    OpR X f (rI C fun i j => .int (g i j)) := by
  intro pins s σ H x y v u Q I rx ry h
  obtain ⟨i, j, rfl, rfl, hc, q⟩ := h
  obtain ⟨t, rfl⟩ := rx
  obtain ⟨t', rfl⟩ := ry
  exact rule i j t t' s _ _ hc ⟨.int (g i j), H, I.tok _, ⟨_, rfl⟩, q⟩
theorem opI0 {f : Value → Value → Sem Value} {g : Int → Int → Int}
    (rule : ∀ (i j : Int) (t u : Tok) (s : Shared) (Q : Value → Shared → Prop) (E : Value → Shared → Prop), Q (.int (g i j) s.toks) { s with toks := s.toks + 1 } → wpAny (model X.prog X.w) X.A (f (.int i t) (.int j u)) Q E s) :
    OpR X f (rI0 fun i j => .int (g i j)) := by
  intro pins s σ H x y v u Q I rx ry h
  obtain ⟨i, j, rfl, rfl, q⟩ := h
  obtain ⟨t, rfl⟩ := rx
  obtain ⟨t', rfl⟩ := ry
  exact rule i j t t' s _ _ ⟨.int (g i j), H, I.tok _, ⟨_, rfl⟩, q⟩
theorem opB0 {f : Value → Value → Sem Value} {g : Int → Int → Bool}
    (rule : ∀ (i j : Int) (t u : Tok) (s : Shared) (Q : Value → Shared → Prop) (E : Value → Shared → Prop), Q (.bool (g i j)) s → wpAny (model X.prog X.w) X.A (f (.int i t) (.int j u)) Q E s) :
    OpR X f (rI0 fun i j => .bl (g i j)) := by
  intro pins s σ H x y v u Q I rx ry h
  obtain ⟨i, j, rfl, rfl, q⟩ := h
  obtain ⟨t, rfl⟩ := rx
  obtain ⟨t', rfl⟩ := ry
  exact rule i j t t' s _ _ ⟨.bl (g i j), H, I, rfl, q⟩

def CDiv (i j : Int) : Prop := 0 < j ∧ j < 1073741824
def CDivN (i j : Int) : Prop := j ≠ 0 ∧ j.natAbs < 1073741824
def CPow (i j : Int) : Prop := 0 ≤ j ∧ j ≤ 1000000 ∧ i.natAbs < 2 ^ 64
def CMul (i j : Int) : Prop := (-(2 ^ 64) < i ∧ i < 2 ^ 64) ∨ (-(2 ^ 64) < j ∧ j < 2 ^ 64)
theorem CMul.ok {i j : Int} (h : CMul i j) : IntMulOk i j := by
  rcases h with ⟨h1, h2⟩ | ⟨h1, h2⟩
  · exact .of_left (intBits_le_64 h1 h2)
  · exact .of_right (intBits_le_64 h1 h2)
theorem two_pow_nn (k : Nat) : (0 : Int) ≤ 2 ^ k := by
  rw [two_pow_cast]
  exact Int.natCast_nonneg _

theorem op_add : OpR X (binaryOp .Add) (rI0 fun i j => .int (i + j)) := opI0 fun _ _ _ _ _ _ _ q => add_int q
theorem op_sub : OpR X (binaryOp .Sub) (rI0 fun i j => .int (i - j)) := opI0 fun _ _ _ _ _ _ _ q => sub_int q
theorem op_mul : OpR X (binaryOp .Mult) (rI CMul fun i j => .int (i * j)) := opI fun _ _ _ _ _ _ _ hc q => mul_int q hc.ok
/-- // by a positive divisor -/
theorem op_fdiv : OpR X (binaryOp .FloorDiv) (rI CDiv fun i j => .int (i / j)) := opI fun i j _ _ _ _ _ hc q => by
  have h1 : (0 : Int) < j := hc.1
  have h2 : j < 1073741824 := hc.2
  exact floordiv_int (by omega) (by rw [Int.fdiv_eq_ediv_of_nonneg i (by omega)]; exact q) (.inl (PyProof.noPylong_small (by omega)))
theorem op_fdivN : OpR X (binaryOp .FloorDiv) (rI CDivN fun i j => .int (i.fdiv j)) := opI fun _ _ _ _ _ _ _ hc q => floordiv_int hc.1 q (.inl (PyProof.noPylong_small hc.2))
/-- % by a positive divisor of any size -/
theorem op_mod : OpR X (binaryOp .Mod) (rI (fun _ j => 0 < j) fun i j => .int (i % j)) := opI fun i j _ _ _ _ _ hc q => by
  have h1 : (0 : Int) < j := hc
  exact mod_int' (by omega) (by rw [Int.fmod_eq_emod_of_nonneg i (by omega)]; exact q)
theorem op_modN : OpR X (binaryOp .Mod) (rI (fun _ j => j ≠ 0) fun i j => .int (i.fmod j)) := opI fun _ _ _ _ _ _ _ hc q => mod_int' hc q
theorem op_pow : OpR X (binaryOp .Pow) (rI CPow fun i j => .int (i ^ j.toNat)) := opI fun _ _ _ _ _ _ _ hc q => pow_int_small hc.1 hc.2.1 hc.2.2 q
theorem op_shl : OpR X (binaryOp .LShift) (rI CPow fun i j => .int (i * 2 ^ j.toNat)) := opI fun _ _ _ _ _ _ _ hc q => lshift_int_small hc.1 hc.2.1 hc.2.2 q
theorem op_shr : OpR X (binaryOp .RShift) (rI (fun _ j => 0 ≤ j) fun i j => .int (i / 2 ^ j.toNat)) := opI fun i j _ _ _ _ _ hc q =>
  rshift_int hc (by rw [Int.fdiv_eq_ediv_of_nonneg i (two_pow_nn _)]; exact q)
theorem op_and : OpR X (binaryOp .BitAnd) (rI0 fun i j => .int (Builtin.bitAnd i j)) := opI0 fun _ _ _ _ _ _ _ q => and_int q
theorem op_or : OpR X (binaryOp .BitOr) (rI0 fun i j => .int (Builtin.bitOr i j)) := opI0 fun _ _ _ _ _ _ _ q => or_int q
theorem op_xor : OpR X (binaryOp .BitXor) (rI0 fun i j => .int (Builtin.bitXor i j)) := opI0 fun _ _ _ _ _ _ _ q => xor_int q

theorem iop_add : OpR X (inplaceOp .Add) (rI0 fun i j => .int (i + j)) := opI0 fun _ _ _ _ _ _ _ q => iadd_int q
theorem iop_sub : OpR X (inplaceOp .Sub) (rI0 fun i j => .int (i - j)) := opI0 fun _ _ _ _ _ _ _ q => isub_int q
theorem iop_mul : OpR X (inplaceOp .Mult) (rI CMul fun i j => .int (i * j)) := opI fun _ _ _ _ _ _ _ hc q => imul_int q hc.ok
theorem iop_fdiv : OpR X (inplaceOp .FloorDiv) (rI CDiv fun i j => .int (i / j)) := opI fun i j _ _ _ _ _ hc q => by
  have h1 : (0 : Int) < j := hc.1
  have h2 : j < 1073741824 := hc.2
  exact ifloordiv_int (by omega) (by rw [Int.fdiv_eq_ediv_of_nonneg i (by omega)]; exact q) (.inl (PyProof.noPylong_small (by omega)))
theorem iop_mod : OpR X (inplaceOp .Mod) (rI (fun _ j => 0 < j) fun i j => .int (i % j)) := opI fun i j _ _ _ _ _ hc q => by
  have h1 : (0 : Int) < j := hc
  exact imod_int (by omega) (by rw [Int.fmod_eq_emod_of_nonneg i (by omega)]; exact q)
theorem iop_shl : OpR X (inplaceOp .LShift) (rI CPow fun i j => .int (i * 2 ^ j.toNat)) := opI fun _ _ _ _ _ _ _ hc q => ilshift_int_small hc.1 hc.2.1 hc.2.2 q
theorem iop_shr : OpR X (inplaceOp .RShift) (rI (fun _ j => 0 ≤ j) fun i j => .int (i / 2 ^ j.toNat)) := opI fun i j _ _ _ _ _ hc q =>
  irshift_int hc (by rw [Int.fdiv_eq_ediv_of_nonneg i (two_pow_nn _)]; exact q)
theorem iop_and : OpR X (inplaceOp .BitAnd) (rI0 fun i j => .int (Builtin.bitAnd i j)) := opI0 fun _ _ _ _ _ _ _ q => iand_int q
theorem iop_or : OpR X (inplaceOp .BitOr) (rI0 fun i j => .int (Builtin.bitOr i j)) := opI0 fun _ _ _ _ _ _ _ q => ior_int q
theorem iop_xor : OpR X (inplaceOp .BitXor) (rI0 fun i j => .int (Builtin.bitXor i j)) := opI0 fun _ _ _ _ _ _ _ q => ixor_int q

theorem unI {f : Value → Sem Value} {g : Int → Int}
    (rule : ∀ (i : Int) (t : Tok) (s : Shared) (Q : Value → Shared → Prop) (E : Value → Shared → Prop), Q (.int (g i) s.toks) { s with toks := s.toks + 1 } → wpAny (model X.prog X.w) X.A (f (.int i t)) Q E s) :
    UnR X f (rU fun i => .int (g i)) := by
  intro pins s σ H x v Q I rx h
  obtain ⟨i, rfl, q⟩ := h
  obtain ⟨t, rfl⟩ := rx
  exact rule i t s _ _ ⟨.int (g i), H, I.tok _, ⟨_, rfl⟩, q⟩
theorem un_neg : UnR X (unaryOp .USub) (rU fun i => .int (-i)) := unI fun _ _ _ _ _ q => neg_int q
theorem un_inv : UnR X (unaryOp .Invert) (rU fun i => .int (Builtin.bitNot i)) := unI fun _ _ _ _ _ q => invert_int q

/-! ### bools among ints: n += (a < b) -/
theorem op_add_ib : OpR X (binaryOp .Add) (fun x y H Q => ∃ i k, x = .int i ∧ y = .bl k ∧ Q (.int (i + b2i k)) H) := by
  intro pins s σ H x y v u Q I rx ry h
  obtain ⟨i, k, rfl, rfl, q⟩ := h
  obtain ⟨t, rfl⟩ := rx
  cases ry
  exact add_int_bool ⟨.int (i + b2i k), H, I.tok _, ⟨_, rfl⟩, q⟩
end

/-! ### comparisons -/
/-- the scalars that == tells apart as data does -/
def scal : V → V → Bool
  | .non, .non => true | .non, .int _ => true | .int _, .non => true | .non, .bl _ => true | .bl _, .non => true | .non, .str _ => true | .str _, .non => true
  | .int _, .int _ => true | .bl _, .bl _ => true | .str _, .str _ => true | .byt _, .byt _ => true
  | .int _, .str _ => true | .str _, .int _ => true | .bl _, .str _ => true | .str _, .bl _ => true
  | _, _ => false
def rEq : R2 := fun x y H Q => scal x y = true ∧ Q (.bl (decide (x = y))) H
def rNe : R2 := fun x y H Q => scal x y = true ∧ Q (.bl (!decide (x = y))) H

theorem dec_int {i j : Int} : decide (V.int i = V.int j) = (i == j) := by
  rw [Bool.eq_iff_iff]
  simp
theorem dec_bl {i j : Bool} : decide (V.bl i = V.bl j) = (i == j) := by
  rw [Bool.eq_iff_iff]
  simp
theorem dec_str {i j : Str} : decide (V.str i = V.str j) = (i == j) := by
  rw [Bool.eq_iff_iff]
  simp
theorem dec_byt {i j : Array UInt8} : decide (V.byt i = V.byt j) = (i.toList == j.toList) := by
  rw [Bool.eq_iff_iff]
  cases i
  cases j
  simp

section
variable {X : Cx} {a b c : Expr} {ta tb tc : TE} {pos : Pos}
theorem fin_bl {pins : List (Addr × Obj)} {σ : St} {H : Hp} {s : Shared} {Q : VK} {k k' : Bool} (I : Inv X pins σ H s) (q : Q (.bl k) H) (e : k = k') : EP X pins σ Q (.bool k') s := by
  subst e
  exact ⟨.bl k, H, I, rfl, q⟩
theorem op_eq : OpR X (compareOp .Eq) rEq := by
  intro pins s σ H x y v u Q I rx ry h
  obtain ⟨hs, q⟩ := h
  cases x with
  | non =>
    cases rx
    cases y with
    | non => cases ry; exact PySem.EqNone.eq_none_none (fin_bl I q (by simp))
    | bl j => cases ry; exact PySem.EqNone.eq_none_bool (fin_bl I q (by simp))
    | int j => obtain ⟨t', rfl⟩ := ry; exact PySem.EqNone.eq_none_int (fin_bl I q (by simp))
    | str j => obtain ⟨t', rfl⟩ := ry; exact PySem.EqNone.eq_none_str (fin_bl I q (by simp))
    | _ => exact absurd (show false = true from hs) Bool.false_ne_true
  | bl i =>
    cases rx
    cases y with
    | non => cases ry; exact PySem.EqNone.eq_bool_none (fin_bl I q (by simp))
    | bl j => cases ry; exact eq_bool (fin_bl I q dec_bl)
    | str j => obtain ⟨t', rfl⟩ := ry; exact PySem.EqMixed.eq_bool_str (fin_bl I q (by simp))
    | _ => exact absurd (show false = true from hs) Bool.false_ne_true
  | int i =>
    obtain ⟨t, rfl⟩ := rx
    cases y with
    | non => cases ry; exact PySem.EqNone.eq_int_none (fin_bl I q (by simp))
    | int j => obtain ⟨t', rfl⟩ := ry; exact eq_int (fin_bl I q dec_int)
    | str j => obtain ⟨t', rfl⟩ := ry; exact PySem.EqMixed.eq_int_str (fin_bl I q (by simp))
    | _ => exact absurd (show false = true from hs) Bool.false_ne_true
  | str i =>
    obtain ⟨t, rfl⟩ := rx
    cases y with
    | non => cases ry; exact PySem.EqNone.eq_str_none (fin_bl I q (by simp))
    | bl j => cases ry; exact PySem.EqMixed.eq_str_bool (fin_bl I q (by simp))
    | int j => obtain ⟨t', rfl⟩ := ry; exact PySem.EqMixed.eq_str_int (fin_bl I q (by simp))
    | str j => obtain ⟨t', rfl⟩ := ry; exact eq_str (fin_bl I q dec_str)
    | _ => exact absurd (show false = true from hs) Bool.false_ne_true
  | byt i =>
    obtain ⟨t, rfl⟩ := rx
    cases y with
    | byt j => obtain ⟨t', rfl⟩ := ry; exact PySem.W.eq_bytes (fin_bl I q dec_byt)
    | _ => exact absurd (show false = true from hs) Bool.false_ne_true
  | _ => cases y <;> exact absurd (show false = true from hs) Bool.false_ne_true
theorem op_ne : OpR X (compareOp .NotEq) rNe := by
  intro pins s σ H x y v u Q I rx ry h
  obtain ⟨hs, q⟩ := h
  cases x with
  | non =>
    cases rx
    cases y with
    | non => cases ry; exact PySem.EqNone.ne_none_none (fin_bl I q (by simp))
    | bl j => cases ry; exact PySem.EqNone.ne_none_bool (fin_bl I q (by simp))
    | int j => obtain ⟨t', rfl⟩ := ry; exact PySem.EqNone.ne_none_int (fin_bl I q (by simp))
    | str j => obtain ⟨t', rfl⟩ := ry; exact PySem.EqNone.ne_none_str (fin_bl I q (by simp))
    | _ => exact absurd (show false = true from hs) Bool.false_ne_true
  | bl i =>
    cases rx
    cases y with
    | non => cases ry; exact PySem.EqNone.ne_bool_none (fin_bl I q (by simp))
    | bl j => cases ry; exact ne_bool (fin_bl I q (congrArg not dec_bl))
    | str j => obtain ⟨t', rfl⟩ := ry; exact PySem.EqMixed.ne_bool_str (fin_bl I q (by simp))
    | _ => exact absurd (show false = true from hs) Bool.false_ne_true
  | int i =>
    obtain ⟨t, rfl⟩ := rx
    cases y with
    | non => cases ry; exact PySem.EqNone.ne_int_none (fin_bl I q (by simp))
    | int j => obtain ⟨t', rfl⟩ := ry; exact ne_int (fin_bl I q (congrArg not dec_int))
    | str j => obtain ⟨t', rfl⟩ := ry; exact PySem.EqMixed.ne_int_str (fin_bl I q (by simp))
    | _ => exact absurd (show false = true from hs) Bool.false_ne_true
  | str i =>
    obtain ⟨t, rfl⟩ := rx
    cases y with
    | non => cases ry; exact PySem.EqNone.ne_str_none (fin_bl I q (by simp))
    | bl j => cases ry; exact PySem.EqMixed.ne_str_bool (fin_bl I q (by simp))
    | int j => obtain ⟨t', rfl⟩ := ry; exact PySem.EqMixed.ne_str_int (fin_bl I q (by simp))
    | str j => obtain ⟨t', rfl⟩ := ry; exact ne_str (fin_bl I q (congrArg not dec_str))
    | _ => exact absurd (show false = true from hs) Bool.false_ne_true
  | byt i =>
    obtain ⟨t, rfl⟩ := rx
    cases y with
    | byt j => obtain ⟨t', rfl⟩ := ry; exact PySem.W.ne_bytes (fin_bl I q (congrArg not dec_byt))
    | _ => exact absurd (show false = true from hs) Bool.false_ne_true
  | _ => cases y <;> exact absurd (show false = true from hs) Bool.false_ne_true

theorem op_lt : OpR X (compareOp .Lt) (rI0 fun i j => .bl (decide (i < j))) := opB0 fun _ _ _ _ _ _ _ q => lt_int q
theorem op_le : OpR X (compareOp .LtE) (rI0 fun i j => .bl (decide (i ≤ j))) := opB0 fun _ _ _ _ _ _ _ q => le_int q
theorem op_gt : OpR X (compareOp .Gt) (rI0 fun i j => .bl (decide (j < i))) := opB0 fun _ _ _ _ _ _ _ q => gt_int q
theorem op_ge : OpR X (compareOp .GtE) (rI0 fun i j => .bl (decide (j ≤ i))) := opB0 fun _ _ _ _ _ _ _ q => ge_int q
theorem op_lt_str : OpR X (compareOp .Lt) (fun x y H Q => ∃ i j, x = .str i ∧ y = .str j ∧ Q (.bl (decide (i.cps.toList < j.cps.toList))) H) := by
  intro pins s σ H x y v u Q I rx ry h
  obtain ⟨i, j, rfl, rfl, q⟩ := h
  obtain ⟨t, rfl⟩ := rx
  obtain ⟨t', rfl⟩ := ry
  exact lt_str (fin_bl I q rfl)
/-- the one string within the other -/
theorem op_in_str : OpR X (compareOp .In) (fun x y H Q => ∃ i j, x = .str i ∧ y = .str j ∧ Q (.bl (!(Builtin.Str.occurrences j i 0 j.length 1).isEmpty)) H) := by
  intro pins s σ H x y v u Q I rx ry h
  obtain ⟨i, j, rfl, rfl, q⟩ := h
  obtain ⟨t, rfl⟩ := rx
  obtain ⟨t', rfl⟩ := ry
  exact in_str (fin_bl I q rfl)

/-- is None, is not None: the right side a value none -/
theorem op_isN : OpR X (compareOp .Is) (fun x y H Q => y = .non ∧ Q (.bl (decide (x = .non))) H) := by
  intro pins s σ H x y v u Q I rx ry h
  obtain ⟨rfl, q⟩ := h
  cases ry
  refine is_none_gen (fin_bl I q ?_)
  cases x <;> first
    | (cases rx; rfl)
    | (obtain ⟨t, rfl⟩ := rx; rfl)
theorem op_notN : OpR X (compareOp .IsNot) (fun x y H Q => y = .non ∧ Q (.bl (!decide (x = .non))) H) := by
  intro pins s σ H x y v u Q I rx ry h
  obtain ⟨rfl, q⟩ := h
  cases ry
  refine isnot_none_gen (fin_bl I q ?_)
  cases x <;> first
    | (cases rx; rfl)
    | (obtain ⟨t, rfl⟩ := rx; rfl)

theorem op_notin_str : OpR X (compareOp .NotIn) (fun x y H Q => ∃ i j, x = .str i ∧ y = .str j ∧ Q (.bl (!(!(Builtin.Str.occurrences j i 0 j.length 1).isEmpty))) H) := by
  intro pins s σ H x y v u Q I rx ry h
  obtain ⟨i, j, rfl, rfl, q⟩ := h
  obtain ⟨t, rfl⟩ := rx
  obtain ⟨t', rfl⟩ := ry
  exact notIn_str (fin_bl I q rfl)
/-- is, is not of two objects that are tracked lists or instances -/
def isObj : HO → Bool
  | .lst _ => true
  | .ins _ _ _ => true
  | _ => false
theorem obj_there {pins : List (Addr × Obj)} {s : Shared} {σ : St} {H : Hp} {a : Addr} {o : HO} (I : Inv X pins σ H s) (h : H a = some o) (p : isObj o = true) : ∃ ob, s.heap.get? a = some ob ∧ ob.cls ≠ .type "tuple" := by
  cases o with
  | lst xs =>
    obtain ⟨_, its, n, _, e⟩ : xs.length ≤ sizeLine ∧ ∃ (its : List Value) (n : Nat), Vals xs its ∧ s.heap.get? a = some { cls := .type "list", data := .seq its.toArray n } := I.hok a _ h
    exact ⟨_, e, (by show Value.type "list" ≠ .type "tuple"; decide +kernel)⟩
  | ins C dx fs =>
    have x := I.hok a _ h
    obtain ⟨_, _, _, e, _⟩ := x
    exact ⟨_, e, (by show Value.ref C ≠ .type "tuple"; exact fun z => by cases z)⟩
  | _ => exact absurd (show false = true from p) Bool.false_ne_true
theorem op_is_ref : OpR X (compareOp .Is) (fun x y H Q => ∃ a b oa ob, x = .ref a ∧ y = .ref b ∧ H a = some oa ∧ isObj oa = true ∧ H b = some ob ∧ isObj ob = true ∧ Q (.bl (decide (a = b))) H) := by
  intro pins s σ H x y v u Q I rx ry h
  obtain ⟨a, b, oa, ob, rfl, rfl, ha, pa, hb, pb, q⟩ := h
  cases rx
  cases ry
  obtain ⟨o1, e1, n1⟩ := obj_there I ha pa
  obtain ⟨o2, e2, _⟩ := obj_there I hb pb
  by_cases z : a = b
  · subst z
    exact wpAny_is_ref_self (fin_bl I q (by simp))
  · exact wpAny_is_ref_other z e1 e2 n1 (fin_bl I q (by simp [z]))
theorem op_isnot_ref : OpR X (compareOp .IsNot) (fun x y H Q => ∃ a b oa ob, x = .ref a ∧ y = .ref b ∧ H a = some oa ∧ isObj oa = true ∧ H b = some ob ∧ isObj ob = true ∧ Q (.bl (!decide (a = b))) H) := by
  intro pins s σ H x y v u Q I rx ry h
  obtain ⟨a, b, oa, ob, rfl, rfl, ha, pa, hb, pb, q⟩ := h
  cases rx
  cases ry
  obtain ⟨o1, e1, n1⟩ := obj_there I ha pa
  obtain ⟨o2, e2, _⟩ := obj_there I hb pb
  by_cases z : a = b
  · subst z
    exact wpAny_isNot_ref_self (fin_bl I q (by simp))
  · exact wpAny_isNot_ref_other z e1 e2 n1 (fin_bl I q (by simp [z]))

/-- two rules for one operation: by cases -/
theorem OpR.or {f : Value → Value → Sem Value} {r r' : R2} (h : OpR X f r) (h' : OpR X f r') : OpR X f (fun x y H Q => r x y H Q ∨ r' x y H Q) := by
  intro pins s σ H x y v u Q I rx ry q
  rcases q with q | q
  · exact h pins s σ H x y v u Q I rx ry q
  · exact h' pins s σ H x y v u Q I rx ry q

theorem nomark (b : Expr) {op : CmpOp} (h : op ≠ .In := by decide) (h2 : op ≠ .NotIn := by decide) : behindInMarks op b = false := by
  have e1 : (op == CmpOp.In) = false := by cases op <;> first | rfl | exact absurd rfl h
  have e2 : (op == CmpOp.NotIn) = false := by cases op <;> first | rfl | exact absurd rfl h2
  cases b <;> simp [behindInMarks, e1, e2]
/-- a comparison as a value; hm: nomark b, or (for in, not in) by with_unfolding_all rfl -/
theorem pe_cmpR {op : CmpOp} {r : R2} (ho : OpR X (compareOp op) r) (ha : PE X a ta) (hb : PE X b tb) (hm : behindInMarks op b = false) : PE X (.Compare a [op] [b] pos) (tOp r ta tb) := by
  intro pins s σ H Q I h
  exact wpAny_Compare1 (binT ha hb I h fun v u s2 x y H2 I2 rx ry q => ho pins s2 σ H2 x y v u Q I2 rx ry q) hm
/-- a reading of a value as a test -/
def tTest (t : TE) : TT := fun σ H Q => t σ H fun x H' => ∃ k, x = .bl k ∧ Q k H'
theorem pt_cmpR {op : CmpOp} {r : R2} (ho : OpR X (compareOp op) r) (ha : PE X a ta) (hb : PE X b tb) (hm : behindInMarks op b = false) : PT X (.Compare a [op] [b] pos) (tTest (tOp r ta tb)) := by
  intro pins s σ H Q I h
  refine wpAny_isTrue_Compare1 (thn (ha pins s σ H _ I h) fun v s1 ⟨x, H1, I1, r1, q1⟩ => thn (hb pins s1 σ H1 _ I1 q1) fun u s2 ⟨y, H2, I2, r2, q2⟩ =>
    thn (ho pins s2 σ H2 x y v u _ I2 r1 r2 q2) fun c s3 ⟨z, H3, I3, r3, k, e, q3⟩ => ?_) hm
  subst e
  cases r3
  exact wpAny_truthy_bool ⟨H3, I3, q3⟩
/-- a op1 b op2 c -/
def tChain (r r' : R2) (ta tb tc : TE) : TE := fun σ H Q => ta σ H fun x H1 => tb σ H1 fun y H2 => r x y H2 fun z H3 => ∃ k, z = .bl k ∧
  (if k = true then tc σ H3 fun w' H4 => r' y w' H4 Q else Q (.bl false) H3)
theorem pe_chain {op op' : CmpOp} {r r' : R2} (ho : OpR X (compareOp op) r) (ho' : OpR X (compareOp op') r') (ha : PE X a ta) (hb : PE X b tb) (hc : PE X c tc)
    (hm : lastMarks [op, op'] [b, c] = false := by with_unfolding_all rfl) : PE X (.Compare a [op, op'] [b, c] pos) (tChain r r' ta tb tc) := by
  intro pins s σ H Q I h
  refine Compare_chain (thn (ha pins s σ H _ I h) fun v s1 ⟨x, H1, I1, r1, q1⟩ => chain_link (thn (hb pins s1 σ H1 _ I1 q1) fun u s2 ⟨y, H2, I2, r2, q2⟩ =>
    thn (ho pins s2 σ H2 x y v u _ I2 r1 r2 q2) fun d s3 ⟨z, H3, I3, r3, k, e, q3⟩ => ?_)) hm
  subst e
  cases r3
  refine wpAny_truthy_bool ?_
  cases k with
  | false => exact ite_ff ⟨.bl false, H3, I3, rfl, q3⟩
  | true => exact ite_tt (chain_last (thn (hc pins s3 σ H3 _ I3 q3) fun w' s4 ⟨z', H4, I4, r4, q4⟩ => ho' pins s4 σ H4 y z' u w' Q I4 r2 r4 q4))
theorem pt_chain {op op' : CmpOp} {r r' : R2} (ho : OpR X (compareOp op) r) (ho' : OpR X (compareOp op') r') (ha : PE X a ta) (hb : PE X b tb) (hc : PE X c tc)
    (hm : lastMarks [op, op'] [b, c] = false := by with_unfolding_all rfl) : PT X (.Compare a [op, op'] [b, c] pos) (tTest (tChain r r' ta tb tc)) := by
  intro pins s σ H Q I h
  refine isTrue_chain (thn (ha pins s σ H _ I h) fun v s1 ⟨x, H1, I1, r1, q1⟩ => test_link (thn (hb pins s1 σ H1 _ I1 q1) fun u s2 ⟨y, H2, I2, r2, q2⟩ =>
    thn (ho pins s2 σ H2 x y v u _ I2 r1 r2 q2) fun d s3 ⟨z, H3, I3, r3, k, e, q3⟩ => ?_)) hm
  subst e
  cases r3
  refine wpAny_truthy_bool ?_
  cases k with
  | false =>
    obtain ⟨k', e', q'⟩ := q3
    cases e'
    exact ite_ff ⟨H3, I3, q'⟩
  | true =>
    refine ite_tt (test_last (thn (hc pins s3 σ H3 _ I3 q3) fun w' s4 ⟨z', H4, I4, r4, q4⟩ => thn (ho' pins s4 σ H4 y z' u w' _ I4 r2 r4 q4) fun d' s5 ⟨z2, H5, I5, r5, k2, e2, q5⟩ => ?_))
    subst e2
    cases r5
    exact wpAny_truthy_bool ⟨H5, I5, q5⟩

/-! ### truth -/
/-- a value's truth by the abstract heap -/
def TruV (K : PySem.W.Frag) (x : V) (H : Hp) (k : Bool) : Prop :=
  match x with
  | .non => k = false
  | .bl b => k = b
  | .int i => k = (i != 0)
  | .str y => y.length ≤ sizeLine ∧ k = ((y.length : Int) != 0)
  | .byt y => y.size ≤ sizeLine ∧ k = ((y.size : Int) != 0)
  | .ref p => (∃ xs, SqL K H p xs ∧ k = !xs.isEmpty) ∨ (∃ xs, SqT K H p xs ∧ k = !xs.isEmpty) ∨ ∃ kvs, H p = some (.dK kvs) ∧ k = !kvs.isEmpty
  | _ => False
theorem isEmpty_kv {κ : Type} {kvs : List (κ × V)} {vs : List (κ × Value)} (r : KV kvs vs) : (!vs.isEmpty) = !kvs.isEmpty := by
  cases r <;> rfl
theorem isEmpty_of {xs : List V} {its : List Value} (r : Vals xs its) : (!its.toArray.isEmpty) = !xs.isEmpty := by
  cases r <;> simp
theorem line63 : (sizeLine : Nat) < 2 ^ 63 := by rw [sizeLine_eq]; decide
theorem tru_ok : TruR X (fun x H Q => ∃ k, TruV X.K x H k ∧ Q k H) := by
  intro pins s σ H x v Q I rx h
  obtain ⟨k, e, q⟩ := h
  have hl := line63
  have hs : sizeLine = 16777216 := sizeLine_eq
  cases x with
  | non =>
    cases rx
    have e' : k = false := e
    subst e'
    exact truthy_none ⟨H, I, q⟩
  | bl b =>
    cases rx
    have e' : k = b := e
    subst e'
    exact wpAny_truthy_bool ⟨H, I, q⟩
  | int i =>
    obtain ⟨t, rfl⟩ := rx
    have e' : k = (i != 0) := e
    subst e'
    exact PySem.P.truthy_int ⟨H, I, q⟩
  | str y =>
    obtain ⟨t, rfl⟩ := rx
    obtain ⟨hy, e'⟩ : y.length ≤ sizeLine ∧ k = ((y.length : Int) != 0) := e
    subst e'
    exact PySem.P.truthy_str (by omega) ⟨H, I.tok _, q⟩
  | byt y =>
    obtain ⟨t, rfl⟩ := rx
    obtain ⟨hy, e'⟩ : y.size ≤ sizeLine ∧ k = ((y.size : Int) != 0) := e
    subst e'
    exact PySem.W.truthy_bytes (by omega) ⟨H, I.tok _, q⟩
  | ref p =>
    cases rx
    have e' : (∃ xs, SqL X.K H p xs ∧ k = !xs.isEmpty) ∨ (∃ xs, SqT X.K H p xs ∧ k = !xs.isEmpty) ∨ ∃ kvs, H p = some (.dK kvs) ∧ k = !kvs.isEmpty := e
    rcases e' with ⟨xs, hx, e'⟩ | ⟨xs, hx, e'⟩ | ⟨kvs, hx, e'⟩
    · subst e'
      obtain ⟨its, r, pl, hz⟩ := I.list hx
      have hlen := r.length
      exact wpAny_truthy_list pl.isList (by simp only [List.size_toArray]; omega) ⟨H, I.tok _, by rw [isEmpty_of r]; exact q⟩
    · subst e'
      obtain ⟨its, r, pl, hz⟩ := I.tuple hx
      have hlen := r.length
      exact truthy_tuple pl (by simp only [List.size_toArray]; omega) ⟨H, I.tok _, by rw [isEmpty_of r]; exact q⟩
    · subst e'
      obtain ⟨hz, hS, vs, r, m⟩ : kvs.length ≤ sizeLine ∧ (p == sysModules) = false ∧ ∃ vs, KV kvs vs ∧ s.heap.DictOf (mixKind X.prog X.w) p vs := I.hok p _ hx
      have hlen : kvs.length = vs.length := Paired.length r
      exact wpAny_truthy_dict hS m (by omega) ⟨H, I.tok _, by rw [isEmpty_kv r]; exact q⟩
  | _ => exact (show False from e).elim
/-- any expression whose test is its value's truth (a name, a call, a subscript, a field ..: he by fun _ => rfl) -/
theorem pt_truth (ha : PE X a ta) (he : ∀ whole, isTrue a X.env whole = (do let v ← whole; standAt a.pos; holding [v] (truthy v))) :
    PT X a (fun σ H Q => ta σ H fun x H' => ∃ k, TruV X.K x H' k ∧ Q k H') := by
  intro pins s σ H Q I h
  exact isTrue_plain (thn (ha pins s σ H _ I h) fun v s1 ⟨x, H1, I1, r1, q1⟩ => tru_ok pins s1 σ H1 x v Q I1 r1 q1) (he _)

/-! ### strs and bytes -/
theorem pe_byt {x : List UInt8} {k : Nat} : PE X (.Constant (.bytes x) k pos) (fun _ H Q => Q (.byt x.toArray) H) := fun _ _ _ H _ I h => PySem.W.Constant_bytes ⟨.byt x.toArray, H, I.tok _, ⟨_, rfl⟩, h⟩
theorem op_add_str : OpR X (binaryOp .Add) (fun x y H Q => ∃ i j, x = .str i ∧ y = .str j ∧ i.length + j.length ≤ sizeLine ∧ Q (.str (i ++ j)) H) := by
  intro pins s σ H x y v u Q I rx ry h
  obtain ⟨i, j, rfl, rfl, hz, q⟩ := h
  obtain ⟨t, rfl⟩ := rx
  obtain ⟨t', rfl⟩ := ry
  exact add_str (fun t' tk => ⟨.str (i ++ j), H, I.tok _, ⟨_, rfl⟩, q⟩) hz
theorem iop_add_str : OpR X (inplaceOp .Add) (fun x y H Q => ∃ i j, x = .str i ∧ y = .str j ∧ i.length + j.length ≤ sizeLine ∧ Q (.str (i ++ j)) H) := by
  intro pins s σ H x y v u Q I rx ry h
  obtain ⟨i, j, rfl, rfl, hz, q⟩ := h
  obtain ⟨t, rfl⟩ := rx
  obtain ⟨t', rfl⟩ := ry
  exact iadd_str (fun t' tk => ⟨.str (i ++ j), H, I.tok _, ⟨_, rfl⟩, q⟩) hz
theorem op_add_byt : OpR X (binaryOp .Add) (fun x y H Q => ∃ i j, x = .byt i ∧ y = .byt j ∧ i.size + j.size ≤ 16777216 ∧ Q (.byt (i ++ j)) H) := by
  intro pins s σ H x y v u Q I rx ry h
  obtain ⟨i, j, rfl, rfl, hz, q⟩ := h
  obtain ⟨t, rfl⟩ := rx
  obtain ⟨t', rfl⟩ := ry
  exact PySem.W.KBy.add_bytes hz (fun t' tk => ⟨.byt (i ++ j), H, I.tok _, ⟨_, rfl⟩, q⟩)

def PlainIxT (b : Expr) : Prop := ∀ o i, subscripted b false o i = operate [o, i] (getItem o i)
/-- s[i], 0 ≤ i < len -/
theorem pe_item_str (ha : PE X a ta) (hb : PE X b tb) (hs : PlainIxT b) :
    PE X (.Subscript a b pos) (tOp (fun x y H Q => ∃ z i c, x = .str z ∧ y = .int i ∧ 0 ≤ i ∧ i < 2 ^ 63 ∧ i < z.length ∧ z.cps[i.toNat]? = some c ∧ Q (.str ⟨#[c]⟩) H) ta tb) := by
  intro pins s σ H Q I h
  refine Subscript_ (binT ha hb I h fun v u s2 x y H2 I2 rx ry q => ?_)
  obtain ⟨z, i, c, rfl, rfl, h0, h63, h1, hc, q⟩ := q
  obtain ⟨t, rfl⟩ := rx
  obtain ⟨t', rfl⟩ := ry
  have e : seqIndex? i z.length = some i.toNat := PySem.StrLaws.seqIndex_nonneg h0 h1
  exact tail_any (typeIs_str s2 z t) slot_str_getitem.lookup (getItem_str (c := c) (by
    have e1 : decide (i < -(2 ^ 63 : Int)) = false := decide_eq_false (by omega)
    have e2 : decide (i ≥ 2 ^ 63) = false := decide_eq_false (by omega)
    rw [e1, e2] <;> rfl) (by rw [e]; exact hc) ⟨.str ⟨#[c]⟩, H2, I2.tok _, ⟨_, rfl⟩, q⟩) (hs _ _)
/-- b[i], 0 ≤ i < len -/
theorem pe_item_byt (ha : PE X a ta) (hb : PE X b tb) (hs : PlainIxT b) :
    PE X (.Subscript a b pos) (tOp (fun x y H Q => ∃ (z : List UInt8) (i : Int), x = .byt z.toArray ∧ y = .int i ∧ z.length ≤ sizeLine ∧ 0 ≤ i ∧ i < z.length ∧ Q (.int ((z.getD i.toNat 0).toNat : Nat)) H) ta tb) := by
  intro pins s σ H Q I h
  refine Subscript_ (binT ha hb I h fun v u s2 x y H2 I2 rx ry q => ?_)
  obtain ⟨z, i, rfl, rfl, hz, h0, h1, q⟩ := q
  obtain ⟨t, rfl⟩ := rx
  obtain ⟨t', rfl⟩ := ry
  have hl : sizeLine = 16777216 := sizeLine_eq
  exact tail_any (PySem.W.typeIs_bytes s2 z.toArray t) PySem.W.FB.slot_bytes_getitem.lookup (PySem.W.getItem_bytes (by omega) h0 h1 ⟨.int ((z.getD i.toNat 0).toNat : Nat), H2, I2.tok _, ⟨_, rfl⟩, q⟩) (hs _ _)

/-! ### scalar builtins, by CallR -/
theorem vals1 {x : V} {us : List Value} (r : Vals [x] us) : ∃ u, us = [u] ∧ RelV x u := by
  cases r with
  | cons r1 r2 => cases r2; exact ⟨_, rfl, r1⟩
theorem vals2 {x y : V} {us : List Value} (r : Vals [x, y] us) : ∃ u w', us = [u, w'] ∧ RelV x u ∧ RelV y w' := by
  cases r with
  | cons r1 r2 =>
    cases r2 with
    | cons r3 r4 => cases r4; exact ⟨_, _, rfl, r1, r3⟩
theorem call_abs : CallR X (.builtin "abs") (fun xs H Q => ∃ i, xs = [.int i] ∧ Q (.int (if i < 0 then -i else i)) H) := by
  intro pins s σ H xs us Q I r h
  obtain ⟨i, rfl, q⟩ := h
  obtain ⟨u, rfl, t, rfl⟩ := vals1 r
  exact call_abs_int fun u tk => ⟨.int (if i < 0 then -i else i), H, I.tok _, ⟨_, rfl⟩, q⟩
theorem call_max2 (hc : X.calm = true) : CallR X (.builtin "max") (fun xs H Q => ∃ i j, xs = [.int i, .int j] ∧ Q (.int (if j > i then j else i)) H) := by
  intro pins s σ H xs us Q I r h
  obtain ⟨i, j, rfl, q⟩ := h
  obtain ⟨u, w', rfl, ⟨t, rfl⟩, ⟨t', rfl⟩⟩ := vals2 r
  refine max_two_ints (I.ok.hd hc) fun h' tk k => ⟨_, H, I.kept k, ?_, q⟩
  by_cases hj : j > i
  · rw [if_pos hj, if_pos hj]; exact ⟨_, rfl⟩
  · rw [if_neg hj, if_neg hj]; exact ⟨_, rfl⟩
theorem call_min2 (hc : X.calm = true) : CallR X (.builtin "min") (fun xs H Q => ∃ i j, xs = [.int i, .int j] ∧ Q (.int (if j < i then j else i)) H) := by
  intro pins s σ H xs us Q I r h
  obtain ⟨i, j, rfl, q⟩ := h
  obtain ⟨u, w', rfl, ⟨t, rfl⟩, ⟨t', rfl⟩⟩ := vals2 r
  refine min_two_ints (I.ok.hd hc) fun h' tk k => ⟨_, H, I.kept k, ?_, q⟩
  by_cases hj : j < i
  · rw [if_pos hj, if_pos hj]; exact ⟨_, rfl⟩
  · rw [if_neg hj, if_neg hj]; exact ⟨_, rfl⟩
theorem call_int1 : CallR X (.type "int") (fun xs H Q => (∃ i, xs = [.int i] ∧ Q (.int i) H) ∨ ∃ k, xs = [.bl k] ∧ Q (.int (if k then 1 else 0)) H) := by
  intro pins s σ H xs us Q I r h
  rcases h with ⟨i, rfl, q⟩ | ⟨k, rfl, q⟩
  · obtain ⟨u, rfl, t, rfl⟩ := vals1 r
    exact call_int_int ⟨.int i, H, I, ⟨_, rfl⟩, q⟩
  · obtain ⟨u, rfl, r1⟩ := vals1 r
    cases r1
    exact call_int_bool ⟨.int (if k then 1 else 0), H, I.tok _, ⟨_, rfl⟩, q⟩
theorem call_bool1 : CallR X (.type "bool") (fun xs H Q => (∃ i, xs = [.int i] ∧ Q (.bl (i != 0)) H) ∨ ∃ k, xs = [.bl k] ∧ Q (.bl k) H) := by
  intro pins s σ H xs us Q I r h
  rcases h with ⟨i, rfl, q⟩ | ⟨k, rfl, q⟩
  · obtain ⟨u, rfl, t, rfl⟩ := vals1 r
    exact call_bool_int ⟨.bl (i != 0), H, I, rfl, q⟩
  · obtain ⟨u, rfl, r1⟩ := vals1 r
    cases r1
    exact call_bool_bool ⟨.bl k, H, I, rfl, q⟩
theorem call_str_int : CallR X (.type "str") (fun xs H Q => ∃ i, xs = [.int i] ∧ i.natAbs.log2 < 1920 ∧ Q (.str (toString i)) H) := by
  intro pins s σ H xs us Q I r h
  obtain ⟨i, rfl, hz, q⟩ := h
  obtain ⟨u, rfl, t, rfl⟩ := vals1 r
  exact PySem.P.str_of_int hz ⟨.str _, H, I.tok _, ⟨_, rfl⟩, q⟩
theorem call_ord : CallR X (.builtin "ord") (fun xs H Q => ∃ x, xs = [.str x] ∧ x.length = 1 ∧ Q (.int (x.cps.getD 0 0 : Nat)) H) := by
  intro pins s σ H xs us Q I r h
  obtain ⟨x, rfl, hz, q⟩ := h
  obtain ⟨u, rfl, t, rfl⟩ := vals1 r
  exact ord_of_one hz ⟨.int _, H, I.tok _, ⟨_, rfl⟩, q⟩
theorem call_chr : CallR X (.builtin "chr") (fun xs H Q => ∃ i, xs = [.int i] ∧ 0 ≤ i ∧ i ≤ 1114111 ∧ Q (.str ⟨#[i.toNat]⟩) H) := by
  intro pins s σ H xs us Q I r h
  obtain ⟨i, rfl, h0, h1, q⟩ := h
  obtain ⟨u, rfl, t, rfl⟩ := vals1 r
  exact chr_of_range h0 h1 ⟨.str _, H, I.tok _, ⟨_, rfl⟩, q⟩
/-- len of a str, a bytes, a list, a tuple -/
def LenV (K : PySem.W.Frag) (x : V) (H : Hp) (n : Nat) : Prop :=
  match x with
  | .str y => y.length ≤ sizeLine ∧ n = y.length
  | .byt y => y.size ≤ sizeLine ∧ n = y.size
  | .ref p => (∃ xs, SqL K H p xs ∧ n = xs.length) ∨ ∃ xs, SqT K H p xs ∧ n = xs.length
  | _ => False
theorem call_len : CallR X (.builtin "len") (fun xs H Q => ∃ x n, xs = [x] ∧ LenV X.K x H n ∧ Q (.int n) H) := by
  intro pins s σ H xs us Q I r h
  obtain ⟨x, n, rfl, e, q⟩ := h
  obtain ⟨u, rfl, rx⟩ := vals1 r
  have hl := line63
  have hs : sizeLine = 16777216 := sizeLine_eq
  cases x with
  | str y =>
    obtain ⟨t, rfl⟩ := rx
    obtain ⟨hy, e'⟩ : y.length ≤ sizeLine ∧ n = y.length := e
    subst e'
    exact len_str (by omega) ⟨.int _, H, I.tok _, ⟨_, rfl⟩, q⟩
  | byt y =>
    obtain ⟨t, rfl⟩ := rx
    obtain ⟨hy, e'⟩ : y.size ≤ sizeLine ∧ n = y.size := e
    subst e'
    exact PySem.W.len_bytes (by omega) ⟨.int _, H, I.tok _, ⟨_, rfl⟩, q⟩
  | ref p =>
    cases rx
    have e' : (∃ xs, SqL X.K H p xs ∧ n = xs.length) ∨ ∃ xs, SqT X.K H p xs ∧ n = xs.length := e
    rcases e' with ⟨xs, hx, e'⟩ | ⟨xs, hx, e'⟩
    · subst e'
      obtain ⟨its, r', pl, hz⟩ := I.list hx
      have hlen := r'.length
      exact Calls.call_len_list pl.isList (by simp only [List.size_toArray]; omega) ⟨.int xs.length, H, I.tok _, ⟨_, by simp only [List.size_toArray]; rw [hlen]⟩, q⟩
    · subst e'
      obtain ⟨its, r', pl, hz⟩ := I.tuple hx
      have hlen := r'.length
      exact len_tuple pl (by simp only [List.size_toArray]; omega) ⟨.int xs.length, H, I.tok _, ⟨_, by simp only [List.size_toArray]; rw [hlen]⟩, q⟩
  | _ => exact (show False from e).elim
/-- divmod: a new tuple -/
theorem call_divmod : CallR X (.builtin "divmod") (fun xs H Q => ∃ i j, xs = [.int i, .int j] ∧ CDiv i j ∧ ∀ p, H p = none → Q (.ref p) (upd H p (.tup [.int (i / j), .int (i % j)]))) := by
  intro pins s σ H xs us Q I r h
  obtain ⟨i, j, rfl, ⟨h1, h2⟩, q⟩ := h
  obtain ⟨u, w', rfl, ⟨t, rfl⟩, ⟨t', rfl⟩⟩ := vals2 r
  refine divmod_int (by omega) ?_ (.inl (PyProof.noPylong_small (by omega)))
  rw [Int.fdiv_eq_ediv_of_nonneg i (by omega), Int.fmod_eq_emod_of_nonneg i (by omega)]
  have hn : H s.heap.objs.size = none := I.hok.fresh (Nat.le_refl _)
  refine ⟨.ref s.heap.objs.size, _, ?_, rfl, q _ hn⟩
  refine I.laid (fun b o e => Heap.get?_push_of_some _ e) (Nat.le_refl _) ⟨by simp only [List.length_cons, List.length_nil]; rw [sizeLine_eq]; decide, [.int (i / j) s.toks, .int (i % j) (s.toks + 1)], .cons ⟨_, rfl⟩ (.cons ⟨_, rfl⟩ .nil), ?_⟩
  exact ⟨_, Heap.get?_push_size s.heap rfl, rfl, 0, rfl⟩
end
end L2

namespace L2
open PySem PySem.Spec PyProof.Rows

/-! ### an instance, its attributes a map -/
structure ObjM (h : Heap) (x dx C : Addr) (mA : Str → Option Value) : Prop where
  obj : h.get? x = some (PySem.W.instObj C dx)
  ns : h.Ns1 dx mA
  ne : dx ≠ x

theorem lookIn_ns {h : Heap} {dx : Addr} {mA : Str → Option Value} (n : h.Ns1 dx mA) : ∃ od, h.get? dx = some od ∧ ∀ name, PySem.W.lookIn name od = some (mA name) := by
  obtain ⟨o, es, ep, ho, hd, hk, _, hm⟩ := n
  refine ⟨o, ho, fun name => ?_⟩
  have e := hm name
  unfold nsFind findBy at e
  rw [← Array.find?_toList] at e
  unfold PySem.W.lookIn
  rw [hd]
  dsimp only
  split
  · rename_i y q
    rw [q] at e
    exact congrArg some e
  · rename_i q
    rw [q] at e
    have a : es.toList.any (·.refKey) = false := by
      rw [List.any_eq_false]
      intro y hy
      obtain ⟨z, t, hkey⟩ := hk y (Array.mem_toList_iff.mp hy)
      simp [DictEntry.refKey, hkey]
    have a' : ¬ es.toList.any (·.refKey) = true := by rw [a]; exact Bool.false_ne_true
    rw [if_neg a']
    exact congrArg some e

theorem ObjM.look {h : Heap} {x dx C : Addr} {mA : Str → Option Value} (I : ObjM h x dx C mA) : ∃ od, PySem.W.InstAt h x (PySem.W.instObj C dx) C (some od) ∧ ∀ name, PySem.W.lookIn name od = some (mA name) :=
  let ⟨od, ho, hl⟩ := lookIn_ns I.ns
  ⟨od, ⟨I.obj, rfl, rfl, ho⟩, hl⟩

section
variable {prog : Program} {w : World} {A : Around} {E : Value → Shared → Prop} {s : Shared} {K : PySem.W.Frag} {x dx C f : Addr} {mA : Str → Option Value} {name : Str} {v : Value}

theorem get_map {expr : Bool} {Q : Value → Shared → Prop} (X : K.In s.heap) (I : ObjM s.heap x dx C mA) (hg : PySem.W.plainGet K C name = true) (hh : PySem.W.hasDictIn K C = true)
    (ha : PySem.W.findIn K (.ref C) name = some none) (hv : mA name = some v) (hv' : PySem.W.handedIn v = true) (h : Q v { s with toks := s.toks + 1 }) :
    wpAny (model prog w) A (getAttr (.ref x) name expr) Q E s := by
  obtain ⟨od, J, hl⟩ := I.look
  exact PySem.W.get_value X J (PySem.W.plainGet_of hg).1 (PySem.W.findObj_own hh ha rfl (by rw [hl, hv])) hv' h

theorem get_const {expr : Bool} {a : Value} {Q : Value → Shared → Prop} (X : K.In s.heap) (I : ObjM s.heap x dx C mA) (hg : PySem.W.plainGet K C name = true) (hh : PySem.W.hasDictIn K C = true)
    (ha : PySem.W.findIn K (.ref C) name = some (some a)) (hn : PySem.W.specialIn K a "__get__" = some none) (hc : PySem.W.copiedNames.contains name = false) (hv : mA name = none) (hv' : PySem.W.handedIn a = true)
    (h : Q a { s with toks := s.toks + 1 }) : wpAny (model prog w) A (getAttr (.ref x) name expr) Q E s := by
  obtain ⟨od, J, hl⟩ := I.look
  exact PySem.W.get_value X J (PySem.W.plainGet_of hg).1 (PySem.W.findObj_cls hh ha hn hv' hc (by rw [hl, hv])) hv' h

theorem get_meth {pl : Sem Bool} {Q : Value × List Value → Shared → Prop} (X : K.In s.heap) (I : ObjM s.heap x dx C mA) (hg : PySem.W.plainGet K C name = true)
    (hf : PySem.W.findIn K (.ref C) name = some (some (.ref f))) (ht : PySem.W.isFn K (.ref f) = true) (hv : mA name = none) (h : Q (.ref f, [.ref x]) s) :
    wpAny (model prog w) A (getMethod (.ref x) name pl) Q E s := by
  obtain ⟨od, J, hl⟩ := I.look
  exact PySem.W.method_fn X J (PySem.W.plainGet_of hg).1 (PySem.W.plainGet_of hg).2 hf (beq_iff_eq.mp ht) (by show (PySem.W.lookIn name od).map (·.isSome) = some false; rw [hl, hv]; rfl) h

theorem set_map {ns : List Str} {Q : Unit → Shared → Prop} (X : K.In s.heap) (I : ObjM s.heap x dx C mA)
    (hs : PySem.W.findIn K (.ref C) "__setattr__" = some (some (.builtin "object.__setattr__"))) (hp : PySem.W.plainOver K C = true) (ht : PySem.W.takerIn K C name = some none) (hh : PySem.W.hasDictIn K C = true)
    (hw : PySem.Within mA ns) (hsz : ns.length ≤ sizeLine)
    (h : ∀ h', ObjM h' x dx C (fun y => if y = name then some v else mA y) → Heap.SameBut dx s.heap h' → Q () { s with heap := h', toks := s.toks + 2 }) :
    wpAny (model prog w) A (setAttr (.ref x) name v) Q E s := by
  obtain ⟨od, J, hl⟩ := I.look
  refine PySem.W.set_plain X J hs (PySem.W.osa_open (s := { s with toks := s.toks + 1 }) (r := none) X J hp ht fun b => ?_)
  obtain ⟨cd, hc, hd'⟩ := PySem.W.any_some hh
  have hx : s.heap.get? x = some ⟨.ref C, some dx, .plain, #[]⟩ := I.obj
  refine wpAny_bind (wpAny_pure (wpAny_bind (wpAny_bind (wpAny_loadPart hx (wpAny_bind (PySem.W.Looks.here (s := { s with toks := s.toks + 1 }) (PySem.W.looks_clsIn X hc) ?_))))))
  rw [hd']
  refine wpAny_pure (a := some dx) (wpAny_bind (wpAny_pure (wpAny_bind ?_)))
  refine wpAny_nsSet1 (s := { s with toks := s.toks + 1 }) I.ns fun h' hn2 hs2 => ?_
  obtain ⟨oD, esD, epD, hoD, hdD, hcD⟩ := hn2.count (PySem.Within.cons name v hw)
  refine wpAny_bind (wpAny_lookBehind hoD (by rw [hdD]; exact pastItsLine_dict (Nat.le_trans hcD (by rw [List.length_cons]; omega))) ?_)
  exact wpAny_pure (h _ ⟨(hs2.2 _ (Ne.symm I.ne)).trans I.obj, hn2, I.ne⟩ hs2)

/-- C(..): the dict at the heap's end, the instance behind it; then its __init__ -/
theorem make_map {R : Result → Shared → Prop} {vs : List Value} {kw : List (Str × Value)} (X : K.In s.heap) (hm : PySem.W.makesIn K C = true)
    (hi : PySem.W.findIn K (.ref C) "__init__" = some (some (.ref f))) (hf : PySem.W.typeIn K (.ref f) = some (.type "function"))
    (h : codeAny (model prog w) (A.under (.builtin "type.__call__" ⟨.ref C :: vs, kw⟩)) (.call (.ref f) ⟨.ref (s.heap.objs.size + 1) :: vs, kw⟩) (PySem.W.InitBack (s.heap.objs.size + 1) R)
      { s with heap := (s.heap.push PySem.W.emptyDict).push (PySem.W.instObj C s.heap.objs.size) }) :
    codeAny (model prog w) A (.call (.ref C) ⟨vs, kw⟩) R s := by
  obtain ⟨hh, g, d, t, os⟩ := s
  exact PySem.W.make_core (PySem.W.makes_of X hm) (PySem.W.looks_findIn X hi) (fun self => PySem.W.bind_fn X self hf) (.inl rfl) h
/-- C() where there is no __init__ but object's -/
theorem make_map0 {R : Result → Shared → Prop} (X : K.In s.heap) (hm : PySem.W.makesIn K C = true)
    (hi : PySem.W.findIn K (.ref C) "__init__" = some (some (.builtin "object.__init__")))
    (hb : ∀ self, PySem.W.Looks (model prog w) s.heap (bindSpecial (.builtin "object.__init__") self) (.builtin "object.__init__", [self]))
    (h : codeAny (model prog w) (A.under (.builtin "type.__call__" ⟨[.ref C], []⟩)) (.call (.builtin "object.__init__") ⟨[.ref (s.heap.objs.size + 1)], []⟩) (PySem.W.InitBack (s.heap.objs.size + 1) R)
      { s with heap := (s.heap.push PySem.W.emptyDict).push (PySem.W.instObj C s.heap.objs.size) }) :
    codeAny (model prog w) A (.call (.ref C) ⟨[], []⟩) R s := by
  obtain ⟨hh, g, d, t, os⟩ := s
  exact PySem.W.make_core (PySem.W.makes_of X hm) (PySem.W.looks_findIn X hi) hb (.inr ⟨rfl, rfl⟩) h
end

/-! ### the attributes as a list of pairs -/
def putF (f : Str) (v : V) : List (Str × V) → List (Str × V)
  | [] => [(f, v)]
  | (g, x) :: r => if g = f then (g, v) :: r else (g, x) :: putF f v r
theorem lookup_putF (f g : Str) (v : V) : ∀ fs : List (Str × V), (putF f v fs).lookup g = if g = f then some v else fs.lookup g
  | [] => by
    show List.lookup g [(f, v)] = _
    by_cases h : g = f
    · have hb : (g == f) = true := beq_iff_eq.mpr h
      simp only [List.lookup, hb, if_pos h]
    · have hb : (g == f) = false := beq_eq_false_iff_ne.mpr h
      simp only [List.lookup, hb, if_neg h]
  | (k, x) :: r => by
    have ih := lookup_putF f g v r
    rw [show putF f v ((k, x) :: r) = (if k = f then (k, v) :: r else (k, x) :: putF f v r) from rfl]
    by_cases hk : k = f
    · rw [if_pos hk]
      by_cases h : g = k
      · have hb : (g == k) = true := beq_iff_eq.mpr h
        simp only [List.lookup, hb, if_pos (h.trans hk)]
      · have hb : (g == k) = false := beq_eq_false_iff_ne.mpr h
        simp only [List.lookup, hb, if_neg (fun e : g = f => h (e.trans hk.symm))]
    · rw [if_neg hk]
      by_cases h : g = k
      · have hb : (g == k) = true := beq_iff_eq.mpr h
        simp only [List.lookup, hb, if_neg (fun e : g = f => hk (h.symm.trans e))]
      · have hb : (g == k) = false := beq_eq_false_iff_ne.mpr h
        simp only [List.lookup, hb]
        exact ih
theorem keys_putF (f : Str) (v : V) : ∀ fs : List (Str × V), f ∈ (putF f v fs).map (·.1) ∧ ∀ g, g ∈ fs.map (·.1) → g ∈ (putF f v fs).map (·.1)
  | [] => ⟨by simp [putF], fun g h => by simp at h⟩
  | (k, x) :: r => by
    obtain ⟨i1, i2⟩ := keys_putF f v r
    rw [show putF f v ((k, x) :: r) = (if k = f then (k, v) :: r else (k, x) :: putF f v r) from rfl]
    by_cases hk : k = f
    · rw [if_pos hk]
      subst hk
      exact ⟨by simp, fun g h => by simpa using h⟩
    · rw [if_neg hk]
      refine ⟨?_, fun g h => ?_⟩
      · rw [List.map_cons]
        exact List.mem_cons_of_mem _ i1
      · rw [List.map_cons] at h ⊢
        rcases List.mem_cons.mp h with e | e
        · exact List.mem_cons.mpr (.inl e)
        · exact List.mem_cons_of_mem _ (i2 g e)
theorem length_putF (f : Str) (v : V) : ∀ fs : List (Str × V), (putF f v fs).length ≤ fs.length + 1
  | [] => by simp [putF]
  | (k, x) :: r => by
    have ih := length_putF f v r
    rw [show putF f v ((k, x) :: r) = (if k = f then (k, v) :: r else (k, x) :: putF f v r) from rfl]
    by_cases hk : k = f
    · rw [if_pos hk, List.length_cons, List.length_cons]; omega
    · rw [if_neg hk, List.length_cons, List.length_cons]; omega

theorem RelO.some_of {v : V} {o : Option Value} (r : RelO (some v) o) : ∃ u, o = some u ∧ RelV v u := by
  cases o with
  | none => exact (show False from r).elim
  | some u => exact ⟨u, rfl, r⟩
theorem RelO.none_of {o : Option Value} (r : RelO none o) : o = none := by
  cases o with
  | none => rfl
  | some u => exact (show False from r).elim
theorem handed_of {v : V} {u : Value} (r : RelV v u) : PySem.W.handedIn u = true := by
  cases v with
  | non => cases (show u = Value.none from r); rfl
  | bl b => cases (show u = Value.bool b from r); rfl
  | int i => obtain ⟨t, e⟩ := (show ∃ t, u = Value.int i t from r); cases e; rfl
  | str x => obtain ⟨t, e⟩ := (show ∃ t, u = Value.str x t from r); cases e; rfl
  | byt b => obtain ⟨t, e⟩ := (show ∃ t, u = Value.bytes b t from r); cases e; rfl
  | flt b => obtain ⟨t, e⟩ := (show ∃ t, u = Value.float b t from r); cases e; rfl
  | ref a => cases (show u = Value.ref a from r); rfl
  | ty n => cases (show u = Value.type n from r); rfl

section
variable {P : Program} {w : World} {H H' : Hp} {h h' : Heap} {a C dx : Addr} {fs fs' : List (Str × V)}
theorem ins_get (hok : HOk P w H h) (e : H a = some (.ins C dx fs)) : ∃ mA, ObjM h a dx C mA ∧ (∀ f, RelO (fs.lookup f) (mA f)) ∧ PySem.Within mA (fs.map (·.1)) ∧ fs.length ≤ 1000 ∧ H dx = some (.own a) := by
  obtain ⟨d, z, ne, ob, mA, n, r, q⟩ := (show ObjOk P w H h a (.ins C dx fs) from hok a _ e)
  exact ⟨mA, ⟨ob, n, ne⟩, r, q, z, d⟩
end

/-! ### what of the text a class must have -/
structure Cls (K : PySem.W.Frag) (C : Addr) : Prop where
  pg : PySem.W.plainGet K C Str.empty = true
  hd : PySem.W.hasDictIn K C = true
  po : PySem.W.plainOver K C = true
  sa : PySem.W.findIn K (.ref C) "__setattr__" = some (some (.builtin "object.__setattr__"))
theorem Cls.get {K : PySem.W.Frag} {C : Addr} (c : Cls K C) (f : Str) : PySem.W.plainGet K C f = true := c.pg
/-- no class of it has the name -/
def NoAttr (K : PySem.W.Frag) (C : Addr) (f : Str) : Prop := PySem.W.findIn K (.ref C) f = some none
theorem NoAttr.taker {K : PySem.W.Frag} {C : Addr} {f : Str} (n : NoAttr K C f) : PySem.W.takerIn K C f = some none := by
  unfold PySem.W.takerIn
  rw [show PySem.W.findIn K (.ref C) f = some none from n]
  rfl
/-- a constant of the class -/
structure Con (K : PySem.W.Frag) (C : Addr) (f : Str) (v : V) (u : Value) : Prop where
  at_ : PySem.W.findIn K (.ref C) f = some (some u)
  rel : RelV v u
  get : PySem.W.specialIn K u "__get__" = some none
  cp : PySem.W.copiedNames.contains f = false
/-- a method: a plain def of the class or of one above it -/
structure Meth (K : PySem.W.Frag) (C : Addr) (m : Str) (f : Addr) : Prop where
  at_ : PySem.W.findIn K (.ref C) m = some (some (.ref f))
  fn : PySem.W.isFn K (.ref f) = true
  kp : PySem.W.keepIn K (.ref f) = true

section
variable {X : Cx} {pins : List (Addr × Obj)} {σ : St} {H : Hp} {s : Shared} {a C dx : Addr} {fs : List (Str × V)} {f : Str} {v : V} {A : Around} {E : Value → Shared → Prop}

theorem getattr_ok {b : Bool} {Q : Value → Shared → Prop} (I : Inv X pins σ H s) (e : H a = some (.ins C dx fs)) (c : Cls X.K C) (n : NoAttr X.K C f) (l : fs.lookup f = some v)
    (h : ∀ u s', Inv X pins σ H s' → RelV v u → Q u s') : wpAny (model X.prog X.w) A (getAttr (.ref a) f b) Q E s := by
  obtain ⟨mA, O, r, _, _, _⟩ := ins_get I.hok e
  obtain ⟨u, hu, ru⟩ := RelO.some_of (v := v) (o := mA f) (by rw [← l]; exact r f)
  exact get_map I.kIn O (c.get f) c.hd n hu (handed_of ru) (h u _ (I.tok _) ru)

theorem getcon_ok {b : Bool} {u : Value} {Q : Value → Shared → Prop} (I : Inv X pins σ H s) (e : H a = some (.ins C dx fs)) (c : Cls X.K C) (k : Con X.K C f v u) (l : fs.lookup f = none)
    (h : ∀ s', Inv X pins σ H s' → Q u s') : wpAny (model X.prog X.w) A (getAttr (.ref a) f b) Q E s := by
  obtain ⟨mA, O, r, _, _, _⟩ := ins_get I.hok e
  have hn : mA f = none := RelO.none_of (by rw [← l]; exact r f)
  exact get_const I.kIn O (c.get f) c.hd k.at_ k.get k.cp hn (handed_of k.rel) (h _ (I.tok _))

theorem getmeth_ok {m : Str} {g : Addr} {pl : Sem Bool} {Q : Value × List Value → Shared → Prop} (I : Inv X pins σ H s) (e : H a = some (.ins C dx fs)) (c : Cls X.K C) (k : Meth X.K C m g) (l : fs.lookup m = none)
    (h : Q (.ref g, [.ref a]) s) : wpAny (model X.prog X.w) A (getMethod (.ref a) m pl) Q E s := by
  obtain ⟨mA, O, r, _, _, _⟩ := ins_get I.hok e
  have hn : mA m = none := RelO.none_of (by rw [← l]; exact r m)
  exact get_meth I.kIn O (c.get m) k.at_ k.fn hn h

theorem setattr_ok {y : V} {u : Value} {Q : Unit → Shared → Prop} (I : Inv X pins σ H s) (e : H a = some (.ins C dx fs)) (c : Cls X.K C) (n : NoAttr X.K C f) (hl : fs.length < 1000) (ry : RelV y u)
    (h : ∀ s', Inv X pins σ (upd H a (.ins C dx (putF f y fs))) s' → Q () s') : wpAny (model X.prog X.w) A (setAttr (.ref a) f u) Q E s := by
  obtain ⟨mA, O, r, wi, _, ho⟩ := ins_get I.hok e
  have hz : (fs.map (·.1)).length ≤ sizeLine := by rw [List.length_map, sizeLine_eq]; omega
  refine set_map I.kIn O c.sa c.po n.taker c.hd wi hz fun h' O' sb => h _ ?_
  have hd : ∃ o, h'.get? dx = some o := let ⟨o, _, _, e', _⟩ := O'.ns; ⟨o, e'⟩
  refine I.write (x := a) (e := dx) (by rw [e]; exact True.intro) (.inr ho) (fun b q hb z => (sb.2 b hb).trans z) hd ?_
  refine ⟨by rw [upd_ne O.ne]; exact ho, ?_, O.ne, O'.obj, _, O'.ns, fun g => ?_, fun g hg => ?_⟩
  · have := length_putF f y fs; omega
  · show RelO ((putF f y fs).lookup g) (if g = f then some u else mA g)
    rw [lookup_putF]
    by_cases q : g = f
    · rw [if_pos q, if_pos q]; exact ry
    · rw [if_neg q, if_neg q]; exact r g
  · by_cases q : g = f
    · rw [q]; exact (keys_putF f y fs).1
    · refine (keys_putF f y fs).2 g (wi g fun z => hg ?_)
      show (if g = f then some u else mA g) = none
      rw [if_neg q]; exact z

/-- a new instance, tracked, without attributes -/
theorem Inv.made (I : Inv X pins σ H s) : Inv X pins σ (upd (upd H s.heap.objs.size (.own (s.heap.objs.size + 1))) (s.heap.objs.size + 1) (.ins C s.heap.objs.size []))
    { s with heap := (s.heap.push PySem.W.emptyDict).push (PySem.W.instObj C s.heap.objs.size) } := by
  have e1 : (s.heap.push PySem.W.emptyDict).get? s.heap.objs.size = some PySem.W.emptyDict := Heap.get?_push_size s.heap rfl
  have e2 : ((s.heap.push PySem.W.emptyDict).push (PySem.W.instObj C s.heap.objs.size)).get? (s.heap.objs.size + 1) = some (PySem.W.instObj C s.heap.objs.size) := by
    have := Heap.get?_push_size (s.heap.push PySem.W.emptyDict) (o := PySem.W.instObj C s.heap.objs.size) rfl
    rwa [Heap.size_push] at this
  have e3 : (s.heap.push PySem.W.emptyDict).Ns s.heap.objs.size (fun _ => none) := ⟨PySem.W.emptyDict, #[], _, e1, rfl, (fun e he => absurd he (by simp)), fun _ => rfl⟩
  have I1 := I.laid (a := s.heap.objs.size) (o := .own (s.heap.objs.size + 1)) (h' := s.heap.push PySem.W.emptyDict) (t' := s.toks) (fun b u q => Heap.get?_push_of_some _ q) (Nat.le_refl _) ⟨_, e1⟩
  refine I1.laid (a := s.heap.objs.size + 1) (o := .ins C s.heap.objs.size []) (t' := s.toks) (fun b u q => Heap.get?_push_of_some _ q) (Nat.le_of_eq (Heap.size_push _ _)) ?_
  have ne : s.heap.objs.size ≠ s.heap.objs.size + 1 := Nat.ne_of_lt (Nat.lt_succ_self _)
  refine ⟨by rw [upd_ne ne, upd_same], Nat.zero_le _, ne, e2, fun _ => none, (Heap.Ns1.of_empty e3).at fun o q => Heap.get?_push_of_some _ q, fun _ => True.intro, fun y hy => absurd rfl hy⟩

/-- e.f where nothing but the object is asked: through attributeBase (super) and the last hold -/
theorem attr_of {prog : Program} {w : World} {env : Env} {e : Expr} {f : Str} {pos : Pos} {s : Shared} {Q : Value → Shared → Prop} (hb : attributeBase e f env (eval e env) = eval e env)
    (h : wpAny (model prog w) A (eval e env) (fun o s₁ => wpAny (model prog w) A (getAttr o f true) Q E s₁) E s) : wpAny (model prog w) A (eval (.Attribute e f pos) env) Q E s :=
  Attribute_any_ h (by rw [arm_eval_Attribute, hb])
end

/-! ### readings and rules -/
/-- e.f, an attribute of the instance -/
def tFld (K : PySem.W.Frag) (ta : TE) (f : Str) : TE := fun σ H Q => ta σ H fun x H1 => ∃ a C dx fs v, x = .ref a ∧ H1 a = some (.ins C dx fs) ∧ Cls K C ∧ NoAttr K C f ∧ fs.lookup f = some v ∧ Q v H1
/-- e.f, a constant of the class -/
def tCon (K : PySem.W.Frag) (ta : TE) (f : Str) : TE := fun σ H Q => ta σ H fun x H1 => ∃ a C dx fs v u, x = .ref a ∧ H1 a = some (.ins C dx fs) ∧ Cls K C ∧ Con K C f v u ∧ fs.lookup f = none ∧ Q v H1
/-- e.f = value -/
def sFld (K : PySem.W.Frag) (ta tv : TE) (f : Str) : TS := fun D σ H => tv σ H fun y H1 => ta σ H1 fun x H2 => ∃ a C dx fs, x = .ref a ∧ H2 a = some (.ins C dx fs) ∧ Cls K C ∧ NoAttr K C f ∧ fs.length < 1000 ∧
  D.nx σ (upd H2 a (.ins C dx (putF f y fs)))
/-- an augmented operator on two values -/
def InOp (X : Cx) (op : Operator) (rd : V → V → Hp → VK → Prop) : Prop :=
  ∀ (pins : List (Addr × Obj)) (s : Shared) (σ : St) (H : Hp) (x y : V) (u v : Value) (Q : VK), Inv X pins σ H s → RelV x u → RelV y v → rd x y H Q → wpAny (model X.prog X.w) X.A (inplaceOp op u v) (EP X pins σ Q) X.xe s
/-- e.f op= value -/
def sFldAug (K : PySem.W.Frag) (ta tv : TE) (rd : V → V → Hp → VK → Prop) (f : Str) : TS := fun D σ H => ta σ H fun x H1 => ∃ a C dx fs v, x = .ref a ∧ H1 a = some (.ins C dx fs) ∧ Cls K C ∧ NoAttr K C f ∧ fs.lookup f = some v ∧
  tv σ H1 fun y H2 => rd v y H2 fun z H3 => ∃ dx' fs', H3 a = some (.ins C dx' fs') ∧ fs'.length < 1000 ∧ D.nx σ (upd H3 a (.ins C dx' (putF f z fs')))

section
variable {X : Cx} {o e value : Expr} {f : Str} {pos pos' tpos : Pos} {ta tv : TE}
theorem pe_fld (he : PE X e ta) (hb : attributeBase e f X.env (eval e X.env) = eval e X.env) : PE X (.Attribute e f pos) (tFld X.K ta f) := by
  intro pins s σ H Q I h
  refine attr_of hb (thn (he pins s σ H _ I h) fun u s1 ⟨x, H1, I1, rx, a, C, dx, fs, v, ex, ea, c, n, l, q⟩ => ?_)
  subst ex
  obtain rfl : u = Value.ref a := rx
  exact getattr_ok I1 ea c n l fun u' s2 I2 ru => ⟨v, H1, I2, ru, q⟩
theorem pe_con (he : PE X e ta) (hb : attributeBase e f X.env (eval e X.env) = eval e X.env) : PE X (.Attribute e f pos) (tCon X.K ta f) := by
  intro pins s σ H Q I h
  refine attr_of hb (thn (he pins s σ H _ I h) fun u s1 ⟨x, H1, I1, rx, a, C, dx, fs, v, u0, ex, ea, c, k, l, q⟩ => ?_)
  subst ex
  obtain rfl : u = Value.ref a := rx
  exact getcon_ok I1 ea c k l fun s2 I2 => ⟨v, H1, I2, k.rel, q⟩
theorem ps_fld (ha : PE X o ta) (hv : PE X value tv) (hs : swapsWith value (some (.Attribute o f pos')) pos.line X.env = pure false) : PS X (.Assign [.Attribute o f pos'] value pos) (sFld X.K ta tv f) := by
  intro pins s σ H D I h
  refine plainObj_wpAny_Assign_Attribute (thn (hv pins s σ H _ I h) fun u s1 ⟨y, H1, I1, ry, q⟩ => thn (ha pins s1 σ H1 _ I1 q) fun ov s2 ⟨x, H2, I2, rx, a, C, dx, fs, ex, ea, c, n, l, q2⟩ => ?_) hs
  subst ex
  obtain rfl : ov = Value.ref a := rx
  exact setattr_ok I2 ea c n l ry fun s3 I3 => ⟨σ, _, I3, q2⟩
theorem ps_fldaug {op : Operator} {rd : V → V → Hp → VK → Prop} (ha : PE X o ta) (hv : PE X value tv) (hop : InOp X op rd) : PS X (.AugAssign (.Attribute o f tpos) op value pos) (sFldAug X.K ta tv rd f) := by
  intro pins s σ H D I h
  refine wpAny_AugAssign_AttributeAny (thn (ha pins s σ H _ I h) fun ov s1 ⟨x, H1, I1, rx, a, C, dx, fs, v, ex, ea, c, n, l, q⟩ => ?_)
  subst ex
  obtain rfl : ov = Value.ref a := rx
  refine getattr_ok I1 ea c n l fun u s2 I2 ru => thn (hv pins s2 σ H1 _ I2 q) fun w3 s3 ⟨y, H2, I3, ry, q3⟩ => thn (hop pins s3 σ H2 v y u w3 _ I3 ru ry q3) fun w4 s4 ⟨z, H3, I4, rz, dx', fs', ea', l', q4⟩ => ?_
  exact setattr_ok I4 ea' c n l' rz fun s5 I5 => ⟨σ, _, I5, q4⟩
def rAdd : V → V → Hp → VK → Prop := fun x y H Q => ∃ i j, x = .int i ∧ y = .int j ∧ Q (.int (i + j)) H
def rSub : V → V → Hp → VK → Prop := fun x y H Q => ∃ i j, x = .int i ∧ y = .int j ∧ Q (.int (i - j)) H
theorem in_add : InOp X .Add rAdd := by
  rintro pins s σ H x y u v Q I rx ry ⟨i, j, rfl, rfl, q⟩
  obtain ⟨t, rfl⟩ := (show ∃ t, u = Value.int i t from rx)
  obtain ⟨t', rfl⟩ := (show ∃ t', v = Value.int j t' from ry)
  exact PyProof.Rows.iadd_int ⟨.int (i + j), H, I.tok _, ⟨_, rfl⟩, q⟩
theorem in_sub : InOp X .Sub rSub := by
  rintro pins s σ H x y u v Q I rx ry ⟨i, j, rfl, rfl, q⟩
  obtain ⟨t, rfl⟩ := (show ∃ t, u = Value.int i t from rx)
  obtain ⟨t', rfl⟩ := (show ∃ t', v = Value.int j t' from ry)
  exact PyProof.Rows.isub_int ⟨.int (i - j), H, I.tok _, ⟨_, rfl⟩, q⟩

/-- what is between an instance and its method: the tree of a method call -/
theorem methcall_of {pl : Sem Bool} {m : Str} {apos : Pos} {args : List Expr} {pins : List (Addr × Obj)} {s : Shared} {σ : St} {H : Hp} {Q : Value → Shared → Prop} {te : TE} (he : PE X e te) (I : Inv X pins σ H s)
    (h : te σ H fun x H1 => ∃ a C dx fs g, x = .ref a ∧ H1 a = some (.ins C dx fs) ∧ Cls X.K C ∧ Meth X.K C m g ∧ fs.lookup m = none ∧
      ∀ s1, Inv X pins σ H1 s1 → wpAny (model X.prog X.w) X.A (callWith pos (.ref g) [.ref a] (backTo pos (starEach args X.env)) (backToKw pos (keywordEach [] X.env))) Q X.xe s1)
    (ht : eval (.Call (.Attribute e m apos) args [] pos) X.env = (do
      let ov ← eval e X.env
      standAt apos.atName
      let (f, first) ← holding [ov] (getMethod ov m pl)
      callWith pos f first (backTo pos (starEach args X.env)) (backToKw pos (keywordEach [] X.env)))) :
    wpAny (model X.prog X.w) X.A (eval (.Call (.Attribute e m apos) args [] pos) X.env) Q X.xe s := by
  refine PySem.W.methodCall_KW (pl := pl) (thn (he pins s σ H _ I h) fun u s1 ⟨x, H1, I1, rx, a, C, dx, fs, g, ex, ea, c, k, l, q⟩ => ?_) ht
  subst ex
  obtain rfl : u = Value.ref a := rx
  exact getmeth_ok I1 ea c k l (q s1 I1)
end

/-! ### isinstance -/
section
variable {X : Cx} {pins : List (Addr × Obj)} {σ : St} {H : Hp} {s : Shared} {A : Around} {E : Value → Shared → Prop} {Q : Value → Shared → Prop} {c : Value} {b : Bool}
/-- the type of a value, as the fragment's deciders take it; for an instance its class -/
inductive TyOf (K : PySem.W.Frag) (H : Hp) : V → Value → Prop where
  | non : TyOf K H .non (.type "NoneType")
  | bl (x : Bool) : TyOf K H (.bl x) (.type "bool")
  | int (i : Int) : TyOf K H (.int i) (.type "int")
  | str (x : Str) : TyOf K H (.str x) (.type "str")
  | flt (x : UInt64) : TyOf K H (.flt x) (.type "float")
  | lst {a : Addr} {xs : List V} (e : H a = some (.lst xs)) : TyOf K H (.ref a) (.type "list")
  | frz {a : Addr} {o : Obj} {xs : List V} (e : H a = some (.frz o (.lst xs))) : TyOf K H (.ref a) (.type "list")
  | tup {a : Addr} {xs : List V} (e : H a = some (.tup xs)) : TyOf K H (.ref a) (.type "tuple")
  | dK {a : Addr} {kvs : List (Key × V)} (e : H a = some (.dK kvs)) : TyOf K H (.ref a) (.type "dict")
  | dT {a : Addr} {kvs : List (List Key × V)} (e : H a = some (.dT kvs)) : TyOf K H (.ref a) (.type "dict")
  | ins {a C dx : Addr} {fs : List (Str × V)} (e : H a = some (.ins C dx fs)) (cl : Cls K C) (ha : PySem.W.findIn K (.ref C) "__class__" = some (some (.builtin "object.__class__")))
      (hn : PySem.W.specialIn K (.builtin "object.__class__") "__get__" = some (some (.builtin "getset_descriptor.__get__"))) (htk : PySem.W.takesIn K (.builtin "object.__class__") = some true)
      (hm : PySem.W.mroIn K C (.type "object") = some true) : TyOf K H (.ref a) (.ref C)
/-- isinstance(x, c) for one class c, a built-in or an own one: kitOne's answer -/
theorem isinst_ok {x : V} {u t : Value} (I : Inv X pins σ H s) (rx : RelV x u) (ty : TyOf X.K H x t) (e : PySem.W.kitOne X.K t c = some b) (h : ∀ tk, Q (.bool b) { s with toks := tk }) :
    wpAny (model X.prog X.w) A (call (.builtin "isinstance") [u, c]) Q E s := by
  cases ty with
  | non => cases (show u = Value.none from rx); exact PySem.W.kia_one PySem.W.kitx_none I.kIn True.intro e (fun z => nomatch z) h
  | bl y => cases (show u = Value.bool y from rx); exact PySem.W.kia_one PySem.W.kitx_bool I.kIn True.intro e (fun z => nomatch z) h
  | int i => obtain ⟨t, q⟩ := (show ∃ t, u = Value.int i t from rx); cases q; exact PySem.W.kia_one PySem.W.kitx_int I.kIn True.intro e (fun z => nomatch z) h
  | str y => obtain ⟨t, q⟩ := (show ∃ t, u = Value.str y t from rx); cases q; exact PySem.W.kia_one PySem.W.kitx_str I.kIn True.intro e (fun z => nomatch z) h
  | flt y => obtain ⟨t, q⟩ := (show ∃ t, u = Value.float y t from rx); cases q; exact PySem.W.kia_one PySem.W.kitx_float I.kIn True.intro e (fun z => nomatch z) h
  | @lst a xs ea =>
    cases (show u = Value.ref a from rx)
    obtain ⟨_, _, n, _, h1⟩ := (show ObjOk X.prog X.w H s.heap a (.lst xs) from I.hok a _ ea)
    exact PySem.W.kia_one PySem.W.kitx_list I.kIn ⟨_, h1, rfl⟩ e (fun z => nomatch z) h
  | @frz a ob xs ea =>
    cases (show u = Value.ref a from rx)
    obtain ⟨_, _, _, n, _, h1⟩ := (show ObjOk X.prog X.w H s.heap a (.frz ob (.lst xs)) from I.hok a _ ea)
    exact PySem.W.kia_one PySem.W.kitx_list I.kIn ⟨_, h1, rfl⟩ e (fun z => nomatch z) h
  | @tup a xs ea =>
    cases (show u = Value.ref a from rx)
    obtain ⟨_, _, _, p⟩ := (show ObjOk X.prog X.w H s.heap a (.tup xs) from I.hok a _ ea)
    obtain ⟨o, h1, h2, _⟩ := p
    exact PySem.W.kia_one PySem.W.kitx_tuple I.kIn ⟨o, h1, h2⟩ e (fun z => nomatch z) h
  | @dK a kvs ea =>
    cases (show u = Value.ref a from rx)
    obtain ⟨_, _, vs, _, p⟩ := (show ObjOk X.prog X.w H s.heap a (.dK kvs) from I.hok a _ ea)
    obtain ⟨o, es, ep, h1, h2, _⟩ := p
    exact PySem.W.kia_one PySem.W.kitx_dict I.kIn ⟨o, h1, h2.1⟩ e (fun z => nomatch z) h
  | @dT a kvs ea =>
    cases (show u = Value.ref a from rx)
    obtain ⟨_, _, xs, _, o, es, ep, h1, h2, _⟩ := (show ObjOk X.prog X.w H s.heap a (.dT kvs) from I.hok a _ ea)
    exact PySem.W.kia_one PySem.W.kitx_dict I.kIn ⟨o, h1, h2.1⟩ e (fun z => nomatch z) h
  | @ins a C dx fs ea cl ha hn htk hm =>
    cases (show u = Value.ref a from rx)
    obtain ⟨mA, O, _⟩ := ins_get I.hok ea
    obtain ⟨od, J, _⟩ := O.look
    exact PySem.W.kia_one (PySem.W.kitx_own (cl.get _) cl.hd ha hn htk hm) I.kIn J e (fun z => nomatch z) h
end
end L2

namespace L2
open PySem PySem.Spec PyProof.Rows

/-! ### room -/
structure Room (k : Nat) (A : Around) : Prop where
  hd : A.handled = none
  dp : A.depth + 3 * k + 5 < recursionLimit
  un : A.units + 16 * k + 200 < cLine
theorem Room.mono {j k : Nat} {A : Around} (r : Room k A) (h : j ≤ k) : Room j A := ⟨r.hd, by have := r.dp; omega, by have := r.un; omega⟩
theorem Room.deeper {k : Nat} {A : Around} (r : Room (k + 1) A) (env : Env) : Room k (A.deeper env) :=
  ⟨r.hd, by have := r.dp; show A.depth + 1 + 3 * k + 5 < _; omega, by have := r.un; show A.units + 3 + 16 * k + 200 < _; omega⟩
theorem Room.in1 {k : Nat} {A : Around} (r : Room (k + 1) A) : Room k A.in1 :=
  ⟨r.hd, by have := r.dp; show A.depth + 3 * k + 5 < _; omega, by have := r.un; show A.units + 1 + 16 * k + 200 < _; omega⟩
theorem make_depth {A : Around} {C : Addr} {us : List Value} {kw : List (Str × Value)} : (A.under (.builtin "type.__call__" ⟨.ref C :: us, kw⟩)).depth = A.depth + 1 := by
  first | rfl | simp [Around.under, Code.weight, Code.isCreation, Code.isGuard, Code.isCaller, Code.frames, Code.isFrame, guardIds]
theorem make_units {A : Around} {C : Addr} {us : List Value} {kw : List (Str × Value)} : (A.under (.builtin "type.__call__" ⟨.ref C :: us, kw⟩)).units = A.units + 1 := by
  first | rfl | simp [Around.under, Code.cUnits, Code.frames, Code.isFrame]
theorem Room.make {k : Nat} {A : Around} (r : Room (k + 1) A) (C : Addr) (us : List Value) (kw : List (Str × Value)) : Room k (A.under (.builtin "type.__call__" ⟨.ref C :: us, kw⟩)) :=
  ⟨r.hd, by have := r.dp; rw [make_depth]; omega, by have := r.un; rw [make_units]; omega⟩
theorem Room.depth {k : Nat} {A : Around} (r : Room k A) : A.depth < recursionLimit := by have := r.dp; omega
theorem Room.units {k : Nat} {A : Around} (r : Room k A) : A.units + 64 < cLine := by have := r.un; omega
theorem Room.units0 {k : Nat} {A : Around} (r : Room k A) : A.units < cLine := by have := r.un; omega

/-! ### argument lists and displays -/
def tNil : TA := fun _ H Q => Q [] H
def tCons (ta : TE) (tr : TA) : TA := fun σ H Q => ta σ H fun x H1 => tr σ H1 fun xs H2 => Q (x :: xs) H2
section
variable {X : Cx} {e : Expr} {es : List Expr} {te : TE} {t : TA} {pos : Pos}
theorem pa_nil : PA X [] tNil := fun _ _ _ _ H Q I h => Calls.spliced_nil ⟨[], H, I, .nil, h⟩
theorem pa_cons (ha : PE X e te) (hr : PA X es t) (hs : starEach (e :: es) X.env = (false, eval e X.env) :: starEach es X.env := by rfl) : PA X (e :: es) (tCons te t) := by
  intro pos pins s σ H Q I h
  rw [hs]
  show wpAny _ _ (spliced ((false, eval e X.env) :: backTo pos (starEach es X.env))) _ _ s
  refine Calls.spliced_cons (thn (ha pins s σ H _ I h) fun u s1 ⟨x, H1, I1, r1, q1⟩ => ?_)
  exact thn (hr pos pins s1 σ H1 _ I1 q1) fun us s2 ⟨xs, H2, I2, r2, q2⟩ => ⟨x :: xs, H2, I2, .cons r1 r2, q2⟩

/-- a tuple, a list of written items -/
def tTup (t : TA) : TE := fun σ H Q => t σ H fun xs H1 => xs.length ≤ sizeLine ∧ ∀ p, H1 p = none → Q (.ref p) (upd H1 p (.tup xs))
def tLst (t : TA) : TE := fun σ H Q => t σ H fun xs H1 => xs.length ≤ sizeLine ∧ ∀ p, H1 p = none → Q (.ref p) (upd H1 p (.lst xs))
theorem pe_tup {x1} (h : PA X es t) : PE X (.Tuple es x1 pos) (tTup t) := by
  intro pins s σ H Q I hq
  refine wpAny_Tuple_spliced (thn (h pos pins s σ H _ I hq) fun us s1 ⟨xs, H1, I1, r, z, q⟩ => ⟨by rw [← r.length]; exact z, ?_⟩)
  have hf : H1 s1.heap.objs.size = none := I1.hok.fresh (Nat.le_refl _)
  refine ⟨.ref s1.heap.objs.size, upd H1 s1.heap.objs.size (.tup xs), I1.laid (t' := s1.toks) (fun b u e => Heap.get?_push_of_some _ e) (Nat.le_refl _) ?_, rfl, q _ hf⟩
  exact ⟨z, us, r, ⟨_, Heap.get?_push_size _ rfl, rfl, _, rfl⟩⟩
theorem pe_lst (h : PA X es t) : PE X (.List es pos) (tLst t) := by
  intro pins s σ H Q I hq
  refine wpAny_List_spliced (thn (h pos pins s σ H _ I hq) fun us s1 ⟨xs, H1, I1, r, z, q⟩ => ⟨by rw [← r.length]; exact z, ?_⟩)
  have hf : H1 s1.heap.objs.size = none := I1.hok.fresh (Nat.le_refl _)
  refine ⟨.ref s1.heap.objs.size, upd H1 s1.heap.objs.size (.lst xs), I1.laid (t' := s1.toks) (fun b u e => Heap.get?_push_of_some _ e) (Nat.le_refl _) ?_, rfl, q _ hf⟩
  exact ⟨z, us, 0, r, Heap.get?_push_size _ rfl⟩
end

/-! ### what a def promises -/
/-- a def's promise: the bound arguments in the parameters' order, the heap, the wanted end, the wanted exception -/
abbrev Sp := List V → Hp → VK → XK → Prop
/-- how an exception lies behind a call (file 08 gives it): the callers' frames, abstract heap and state ahead of the call, the wish, the exception, the state -/
abbrev CXT := List Env → Hp → Shared → XK → Value → Shared → Prop

/-- the state at a call -/
structure Env0 (P : Program) (w : World) (K : PySem.W.Frag) (mg : Str → Option Value) (base : Heap) (A : Around) (outer : List Env) (s : Shared) (H : Hp) : Prop where
  frames : A.frames = some outer
  mod : Mod K mg base
  bs : ∀ b o, base.get? b = some o → s.heap.get? b = some o ∧ H b = none
  bsz : base.objs.size ≤ s.heap.objs.size
  funs : s.heap.FunFrames base outer
  frf : ∀ b ∈ frs outer, H b = none
  hok : HOk P w H s.heap
  bare : AllBare s.gens
/-- a call's end -/
def CE (outer : List Env) (P : Program) (w : World) (H : Hp) (s : Shared) (Q : VK) (u : Value) (s' : Shared) : Prop :=
  ∃ v H', s'.os = s.os ∧ AllBare s'.gens ∧ Un (frs outer) [] H H' s.heap s'.heap ∧ HOk P w H' s'.heap ∧ RelV v u ∧ Q v H'
def CR (CX : CXT) (outer : List Env) (P : Program) (w : World) (H : Hp) (s : Shared) (Q : VK) (E : XK) (r : Result) (s' : Shared) : Prop :=
  match r with
  | .ok (.ret u) => CE outer P w H s Q u s'
  | .ok _ => False
  | .error e => CX outer H s E e s'
structure FnOk (P : Program) (w : World) (K : PySem.W.Frag) (mg : Str → Option Value) (base : Heap) (CX : CXT) (k : Nat) (f : Addr) (fd : FuncData) (ps : List Str) (sp : Sp) : Prop where
  len : ∀ vs H Q E, sp vs H Q E → vs.length = ps.length
  run : ∀ (A : Around) (outer : List Env) (s : Shared) (H : Hp) (args : Args) (us : List Value) (vs : List V) (Q : VK) (E : XK), Room k A → Env0 P w K mg base A outer s H → BindsTo s fd args (ps.zip us) → Vals vs us → sp vs H Q E →
    codeAny (model P w) A (.call (.ref f) args) (CR CX outer P w H s Q E) s
theorem FnOk.mono {P : Program} {w : World} {K : PySem.W.Frag} {mg : Str → Option Value} {base : Heap} {CX : CXT} {j k : Nat} {f : Addr} {fd : FuncData} {ps : List Str} {sp : Sp} (F : FnOk P w K mg base CX j f fd ps sp) (h : j ≤ k) :
    FnOk P w K mg base CX k f fd ps sp := ⟨F.len, fun A outer s H args us vs Q E hr => F.run A outer s H args us vs Q E (hr.mono h)⟩
/-- a weaker promise -/
theorem FnOk.imp {P : Program} {w : World} {K : PySem.W.Frag} {mg : Str → Option Value} {base : Heap} {CX : CXT} {k : Nat} {f : Addr} {fd : FuncData} {ps : List Str} {sp sp' : Sp} (F : FnOk P w K mg base CX k f fd ps sp)
    (h : ∀ vs H Q E, sp' vs H Q E → sp vs H Q E) : FnOk P w K mg base CX k f fd ps sp' :=
  ⟨fun vs H Q E q => F.len vs H Q E (h _ _ _ _ q), fun A outer s H args us vs Q E hr he hb hv hs => F.run A outer s H args us vs Q E hr he hb hv (h _ _ _ _ hs)⟩

theorem Env0.make {P : Program} {w : World} {K : PySem.W.Frag} {mg : Str → Option Value} {base : Heap} {A : Around} {outer : List Env} {s : Shared} {H : Hp} (e : Env0 P w K mg base A outer s H) (C : Addr) (us : List Value) (kw : List (Str × Value)) :
    Env0 P w K mg base (A.under (.builtin "type.__call__" ⟨.ref C :: us, kw⟩)) outer s H := ⟨by first | exact e.frames | (simpa [Around.under, Code.envs, Code.isFrame, pushEnvs] using e.frames), e.mod, e.bs, e.bsz, e.funs, e.frf, e.hok, e.bare⟩
theorem Env0.in1 {P : Program} {w : World} {K : PySem.W.Frag} {mg : Str → Option Value} {base : Heap} {A : Around} {outer : List Env} {s : Shared} {H : Hp} (e : Env0 P w K mg base A outer s H) :
    Env0 P w K mg base A.in1 outer s H := ⟨e.frames, e.mod, e.bs, e.bsz, e.funs, e.frf, e.hok, e.bare⟩

section
variable {X : Cx} {pins : List (Addr × Obj)} {σ : St} {H : Hp} {s s' : Shared}
/-- from a body: what a callee wants -/
theorem Inv.env0 (I : Inv X pins σ H s) : Env0 X.prog X.w X.K X.mg X.base X.A X.stack s H :=
  ⟨I.ok.frames, I.ok.mod, I.bs, Nat.le_trans I.ok.bsz I.sz, I.stack, I.stkFree, I.hok, I.bare⟩
/-- behind a call -/
theorem Inv.after {Q : VK} {u : Value} (I : Inv X pins σ H s) (h : CE X.stack X.prog X.w H s Q u s') : EP X pins σ Q u s' := by
  obtain ⟨v, H', os, bare, un, hok, r, q⟩ := h
  obtain ⟨hh, g, d, t, os'⟩ := s'
  obtain rfl : os' = s.os := os
  exact ⟨v, H', I.call (h' := hh) (g' := g) (d' := d) (t' := t) (ch := []) un hok bare (fun b z => absurd z (by simp)), r, q⟩
end

/-! ### calls -/
/-- f(..): the written arguments, then the defaults dvs; E: what is wanted of an exception -/
def tCall (sp : Sp) (dvs : List V) (E : XK) (t : TA) : TE := fun σ H Q => t σ H fun vs H1 => sp (vs ++ dvs) H1 Q E
/-- o.m(..) of an instance of the class at C -/
def tMeth (C : Addr) (m : Str) (sp : Sp) (dvs : List V) (E : XK) (ta : TE) (t : TA) : TE := fun σ H Q => ta σ H fun x H1 => ∃ a dx fs, x = .ref a ∧ H1 a = some (.ins C dx fs) ∧ fs.lookup m = none ∧
  t σ H1 fun vs H2 => sp (x :: (vs ++ dvs)) H2 Q E
/-- C(..): a new instance and its dict, then __init__ -/
def tMake (C : Addr) (sp : Sp) (dvs : List V) (E : XK) (t : TA) : TE := fun σ H Q => t σ H fun vs H1 => ∀ x dx, H1 x = none → H1 dx = none → dx ≠ x →
  sp (.ref x :: (vs ++ dvs)) (upd (upd H1 dx (.own x)) x (.ins C dx [])) (fun v H2 => v = .non ∧ Q (.ref x) H2) E

/-- how the parameters are bound: us the positional arguments, kw the keywords' values by name, ds the defaults that fill up -/
def Binds (K : PySem.W.Frag) (fd : FuncData) (ps : List Str) (ds : List Value) : Prop :=
  ∀ (s : Shared) (us : List Value), K.In s.heap → (us ++ ds).length = ps.length → BindsTo s fd ⟨us, []⟩ (ps.zip (us ++ ds))
/-- every parameter is given -/
theorem Binds.all {K : PySem.W.Frag} {fd : FuncData} {ps : List Str} (h : ∀ us : List Value, us.length = ps.length → bindArgs fd ⟨us, []⟩ = pure (ps.zip us)) : Binds K fd ps [] := fun s us _ hl => by
  rw [List.append_nil] at hl ⊢
  exact .of_eq (h us hl)

/-- an exception of a callee reaches what this body wants of exceptions -/
def Passes (CX : CXT) (X : Cx) (E : XK) : Prop := ∀ (pins : List (Addr × Obj)) (σ : St) (H : Hp) (s : Shared) (e : Value) (s' : Shared), Inv X pins σ H s → CX X.stack H s E e s' → X.xe e s'

section
variable {X : Cx} {CX : CXT} {k : Nat} {f C : Addr} {fd : FuncData} {ps : List Str} {sp : Sp} {dvs : List V} {ds : List Value} {E : XK} {x m : Str} {p pos apos : Pos} {e o : Expr} {es : List Expr} {ta : TE} {t : TA}

/-- the callee runs -/
theorem run_fn {pins : List (Addr × Obj)} {σ : St} {H : Hp} {s : Shared} {Q : VK} {us : List Value} {vs : List V} (F : FnOk X.prog X.w X.K X.mg X.base CX k f fd ps sp) (hr : Room k X.A) (hb : Binds X.K fd ps ds) (hd : Vals dvs ds) (hx : Passes CX X E)
    (I : Inv X pins σ H s) (r : Vals vs us) (h : sp (vs ++ dvs) H Q E) : wpAny (model X.prog X.w) X.A (call (.ref f) us) (EP X pins σ Q) X.xe s := by
  have r2 : Vals (vs ++ dvs) (us ++ ds) := r.append hd
  have hl : (us ++ ds).length = ps.length := by rw [← r2.length]; exact F.len _ _ _ _ h
  refine wpAny_call (codeAny_mono (F.run X.A X.stack s H ⟨us, []⟩ (us ++ ds) (vs ++ dvs) Q E hr I.env0 (hb s us I.kIn hl) r2 h) fun r s' hq => ?_)
  cases r with
  | error e => exact hx pins σ H s e s' I hq
  | ok fl =>
    cases fl with
    | ret u => exact I.after hq
    | next => exact False.elim hq
    | brk => exact False.elim hq
    | cont => exact False.elim hq

theorem pe_call (F : FnOk X.prog X.w X.K X.mg X.base CX k f fd ps sp) (hr : Room k X.A) (hg : Gl X x) (hm : X.mg x = some (.ref f)) (hk : PySem.W.keepIn X.K (.ref f) = true) (hb : Binds X.K fd ps ds) (hd : Vals dvs ds) (hx : Passes CX X E)
    (ha : PA X (e :: es) t) (hdb : (x == ("__debug__" : Str)) = false := by decide) (he : starEach (e :: es) X.env = (false, eval e X.env) :: starEach es X.env := by rfl) (hpl : (backTo pos (starEach es X.env)).any (·.1) = false := by rfl) :
    PE X (.Call (.Name x p) (e :: es) [] pos) (tCall sp dvs E t) := by
  intro pins s σ H Q I h
  refine wpAny_Call_Name_kw (ld_glob I hg hm ?_ hdb)
  refine PySem.W.callWith_K (h₀ := X.base) I.ok.mod.kin hk (thn (ha pos pins s σ H _ I h) fun us s1 ⟨vs, H1, I1, r, q⟩ => ⟨I1.kIn, ?_⟩) he hpl
  exact run_fn F hr hb hd hx I1 r q
theorem pe_call0 (F : FnOk X.prog X.w X.K X.mg X.base CX k f fd ps sp) (hr : Room k X.A) (hg : Gl X x) (hm : X.mg x = some (.ref f)) (hk : PySem.W.keepIn X.K (.ref f) = true) (hb : Binds X.K fd ps ds) (hd : Vals dvs ds) (hx : Passes CX X E)
    (hdb : (x == ("__debug__" : Str)) = false := by decide) : PE X (.Call (.Name x p) [] [] pos) (tCall sp dvs E tNil) := by
  intro pins s σ H Q I h
  refine wpAny_Call_Name_kw (ld_glob I hg hm ?_ hdb)
  exact PySem.W.callWith_K0 I.kIn hk (run_fn (us := []) F hr hb hd hx I .nil h)

/-- o.m(e, ..) -/
theorem pe_meth {pl : Sem Bool} (he : PE X o ta) (c : Cls X.K C) (hm : Meth X.K C m f) (F : FnOk X.prog X.w X.K X.mg X.base CX k f fd ps sp) (hr : Room k X.A) (hb : Binds X.K fd ps ds) (hd : Vals dvs ds) (hx : Passes CX X E) (ha : PA X (e :: es) t)
    (hst : starEach (e :: es) X.env = (false, eval e X.env) :: starEach es X.env := by rfl) (hpl : (backTo pos (starEach es X.env)).any (·.1) = false := by rfl)
    (ht : eval (.Call (.Attribute o m apos) (e :: es) [] pos) X.env = (do
      let ov ← eval o X.env
      standAt apos.atName
      let (f, first) ← holding [ov] (getMethod ov m pl)
      callWith pos f first (backTo pos (starEach (e :: es) X.env)) (backToKw pos (keywordEach [] X.env))) := by rfl) :
    PE X (.Call (.Attribute o m apos) (e :: es) [] pos) (tMeth C m sp dvs E ta t) := by
  intro pins s σ H Q I h
  refine PySem.W.methodCall_KW (pl := pl) (thn (he pins s σ H _ I h) fun u s1 ⟨x, H1, I1, rx, a, dx, fs, ex, ea, l, q⟩ => ?_) ht
  subst ex
  obtain rfl : u = Value.ref a := rx
  refine getmeth_ok I1 ea c hm l ?_
  refine PySem.W.callWith_K (first := [.ref a]) (h₀ := X.base) I.ok.mod.kin hm.kp (thn (ha pos pins s1 σ H1 _ I1 q) fun us s2 ⟨vs, H2, I2, r, q2⟩ => ⟨I2.kIn, ?_⟩) hst hpl
  exact run_fn (us := .ref a :: us) (vs := .ref a :: vs) F hr hb hd hx I2 (.cons rfl r) q2
/-- o.m() -/
theorem pe_meth0 {pl : Sem Bool} (he : PE X o ta) (c : Cls X.K C) (hm : Meth X.K C m f) (F : FnOk X.prog X.w X.K X.mg X.base CX k f fd ps sp) (hr : Room k X.A) (hb : Binds X.K fd ps ds) (hd : Vals dvs ds) (hx : Passes CX X E)
    (ht : eval (.Call (.Attribute o m apos) [] [] pos) X.env = (do
      let ov ← eval o X.env
      standAt apos.atName
      let (f, first) ← holding [ov] (getMethod ov m pl)
      callWith pos f first (backTo pos (starEach [] X.env)) (backToKw pos (keywordEach [] X.env))) := by rfl) :
    PE X (.Call (.Attribute o m apos) [] [] pos) (tMeth C m sp dvs E ta tNil) := by
  intro pins s σ H Q I h
  refine PySem.W.methodCall_KW (pl := pl) (thn (he pins s σ H _ I h) fun u s1 ⟨x, H1, I1, rx, a, dx, fs, ex, ea, l, q⟩ => ?_) ht
  subst ex
  obtain rfl : u = Value.ref a := rx
  refine getmeth_ok I1 ea c hm l ?_
  exact PySem.W.callWith_K0 (first := [.ref a]) I1.kIn hm.kp (run_fn (us := [.ref a]) (vs := [.ref a]) F hr hb hd hx I1 (.cons rfl .nil) q)

/-- what a class must have to be made -/
structure Mk (K : PySem.W.Frag) (C f : Addr) : Prop where
  makes : PySem.W.makesIn K C = true
  init : PySem.W.findIn K (.ref C) "__init__" = some (some (.ref f))
  fn : PySem.W.isFn K (.ref f) = true
  kp : PySem.W.keepIn K (.ref C) = true

theorem run_make {pins : List (Addr × Obj)} {σ : St} {H : Hp} {s : Shared} {Q : VK} {us : List Value} {vs : List V} (M : Mk X.K C f) (F : FnOk X.prog X.w X.K X.mg X.base CX k f fd ps sp) (hr : Room (k + 1) X.A) (hb : Binds X.K fd ps ds) (hd : Vals dvs ds)
    (hx : Passes CX X E) (I : Inv X pins σ H s) (r : Vals vs us)
    (h : ∀ x dx, H x = none → H dx = none → dx ≠ x → sp (.ref x :: (vs ++ dvs)) (upd (upd H dx (.own x)) x (.ins C dx [])) (fun v H2 => v = .non ∧ Q (.ref x) H2) E) :
    wpAny (model X.prog X.w) X.A (call (.ref C) us) (EP X pins σ Q) X.xe s := by
  have hq := h (s.heap.objs.size + 1) s.heap.objs.size (I.hok.fresh (Nat.le_succ _)) (I.hok.fresh (Nat.le_refl _)) (Nat.ne_of_lt (Nat.lt_succ_self _))
  have I2 := Inv.made (C := C) I
  have r2 : Vals (V.ref (s.heap.objs.size + 1) :: (vs ++ dvs)) (Value.ref (s.heap.objs.size + 1) :: (us ++ ds)) := .cons rfl (r.append hd)
  have hl : (Value.ref (s.heap.objs.size + 1) :: us ++ ds).length = ps.length := by
    have e := r2.length
    rw [F.len _ _ _ _ hq] at e
    exact e.symm
  refine wpAny_call (make_map (f := f) I.kIn M.makes M.init (beq_iff_eq.mp M.fn) (codeAny_mono (F.run _ X.stack _ _ ⟨Value.ref (s.heap.objs.size + 1) :: us, []⟩ (Value.ref (s.heap.objs.size + 1) :: (us ++ ds)) _ _ E (hr.make C us [])
    (I2.env0.make C us []) (hb _ (Value.ref (s.heap.objs.size + 1) :: us) I2.kIn hl) r2 hq) fun r s' hq' => ?_))
  cases r with
  | error e => exact hx pins σ _ _ e s' I2 hq'
  | ok fl =>
    cases fl with
    | ret u =>
      obtain ⟨v, H', I3, rv, ev, q3⟩ := I2.after hq'
      subst ev
      exact ⟨rv, ⟨V.ref (s.heap.objs.size + 1), H', I3, rfl, q3⟩⟩
    | next => exact False.elim hq'
    | brk => exact False.elim hq'
    | cont => exact False.elim hq'
theorem pe_make (M : Mk X.K C f) (F : FnOk X.prog X.w X.K X.mg X.base CX k f fd ps sp) (hr : Room (k + 1) X.A) (hg : Gl X x) (hm : X.mg x = some (.ref C)) (hb : Binds X.K fd ps ds) (hd : Vals dvs ds) (hx : Passes CX X E)
    (ha : PA X (e :: es) t) (hdb : (x == ("__debug__" : Str)) = false := by decide) (he : starEach (e :: es) X.env = (false, eval e X.env) :: starEach es X.env := by rfl) (hpl : (backTo pos (starEach es X.env)).any (·.1) = false := by rfl) :
    PE X (.Call (.Name x p) (e :: es) [] pos) (tMake C sp dvs E t) := by
  intro pins s σ H Q I h
  refine wpAny_Call_Name_kw (ld_glob I hg hm ?_ hdb)
  refine PySem.W.callWith_K (h₀ := X.base) I.ok.mod.kin M.kp (thn (ha pos pins s σ H _ I h) fun us s1 ⟨vs, H1, I1, r, q⟩ => ⟨I1.kIn, ?_⟩) he hpl
  exact run_make M F hr hb hd hx I1 r q
theorem pe_make0 (M : Mk X.K C f) (F : FnOk X.prog X.w X.K X.mg X.base CX k f fd ps sp) (hr : Room (k + 1) X.A) (hg : Gl X x) (hm : X.mg x = some (.ref C)) (hb : Binds X.K fd ps ds) (hd : Vals dvs ds) (hx : Passes CX X E)
    (hdb : (x == ("__debug__" : Str)) = false := by decide) : PE X (.Call (.Name x p) [] [] pos) (tMake C sp dvs E tNil) := by
  intro pins s σ H Q I h
  refine wpAny_Call_Name_kw (ld_glob I hg hm ?_ hdb)
  exact PySem.W.callWith_K0 I.kIn M.kp (run_make (us := []) M F hr hb hd hx I .nil h)
end

/-! ### keywords -/
/-- the values of the keywords, from the left -/
def PK (X : Cx) (kws : List Keyword) (t : TA) : Prop :=
  ∀ (pos : Pos) (pins : List (Addr × Obj)) (s : Shared) (σ : St) (H : Hp) (Q : List V → Hp → Prop), Inv X pins σ H s → t σ H Q → wpAny (model X.prog X.w) X.A (evalAll ((backToKw pos (keywordEach kws X.env)).map (·.2))) (AP X pins σ Q) X.xe s
section
variable {X : Cx} {CX : CXT} {k : Nat} {f C : Addr} {fd : FuncData} {ps ks : List Str} {sp : Sp} {E : XK} {x m : Str} {p pos apos kpos : Pos} {e o : Expr} {es : List Expr} {kws : List Keyword} {te ta : TE} {t tk : TA} {nm : Option Str}
theorem pk_nil : PK X [] tNil := fun _ _ _ _ H Q I h => wpAny_evalAll_nil ⟨[], H, I, .nil, h⟩
theorem pk_cons (ha : PE X e te) (hr : PK X kws t) : PK X (⟨nm, e, kpos⟩ :: kws) (tCons te t) := by
  intro pos pins s σ H Q I h
  show wpAny _ _ (evalAll ((do let v ← eval e X.env; standAt pos; pure v) :: (backToKw pos (keywordEach kws X.env)).map (·.2))) _ _ s
  refine wpAny_evalAll_cons (wpAny_bind (thn (ha pins s σ H _ I h) fun u s1 ⟨x, H1, I1, r1, q1⟩ => wpAny_bind (wpAny_standAt (wpAny_pure ?_))))
  exact thn (hr pos pins s1 σ H1 _ I1 q1) fun us s2 ⟨xs, H2, I2, r2, q2⟩ => ⟨x :: xs, H2, I2, .cons r1 r2, q2⟩

/-- how a call with keywords binds: g puts the positional values us and the keywords' values ws (names ks) in the parameters' order, defaults among them -/
structure KBinds (K : PySem.W.Frag) (fd : FuncData) (ps ks : List Str) (g : List Value → List Value → List Value) (gV : List V → List V → List V) : Prop where
  to : ∀ (s : Shared) (us ws : List Value), K.In s.heap → (g us ws).length = ps.length → BindsTo s fd ⟨us, ks.zip ws⟩ (ps.zip (g us ws))
  rel : ∀ {vs : List V} {us : List Value} {zs : List V} {ws : List Value}, Vals vs us → Vals zs ws → Vals (gV vs zs) (g us ws)
def tCallK (sp : Sp) (gV : List V → List V → List V) (E : XK) (t tk : TA) : TE := fun σ H Q => t σ H fun vs H1 => tk σ H1 fun zs H2 => sp (gV vs zs) H2 Q E
variable {g : List Value → List Value → List Value} {gV : List V → List V → List V}
theorem run_fnk {pins : List (Addr × Obj)} {σ : St} {H : Hp} {s : Shared} {Q : VK} {us ws : List Value} {vs zs : List V} (F : FnOk X.prog X.w X.K X.mg X.base CX k f fd ps sp) (hr : Room k X.A) (hb : KBinds X.K fd ps ks g gV) (hx : Passes CX X E)
    (I : Inv X pins σ H s) (r : Vals vs us) (rz : Vals zs ws) (h : sp (gV vs zs) H Q E) : wpAny (model X.prog X.w) X.A (call (.ref f) us (ks.zip ws)) (EP X pins σ Q) X.xe s := by
  have r2 := hb.rel r rz
  have hl : (g us ws).length = ps.length := by rw [← r2.length]; exact F.len _ _ _ _ h
  refine wpAny_call (codeAny_mono (F.run X.A X.stack s H ⟨us, ks.zip ws⟩ (g us ws) (gV vs zs) Q E hr I.env0 (hb.to s us ws I.kIn hl) r2 h) fun r s' hq => ?_)
  cases r with
  | error e => exact hx pins σ H s e s' I hq
  | ok fl =>
    cases fl with
    | ret u => exact I.after hq
    | next => exact False.elim hq
    | brk => exact False.elim hq
    | cont => exact False.elim hq
/-- f(e, .., k = v, ..) -/
theorem pe_callK (F : FnOk X.prog X.w X.K X.mg X.base CX k f fd ps sp) (hr : Room k X.A) (hg : Gl X x) (hm : X.mg x = some (.ref f)) (hk : PySem.W.keepIn X.K (.ref f) = true) (hb : KBinds X.K fd ps ks g gV) (hx : Passes CX X E)
    (ha : PA X (e :: es) t) (hkw : PK X kws tk) (hall : (backToKw pos (keywordEach kws X.env)).all (·.1.isSome) = true := by rfl) (hks : (backToKw pos (keywordEach kws X.env)).filterMap (·.1) = ks := by rfl)
    (hdb : (x == ("__debug__" : Str)) = false := by decide) (he : starEach (e :: es) X.env = (false, eval e X.env) :: starEach es X.env := by rfl)
    (hpl : ((backTo pos (starEach (e :: es) X.env)).any (·.1) || (backToKw pos (keywordEach kws X.env)).any (·.1.isNone)) = false := by rfl) :
    PE X (.Call (.Name x p) (e :: es) kws pos) (tCallK sp gV E t tk) := by
  intro pins s σ H Q I h
  refine wpAny_Call_Name_kw (ld_glob I hg hm ?_ hdb)
  refine PySem.W.callWith_KW (h₀ := X.base) I.ok.mod.kin hk hall (thn (ha pos pins s σ H _ I h) fun us s1 ⟨vs, H1, I1, r, q⟩ => ?_) hpl he
  refine thn (hkw pos pins s1 σ H1 _ I1 q) fun ws s2 ⟨zs, H2, I2, rz, q2⟩ => ⟨I2.kIn, ?_⟩
  rw [hks]
  exact run_fnk F hr hb hx I2 r rz q2
end

/-! ### a def's body keeps its promise -/
/-- names: the parameters first -/
structure FnScope (N P : List Str) (sc : Scope) : Prop where
  kind : sc.kind = .function
  co : sc.isCoroutine = false
  gen : sc.isGenerator = false
  nd : N.Nodup
  pre : N.take P.length = P
  par : ∀ x ∈ P, sc.names.lookup x = some .local ∨ sc.names.lookup x = some .cell
  nofree : ∀ y ∈ sc.names, y.2 ≠ .free

theorem bindL_out {kindOf : Str → Option NameKind} {x : Str} : ∀ {binds : List (Str × Value)} {m : Str → Option Value}, (∀ v, (x, v) ∉ binds) → bindL kindOf binds m x = m x
  | [], _, _ => rfl
  | (n, v) :: r, m, h => by
    unfold bindL
    rw [bindL_out fun w hw => h w (List.mem_cons_of_mem _ hw)]
    split
    · have : x ≠ n := by rintro rfl; exact h v List.mem_cons_self
      simp [this]
    · rfl
theorem bindC_out {kindOf : Str → Option NameKind} {x : Str} : ∀ {binds : List (Str × Value)} {m : Str → Option Value}, (∀ v, (x, v) ∉ binds) → bindC kindOf binds m x = m x
  | [], _, _ => rfl
  | (n, v) :: r, m, h => by
    unfold bindC
    rw [bindC_out fun w hw => h w (List.mem_cons_of_mem _ hw)]
    split
    · rfl
    · have : x ≠ n := by rintro rfl; exact h v List.mem_cons_self
      simp [this]
theorem bindL_get {kindOf : Str → Option NameKind} {x : Str} {v : Value} : ∀ {P : List Str} {vs : List Value} {i : Nat} {m : Str → Option Value}, P.Nodup → P[i]? = some x → vs[i]? = some v → kindOf x = some .local →
    bindL kindOf (P.zip vs) m x = some v
  | [], _, _, _, _, h, _, _ => by simp at h
  | _ :: _, [], _, _, _, _, h, _ => by simp at h
  | p :: P, w :: vs, 0, m, nd, h1, h2, hk => by
    simp at h1 h2; subst h1; subst h2
    show bindL kindOf ((p, w) :: P.zip vs) m p = _
    unfold bindL
    rw [bindL_out fun v hv => (List.nodup_cons.mp nd).1 (List.of_mem_zip hv).1, if_pos hk]
    simp
  | p :: P, w :: vs, i + 1, m, nd, h1, h2, hk => by
    show bindL kindOf ((p, w) :: P.zip vs) m x = _
    unfold bindL
    exact bindL_get (i := i) (List.nodup_cons.mp nd).2 (by simpa using h1) (by simpa using h2) hk
theorem bindC_get {kindOf : Str → Option NameKind} {x : Str} {v : Value} : ∀ {P : List Str} {vs : List Value} {i : Nat} {m : Str → Option Value}, P.Nodup → P[i]? = some x → vs[i]? = some v → kindOf x ≠ some .local →
    bindC kindOf (P.zip vs) m x = some v
  | [], _, _, _, _, h, _, _ => by simp at h
  | _ :: _, [], _, _, _, _, h, _ => by simp at h
  | p :: P, w :: vs, 0, m, nd, h1, h2, hk => by
    simp at h1 h2; subst h1; subst h2
    show bindC kindOf ((p, w) :: P.zip vs) m p = _
    unfold bindC
    rw [bindC_out fun v hv => (List.nodup_cons.mp nd).1 (List.of_mem_zip hv).1, if_neg hk]
    simp
  | p :: P, w :: vs, i + 1, m, nd, h1, h2, hk => by
    show bindC kindOf ((p, w) :: P.zip vs) m x = _
    unfold bindC
    exact bindC_get (i := i) (List.nodup_cons.mp nd).2 (by simpa using h1) (by simpa using h2) hk

/-- the names' values at the entry -/
def start (N : List Str) (vs : List V) : St := vs.map some ++ List.replicate (N.length - vs.length) none

/-- the context of a def's body, at its entry; an exception leaves the frame, then lies as CX says -/
def cxOf (CX : CXT) (P : Program) (w : World) (K : PySem.W.Frag) (mg : Str → Option Value) (base : Heap) (N : List Str) (qual : Str) (scope : Scope) (f : Addr) (cd : Value) (A : Around) (outer : List Env) (s : Shared) (H : Hp) (E : XK) : Cx where
  prog := P
  w := w
  K := K
  mg := mg
  base := base
  A := A.deeper (envOfC qual scope s.heap.objs.size f cd)
  N := N
  s₀ := s
  H₀ := H
  env := envOfC qual scope s.heap.objs.size f cd
  outer := outer
  stack := envOfC qual scope s.heap.objs.size f cd :: outer
  ex := []
  calm := true
  fn := fun _ => true
  pn := []
  xe := fun e s' => wpAny (model P w) (A.deeper (envOfC qual scope s.heap.objs.size f cd)) (leaving (envOfC qual scope s.heap.objs.size f cd) e) (fun _ s'' => CX outer H s E e s'') (fun e' s'' => CX outer H s E e' s'') s'

theorem cell_has {sc : Scope} {n : Nat} {x : Str} (h : sc.names.lookup x = some .cell) : ∃ c, (cellsFrom n sc.names []).lookup x = some c := by
  have q := PySem.W.cellsFrom_some sc.names n [] (.inl h)
  exact Option.isSome_iff_exists.mp q

theorem inv_start {CX : CXT} {P : Program} {w : World} {K : PySem.W.Frag} {mg : Str → Option Value} {base : Heap} {N ps : List Str} {qual : Str} {scope : Scope} {f : Addr} {cd : Value} {A : Around} {outer : List Env} {s s1 : Shared} {H : Hp} {E : XK} {us : List Value} {vs : List V}
    (S : FnScope N ps scope) (hd : A.handled = none) (e0 : Env0 P w K mg base A outer s H) (hl : vs.length = ps.length) (r : Vals vs us)
    (x : InCallC s s.heap.objs.size (bindL (envOfC qual scope s.heap.objs.size f cd).kindOf (ps.zip us) fun _ => none) (cellsFrom (s.heap.objs.size + 1) scope.names []) (bindC (envOfC qual scope s.heap.objs.size f cd).kindOf (ps.zip us) fun _ => none) s1) :
    Inv (cxOf CX P w K mg base N qual scope f cd A outer s H E) [] (start N vs) H s1 := by
  have hpl : ps.length ≤ N.length := by have := congrArg List.length S.pre; rw [List.length_take] at this; omega
  obtain ⟨h1, tk, rfl, hk⟩ := x.done
  have noA : ∀ b : Addr, b ∉ (cxOf CX P w K mg base N qual scope f cd A outer s H E).ex := fun b z => absurd (show b ∈ ([] : List Addr) from z) (by simp)
  refine ⟨⟨e0.mod, S.kind, rfl, rfl, Nat.le_refl _, fun y z c h1 h2 => ?_, fun y hy => ?_, fun y c _ h => ?_, fun _ => hd, Around.frames_deeper e0.frames, .inr ⟨rfl, rfl⟩, fun b z => absurd z (noA b), e0.bs, e0.bsz, fun b _ _ => noA b, fun b z => absurd z (noA b), e0.funs, e0.frf⟩,
    rfl, e0.bare, Un.kept hk, ⟨_, x.toInCall.ns, fun i y v h1 h2 h3 => ?_⟩, fun y c h => ⟨_, x.cell y c h⟩, e0.hok.fresh (Nat.le_refl _), fun y c h => ?_, fun p hp => absurd (show p ∈ ([] : List (Addr × Obj)) from hp) (by simp), e0.hok.kept hk, ?_⟩
  · exact name_of_addr x.apart (PySem.mem_of_lookup h1) (PySem.mem_of_lookup h2)
  · have hy : scope.names.lookup y = some .cell ∨ scope.names.lookup y = some .free := hy
    rcases hy with hy | hy
    · exact cell_has hy
    · exact absurd rfl (S.nofree _ (PySem.mem_of_lookup hy))
  · exact Nat.le_of_lt (x.above y c (PySem.mem_of_lookup h))
  · have hi : i < vs.length := by
      unfold start at h2
      by_cases hi : i < vs.length
      · exact hi
      · rw [List.getElem?_append_right (by simpa using hi)] at h2
        rw [List.getElem?_replicate] at h2
        split at h2 <;> cases h2
    have ha : vs[i]? = some v := by
      unfold start at h2
      rw [List.getElem?_append_left (by simpa using hi), List.getElem?_map] at h2
      cases e : vs[i]? with
      | none => rw [e] at h2; cases h2
      | some a => rw [e] at h2; cases h2; rfl
    obtain ⟨u, hu, rv⟩ := r.get ha
    have hp : ps[i]? = some y := by
      rw [← S.pre, List.getElem?_take_of_lt (by omega)]; exact h1
    have ndP : ps.Nodup := by rw [← S.pre]; exact S.nd.sublist (List.take_sublist _ _)
    refine ⟨u, rv, ?_⟩
    rcases S.par y (List.mem_of_getElem? hp) with k | k
    · exact .inl ⟨k, bindL_get ndP hp hu k⟩
    · obtain ⟨c, e⟩ := cell_has (n := s.heap.objs.size + 1) k
      refine .inr ⟨.inl k, c, e, ?_⟩
      have q := x.cell y c e
      rw [bindC_get ndP hp hu (by show scope.names.lookup y ≠ _; rw [k]; decide)] at q
      exact q
  · exact e0.hok.fresh (Nat.le_of_lt (x.above y c (PySem.mem_of_lookup h)))
  · unfold start
    show _ = N.length
    rw [List.length_append, List.length_map, List.length_replicate]
    omega

/-- THE RULE: a def (or a method) of the text, by its body. The body's reading t is chosen for each entry; it is run at the parameters' values -/
theorem fn_of {CX : CXT} {P : Program} {w : World} {K : PySem.W.Frag} {mg : Str → Option Value} {base : Heap} {k : Nat} {f : Addr} {name qual : Str} {params : Arguments} {body : List Stmt} {scope : Scope} {dV kV doc pm cdv ct oc : Value} {an od : Option Addr}
    {osl : Array (Option Value)} {N ps : List Str} {sp : Sp} (lk : K.lookup f = some ⟨oc, od, .func (PySem.W.fnOf name qual params body scope dV kV doc pm an cdv ct), osl⟩) (hcd : PySem.W.codeIn K cdv qual = true) (S : FnScope N ps scope)
    (len : ∀ vs H Q E, sp vs H Q E → vs.length = ps.length)
    (hbody : ∀ (A : Around) (outer : List Env) (s : Shared) (H : Hp) (vs : List V) (Q : VK) (E : XK), Room k (A.deeper (envOfC qual scope s.heap.objs.size f cdv)) → sp vs H Q E →
      ∃ t, PSs (cxOf CX P w K mg base N qual scope f cdv A outer s H E) body t ∧ t { nx := fun _ H' => Q .non H', rt := Q } (start N vs) H) :
    FnOk P w K mg base CX (k + 1) f (PySem.W.fnOf name qual params body scope dV kV doc pm an cdv ct) ps sp := by
  refine ⟨len, fun A outer s H args us vs Q E hr e0 hb r hsp => ?_⟩
  have hl := len _ _ _ _ hsp
  have KX : K.In s.heap := e0.mod.kin.keeps fun b o e => (e0.bs b o e).1
  have lim : s.heap.NoLimit := e0.mod.nolimit.keeps fun b o e => (e0.bs b o e).1
  have hkind : ∀ y ∈ ps.zip us, scope.names.lookup y.1 = some .local ∨ (scope.names.lookup y.1 = some .cell ∧ ((cellsFrom (s.heap.objs.size + 1) scope.names []).lookup y.1).isSome = true) := fun ⟨n, v⟩ hy => by
    rcases S.par n (List.of_mem_zip hy).1 with q | q
    · exact .inl q
    · exact .inr ⟨q, PySem.W.cellsFrom_some _ _ _ (.inl q)⟩
  refine codeAny_call_function hr.depth (KX _ _ lk) rfl S.co S.gen rfl (PySem.W.codeRec_of KX hcd) (hb _ _ _ _ ?_)
  refine wpAny_newFunctionEnv_cells S.kind hkind fun env he s1 x => ?_
  subst he
  refine ⟨lim.keeps x.toInCall.keep, codeAny_func ?_⟩
  obtain ⟨t, ht, hq⟩ := hbody A outer s H vs Q E (hr.deeper _) hsp
  have I : Inv (cxOf CX P w K mg base N qual scope f cdv A outer s H E) [] (start N vs) H s1 := inv_start S hr.hd e0 hl r x
  refine wpAny_mono (ht [] s1 (start N vs) H _ I hq) (fun fl s' hs => ?_) fun e s' hs => hs
  have fin : ∀ {σ' : St} {H' : Hp} {v : V} {u : Value}, Inv (cxOf CX P w K mg base N qual scope f cdv A outer s H E) [] σ' H' s' → RelV v u → Q v H' → CE outer P w H s Q u s' :=
    fun {σ' H' v u} J rv q => ⟨v, H', J.os, J.bare, J.base, J.hok, rv, q⟩
  cases fl with
  | ret u =>
    obtain ⟨v, σ', H', J, rv, q⟩ := hs
    exact fin J rv q
  | next =>
    obtain ⟨σ', H', J, q⟩ := hs
    exact fin (v := V.non) (u := Value.none) J rfl q
  | brk =>
    obtain ⟨_, _, _, q⟩ := hs
    exact False.elim q
  | cont =>
    obtain ⟨_, _, _, q⟩ := hs
    exact False.elim q
end L2

namespace L2
open PySem PySem.Spec PyProof.Rows
section
variable {X : Cx} {x : Str} {p pos : Pos} {e : Expr} {es : List Expr} {t : TA} {id T : String} {r : List V → Hp → VK → Prop}

def tCB (r : List V → Hp → VK → Prop) (t : TA) : TE := fun σ H Q => t σ H fun vs H1 => r vs H1 Q
/-- f(e, ..), f a built-in function -/
theorem pe_callB (hc : CallR X (.builtin id) r) (hg : Gl X x) (hm : X.mg x = none) (hv : bootBuiltins x = some (.builtin id)) (ha : PA X (e :: es) t) (hn : x ≠ "__name__" := by decide) (hdb : (x == ("__debug__" : Str)) = false := by decide)
    (he : starEach (e :: es) X.env = (false, eval e X.env) :: starEach es X.env := by rfl) (hpl : (backTo pos (starEach es X.env)).any (·.1) = false := by rfl) : PE X (.Call (.Name x p) (e :: es) [] pos) (tCB r t) := by
  intro pins s σ H Q I h
  refine wpAny_Call_Name_kw (ld_blt I hg hm hv ?_ hn hdb)
  exact PyProof.Rows.callWith_builtin1 (thn (ha pos pins s σ H _ I h) fun us s1 ⟨vs, H1, I1, r1, q1⟩ => hc pins s1 σ H1 vs us Q I1 r1 q1) he hpl
/-- T(e, ..), T a built-in type -/
theorem pe_callTy (hc : CallR X (.type T) r) (hg : Gl X x) (hm : X.mg x = none) (hv : bootBuiltins x = some (.type T)) (ha : PA X (e :: es) t) (hn : x ≠ "__name__" := by decide) (hdb : (x == ("__debug__" : Str)) = false := by decide)
    (he : starEach (e :: es) X.env = (false, eval e X.env) :: starEach es X.env := by rfl) (hpl : (backTo pos (starEach es X.env)).any (·.1) = false := by rfl) : PE X (.Call (.Name x p) (e :: es) [] pos) (tCB r t) := by
  intro pins s σ H Q I h
  refine wpAny_Call_Name_kw (ld_blt I hg hm hv ?_ hn hdb)
  exact PyProof.Rows.callWith_type1 (thn (ha pos pins s σ H _ I h) fun us s1 ⟨vs, H1, I1, r1, q1⟩ => hc pins s1 σ H1 vs us Q I1 r1 q1) he hpl
/-- T() -/
theorem pe_callTy0 (hc : CallR X (.type T) r) (hg : Gl X x) (hm : X.mg x = none) (hv : bootBuiltins x = some (.type T)) (hn : x ≠ "__name__" := by decide) (hdb : (x == ("__debug__" : Str)) = false := by decide) :
    PE X (.Call (.Name x p) [] [] pos) (tCB r tNil) := by
  intro pins s σ H Q I h
  refine wpAny_Call_Name_kw (ld_blt I hg hm hv ?_ hn hdb)
  exact PyProof.Rows.callWith_type0 (hc pins s σ H [] [] Q I .nil h)
end
end L2

namespace HT
open PySem PyProof.Rows

/-- t < u of tuples of ints -/
def lexLt : List Int → List Int → Bool
  | [], [] => false
  | [], _ :: _ => true
  | _ :: _, [] => false
  | x :: xs, y :: ys => if x = y then lexLt xs ys else decide (x < y)
theorem lexLt_cons (x y : Int) (xs ys : List Int) : lexLt (x :: xs) (y :: ys) = if x = y then lexLt xs ys else decide (x < y) := rfl
theorem lexLt_nil_nil : lexLt [] [] = false := rfl
theorem lexLt_nil_cons (y : Int) (ys : List Int) : lexLt [] (y :: ys) = true := rfl
theorem lexLt_cons_nil (x : Int) (xs : List Int) : lexLt (x :: xs) [] = false := rfl

theorem eqAt_int (A : Around) (s : Shared) (a : Int) (t : Tok) (c : Int) (u : Tok) : ∃ e, SeqAt.EqAt A s (.int a t) (.int c u) e ∧ (e = true ↔ a = c) :=
  ⟨(a == c), SeqAt.EqAt.int_int a t c u, by simp⟩
theorem rcLt_int (A : Around) (s : Shared) (a : Int) (t : Tok) (c : Int) (u : Tok) (prog : Program) (w : World) (E : Value → Shared → Prop) (Q : Value → Shared → Prop) (h : Q (.bool (decide (a < c))) s) :
    wpAny (model prog w) A (richCompare .Lt (.int a t) (.int c u)) Q E s :=
  (PyProof.Rows.lt_int h : wpAny (model prog w) A (compareOp .Lt (.int a t) (.int c u)) Q E s)

section
open PySem.SeqAt
open PySem.AutoSeq1 (wpAny_loadPart')
open PySem.MeetsSeq PySem.MeetsSeq2 PySem.MeetsSeq3

theorem tuple_lt_ints (l b : Addr) (items items2 : Array Value) (n n2 : Nat) (dd dd2 : Option Addr) (sl sl2 : Array (Option Value)) (ns ms : List Int) (hi : IntsAre items.toList ns) (hj : IntsAre items2.toList ms) :
    Meets (Builtin.«tuple.__lt__» ⟨[.ref l, .ref b], []⟩)
      (fun _ R s => s.heap.get? l = some { cls := .type "tuple", dict := dd, data := .seq items n, slots := sl } ∧ s.heap.get? b = some { cls := .type "tuple", dict := dd2, data := .seq items2 n2, slots := sl2 } ∧
        R (.ok (.ret (.bool (lexLt ns ms)))) s) :=
  .of_wp fun prog w A R s h => by
    obtain ⟨hp, g, d, tk, os⟩ := s; obtain ⟨hl, hb, h⟩ := h
    have f2 := AutoSeq1.sub_tuple_tuple
    have z1 : items.size = ns.length := by rw [← hi.length]; simp
    have z2 : items2.size = ms.length := by rw [← hj.length]; simp
    wp_walk using wpAny_loadPart' hl, wpAny_loadPart' hb, wpAny_forIn_list _ (fun rest b s' => b.1 = none ∧ s' = ⟨hp, g, d, tk, os⟩ ∧ ∃ (vs ws : List Value) (ns' ms' : List Int), rest = vs.zip ws ∧
      IntsAre vs ns' ∧ IntsAre ws ms' ∧ ns'.length + items2.size = ms'.length + items.size ∧ R (.ok (.ret (.bool (lexLt ns' ms')))) ⟨hp, g, d, tk, os⟩) _
    case turn =>
      rintro ⟨y, x⟩ rest b s' ⟨hb', rfl, vs, ws, ns', ms', hz, hvi, hwi, hlen, hR⟩
      cases hvi with
      | nil => rw [List.zip_nil_left] at hz; cases hz
      | cons a t hvi' =>
        cases hwi with
        | nil => rw [List.zip_nil_right] at hz; cases hz
        | cons c u hwi' =>
          rw [List.zip_cons_cons] at hz
          injection hz with hyx hrest
          injection hyx with hy hx
          subst hy hx
          rw [lexLt_cons] at hR
          simp only [List.length_cons] at hlen
          obtain ⟨e, he, hiff⟩ := eqAt_int A.in1 ⟨hp, g, d, tk, os⟩ a t c u
          refine wpAny_bind (he prog w _ _ ?_)
          cases e with
          | true =>
            rw [if_pos (hiff.mp rfl)] at hR
            wp_walk
            exact ⟨rfl, rfl, _, _, _, _, hrest, hvi', hwi', by omega, hR⟩
          | false =>
            rw [if_neg (fun q => absurd (hiff.mpr q) Bool.false_ne_true)] at hR
            have hri := rcLt_int A.in1 ⟨hp, g, d, tk, os⟩ a t c u prog w
            wp_walk using hri
            exact ⟨_, rfl, by simpa using hR⟩
    case fin =>
      rintro ⟨b1, b2⟩ s' ⟨hb', rfl, vs, ws, ns', ms', hz, hvi, hwi, hlen, hR⟩
      simp only at hb'
      subst hb'
      have hv : lexLt ns' ms' = decide (items.size < items2.size) := by
        cases hvi with
        | nil =>
          cases hwi with
          | nil =>
            simp only [List.length_nil] at hlen
            rw [lexLt_nil_nil]
            exact (decide_eq_false (by omega)).symm
          | cons c u hw =>
            simp only [List.length_nil, List.length_cons] at hlen
            rw [lexLt_nil_cons]
            exact (decide_eq_true (by omega)).symm
        | cons a t hv =>
          cases hwi with
          | nil =>
            simp only [List.length_nil, List.length_cons] at hlen
            rw [lexLt_cons_nil]
            exact (decide_eq_false (by omega)).symm
          | cons c u hw =>
            rw [List.zip_cons_cons] at hz
            cases hz
      rw [hv] at hR
      wp_walk
      exact ⟨_, rfl, by simpa [Builtin.Tuple.tupleCompareSizes] using hR⟩
    case h =>
      exact ⟨rfl, rfl, items.toList, items2.toList, ns, ms, rfl, hi, hj, by omega, h⟩
end

section
variable {prog : Program} {w : World} {A : Around} {E : Value → Shared → Prop} {s : Shared}

theorem lt_tupInts {l b : Addr} {items items2 : Array Value} {ns ms : List Int} {Q : Value → Shared → Prop} (hl : IsTup s.heap l items) (hb : IsTup s.heap b items2) (hi : IntsAre items.toList ns) (hj : IntsAre items2.toList ms)
    (hu : A.units < cLine) (h : Q (.bool (lexLt ns ms)) s) : wpAny (model prog w) A (compareOp .Lt (.ref l) (.ref b)) Q E s := by
  obtain ⟨⟨cls, dd, data, sl⟩, ho, hc, n, hd⟩ := id hl
  obtain ⟨⟨cls2, dd2, data2, sl2⟩, ho2, hc2, n2, hd2⟩ := id hb
  simp only at hc hd hc2 hd2
  subst hc hd hc2 hd2
  exact richCompare_meets_room (op := .Lt) ⟨_, ho, rfl⟩ ⟨_, ho2, rfl⟩ PySem.F.slot_tuple_lt PySem.F.entry_tuple_lt (PySem.F.args_tuple_lt_2 _ _) (tuple_lt_ints l b items items2 n n2 dd dd2 sl sl2 ns ms hi hj)
    ⟨ho, ho2, show Value.bool (lexLt ns ms) ≠ Value.notImplemented ∧ Q (.bool (lexLt ns ms)) s from ⟨(fun x => nomatch x), h⟩⟩ hu

/-- t + u, t not empty -/
theorem cat_tup {t b : Addr} {vs ws : List Value} {Q : Value → Shared → Prop} (ht : IsTup s.heap t vs.toArray) (hb : IsTup s.heap b ws.toArray) (hv : vs ≠ [])
    (h1 : ws = [] → Q (.ref t) s) (h2 : ws ≠ [] → Q (.ref s.heap.objs.size) { s with heap := s.heap.push { cls := .type "tuple", data := .seq (vs ++ ws).toArray } })
    (hsz : vs.length + ws.length ≤ sizeLine) : wpAny (model prog w) A (binaryOp .Add (.ref t) (.ref b)) Q E s := by
  obtain ⟨⟨cls, dd, data, sl⟩, ho, hc, n, hd⟩ := id ht
  obtain ⟨⟨cls2, dd2, data2, sl2⟩, ho2, hc2, n2, hd2⟩ := id hb
  simp only at hc hd hc2 hd2
  subst hc hd hc2 hd2
  have e : vs.toArray ++ ws.toArray = (vs ++ ws).toArray := by simp
  by_cases hw : ws = []
  · exact concat_meets ⟨_, ho, rfl⟩ ⟨_, ho2, rfl⟩ noFill_tuple_add seq_tuple_add PySem.F.slot_tuple_add PySem.F.entry_tuple_add (PySem.F.args_tuple_add_2 _ _)
      (tuple_addW1 t b vs.toArray ws.toArray n n2 dd dd2 sl sl2 (by simpa using hv) (by simp [hw])) ⟨ho, ho2, h1 hw⟩
  · refine concat_meets ⟨_, ho, rfl⟩ ⟨_, ho2, rfl⟩ noFill_tuple_add seq_tuple_add PySem.F.slot_tuple_add PySem.F.entry_tuple_add (PySem.F.args_tuple_add_2 _ _)
      (tuple_addW2 t b vs.toArray ws.toArray n n2 dd dd2 sl sl2 (by simpa using hv) (by simpa using hw) (by rw [List.size_toArray, List.size_toArray]; exact hsz)) ⟨ho, ho2, ?_⟩
    rw [e]
    exact h2 hw

/-! ### t[a:b], not the whole -/
/-- a slice's bound as a place among n (d where it is left out) -/
def sIx (n d : Nat) : Option Int → Nat
  | none => d
  | some v => if v < 0 then (v + (n : Int)).toNat else min v.toNat n
theorem sIx_none (n d : Nat) : sIx n d none = d := rfl
theorem sIx_nat (n d k : Nat) : sIx n d (some (k : Int)) = min k n := by
  show (if (k : Int) < 0 then ((k : Int) + (n : Int)).toNat else min (k : Int).toNat n) = min k n
  rw [if_neg (by omega), Int.toNat_natCast]
theorem sIx_le (n d : Nat) (hd : d ≤ n) (o : Option Int) : sIx n d o ≤ n := by
  cases o with
  | none => exact hd
  | some v =>
    show (if v < 0 then (v + (n : Int)).toNat else min v.toNat n) ≤ n
    by_cases hv : v < 0
    · rw [if_pos hv]; omega
    · rw [if_neg hv]; exact Nat.min_le_right _ _
theorem clip_eq (v : Int) (n d : Nat) : (if v < 0 then max (v + (n : Int)) 0 else min v (n : Int)) = ((sIx n d (some v) : Nat) : Int) := by
  show (if v < 0 then max (v + (n : Int)) 0 else min v (n : Int)) = (((if v < 0 then (v + (n : Int)).toNat else min v.toNat n) : Nat) : Int)
  by_cases hv : v < 0
  · simp only [if_pos hv]; omega
  · simp only [if_neg hv]; omega
theorem adjust_gen (lo hi : Option Int) (n : Nat) : Builtin.Slice.sliceAdjust lo hi 1 (n : Int) = (((sIx n 0 lo : Nat) : Int), ((sIx n n hi : Nat) : Int)) := by
  have h1 : ¬ ((1 : Int) < 0) := by omega
  unfold Builtin.Slice.sliceAdjust
  simp only [h1, if_false]
  refine Prod.ext ?_ ?_
  · cases lo with
    | none => rfl
    | some v => exact clip_eq v n 0
  · cases hi with
    | none => rfl
    | some v => exact clip_eq v n n
theorem places_gen (i j : Nat) : Builtin.Slice.slicePlaces (i : Int) (j : Int) 1 = j - i := by
  unfold Builtin.Slice.slicePlaces
  have h1 : (1 : Int) > 0 := by omega
  simp only [h1, if_true, Int.ediv_one]
  split <;> omega
theorem slicePart_ {v : Value} {o : Option Int} {Q : Option Int → Shared → Prop} (p : IsPart v o) (h : Q o s) : wpAny (model prog w) A (Builtin.Slice.slicePartIndex v) Q E s := by
  cases p with
  | none => exact slicePart_none h
  | int i t => exact slicePart_int h
theorem sliceApplied_gen {sl : Addr} {vl vu : Value} {lo hi : Option Int} {n : Nat} {Q : Int × Int × Nat → Shared → Prop} (hs : s.heap.IsSliceOf sl vl vu .none) (pl : IsPart vl lo) (pu : IsPart vu hi)
    (h : Q (((sIx n 0 lo : Nat) : Int), 1, sIx n n hi - sIx n 0 lo) s) : wpAny (model prog w) A (Builtin.Slice.sliceApplied (.ref sl) (pure (n : Int))) Q E s := by
  obtain ⟨os, hos, hcs, hds⟩ := id hs
  unfold Builtin.Slice.sliceApplied Builtin.Slice.sliceFields
  refine wpAny_bind (wpAny_bind (wpAny_field hos hds (x := vl) rfl (wpAny_bind (wpAny_field hos hds (x := vu) rfl (wpAny_bind (wpAny_field hos hds (x := .none) rfl (wpAny_pure ?_)))))))
  refine wpAny_bind (slicePart_none ?_)
  show wpAny _ _ (if ((1 : Int) == 0) = true then _ else _) _ _ s
  rw [if_neg (by decide)]
  refine wpAny_bind (slicePart_ pl (wpAny_bind (slicePart_ pu (wpAny_bind (wpAny_pure ?_)))))
  show wpAny _ _ (match Builtin.Slice.sliceAdjust lo hi 1 (n : Int) with | (lo, hi) => pure (lo, (1 : Int), Builtin.Slice.slicePlaces lo hi 1)) _ _ s
  rw [adjust_gen lo hi n]
  show wpAny _ _ (pure (((sIx n 0 lo : Nat) : Int), (1 : Int), Builtin.Slice.slicePlaces ((sIx n 0 lo : Nat) : Int) ((sIx n n hi : Nat) : Int) 1)) _ _ s
  rw [places_gen]
  exact wpAny_pure h
theorem pick_gen (xs : Array Value) (i k : Nat) : ((List.range k).filterMap fun (m : Nat) => xs[((i : Int) + (m : Int) * 1).toNat]?).toArray = ((xs.toList.drop i).take k).toArray := by
  have e : (fun (m : Nat) => xs[((i : Int) + (m : Int) * 1).toNat]?) = fun m => xs[i + m]? := by
    funext m
    have : ((i : Int) + (m : Int) * 1).toNat = i + m := by omega
    rw [this]
  rw [e]
  have := pick_run xs i k
  rw [List.filterMap_map] at this
  have e2 : ((fun x => xs[x]?) ∘ fun x => i + x) = fun m => xs[i + m]? := rfl
  rw [e2] at this
  rw [this]

theorem getItem_tuple_cut {t sl : Addr} {items : Array Value} {vl vu : Value} {lo hi : Option Int} {Q : Value → Shared → Prop} (ht : IsTup s.heap t items) (hs : s.heap.IsSliceOf sl vl vu .none) (pl : IsPart vl lo) (pu : IsPart vu hi)
    (hw : ¬ (sIx items.size 0 lo = 0 ∧ sIx items.size items.size hi = items.size))
    (h : Q (.ref s.heap.objs.size) { s with heap := s.heap.push { cls := .type "tuple", data := .seq ((items.toList.drop (sIx items.size 0 lo)).take (sIx items.size items.size hi - sIx items.size 0 lo)).toArray } })
    (hsz : items.size ≤ sizeLine) : wpAny (model prog w) A (getItem (.ref t) (.ref sl)) Q E s := by
  have htake : sizeOk (.seq ((items.toList.drop (sIx items.size 0 lo)).take (sIx items.size items.size hi - sIx items.size 0 lo)).toArray) := by
    show ((items.toList.drop (sIx items.size 0 lo)).take (sIx items.size items.size hi - sIx items.size 0 lo)).toArray.size ≤ sizeLine
    rw [List.size_toArray, List.length_take, List.length_drop, Array.length_toList]
    omega
  have hj : sIx items.size items.size hi ≤ items.size := sIx_le _ _ (Nat.le_refl _) hi
  obtain ⟨os, hos, hcs, hds⟩ := id hs
  have hTs : s.TypeIs (.ref sl) "slice" := ⟨os, hos, hcs⟩
  unfold getItem
  try with_reducible refine wpAny_holding ?_
  first | refine wpAny_bind (wpAny_pure ?_) | skip
  refine wpAny_bind (wpAny_sequenceKey ht.typeIs (by decide) ?_)
  refine wpAny_bind (wpAny_callSpecial?_slot (name := Str.ofString "__getitem__") ht.typeIs PyProof.Rows.slot_tuple_getitem
    (wpAny_call_entry PyProof.Rows.slot_tuple_getitem ht.typeIs entry_tuple_getitem ?_ (args_tuple_getitem _ _)))
  show wpAny _ _ (Builtin.Tuple.tupleItemsOf (.ref t) >>= _) _ _ s
  refine wpAny_bind (tupleItemsOf_ ht ?_)
  refine wpAny_bind (wpAny_typeOf hTs ?_)
  rw [if_pos (by decide)]
  refine wpAny_bind (sliceApplied_gen hs pl pu ?_)
  have hno : ¬ ((((sIx items.size 0 lo : Nat) : Int) == 0 && (1 : Int) == 1 && (sIx items.size items.size hi - sIx items.size 0 lo) == items.size) = true) := by
    intro q
    rw [Bool.and_eq_true, Bool.and_eq_true] at q
    have q1 : ((sIx items.size 0 lo : Nat) : Int) = 0 := eq_of_beq q.1.1
    have q2 : sIx items.size items.size hi - sIx items.size 0 lo = items.size := eq_of_beq q.2
    exact hw ⟨by omega, by omega⟩
  show wpAny _ _ (if (((sIx items.size 0 lo : Nat) : Int) == 0 && (1 : Int) == 1 && (sIx items.size items.size hi - sIx items.size 0 lo) == items.size) = true then _ else _) _ _ s
  rw [if_neg hno, pick_gen]
  first
    | exact wpAny_bind (m := Builtin.Tuple.tupleExact _) (wpAny_newObj_type (wpAny_pure ⟨_, rfl, wpAny_pure h⟩) htake)
    | exact wpAny_bind (m := Builtin.Tuple.tupleExact _) (wpAny_newObj_type (wpAny_bind (wpAny_pure (wpAny_pure ⟨_, rfl, wpAny_pure h⟩))) htake)
    | exact wpAny_bind (wpAny_bind (m := Builtin.Tuple.tupleExact _) (wpAny_newObj_type (wpAny_pure (wpAny_pure ⟨_, rfl, wpAny_pure h⟩)) htake))
    | exact wpAny_bind (wpAny_bind (m := Builtin.Tuple.tupleExact _) (wpAny_newObj_type (wpAny_pure ⟨_, rfl, wpAny_pure h⟩) htake))
end
end HT

namespace L2
open PySem PySem.Spec PyProof.Rows

/-! ### the parts of a slice -/
abbrev TO := St → Hp → (Option Int → Hp → Prop) → Prop
/-- a slice's part (left out, or an int) -/
def PO (X : Cx) (e : Option Expr) (t : TO) : Prop :=
  ∀ (pins : List (Addr × Obj)) (s : Shared) (σ : St) (H : Hp) (Q : Option Int → Hp → Prop), Inv X pins σ H s → t σ H Q →
    wpAny (model X.prog X.w) X.A (evalPart e X.env) (fun u s' => ∃ o H', Inv X pins σ H' s' ∧ IsPart u o ∧ Q o H') X.xe s
def tNoPart : TO := fun _ H Q => Q none H
def tPart (t : TE) : TO := fun σ H Q => t σ H fun x H1 => ∃ i, x = .int i ∧ Q (some i) H1

theorem intsAre_of {ns : List Int} : ∀ {us : List Value}, Vals (ns.map V.int) us → IntsAre us ns := by
  induction ns with
  | nil => intro us r; rw [List.map_nil] at r; cases r; exact .nil
  | cons n ns ih =>
    intro us r
    rw [List.map_cons] at r
    cases r with
    | cons r1 r2 =>
      obtain ⟨t, e⟩ := r1
      subst e
      exact .cons n t (ih r2)

section
variable {X : Cx} {e : Expr} {te : TE} {lo hi : Option Expr} {tl th : TO} {pos p2 : Pos}

theorem po_none : PO X none tNoPart := by
  intro pins s σ H Q I h
  rw [evalPart_none]
  exact wpAny_pure ⟨none, H, I, .none, h⟩
theorem po_some (h : PE X e te) : PO X (some e) (tPart te) := by
  intro pins s σ H Q I hw
  rw [evalPart_some]
  refine thn (h pins s σ H _ I hw) fun u s1 ⟨x, H1, I1, r1, q1⟩ => ?_
  obtain ⟨i, rfl, q⟩ := q1
  obtain ⟨t, rfl⟩ := r1
  exact ⟨some i, H1, I1, .int i t, q⟩

/-- what a slice of a value is, by values: the slice object stands at sl -/
def SlR (X : Cx) (r : V → Option Int → Option Int → Hp → VK → Prop) : Prop :=
  ∀ (pins : List (Addr × Obj)) (s : Shared) (σ : St) (H : Hp) (x : V) (v vl vu : Value) (lo hi : Option Int) (sl : Addr) (Q : VK), Inv X pins σ H s → RelV x v → s.heap.IsSliceOf sl vl vu .none → IsPart vl lo → IsPart vu hi → r x lo hi H Q →
    ∃ T id, typeLookup (.type T) "__getitem__" = pure (some (.builtin id)) ∧ s.TypeIs v T ∧ wpAny (model X.prog X.w) X.A (getItem v (.ref sl)) (EP X pins σ Q) X.xe s
theorem SlR.or {r r' : V → Option Int → Option Int → Hp → VK → Prop} (h : SlR X r) (h' : SlR X r') : SlR X (fun x lo hi H Q => r x lo hi H Q ∨ r' x lo hi H Q) := by
  intro pins s σ H x v vl vu lo hi sl Q I rx hs pl pu q
  rcases q with q | q
  · exact h pins s σ H x v vl vu lo hi sl Q I rx hs pl pu q
  · exact h' pins s σ H x v vl vu lo hi sl Q I rx hs pl pu q
def tSl (r : V → Option Int → Option Int → Hp → VK → Prop) (te : TE) (tl th : TO) : TE := fun σ H Q => te σ H fun x H1 => tl σ H1 fun l H2 => th σ H2 fun u H3 => r x l u H3 Q
/-- a[lo:hi], any a -/
theorem pe_slice {r : V → Option Int → Option Int → Hp → VK → Prop} (hr : SlR X r) (he : PE X e te) (hl : PO X lo tl) (hu : PO X hi th) : PE X (.Subscript e (.Slice lo hi none p2) pos) (tSl r te tl th) := by
  intro pins s σ H Q I h
  refine Subscript_ (thn (he pins s σ H _ I h) fun v s1 ⟨x, H1, I1, r1, q1⟩ => ?_)
  refine wpAny_Slice (thn (hl pins s1 σ H1 _ I1 q1) fun vl s2 ⟨l, H2, I2, pl, q2⟩ => thn (hu pins s2 σ H2 _ I2 q2) fun vu s3 ⟨u, H3, I3, pu, q3⟩ => ?_)
  rw [evalPart_none]
  refine wpAny_pure ?_
  have I4 : Inv X pins σ H3 { s3 with heap := s3.heap.push { cls := .type "slice", data := .fields #[vl, vu, .none] } } := I3.kept (t' := s3.toks) fun b ob q => Heap.get?_push_of_some _ q
  obtain ⟨T, id, hT, ht, hg⟩ := hr pins { s3 with heap := s3.heap.push { cls := .type "slice", data := .fields #[vl, vu, .none] } } σ H3 x v vl vu l u s3.heap.objs.size Q I4 r1 (Heap.IsSliceOf.new ..) pl pu q3
  show wpAny (model X.prog X.w) X.A (subscriptTail e (.Slice lo hi none p2) v (.ref s3.heap.objs.size)) (EP X pins σ Q) X.xe { s3 with heap := s3.heap.push { cls := .type "slice", data := .fields #[vl, vu, .none] } }
  exact tail_any (ops := [.ref s3.heap.objs.size, v]) ht hT hg (by with_unfolding_all rfl)

/-- the items of xs[lo:hi] -/
def cutV (xs : List V) (lo hi : Option Int) : List V := (xs.drop (HT.sIx xs.length 0 lo)).take (HT.sIx xs.length xs.length hi - HT.sIx xs.length 0 lo)
theorem cutV_length (xs : List V) (lo hi : Option Int) : (cutV xs lo hi).length ≤ xs.length := by
  unfold cutV
  rw [List.length_take, List.length_drop]
  omega
/-- t[lo:hi], not the whole of it (the whole would be t itself) -/
def rSlT (K : PySem.W.Frag) : V → Option Int → Option Int → Hp → VK → Prop := fun x lo hi H Q => ∃ a xs, x = .ref a ∧ SqT K H a xs ∧
  ¬ (HT.sIx xs.length 0 lo = 0 ∧ HT.sIx xs.length xs.length hi = xs.length) ∧ ∀ p, H p = none → Q (.ref p) (upd H p (.tup (cutV xs lo hi)))
theorem sl_tup : SlR X (rSlT X.K) := by
  intro pins s σ H x v vl vu lo hi sl Q I rx hs pl pu h
  obtain ⟨a, xs, rfl, hx, hw, q⟩ := h
  cases rx
  obtain ⟨its, r, ht, hz⟩ := I.tuple hx
  have hlen : its.toArray.size = xs.length := by rw [List.size_toArray]; exact r.length.symm
  refine ⟨"tuple", _, PyProof.Rows.slot_tuple_getitem.lookup, ht.typeIs, ?_⟩
  refine HT.getItem_tuple_cut ht hs pl pu (by rw [hlen]; exact hw) ?_ (by rw [hlen]; exact hz)
  rw [hlen]
  refine ⟨.ref s.heap.objs.size, _, I.laid (t' := s.toks) (o := .tup (cutV xs lo hi)) (fun b ob q => Heap.get?_push_of_some _ q) (Nat.le_refl _) ?_, rfl, q _ (I.hok.fresh (Nat.le_refl _))⟩
  exact ⟨Nat.le_trans (cutV_length xs lo hi) hz, _, (r.drop (HT.sIx xs.length 0 lo)).take (HT.sIx xs.length xs.length hi - HT.sIx xs.length 0 lo), IsTup.new _ _⟩

/-! ### t < u, t + u -/
def rLtT (K : PySem.W.Frag) : R2 := fun x y H Q => ∃ a b ns ms, x = .ref a ∧ y = .ref b ∧ SqT K H a (ns.map V.int) ∧ SqT K H b (ms.map V.int) ∧ Q (.bl (HT.lexLt ns ms)) H
theorem op_ltT (hu : X.A.units < cLine) : OpR X (compareOp .Lt) (rLtT X.K) := by
  intro pins s σ H x y v u Q I rx ry h
  obtain ⟨a, b, ns, ms, rfl, rfl, ha, hb, q⟩ := h
  cases rx
  cases ry
  obtain ⟨its, r1, p1, _⟩ := I.tuple ha
  obtain ⟨its2, r2, p2, _⟩ := I.tuple hb
  have i1 : IntsAre its.toArray.toList ns := intsAre_of r1
  have i2 : IntsAre its2.toArray.toList ms := intsAre_of r2
  exact HT.lt_tupInts p1 p2 i1 i2 hu ⟨.bl (HT.lexLt ns ms), H, I, rfl, q⟩
/-- t + u, t not empty: u empty gives t itself -/
def rCatT (K : PySem.W.Frag) : R2 := fun x y H Q => ∃ a b xs ys, x = .ref a ∧ y = .ref b ∧ SqT K H a xs ∧ SqT K H b ys ∧ xs ≠ [] ∧ xs.length + ys.length ≤ sizeLine ∧
  (ys = [] → Q (.ref a) H) ∧ (ys ≠ [] → ∀ p, H p = none → Q (.ref p) (upd H p (.tup (xs ++ ys))))
theorem Vals.nil_iff {xs : List V} {us : List Value} (r : Vals xs us) : us = [] ↔ xs = [] := by
  cases r with
  | nil => simp
  | cons _ _ => simp
theorem op_catT : OpR X (binaryOp .Add) (rCatT X.K) := by
  intro pins s σ H x y v u Q I rx ry h
  obtain ⟨a, b, xs, ys, rfl, rfl, ha, hb, hx, hz, q1, q2⟩ := h
  cases rx
  cases ry
  obtain ⟨its, r1, p1, _⟩ := I.tuple ha
  obtain ⟨its2, r2, p2, _⟩ := I.tuple hb
  refine HT.cat_tup p1 p2 (fun z => hx (r1.nil_iff.mp z)) (fun z => ⟨.ref a, H, I, rfl, q1 (r2.nil_iff.mp z)⟩) (fun z => ?_) (by rw [← r1.length, ← r2.length]; exact hz)
  refine ⟨.ref s.heap.objs.size, _, I.laid (t' := s.toks) (o := .tup (xs ++ ys)) (fun b ob q => Heap.get?_push_of_some _ q) (Nat.le_refl _) ?_, rfl, q2 (fun w => z (r2.nil_iff.mpr w)) _ (I.hok.fresh (Nat.le_refl _))⟩
  exact ⟨by rw [List.length_append]; exact hz, _, r1.append r2, IsTup.new _ _⟩
/-- tuple(t) -/
theorem call_tupleT : CallR X (.type "tuple") (fun xs H Q => ∃ a ys, xs = [.ref a] ∧ SqT X.K H a ys ∧ Q (.ref a) H) := by
  intro pins s σ H xs us Q I r h
  obtain ⟨a, ys, rfl, ha, q⟩ := h
  obtain ⟨u, rfl, ru⟩ := vals1 r
  cases ru
  obtain ⟨its, _, p1, _⟩ := I.tuple ha
  exact call_tuple_same (items := its.toArray) p1 ⟨.ref a, H, I, rfl, q⟩
end
end L2

namespace L2
open PySem PySem.Spec PyProof.Rows

/-! ### places -/
/-- the place that an index of any sign means -/
def ixN (n : Nat) (i : Int) : Option Nat := if 0 ≤ i then (if i < n then some i.toNat else none) else if -(n : Int) ≤ i then some (i + n).toNat else none
def atI {α : Type} (xs : List α) (i : Int) : Option α := (ixN xs.length i).bind fun j => xs[j]?
theorem ixN_seq {n : Nat} {i : Int} {j : Nat} (h : ixN n i = some j) : seqIndex? i n = some j ∧ j < n ∧ -(n : Int) ≤ i ∧ i < n := by
  unfold ixN at h
  by_cases h0 : 0 ≤ i
  · rw [if_pos h0] at h
    by_cases h1 : i < n
    · rw [if_pos h1] at h
      have e : i.toNat = j := Option.some.inj h
      exact ⟨by rw [seqIndex_of h0 h1, e], by omega, by omega, h1⟩
    · rw [if_neg h1] at h; cases h
  · rw [if_neg h0] at h
    by_cases h1 : -(n : Int) ≤ i
    · rw [if_pos h1] at h
      have e : (i + n).toNat = j := Option.some.inj h
      exact ⟨by rw [seqIndex_neg (by omega) h1, e], by omega, h1, by omega⟩
    · rw [if_neg h1] at h; cases h
theorem atI_get {α : Type} {xs : List α} {i : Int} {v : α} (h : atI xs i = some v) : ∃ j, seqIndex? i xs.length = some j ∧ xs[j]? = some v ∧ j < xs.length ∧ -(xs.length : Int) ≤ i ∧ i < xs.length := by
  unfold atI at h
  cases e : ixN xs.length i with
  | none => rw [e] at h; cases h
  | some j =>
    rw [e] at h
    obtain ⟨h1, h2, h3, h4⟩ := ixN_seq e
    exact ⟨j, h1, h, h2, h3, h4⟩
theorem atI_nat {α : Type} {xs : List α} {j : Nat} {v : α} (h : xs[j]? = some v) : atI xs (j : Int) = some v := by
  have hj : j < xs.length := (List.getElem?_eq_some_iff.mp h).1
  have e : ixN xs.length (j : Int) = some j := by
    unfold ixN
    rw [if_pos (by omega), if_pos (by omega)]; simp
  unfold atI; rw [e]; exact h
theorem atI_last {α : Type} (xs : List α) (v : α) : atI (xs ++ [v]) (-1) = some v := by
  have hl : (xs ++ [v]).length = xs.length + 1 := by simp
  have e : ixN (xs ++ [v]).length (-1) = some xs.length := by
    unfold ixN
    rw [hl, if_neg (by decide), if_pos (by omega)]
    congr 1
    omega
  unfold atI
  rw [e]
  show (xs ++ [v])[xs.length]? = some v
  simp

/-! ### what may be subscripted -/
/-- what stands as an index of a plain subscript -/
def PlainIx (b : Expr) : Prop := ∀ o i, subscripted b false o i = operate [o, i] (getItem o i)
/-- a subscript by values -/
def IxR (X : Cx) (r : R2) : Prop :=
  ∀ (value slice : Expr) (pins : List (Addr × Obj)) (s : Shared) (σ : St) (H : Hp) (x y : V) (v u : Value) (Q : VK), Inv X pins σ H s → RelV x v → RelV y u → r x y H Q →
    subscripted slice false v u = operate [v, u] (getItem v u) → wpAny (model X.prog X.w) X.A (subscriptTail value slice v u) (EP X pins σ Q) X.xe s
/-- a call of a builtin's method by values: the receiver, the arguments -/
def MtR (X : Cx) (id : String) (r : V → List V → Hp → VK → Prop) : Prop :=
  ∀ (pins : List (Addr × Obj)) (s : Shared) (σ : St) (H : Hp) (x : V) (xs : List V) (v : Value) (us : List Value) (Q : VK), Inv X pins σ H s → RelV x v → Vals xs us → r x xs H Q →
    wpAny (model X.prog X.w) X.A (call (.builtin id) (v :: us)) (EP X pins σ Q) X.xe s
section
variable {X : Cx} {a b : Expr} {ta tb : TE} {pos : Pos}
theorem IxR.or {r r' : R2} (h : IxR X r) (h' : IxR X r') : IxR X (fun x y H Q => r x y H Q ∨ r' x y H Q) := by
  intro value slice pins s σ H x y v u Q I rx ry q hs
  rcases q with q | q
  · exact h value slice pins s σ H x y v u Q I rx ry q hs
  · exact h' value slice pins s σ H x y v u Q I rx ry q hs
theorem MtR.or {id : String} {r r' : V → List V → Hp → VK → Prop} (h : MtR X id r) (h' : MtR X id r') : MtR X id (fun x xs H Q => r x xs H Q ∨ r' x xs H Q) := by
  intro pins s σ H x xs v us Q I rx rs q
  rcases q with q | q
  · exact h pins s σ H x xs v us Q I rx rs q
  · exact h' pins s σ H x xs v us Q I rx rs q
/-- a[b] -/
theorem pe_ix {r : R2} (hr : IxR X r) (ha : PE X a ta) (hb : PE X b tb) (hs : PlainIx b) : PE X (.Subscript a b pos) (tOp r ta tb) := by
  intro pins s σ H Q I h
  exact Subscript_ (binT ha hb I h fun v u s2 x y H2 I2 rx ry q => hr a b pins s2 σ H2 x y v u Q I2 rx ry q (hs _ _))

def rIxL (K : PySem.W.Frag) : R2 := fun x y H Q => ∃ p xs i v, x = .ref p ∧ y = .int i ∧ SqL K H p xs ∧ atI xs i = some v ∧ Q v H
def rIxT (K : PySem.W.Frag) : R2 := fun x y H Q => ∃ p xs i v, x = .ref p ∧ y = .int i ∧ SqT K H p xs ∧ atI xs i = some v ∧ Q v H
def rIxS : R2 := fun x y H Q => ∃ z i c, x = .str z ∧ y = .int i ∧ z.length ≤ sizeLine ∧ atI z.cps.toList i = some c ∧ Q (.str ⟨#[c]⟩) H
theorem ix_list : IxR X (rIxL X.K) := by
  intro value slice pins s σ H x y v u Q I rx ry h hs
  obtain ⟨p, xs, i, z, rfl, rfl, hq, he, q⟩ := h
  cases rx
  obtain ⟨t, rfl⟩ := ry
  obtain ⟨its, r, pl, hz⟩ := I.list hq
  obtain ⟨j, h1, h2, h3, h4, h5⟩ := atI_get he
  obtain ⟨w, ew, rw'⟩ := r.get h2
  have hl := r.length
  have hn := line63
  have fin : EP X pins σ Q w s := ⟨z, H, I, rw', q⟩
  by_cases h0 : 0 ≤ i
  · have hj : i.toNat = j := by
      rw [seqIndex_of h0 h5] at h1
      exact Option.some.inj h1
    exact item_listR pl.isList h0 (by omega) (by rw [hj]; simpa using ew) fin hs
  · have hj : (i + (its.toArray.size : Int)).toNat = j := by
      rw [seqIndex_neg (by omega) h4] at h1
      rw [List.size_toArray, ← hl]
      exact Option.some.inj h1
    exact subscriptTail_builtinR (x := w) pl.isList.typeIs slot_list_getitem.lookup
      (wpAny_getItem_list_neg (Q := fun r s' => r = w ∧ EP X pins σ Q r s') pl.isList (by omega) (by rw [List.size_toArray] <;> omega) (by omega) (by rw [hj]; simpa using ew) ⟨rfl, fin⟩) hs
theorem ix_tup : IxR X (rIxT X.K) := by
  intro value slice pins s σ H x y v u Q I rx ry h hs
  obtain ⟨p, xs, i, z, rfl, rfl, hq, he, q⟩ := h
  cases rx
  obtain ⟨t, rfl⟩ := ry
  obtain ⟨its, r, pl, hz⟩ := I.tuple hq
  obtain ⟨j, h1, h2, h3, h4, h5⟩ := atI_get he
  obtain ⟨w, ew, rw'⟩ := r.get h2
  have hl := r.length
  have hn := line63
  have fin : EP X pins σ Q w s := ⟨z, H, I, rw', q⟩
  exact subscriptTail_builtinR (x := w) pl.typeIs slot_tuple_getitem.lookup
    (getItem_tuple (j := j) (Q := fun r s' => r = w ∧ EP X pins σ Q r s') pl (by omega) (by omega) (by rw [List.size_toArray, ← hl]; exact h1) (by simpa using ew) ⟨rfl, fin⟩) hs
theorem ix_str : IxR X rIxS := by
  intro value slice pins s σ H x y v u Q I rx ry h hs
  obtain ⟨z, i, c, rfl, rfl, hz, he, q⟩ := h
  obtain ⟨t, rfl⟩ := rx
  obtain ⟨t', rfl⟩ := ry
  obtain ⟨j, h1, h2, h3, h4, h5⟩ := atI_get he
  have hl : z.cps.toList.length = z.length := by simp [Str.length]
  rw [hl] at h1 h4 h5
  have hn := line63
  exact tail_any (typeIs_str s z t) slot_str_getitem.lookup (getItem_str (c := c) (by
    have e1 : decide (i < -(2 ^ 63 : Int)) = false := decide_eq_false (by omega)
    have e2 : decide (i ≥ 2 ^ 63) = false := decide_eq_false (by omega)
    rw [e1, e2, Bool.or_false]) (by rw [h1]; simpa using h2) ⟨.str ⟨#[c]⟩, H, I.tok _, ⟨_, rfl⟩, q⟩) hs
/-- list, tuple or str -/
def rIx (K : PySem.W.Frag) : R2 := fun x y H Q => rIxL K x y H Q ∨ rIxT K x y H Q ∨ rIxS x y H Q
theorem ix_seq : IxR X (rIx X.K) := ix_list.or (ix_tup.or ix_str)

/-! ### xs[i] = v, any sign -/
/-- the list's object behind a store -/
theorem mapSeq_set (its : List Value) (n j : Nat) (u : Value) : Obj.mapSeq (·.setIfInBounds j u) { cls := .type "list", data := .seq its.toArray n } = { cls := .type "list", data := .seq (its.set j u).toArray n } := by
  simp [Obj.mapSeq]
theorem Inv.lst {pins : List (Addr × Obj)} {σ : St} {H : Hp} {s : Shared} {p : Addr} {xs : List V} (I : Inv X pins σ H s) (h : H p = some (.lst xs)) :
    ∃ (its : List Value) (n : Nat), Vals xs its ∧ s.heap.get? p = some { cls := .type "list", data := .seq its.toArray n } ∧ xs.length ≤ sizeLine := by
  obtain ⟨z, its, n, r, e⟩ := I.hok p _ h
  exact ⟨its, n, r, e, z⟩
/-- the list at p is written by an update of its object -/
theorem Inv.lstUpd {pins : List (Addr × Obj)} {σ : St} {H : Hp} {s : Shared} {p : Addr} {xs ys : List V} {its its' : List Value} {n n' : Nat} {f : Obj → Obj} (I : Inv X pins σ H s) (h : H p = some (.lst xs))
    (ho : s.heap.get? p = some { cls := .type "list", data := .seq its.toArray n }) (hf : f { cls := .type "list", data := .seq its.toArray n } = { cls := .type "list", data := .seq its'.toArray n' }) (r : Vals ys its') (hz : ys.length ≤ sizeLine) (t : Nat) :
    Inv X pins σ (upd H p (.lst ys)) { s with heap := s.heap.update p f, toks := t } := by
  have e : (s.heap.update p f).get? p = some { cls := .type "list", data := .seq its'.toArray n' } := by
    rw [Heap.get?_update_self f ho (by rw [hf] <;> rfl), hf]
  refine I.write (x := p) (e := p) (by rw [h]; trivial) (.inl rfl) (fun b u hb q => (Heap.get?_update_other _ _ (Ne.symm hb)).trans q) ⟨_, e⟩ ?_
  exact ⟨hz, its', n', r, e⟩
def rSetL : V → V → V → Hp → (Hp → Prop) → Prop := fun o i v H Q => ∃ p xs k j, o = .ref p ∧ i = .int k ∧ H p = some (.lst xs) ∧ ixN xs.length k = some j ∧ Q (upd H p (.lst (xs.set j v)))
theorem set_list : PSet X rSetL := by
  intro pins s σ H o i v ov iv u Q I ro ri rv h
  obtain ⟨p, xs, k, j, rfl, rfl, hp, hj, q⟩ := h
  cases ro
  obtain ⟨t, rfl⟩ := ri
  obtain ⟨its, n, r, ho, hz⟩ := I.lst hp
  obtain ⟨h1, h2, h3, h4⟩ := ixN_seq hj
  have hl := r.length
  have hn := line63
  have I' : Inv X pins σ (upd H p (.lst (xs.set j v))) { s with heap := s.heap.update p (Obj.mapSeq (·.setIfInBounds j u)) } :=
    I.lstUpd hp ho (mapSeq_set its n j u) (r.set rv j) (by rw [List.length_set]; exact hz) s.toks
  by_cases h0 : 0 ≤ k
  · have hk : k.toNat = j := by
      rw [seqIndex_of h0 h4] at h1
      exact Option.some.inj h1
    exact PySem.W.ki_setAt ho h0 (by omega) (by rw [List.size_toArray, ← hl]; exact h4) (by rw [hk]; exact ⟨_, I', q⟩)
  · have hk : (k + (its.toArray.size : Int)).toNat = j := by
      rw [seqIndex_neg (by omega) h3] at h1
      rw [List.size_toArray, ← hl]
      exact Option.some.inj h1
    exact PySem.W.ki_setBack ho (by omega) (by rw [List.size_toArray, ← hl]; exact h3) (by omega) (by rw [hk]; exact ⟨_, I', q⟩)

/-! ### slices -/
theorem slice_bounds (lo hi : Option Int) (n : Nat) : (sliceBounds lo hi none n).1 = ((HT.sIx n 0 lo : Nat) : Int) ∧ (sliceBounds lo hi none n).2.1 = ((HT.sIx n n hi : Nat) : Int) ∧ (sliceBounds lo hi none n).2.2 = 1 := by
  refine ⟨?_, ?_, rfl⟩
  · cases lo with
    | none => simp [sliceBounds, HT.sIx]
    | some i =>
      simp only [sliceBounds, HT.sIx, Option.getD_none, show (1 : Int) > 0 by decide, if_true]
      by_cases h : i < 0
      · simp only [h, if_true] <;> omega
      · simp only [h, if_false] <;> omega
  · cases hi with
    | none => simp [sliceBounds, HT.sIx]
    | some i =>
      simp only [sliceBounds, HT.sIx, Option.getD_none, show (1 : Int) > 0 by decide, if_true]
      by_cases h : i < 0
      · simp only [h, if_true] <;> omega
      · simp only [h, if_false] <;> omega
theorem slicePick_cut (its : List Value) (lo hi : Option Int) : slicePick its.toArray lo hi none = ((its.drop (HT.sIx its.length 0 lo)).take (HT.sIx its.length its.length hi - HT.sIx its.length 0 lo)).toArray := by
  obtain ⟨h1, h2, h3⟩ := slice_bounds lo hi its.toArray.size
  unfold slicePick
  rw [h1, h2, h3]
  simp only [sliceRange_one, pick_run, List.size_toArray] <;> rfl
/-- xs[lo:hi] of a list: a new list -/
def rSlL (K : PySem.W.Frag) : V → Option Int → Option Int → Hp → VK → Prop := fun x lo hi H Q => ∃ a xs, x = .ref a ∧ SqL K H a xs ∧ ∀ p, H p = none → Q (.ref p) (upd H p (.lst (cutV xs lo hi)))
theorem sl_list : SlR X (rSlL X.K) := by
  intro pins s σ H x v vl vu lo hi sl Q I rx hs pl pu h
  obtain ⟨a, xs, rfl, hx, q⟩ := h
  cases rx
  obtain ⟨its, r, ht, hz⟩ := I.list hx
  have hlen := r.length
  refine ⟨"list", _, slot_list_getitem.lookup, ht.isList.typeIs, ?_⟩
  refine wpAny_getItem_list_slice ht.isList hs pl pu .none (by simp) ?_ (by rw [List.size_toArray] <;> omega)
  rw [slicePick_cut, ← hlen]
  refine ⟨.ref s.heap.objs.size, _, I.laid (t' := s.toks) (o := .lst (cutV xs lo hi)) (fun b ob q => Heap.get?_push_of_some _ q) (Nat.le_refl _) ?_, rfl, q _ (I.hok.fresh (Nat.le_refl _))⟩
  exact ⟨Nat.le_trans (cutV_length xs lo hi) hz, _, 0, (r.drop (HT.sIx xs.length 0 lo)).take (HT.sIx xs.length xs.length hi - HT.sIx xs.length 0 lo), Heap.get?_push_size _ rfl⟩

/-! ### in, not in: flat items -/
def flatV : V → Bool
  | .non => true
  | .bl _ => true
  | .int _ => true
  | .str _ => true
  | _ => false
/-- == of flat values -/
def eqV : V → V → Bool
  | .non, .non => true
  | .bl a, .bl b => a == b
  | .bl a, .int b => (if a then 1 else 0) == b
  | .int a, .bl b => a == (if b then 1 else 0)
  | .int a, .int b => a == b
  | .str a, .str b => a == b
  | _, _ => false
theorem eqAt_V {A : Around} {s : Shared} {y x : V} {u v : Value} (ry : RelV y u) (rx : RelV x v) (fy : flatV y = true) (fx : flatV x = true) : SeqAt.EqAt A s u v (eqV y x) := by
  cases y with
  | non =>
    cases ry
    cases x with
    | non => cases rx; exact SeqAt.EqAt.same _
    | bl b => cases rx; exact SeqAt.EqAt.none_bool b
    | int b => obtain ⟨t, rfl⟩ := rx; exact SeqAt.EqAt.none_int b t
    | str b => obtain ⟨t, rfl⟩ := rx; exact SeqAt.EqAt.none_str b t
    | _ => exact absurd (show false = true from fx) Bool.false_ne_true
  | bl a =>
    cases ry
    cases x with
    | non => cases rx; exact SeqAt.EqAt.bool_none a
    | bl b => cases rx; exact SeqAt.EqAt.bool_bool a b
    | int b => obtain ⟨t, rfl⟩ := rx; exact SeqAt.EqAt.bool_int a b t
    | str b => obtain ⟨t, rfl⟩ := rx; exact SeqAt.EqAt.bool_str a b t
    | _ => exact absurd (show false = true from fx) Bool.false_ne_true
  | int a =>
    obtain ⟨t', rfl⟩ := ry
    cases x with
    | non => cases rx; exact SeqAt.EqAt.int_none a t'
    | bl b => cases rx; exact SeqAt.EqAt.int_bool a t' b
    | int b => obtain ⟨t, rfl⟩ := rx; exact SeqAt.EqAt.int_int a t' b t
    | str b => obtain ⟨t, rfl⟩ := rx; exact SeqAt.EqAt.int_str a t' b t
    | _ => exact absurd (show false = true from fx) Bool.false_ne_true
  | str a =>
    obtain ⟨t', rfl⟩ := ry
    cases x with
    | non => cases rx; exact SeqAt.EqAt.str_none a t'
    | bl b => cases rx; exact SeqAt.EqAt.str_bool a t' b
    | int b => obtain ⟨t, rfl⟩ := rx; exact SeqAt.EqAt.str_int a t' b t
    | str b => obtain ⟨t, rfl⟩ := rx; exact SeqAt.EqAt.str_str a t' b t
    | _ => exact absurd (show false = true from fx) Bool.false_ne_true
  | _ => exact absurd (show false = true from fy) Bool.false_ne_true
/-- the items' answers, read off the values (a value's own answer does not lean on its token) -/
def eqU (x : V) (u : Value) : Bool := match u with
  | .none => eqV .non x
  | .bool b => eqV (.bl b) x
  | .int i _ => eqV (.int i) x
  | .str z _ => eqV (.str z) x
  | _ => false
theorem eqU_of {x y : V} {u : Value} (r : RelV y u) (f : flatV y = true) : eqU x u = eqV y x := by
  cases y with
  | non => cases r; rfl
  | bl b => cases r; rfl
  | int i => obtain ⟨t, rfl⟩ := r; rfl
  | str z => obtain ⟨t, rfl⟩ := r; rfl
  | _ => exact absurd (show false = true from f) Bool.false_ne_true
theorem any_eqU {x : V} : ∀ {xs : List V} {us : List Value}, Vals xs us → xs.all flatV = true → us.any (eqU x) = xs.any fun y => eqV y x
  | _, _, .nil, _ => rfl
  | y :: xs, u :: us, .cons r t, f => by
    rw [List.all_cons, Bool.and_eq_true] at f
    rw [List.any_cons, List.any_cons, eqU_of r f.1, any_eqU t f.2]
theorem mem_eqAt {A : Around} {s : Shared} {x : V} {v : Value} (rx : RelV x v) (fx : flatV x = true) : ∀ {xs : List V} {us : List Value}, Vals xs us → xs.all flatV = true → ∀ u ∈ us, SeqAt.EqAt A s u v (eqU x u)
  | _, _, .nil, _ => fun u hu => by cases hu
  | y :: xs, u :: us, .cons r t, f => fun u' hu => by
    rw [List.all_cons, Bool.and_eq_true] at f
    rcases List.mem_cons.mp hu with rfl | hu
    · rw [eqU_of r f.1]; exact eqAt_V r rx f.1 fx
    · exact mem_eqAt rx fx t f.2 u' hu
def inV (x : V) (xs : List V) : Bool := xs.any fun y => eqV y x
/-- x in a list or tuple of flat items -/
def rIn (K : PySem.W.Frag) (neg : Bool) : R2 := fun x y H Q => ∃ p xs, y = .ref p ∧ (SqL K H p xs ∨ SqT K H p xs) ∧ flatV x = true ∧ xs.all flatV = true ∧ Q (.bl (if neg then !inV x xs else inV x xs)) H
theorem op_in_seq : OpR X (compareOp .In) (rIn X.K false) := by
  intro pins s σ H x y v u Q I rx ry h
  obtain ⟨p, xs, rfl, hq, fx, fs, q⟩ := h
  cases ry
  rcases hq with hq | hq
  · obtain ⟨its, r, pl, hz⟩ := I.list hq
    refine SeqAt.in_listAt (eqU x) pl.isList (fun w hw => mem_eqAt rx fx r fs w (by simpa using hw)) ⟨.bl _, H, I, rfl, ?_⟩
    rw [show its.toArray.any (eqU x) = its.any (eqU x) by simp, any_eqU r fs]
    exact q
  · obtain ⟨its, r, pl, hz⟩ := I.tuple hq
    refine SeqAt.in_tupleAt (eqU x) pl (fun w hw => mem_eqAt rx fx r fs w (by simpa using hw)) ⟨.bl _, H, I, rfl, ?_⟩
    rw [show its.toArray.any (eqU x) = its.any (eqU x) by simp, any_eqU r fs]
    exact q
theorem op_notIn_seq : OpR X (compareOp .NotIn) (rIn X.K true) := by
  intro pins s σ H x y v u Q I rx ry h
  obtain ⟨p, xs, rfl, hq, fx, fs, q⟩ := h
  cases ry
  rcases hq with hq | hq
  · obtain ⟨its, r, pl, hz⟩ := I.list hq
    refine SeqAt.notIn_listAt (eqU x) pl.isList (fun w hw => mem_eqAt rx fx r fs w (by simpa using hw)) ⟨.bl _, H, I, rfl, ?_⟩
    rw [show its.toArray.any (eqU x) = its.any (eqU x) by simp, any_eqU r fs]
    exact q
  · obtain ⟨its, r, pl, hz⟩ := I.tuple hq
    refine SeqAt.notIn_tupleAt (eqU x) pl (fun w hw => mem_eqAt rx fx r fs w (by simpa using hw)) ⟨.bl _, H, I, rfl, ?_⟩
    rw [show its.toArray.any (eqU x) = its.any (eqU x) by simp, any_eqU r fs]
    exact q
theorem op_notIn_str : OpR X (compareOp .NotIn) (fun x y H Q => ∃ i j, x = .str i ∧ y = .str j ∧ Q (.bl (!(!(Builtin.Str.occurrences j i 0 j.length 1).isEmpty))) H) := by
  intro pins s σ H x y v u Q I rx ry h
  obtain ⟨i, j, rfl, rfl, q⟩ := h
  obtain ⟨t, rfl⟩ := rx
  obtain ⟨t', rfl⟩ := ry
  exact notIn_str ⟨.bl _, H, I, rfl, q⟩

/-! ### len, list(x), tuple(x) of any list or tuple that is read -/
theorem call_len_seq : CallR X (.builtin "len") (fun xs H Q => ∃ p ys, xs = [.ref p] ∧ (SqL X.K H p ys ∨ SqT X.K H p ys) ∧ Q (.int ys.length) H) := by
  intro pins s σ H xs us Q I r h
  obtain ⟨p, ys, rfl, hq, q⟩ := h
  obtain ⟨u, rfl, rx⟩ := vals1 r
  cases rx
  have hn := line63
  rcases hq with hq | hq
  · obtain ⟨its, r', pl, hz⟩ := I.list hq
    have hlen := r'.length
    exact Calls.call_len_list pl.isList (by simp only [List.size_toArray] <;> omega) ⟨.int ys.length, H, I.tok _, ⟨s.toks + 1, by rw [List.size_toArray, hlen]⟩, q⟩
  · obtain ⟨its, r', pl, hz⟩ := I.tuple hq
    have hlen := r'.length
    exact len_tuple pl (by simp only [List.size_toArray] <;> omega) ⟨.int ys.length, H, I.tok _, ⟨s.toks + 1, by rw [List.size_toArray, hlen]⟩, q⟩
theorem call_len_str : CallR X (.builtin "len") (fun xs H Q => ∃ z, xs = [.str z] ∧ z.length ≤ sizeLine ∧ Q (.int z.length) H) := by
  intro pins s σ H xs us Q I r h
  obtain ⟨z, rfl, hz, q⟩ := h
  obtain ⟨u, rfl, t, rfl⟩ := vals1 r
  have hn := line63
  exact len_str (by omega) ⟨.int z.length, H, I.tok _, ⟨_, rfl⟩, q⟩
theorem CallR.or {f : Value} {r r' : List V → Hp → VK → Prop} (h : CallR X f r) (h' : CallR X f r') : CallR X f (fun xs H Q => r xs H Q ∨ r' xs H Q) := by
  intro pins s σ H xs us Q I rs q
  rcases q with q | q
  · exact h pins s σ H xs us Q I rs q
  · exact h' pins s σ H xs us Q I rs q
theorem call_list_of : CallR X (.type "list") (fun xs H Q => ∃ p ys, xs = [.ref p] ∧ (SqL X.K H p ys ∨ SqT X.K H p ys) ∧ ∀ l, H l = none → Q (.ref l) (upd H l (.lst ys))) := by
  intro pins s σ H xs us Q I r h
  obtain ⟨p, ys, rfl, hq, q⟩ := h
  obtain ⟨u, rfl, rx⟩ := vals1 r
  cases rx
  have fin : ∀ (its : List Value), Vals ys its → ys.length ≤ sizeLine → ∀ (h' : Heap) (c' : Nat), (∀ b o', s.heap.get? b = some o' → h'.get? b = some o') →
      h'.get? s.heap.objs.size = some { cls := .type "list", dict := none, data := .seq its.toArray c', slots := #[] } → EP X pins σ Q (.ref s.heap.objs.size) { s with heap := h' } := fun its r' hz h' c' kp e =>
    ⟨.ref s.heap.objs.size, _, I.laid (t' := s.toks) kp (Nat.le_refl _) (show ObjOk X.prog X.w _ h' _ (.lst ys) from ⟨hz, its, c', r', e⟩), rfl, q _ (I.hok.fresh (Nat.le_refl _))⟩
  rcases hq with hq | hq
  · obtain ⟨its, r', pl, hz⟩ := I.list hq
    have hlen := r'.length
    obtain ⟨o, ho, hc, n, hd⟩ := pl.isList
    exact call_list_seq p (.inl rfl) ho hc hd (fun h' c' kp e => fin its r' hz h' c' kp e) (by simp only [List.size_toArray] <;> omega)
  · obtain ⟨its, r', pl, hz⟩ := I.tuple hq
    have hlen := r'.length
    obtain ⟨o, ho, hc, n, hd⟩ := pl
    exact call_list_seq p (.inr rfl) ho hc hd (fun h' c' kp e => fin its r' hz h' c' kp e) (by simp only [List.size_toArray] <;> omega)
theorem call_tuple_of : CallR X (.type "tuple") (fun xs H Q => ∃ p ys, xs = [.ref p] ∧ ((SqL X.K H p ys ∧ ∀ l, H l = none → Q (.ref l) (upd H l (.tup ys))) ∨ (SqT X.K H p ys ∧ Q (.ref p) H))) := by
  intro pins s σ H xs us Q I r h
  obtain ⟨p, ys, rfl, h⟩ := h
  obtain ⟨u, rfl, rx⟩ := vals1 r
  cases rx
  rcases h with ⟨hq, q⟩ | ⟨hq, q⟩
  · obtain ⟨its, r', pl, hz⟩ := I.list hq
    have hlen := r'.length
    refine call_tuple_list pl.isList (fun h' kp => ?_) (by simp only [List.size_toArray] <;> omega)
    have I1 : Inv X pins σ H { s with heap := h' } := I.kept (t' := s.toks) kp
    have I2 : Inv X pins σ (upd H h'.objs.size (.tup ys)) { s with heap := h'.push { cls := .type "tuple", data := .seq its.toArray } } :=
      I1.laid (t' := s.toks) (fun b o e => Heap.get?_push_of_some _ e) (Nat.le_refl _) (show ObjOk X.prog X.w _ _ _ (.tup ys) from ⟨hz, its, r', IsTup.new _ _⟩)
    exact ⟨.ref h'.objs.size, _, I2, rfl, q _ (I1.hok.fresh (Nat.le_refl _))⟩
  · obtain ⟨its, r', pl, hz⟩ := I.tuple hq
    exact call_tuple_same pl ⟨.ref p, H, I, rfl, q⟩

/-! ### the call of a builtin's method: o.m(..) -/
/-- the value is of that builtin type -/
def tyV (K : PySem.W.Frag) (T : String) (x : V) (H : Hp) : Prop := match x with
  | .str _ => T = "str"
  | .int _ => T = "int"
  | .ref p => (T = "list" ∧ ∃ xs, SqL K H p xs) ∨ (T = "tuple" ∧ ∃ o, K.lookup p = some o ∧ o.cls = .type "tuple" ∧ o.dict = none) ∨
      (T = "dict" ∧ ((∃ kvs, H p = some (.dK kvs)) ∨ ∃ kvs, H p = some (.dT kvs))) ∨ (T = "set" ∧ ∃ S n, H p = some (.set S n))
  | _ => False
theorem tyV_is {pins : List (Addr × Obj)} {σ : St} {H : Hp} {s : Shared} {T : String} {x : V} {v : Value} (I : Inv X pins σ H s) (r : RelV x v) (ty : tyV X.K T x H) :
    s.TypeIs v T ∧ ∀ a, v = .ref a → ∃ ob, s.heap.get? a = some ob ∧ ob.dict = none := by
  cases x with
  | str z =>
    obtain ⟨t, rfl⟩ := r
    cases (show T = "str" from ty)
    exact ⟨typeIs_str s z t, fun _ e => nomatch e⟩
  | int i =>
    obtain ⟨t, rfl⟩ := r
    cases (show T = "int" from ty)
    exact ⟨typeIs_int s i t, fun _ e => nomatch e⟩
  | ref p =>
    cases r
    rcases ty with ⟨rfl, xs, hq⟩ | ⟨rfl, o, hk, hc, hd⟩ | ⟨rfl, hk⟩ | ⟨rfl, S, n, hk⟩
    · obtain ⟨its, _, pl, _⟩ := I.list hq
      refine ⟨pl.isList.typeIs, fun a e => ?_⟩
      cases e
      obtain ⟨o, n, e, c, hd, _⟩ := pl
      exact ⟨o, e, hd⟩
    · refine ⟨⟨o, I.kIn p o hk, hc⟩, fun a e => ?_⟩
      cases e
      exact ⟨o, I.kIn _ o hk, hd⟩
    · have z : ∃ o, s.heap.get? p = some o ∧ o.ExactDict := by
        rcases hk with ⟨kvs, hk⟩ | ⟨kvs, hk⟩
        · obtain ⟨_, _, _, _, o, _, _, e, ex, _⟩ := I.hok p _ hk
          exact ⟨o, e, ex⟩
        · obtain ⟨_, _, _, _, o, _, _, e, ex, _⟩ := I.hok p _ hk
          exact ⟨o, e, ex⟩
      obtain ⟨o, e, ex⟩ := z
      refine ⟨⟨o, e, ex.1⟩, fun a e2 => ?_⟩
      cases e2
      exact ⟨o, e, ex.2.1⟩
    · obtain ⟨o, _, _, _, e, ex, _⟩ := I.hok p _ hk
      refine ⟨⟨o, e, ex.1⟩, fun a e2 => ?_⟩
      cases e2
      exact ⟨o, e, ex.2.1⟩
  | _ => exact False.elim ty
def tBM0 (K : PySem.W.Frag) (T : String) (r : V → List V → Hp → VK → Prop) (to : TE) : TE := fun σ H Q => to σ H fun x H1 => tyV K T x H1 ∧ r x [] H1 Q
def tBM (K : PySem.W.Frag) (T : String) (r : V → List V → Hp → VK → Prop) (to : TE) (t : TA) : TE := fun σ H Q => to σ H fun x H1 => tyV K T x H1 ∧ t σ H1 fun xs H2 => r x xs H2 Q
variable {o e : Expr} {es : List Expr} {to : TE} {t : TA} {name : Str} {apos cpos : Pos} {T id : String} {r : V → List V → Hp → VK → Prop}
theorem pe_bm0 (pa : PlainAttrs T) (slot : Slot T name id) (hty : typeOf (.builtin id) = pure (.type "method_descriptor")) (hm : MtR X id r) (ho : PE X o to)
    (hbase : attributeBase o name X.env (eval o X.env) = eval o X.env := by rfl) (hline : (apos.endLine == cpos.line) = true := by rfl) : PE X (.Call (.Attribute o name apos) [] [] cpos) (tBM0 X.K T r to) := by
  intro pins s σ H Q I h
  refine wpAny_Call_method0_late hbase hline (thn (ho pins s σ H _ I h) fun v s1 ⟨x, H1, I1, r1, ty, q1⟩ => ?_)
  obtain ⟨h1, h2⟩ := tyV_is I1 r1 ty
  exact ⟨T, id, pa, slot, hty, h1, h2, Calls.callWith_builtin rfl (PySem.evalArgs_none (hm pins s1 σ H1 x [] v [] Q I1 r1 .nil q1))⟩
theorem pe_bm (pa : PlainAttrs T) (slot : Slot T name id) (hty : typeOf (.builtin id) = pure (.type "method_descriptor")) (hm : MtR X id r) (ho : PE X o to) (ha : PA X (e :: es) t)
    (hbase : attributeBase o name X.env (eval o X.env) = eval o X.env := by rfl)
    (hfew : ((backTo cpos (starEach (e :: es) X.env)).all (fun x => !x.1) && (backToKw cpos (keywordEach [] X.env)).all (fun x => x.1.isSome)
      && decide ((e :: es).length + ([] : List Keyword).length + (if ([] : List Keyword).isEmpty then 0 else 1) < 30)) = true := by rfl)
    (hline : (apos.endLine == cpos.line) = true := by rfl) (hs : starEach (e :: es) X.env = (false, eval e X.env) :: starEach es X.env := by rfl) (hplain : (backTo cpos (starEach es X.env)).any (·.1) = false := by rfl) :
    PE X (.Call (.Attribute o name apos) (e :: es) [] cpos) (tBM X.K T r to t) := by
  intro pins s σ H Q I h
  refine wpAny_Call_method_late hbase hfew hline rfl (thn (ho pins s σ H _ I h) fun v s1 ⟨x, H1, I1, r1, ty, q1⟩ => ?_)
  obtain ⟨h1, h2⟩ := tyV_is I1 r1 ty
  refine ⟨T, id, pa, slot, hty, h1, h2, ?_⟩
  have hA := ha cpos pins s1 σ H1 _ I1 q1
  rw [hs] at hA ⊢
  refine Calls.callWith_builtin (by show (false || (backTo cpos (starEach es X.env)).any (·.1)) = false; rw [hplain] <;> rfl) (Calls.evalArgs_plain ?_)
  exact thn hA fun us s2 ⟨vs, H2, I2, r2, q2⟩ => hm pins s2 σ H2 x vs v us Q I2 r1 r2 q2
/- xs.append(e), list.index on a module's tuple .. are MtR facts of 06m -/
end
end L2

namespace L2
open PySem PySem.Spec PyProof.Rows

def MtM (X : Cx) (id : String) (r : V → List V → Hp → VK → Prop) : Prop :=
  ∀ (pins : List (Addr × Obj)) (s : Shared) (σ : St) (H : Hp) (x : V) (xs : List V) (v : Value) (us : List Value) (Q : VK), Inv X pins σ H s → RelV x v → Vals xs us → r x xs H Q →
    wpAny (model X.prog X.w) X.A (call (.builtin id) (v :: us)) (EP X pins σ Q) X.xe s

/-! ### lists of values -/
theorem Vals.one : ∀ {x : V} {us : List Value}, Vals [x] us → ∃ u, us = [u] ∧ RelV x u
  | _, _, .cons r .nil => ⟨_, rfl, r⟩
theorem Vals.two : ∀ {x y : V} {us : List Value}, Vals [x, y] us → ∃ u v, us = [u, v] ∧ RelV x u ∧ RelV y v
  | _, _, _, .cons r (.cons q .nil) => ⟨_, _, rfl, r, q⟩
theorem Vals.zero : ∀ {us : List Value}, Vals [] us → us = []
  | _, .nil => rfl
theorem Vals.dropLast {xs : List V} {us : List Value} (h : Vals xs us) : Vals xs.dropLast us.dropLast := by
  induction h with
  | nil => exact .nil
  | cons r t ih =>
    cases t with
    | nil => exact .nil
    | cons q t' => exact .cons r ih
theorem Vals.eraseIdx : ∀ {xs : List V} {us : List Value} (i : Nat), Vals xs us → Vals (xs.eraseIdx i) (us.eraseIdx i)
  | _, _, _, .nil => .nil
  | _, _, 0, .cons _ t => t
  | _, _, i + 1, .cons r t => .cons r (Vals.eraseIdx i t)
theorem Vals.reverse {xs : List V} {us : List Value} (h : Vals xs us) : Vals xs.reverse us.reverse := by
  induction h with
  | nil => exact .nil
  | cons r t ih => rw [List.reverse_cons, List.reverse_cons]; exact Vals.append ih (.cons r .nil)
theorem Vals.rep {xs : List V} {us : List Value} (h : Vals xs us) : ∀ k : Nat, Vals (List.replicate k xs).flatten (List.replicate k us).flatten
  | 0 => .nil
  | k + 1 => by
    rw [List.replicate_succ, List.replicate_succ, List.flatten_cons, List.flatten_cons]
    exact Vals.append h (Vals.rep h k)
theorem erase_last {α : Type} (l : List α) : l.eraseIdx (l.length - 1) = l.dropLast := by
  induction l with
  | nil => rfl
  | cons a r ih =>
    cases r with
    | nil => rfl
    | cons b r =>
      have e : (a :: b :: r).length - 1 = ((b :: r).length - 1) + 1 := by
        have h1 : (a :: b :: r).length = r.length + 2 := rfl
        have h2 : (b :: r).length = r.length + 1 := rfl
        omega
      rw [e, List.eraseIdx_cons_succ, ih]
      all_goals rfl
theorem len_erase {α : Type} : ∀ (l : List α) (i : Nat), (l.eraseIdx i).length ≤ l.length
  | [], _ => Nat.le_refl _
  | _ :: _, 0 => Nat.le_succ _
  | _ :: r, i + 1 => Nat.succ_le_succ (len_erase r i)
theorem foldl_rep (its : List Value) : ∀ (k : Nat) (acc : List Value),
    List.foldl (fun x1 x2 => x1 ++ x2) acc.toArray (List.replicate k its.toArray) = (acc ++ (List.replicate k its).flatten).toArray
  | 0, acc => by simp
  | k + 1, acc => by
    have e : acc.toArray ++ its.toArray = (acc ++ its).toArray := by simp
    have e2 : (acc ++ its) ++ (List.replicate k its).flatten = acc ++ (List.replicate (k + 1) its).flatten := by
      rw [List.replicate_succ, List.flatten_cons, List.append_assoc]
    rw [← e2, ← foldl_rep its k (acc ++ its), ← e, List.replicate_succ, List.foldl_cons]

section
variable {X : Cx} {pins : List (Addr × Obj)} {σ : St} {H : Hp} {s : Shared} {l b : Addr} {xs ys zs : List V}

/-! ### the two steps: a tracked list is rewritten, a new list is laid -/
theorem Inv.lset {its its' : List Value} {n : Nat} {f : Array Value → Array Value} {t' : Nat} (I : Inv X pins σ H s) (hH : H l = some (.lst xs))
    (e : s.heap.get? l = some { cls := .type "list", data := .seq its.toArray n }) (hf : f its.toArray = its'.toArray) (hv : Vals ys its') (hz : ys.length ≤ sizeLine) :
    Inv X pins σ (upd H l (.lst ys)) { s with heap := s.heap.update l (Obj.mapSeq f), toks := t' } := by
  have q := PySem.IsL.update e f
  rw [hf] at q
  refine I.write (x := l) (e := l) (by rw [hH]; exact trivial) (.inl rfl) (fun b' u hb hu => (Heap.get?_update_other s.heap (Obj.mapSeq f) (Ne.symm hb)).trans hu) ⟨_, q⟩ ?_
  exact ⟨hz, its', _, hv, q⟩
theorem Inv.lnew {its : List Value} {t' : Nat} (I : Inv X pins σ H s) (hv : Vals ys its) (hz : ys.length ≤ sizeLine) :
    Inv X pins σ (upd H s.heap.objs.size (.lst ys)) { s with heap := s.heap.push { cls := .type "list", data := .seq its.toArray }, toks := t' } :=
  I.laid (fun _ _ q => Heap.get?_push_of_some _ q) (Nat.le_refl _) ⟨hz, its, 0, hv, Heap.get?_push_size _ rfl⟩
theorem Inv.fresh (I : Inv X pins σ H s) : H s.heap.objs.size = none := I.hok.fresh (Nat.le_refl _)
theorem Inv.lstM (I : Inv X pins σ H s) (hH : H l = some (.lst xs)) : xs.length ≤ sizeLine ∧ ∃ (its : List Value) (n : Nat), Vals xs its ∧ xs.length = its.length ∧ s.heap.get? l = some { cls := .type "list", data := .seq its.toArray n } := by
  obtain ⟨z, its, n, r, e⟩ := I.hok l _ hH
  exact ⟨z, its, n, r, r.length, e⟩

theorem notLongL {n : Nat} (h : n ≤ sizeLine) : Builtin.List.listTooLong n = false := by
  unfold Builtin.List.listTooLong
  exact decide_eq_false (by omega)
end

section
variable {X : Cx}

/-! ### methods -/
def rAppend : V → List V → Hp → VK → Prop := fun x vs H Q => ∃ l xs y, x = .ref l ∧ vs = [y] ∧ H l = some (.lst xs) ∧ xs.length < sizeLine ∧ Q .non (upd H l (.lst (xs ++ [y])))
theorem mt_append : MtM X "list.append" rAppend := by
  intro pins s σ H x vs v us Q I rx rv h
  obtain ⟨l, xs, y, rfl, rfl, hH, hz, q⟩ := h
  cases rx
  obtain ⟨u, rfl, ru⟩ := rv.one
  obtain ⟨z, its, n, r, hl, e⟩ := I.lstM hH
  refine call_meets F.slot_list_append ⟨_, e, rfl⟩ F.entry_list_append (F.args_list_append_2 _ _) (PySem.list_append l its.toArray n u (by rw [List.size_toArray]; omega)) ⟨e, ?_⟩
  refine ⟨.non, _, I.lset (its' := its ++ [u]) hH e (by simp) (r.append (.cons ru .nil)) ?_, rfl, q⟩
  rw [List.length_append, List.length_singleton]
  omega

def rExtend : V → List V → Hp → VK → Prop := fun x vs H Q => ∃ l b xs zs, x = .ref l ∧ vs = [.ref b] ∧ H l = some (.lst xs) ∧ H b = some (.lst zs) ∧ xs.length + zs.length ≤ sizeLine ∧ Q .non (upd H l (.lst (xs ++ zs)))
theorem mt_extend : MtM X "list.extend" rExtend := by
  intro pins s σ H x vs v us Q I rx rv h
  obtain ⟨l, b, xs, zs, rfl, rfl, hH, hB, hz, q⟩ := h
  cases rx
  obtain ⟨u, rfl, ru⟩ := rv.one
  cases ru
  obtain ⟨z, its, n, r, hl, e⟩ := I.lstM hH
  obtain ⟨z2, its2, n2, r2, hl2, e2⟩ := I.lstM hB
  have hsz : its.toArray.size + its2.toArray.size ≤ sizeLine := by rw [List.size_toArray, List.size_toArray]; omega
  have hlong : ¬ (!its.toArray.isEmpty && Builtin.List.listTooLong (its.toArray.size + its2.toArray.size)) = true := by
    rw [notLongL hsz, Bool.and_false]
    exact Bool.false_ne_true
  refine call_meets F.slot_list_extend ⟨_, e, rfl⟩ F.entry_list_extend (F.args_list_extend_2 _ _)
    (AutoSeq1.list_extend_list_list_0 l its.toArray n b its2.toArray n2 hlong (by rw [List.size_toArray]; omega) (by omega)) ⟨e, e2, ?_⟩
  refine ⟨.non, _, I.lset (its' := its ++ its2) hH e (by simp) (r.append r2) ?_, rfl, q⟩
  rw [List.length_append]
  omega

def rPop : V → List V → Hp → VK → Prop := fun x vs H Q => ∃ l xs y, x = .ref l ∧ vs = [] ∧ H l = some (.lst xs) ∧ xs[xs.length - 1]? = some y ∧ Q y (upd H l (.lst xs.dropLast))
theorem mt_pop : MtM X "list.pop" rPop := by
  intro pins s σ H x vs v us Q I rx rv h
  obtain ⟨l, xs, y, rfl, rfl, hH, hy, q⟩ := h
  cases rx
  have hus := rv.zero
  subst hus
  obtain ⟨z, its, n, r, hl, e⟩ := I.lstM hH
  obtain ⟨u, hu, ru⟩ := r.get hy
  have hy' : its.toArray[its.toArray.size - 1]? = some u := by
    show its.toArray[its.length - 1]? = some u
    rw [← Array.getElem?_toList, ← hl]
    exact hu
  refine call_meets F.slot_list_pop ⟨_, e, rfl⟩ F.entry_list_pop (F.args_list_pop_1 _) (MeetsSeq.list_pop_last l its.toArray n u hy' (by rw [List.size_toArray]; omega)) ⟨e, ?_⟩
  refine ⟨y, _, I.lset (its' := its.dropLast) hH e ?_ r.dropLast ?_, ru, q⟩
  · show its.toArray.eraseIdxIfInBounds (its.toArray.size - 1) = its.dropLast.toArray
    rw [List.size_toArray, List.eraseIdxIfInBounds_toArray, erase_last]
  · rw [List.length_dropLast]
    omega

def rPopAt : V → List V → Hp → VK → Prop := fun x vs H Q => ∃ l xs i k y, x = .ref l ∧ vs = [.int i] ∧ H l = some (.lst xs) ∧ -(2 ^ 63) ≤ i ∧ i < 2 ^ 63 ∧ seqIndex? i xs.length = some k ∧ xs[k]? = some y ∧ Q y (upd H l (.lst (xs.eraseIdx k)))
theorem mt_popAt : MtM X "list.pop" rPopAt := by
  intro pins s σ H x vs v us Q I rx rv h
  obtain ⟨l, xs, i, k, y, rfl, rfl, hH, h1, h2, hk, hy, q⟩ := h
  cases rx
  obtain ⟨u, rfl, ru⟩ := rv.one
  obtain ⟨t, rfl⟩ := ru
  obtain ⟨z, its, n, r, hl, e⟩ := I.lstM hH
  obtain ⟨w, hw, rw'⟩ := r.get hy
  refine call_meets F.slot_list_pop ⟨_, e, rfl⟩ F.entry_list_pop (F.args_list_pop_2 _ _)
    (MeetsSeq.list_pop_at l its.toArray n i t k w (fitsIndex_both h1 h2) (by rw [List.size_toArray, ← hl]; exact hk) (by rw [← Array.getElem?_toList]; exact hw) (by rw [List.size_toArray]; omega)) ⟨e, ?_⟩
  refine ⟨y, _, I.lset (its' := its.eraseIdx k) hH e ?_ (r.eraseIdx k) ?_, rw', q⟩
  · show its.toArray.eraseIdxIfInBounds k = (its.eraseIdx k).toArray
    rw [List.eraseIdxIfInBounds_toArray]
  · have := len_erase xs k
    omega

def rReverse : V → List V → Hp → VK → Prop := fun x vs H Q => ∃ l xs, x = .ref l ∧ vs = [] ∧ H l = some (.lst xs) ∧ Q .non (upd H l (.lst xs.reverse))
theorem mt_reverse : MtM X "list.reverse" rReverse := by
  intro pins s σ H x vs v us Q I rx rv h
  obtain ⟨l, xs, rfl, rfl, hH, q⟩ := h
  cases rx
  have hus := rv.zero
  subst hus
  obtain ⟨z, its, n, r, hl, e⟩ := I.lstM hH
  refine call_meets F.slot_list_reverse ⟨_, e, rfl⟩ F.entry_list_reverse (F.args_list_reverse_1 _) (AutoSeq1.list_reverse_list_0 l its.toArray n (by rw [List.size_toArray]; omega)) ⟨e, ?_⟩
  refine ⟨.non, _, I.lset (its' := its.reverse) hH e (by simp) r.reverse ?_, rfl, q⟩
  rw [List.length_reverse]
  omega

def rClear : V → List V → Hp → VK → Prop := fun x vs H Q => ∃ l xs, x = .ref l ∧ vs = [] ∧ H l = some (.lst xs) ∧ Q .non (upd H l (.lst []))
theorem mt_clear : MtM X "list.clear" rClear := by
  intro pins s σ H x vs v us Q I rx rv h
  obtain ⟨l, xs, rfl, rfl, hH, q⟩ := h
  cases rx
  have hus := rv.zero
  subst hus
  obtain ⟨z, its, n, r, hl, e⟩ := I.lstM hH
  refine call_meets F.slot_list_clear ⟨_, e, rfl⟩ F.entry_list_clear (F.args_list_clear_1 _) (AutoSeq1.list_clear_list_0 l its.toArray n (by rw [List.size_toArray]; omega)) ⟨e, ?_⟩
  exact ⟨.non, _, I.lset (its' := []) (ys := []) hH e rfl .nil (Nat.zero_le _), rfl, q⟩

/-! ### list + list, list += list, list * int -/
def rCat : R2 := fun x y H Q => ∃ l b xs zs, x = .ref l ∧ y = .ref b ∧ H l = some (.lst xs) ∧ H b = some (.lst zs) ∧ xs.length + zs.length ≤ sizeLine ∧ ∀ p, H p = none → Q (.ref p) (upd H p (.lst (xs ++ zs)))
theorem op_cat : OpR X (binaryOp .Add) rCat := by
  intro pins s σ H x y v u Q I rx ry h
  obtain ⟨l, b, xs, zs, rfl, rfl, hH, hB, hz, q⟩ := h
  cases rx
  cases ry
  obtain ⟨z, its, n, r, hl, e⟩ := I.lstM hH
  obtain ⟨z2, its2, n2, r2, hl2, e2⟩ := I.lstM hB
  refine PySem.P.add_list e e2 ?_ (by rw [List.size_toArray, List.size_toArray]; omega)
  have ea : its.toArray ++ its2.toArray = (its ++ its2).toArray := by simp
  rw [ea]
  exact ⟨.ref _, _, I.lnew (t' := s.toks) (r.append r2) (by rw [List.length_append]; omega), rfl, q _ I.fresh⟩
/-- a list times an int (a negative one is nothing) -/
def rRep : R2 := fun x y H Q => ∃ l k xs, x = .ref l ∧ y = .int k ∧ H l = some (.lst xs) ∧ -(2 ^ 63) ≤ k ∧ k < 2 ^ 63 ∧ xs.length * k.toNat ≤ sizeLine ∧
  ∀ p, H p = none → Q (.ref p) (upd H p (.lst (List.replicate k.toNat xs).flatten))
theorem len_rep {α : Type} (xs : List α) (k : Nat) : (List.replicate k xs).flatten.length = k * xs.length := by
  induction k with
  | zero => simp
  | succ k ih => rw [List.replicate_succ, List.flatten_cons, List.length_append, ih, Nat.succ_mul, Nat.add_comm]
theorem op_rep : OpR X (binaryOp .Mult) rRep := by
  intro pins s σ H x y v u Q I rx ry h
  obtain ⟨l, k, xs, rfl, rfl, hH, h1, h2, hz, q⟩ := h
  cases rx
  obtain ⟨t, rfl⟩ := ry
  obtain ⟨z, its, n, r, hl, e⟩ := I.lstM hH
  have hlen : its.toArray.size * k.toNat ≤ sizeLine := by rw [List.size_toArray, ← hl]; exact hz
  have hcap : ¬ its.toArray.size * k.toNat > (2 ^ 63 - 1) / 8 := by
    have : (sizeLine : Nat) ≤ (2 ^ 63 - 1) / 8 := by decide
    omega
  have hfit : ¬ (!Builtin.List.listFitsIndex k) = true := by
    rw [fitsIndex_both h1 h2]
    exact Bool.false_ne_true
  have hlong : ¬ Builtin.List.listTooLong (its.toArray.size * k.toNat) = true := by
    rw [notLongL hlen]
    exact Bool.false_ne_true
  have hnew : List.foldl (fun x1 x2 => x1 ++ x2) #[] (List.replicate (if its.toArray.isEmpty = true then 0 else k.toNat) its.toArray) = (List.replicate k.toNat its).flatten.toArray := by
    have f0 : ∀ m : Nat, List.foldl (fun x1 x2 => x1 ++ x2) #[] (List.replicate m its.toArray) = (List.replicate m its).flatten.toArray := fun m => by
      have := foldl_rep its m []
      rw [List.nil_append] at this
      exact this
    rw [f0]
    cases its with
    | nil => simp
    | cons a r' => rw [if_neg (by simp)]
  refine wpAny_binaryOp_repeat_ref (T := "list") (U := "int") (by decide) ⟨_, e, rfl⟩ (fun s' => typeIs_int s' k t) noFill_list_mul F.fills_int_mul F.slot_int_rmul repeat_list F.slot_int_index.lookup
    (call_meets F.slot_int_rmul (typeIs_int s k t) F.entry_int_rmul (F.args_int_rmul_2 _ _) (int___rmul___int_list k t l its.toArray n)
      ⟨e, rfl, ⟨_, e, rfl⟩, call_meets F.slot_list_mul ⟨_, e, rfl⟩ F.entry_list_mul (F.args_list_mul_2 _ _) (AutoListH.list___mul___list_int_3 l its.toArray n k t hfit hcap hlong) ⟨e, ?_⟩⟩)
  rw [hnew]
  exact ⟨.ref _, _, I.lnew (t' := s.toks) (r.rep k.toNat) (by rw [len_rep, Nat.mul_comm]; exact hz), rfl, q _ I.fresh⟩

/-! ### del xs[i] -/
theorem del_list {pins : List (Addr × Obj)} {s : Shared} {σ : St} {H : Hp} {l : Addr} {xs : List V} {i : Int} {t : Tok} {k : Nat} {Q : Unit → Shared → Prop} (I : Inv X pins σ H s) (hH : H l = some (.lst xs))
    (h1 : -(2 ^ 63) ≤ i) (h2 : i < 2 ^ 63) (hk : seqIndex? i xs.length = some k) (h : ∀ s', Inv X pins σ (upd H l (.lst (xs.eraseIdx k))) s' → Q () s') :
    wpAny (model X.prog X.w) X.A (delItem (.ref l) (.int i t)) Q X.xe s := by
  obtain ⟨z, its, n, r, hl, e⟩ := I.lstM hH
  refine PySem.P.delItem_list (k := k) e (fitsIndex_both h1 h2) (by rw [List.size_toArray, ← hl]; exact hk) (h _ ?_) (by rw [List.size_toArray]; omega)
  refine I.lset (its' := its.eraseIdx k) (t' := s.toks) hH e ?_ (r.eraseIdx k) ?_
  · show its.toArray.eraseIdxIfInBounds k = (its.eraseIdx k).toArray
    rw [List.eraseIdxIfInBounds_toArray]
  · have := len_erase xs k
    omega
end

/-! ### xs[a:b] = ys -/
section
variable {prog : Program} {w : World} {A : Around} {E : Value → Shared → Prop} {s : Shared}
theorem splice_eq (its its2 : List Value) (a c : Nat) : its.toArray.extract 0 a ++ its2.toArray ++ its.toArray.extract c its.toArray.size = (its.take a ++ its2 ++ its.drop c).toArray := by
  apply Array.toList_inj.mp
  first
    | (simp
       exact List.take_of_length_le (by simp))
    | simp [List.take_of_length_le]
    | simp
theorem bounds_run {a c n : Nat} (hac : a ≤ c) (hc : c ≤ n) : sliceBounds (some (a : Int)) (some (c : Int)) none n = ((a : Int), (c : Int), 1) := by
  simp only [sliceBounds, Option.getD_none]
  have h1 : ¬ ((a : Int) < 0) := by omega
  have h2 : ¬ ((c : Int) < 0) := by omega
  simp only [h1, h2, if_false, show (1 : Int) > 0 by decide, if_true]
  congr 1
  · omega
  · congr 1; omega
set_option maxRecDepth 100000 in
/-- list.__setitem__ with a slice of step one and another list -/
theorem setItem_slice {l b sl : Addr} {items new : Array Value} {n n2 : Nat} {vl vu : Value} {a c : Nat} {Q : Unit → Shared → Prop}
    (e : s.heap.get? l = some { cls := .type "list", data := .seq items n }) (e2 : s.heap.get? b = some { cls := .type "list", data := .seq new n2 }) (hne : l ≠ b)
    (hs : s.heap.IsSliceOf sl vl vu .none) (pl : IsPart vl (some (a : Int))) (pu : IsPart vu (some (c : Int))) (hac : a ≤ c) (hc : c ≤ items.size)
    (hsz : items.size + new.size ≤ sizeLine) (h : Q () { s with heap := s.heap.update l (Obj.mapSeq fun xs => xs.extract 0 a ++ new ++ xs.extract c xs.size) }) :
    wpAny (model prog w) A (setItem (.ref l) (.ref sl) (.ref b)) Q E s := by
  have hl : s.heap.IsList l items := PySem.IsL.isList e
  have hb : s.heap.IsList b new := PySem.IsL.isList e2
  obtain ⟨os, hos, hcs, hds⟩ := id hs
  have hTs : s.TypeIs (.ref sl) "slice" := ⟨os, hos, hcs⟩
  have hstep : ¬ ((rawPart none == rawInt 0) = true) := Bool.false_ne_true
  have hsame : Builtin.List.listSameRef (.ref l) (.ref b) = false := by
    unfold Builtin.List.listSameRef
    exact beq_eq_false_iff_ne.mpr hne
  have hmax : (max (a : Int) (c : Int)).toNat = c := by omega
  have hz' : ((fun xs : Array Value => xs.extract 0 a ++ new ++ xs.extract c xs.size) items).size ≤ sizeLine + 1 := by
    simp only [Array.size_append, Array.size_extract]
    omega
  unfold setItem
  try with_reducible refine wpAny_holding ?_
  first | refine wpAny_bind (wpAny_pure ?_) | skip
  refine wpAny_bind (wpAny_sequenceKey hl.typeIs (by decide) ?_)
  refine wpAny_bind (wpAny_callSpecial?_slot (name := Str.ofString "__setitem__") hl.typeIs slot_list_setitem
    (wpAny_call_entry slot_list_setitem hl.typeIs entry_list_setitem ?_ (args_list_setitem _ _ _)))
  show wpAny _ _ (Builtin.List.listSubscript? (.ref sl) >>= _) _ _ s
  refine wpAny_bind ?_
  unfold Builtin.List.listSubscript?
  refine wpAny_bind (wpAny_specialOf hTs slice_no_index ?_)
  simp only [Option.isNone_none, if_true]
  refine wpAny_pure ?_
  show wpAny _ _ (typeOf (.ref sl) >>= _) _ _ s
  refine wpAny_bind (wpAny_typeOf hTs ?_)
  first
    | rw [if_neg (by decide)]
    | refine PySem.W.KFB.if_not (by decide) ?_
  rw [listSliceParts_eq]
  refine wpAny_bind (wpAny_bind (wpAny_field hos hds (x := .none) rfl (wpAny_bind (wpAny_listPart .none ?_))))
  rw [if_neg hstep]
  refine wpAny_bind (wpAny_field hos hds (x := vl) rfl (wpAny_bind (wpAny_listPart pl ?_)))
  refine wpAny_bind (wpAny_field hos hds (x := vu) rfl (wpAny_bind (wpAny_listPart pu (wpAny_pure ?_))))
  first
    | simp only [hsame, Bool.false_eq_true, if_false]
    | refine PySem.W.KFB.if_not hsame ?_
    | (dsimp only
       rw [if_neg (by rw [hsame]; exact Bool.false_ne_true)])
  refine wpAny_bind (m := Builtin.List.listAllItems (.ref b) "must assign iterable to extended slice") ?_
  unfold Builtin.List.listAllItems
  refine wpAny_bind (wpAny_typeOf hb.typeIs ?_)
  first
    | refine PySem.W.KFB.if_so (by decide) ?_
    | rw [if_pos (by decide)]
    | simp only [beq_self_eq_true, Bool.true_or, if_true]
  unfold Builtin.List.listItems
  refine wpAny_bind (wpAny_seqItems e2 rfl (wpAny_pure ?_))
  refine wpAny_bind (wpAny_bind (wpAny_seqItems e rfl (wpAny_pure ?_)))
  refine wpAny_bind (wpAny_of_eq ((sliceIndices_raw (some (a : Int)) (some (c : Int)) none items.size (by simp)).trans (congrArg (pure : Int × Int × Int → Sem (Int × Int × Int)) (bounds_run hac hc))) ?_)
  show wpAny _ _ (if ((1 : Int) == 1) = true then _ else _) _ _ s
  rw [if_pos (by decide)]
  refine wpAny_bind (wpAny_rule ?_)
  first
    | simp only [notLongL hsz, Bool.false_eq_true, if_false]
    | refine PySem.W.KFB.if_not (notLongL hsz) ?_
  first | refine wpAny_bind (wpAny_pure ?_) | skip
  show wpAny _ _ (updateSeq l (fun xs => xs.extract 0 ((a : Int)).toNat ++ new ++ xs.extract (max (a : Int) (c : Int)).toNat xs.size) >>= _) _ _ s
  rw [hmax, Int.toNat_natCast]
  refine wpAny_bind (wpAny_updateSeq (hz := Nat.le_trans (Nat.le_add_right _ _) hsz) (_hz' := hz') e rfl ?_)
  refine wpAny_bind (wpAny_letGo ?_)
  first
    | exact wpAny_bind (wpAny_pure (wpAny_pure ⟨.none, rfl, wpAny_pure h⟩))
    | exact wpAny_pure ⟨.none, rfl, wpAny_pure h⟩
end

section
variable {X : Cx}
/-- xs[a:c] = ys of another list, at the value level: sl is the slice object that was just made -/
theorem set_slice {pins : List (Addr × Obj)} {s : Shared} {σ : St} {H : Hp} {l b sl : Addr} {xs ys : List V} {a c : Int} {vl vu : Value} {Q : Unit → Shared → Prop} (I : Inv X pins σ H s)
    (hH : H l = some (.lst xs)) (hB : H b = some (.lst ys)) (hne : l ≠ b) (hs : s.heap.IsSliceOf sl vl vu .none) (ra : RelV (.int a) vl) (rc : RelV (.int c) vu) (h0 : 0 ≤ a) (hac : a ≤ c) (hc : c ≤ xs.length)
    (hz : xs.length + ys.length ≤ sizeLine) (h : ∀ s', Inv X pins σ (upd H l (.lst (xs.take a.toNat ++ ys ++ xs.drop c.toNat))) s' → Q () s') :
    wpAny (model X.prog X.w) X.A (setItem (.ref l) (.ref sl) (.ref b)) Q X.xe s := by
  obtain ⟨ta, rfl⟩ := ra
  obtain ⟨tc, rfl⟩ := rc
  obtain ⟨z, its, n, r, hl, e⟩ := I.lstM hH
  obtain ⟨z2, its2, n2, r2, hl2, e2⟩ := I.lstM hB
  obtain ⟨a', rfl⟩ := Int.eq_ofNat_of_zero_le h0
  obtain ⟨c', rfl⟩ := Int.eq_ofNat_of_zero_le (Int.le_trans h0 hac)
  simp only [Int.toNat_natCast] at h
  refine setItem_slice (a := a') (c := c') e e2 hne hs (.int _ _) (.int _ _) (by omega) (by rw [List.size_toArray]; omega) (by rw [List.size_toArray, List.size_toArray]; omega) (h _ ?_)
  refine I.lset (its' := its.take a' ++ its2 ++ its.drop c') (t' := s.toks) hH e ?_ (Vals.append (Vals.append (r.take _) r2) (r.drop _)) ?_
  · exact splice_eq its its2 a' c'
  · rw [List.length_append, List.length_append, List.length_take, List.length_drop]
    omega
end
end L2

namespace Att
open PySem PySem.W PySem.Calls PyProof.Rows

/-! ### the script -/
theorem ints_of_wellAll {P : Params} {h : Heap} : ∀ (ns : List Int) (vs : List Value), WellAll P h vs (ns.map WData.int) → IntsAre vs ns := by
  intro ns
  induction ns with
  | nil =>
    intro vs w
    rw [List.map_nil] at w
    cases w
    exact .nil
  | cons n ns ih =>
    intro vs w
    rw [List.map_cons] at w
    cases w with
    | cons a b =>
      cases a
      exact .cons _ _ (ih _ b)

theorem script_of {l : OpenLaw} {n : Nat} (hn : l.most = some n) {P : Params} {h : Heap} {args : List WData} {vals : List Value}
    (hpre : l.row.toRowW.claim.pre args = true) (hwl : WellAll P h vals args) :
    ∃ a vs ns, vals = [Value.ref a] ∧ args = [WData.list (ns.map WData.int)] ∧ h.get? a = some { cls := .type "list", data := .seq vs.toArray } ∧ IntsAre vs ns ∧ ns.length ≤ n := by
  have hsh : WShape.hasAll [] args [.list .int] = true := (pre_splitW hpre).1
  have hc : l.pre.holds [] { args := args } = true := (pre_splitW hpre).2
  obtain ⟨d, r, rfl, h1, h2⟩ := hasAllW_cons hsh
  obtain rfl := hasAllW_nil h2
  obtain ⟨xs, rfl, h3⟩ := hasW_list h1
  obtain ⟨ns, rfl⟩ := items_int h3
  have hlen : ns.length ≤ n := by
    unfold OpenLaw.pre at hc
    have h4 : (WTm.not (.lt (.lit (.int (n : Int))) (.len (.arg 0)))).holds [] { args := [.list (ns.map .int)] } = true := by
      have h4 := (holds_andW hc).1
      rw [hn] at h4
      exact h4
    have h5 := condW_of h4 (w_not (w_lt w_lit (w_len_list (w_arg rfl))))
    rw [List.length_map] at h5
    refine Nat.le_of_not_lt fun q => ?_
    have q' : (n : Int) < ((ns.length : Nat) : Int) := by omega
    first
      | (rw [decide_eq_true q'] at h5; exact absurd h5 (by decide))
      | (simp at h5; omega)
  cases hwl with
  | cons w1 w2 =>
    cases w2
    cases w1 with
    | list ho hall => exact ⟨_, _, ns, rfl, rfl, ho, ints_of_wellAll ns _ hall, hlen⟩

theorem post_true (l : OpenLaw) (args : List WData) : l.row.toRowW.claim.post args (.bool true) args = true :=
  postW_of (r := l.row.toRowW) (X := (true == true))
    (show WShape.has [] (.bool true) .bool = true by first | rfl | decide | simp [WShape.has, WShape.arms, WShape.armsAll])
    (show (WTm.eq .res (.lit (.bool true))).value [] { args := args, res := some (.bool true), after := args } = some (.bool (true == true)) from w_eq_bool (w_res rfl) w_lit) rfl

/-! ### the attachment: holds_open's last premise (the goal 'hc' behind k_head) from a wpAny of the law's body -/
theorem attach {l : OpenLaw} {n : Nat} {q : Program} {loose : List Str} {XP : (Str → Option Value) → Heap → Prop} {YP : World → Heap → Prop} {d : DefRec} {x : Str}
    (hn : l.most = some n) (hdf : d.params.defaults = [])
    (hbind : ∀ pm cd doc v : Value, bindArgs (docDef d.name d.params d.body d.scope pm cd doc) ⟨[v], []⟩ = pure [(x, v)])
    (hx : d.scope.names.lookup x = some .local ∨ d.scope.names.lookup x = some .cell)
    (hk : d.scope.kind = .function) (hco : d.scope.isCoroutine = false) (hgen : d.scope.isGenerator = false)
    (body : ∀ (w : World) (s₀ s₁ s : Shared) (mg mb : Str → Option Value) (fa : Addr) (o : Obj) (pm cd doc : Value) (a : Addr) (vs : List Value) (ns : List Int),
      Ground q loose [] XP w s₀ mg mb s₁.heap → YP w s₁.heap →
      s₁.heap.get? fa = some o → o.data = .func (docDef d.name d.params d.body d.scope pm cd doc) → s₁.heap.CodeRec cd d.name → mg d.name = some (.ref fa) →
      s₁.heap.get? a = some { cls := .type "list", data := .seq vs.toArray } → IntsAre vs ns → ns.length ≤ n →
      s.gens = #[] → s.os = s₁.os →
      Fr s₁.heap s₁.heap.objs.size s.heap (bindL (envOfC d.name d.scope s₁.heap.objs.size fa cd).kindOf [(x, .ref a)] fun _ => none) →
      Cl s₁.heap.objs.size (cellsFrom (s₁.heap.objs.size + 1) d.scope.names []) s.heap (bindC (envOfC d.name d.scope s₁.heap.objs.size fa cd).kindOf [(x, .ref a)] fun _ => none) →
      wpAny (model l.prog w) (callerA.deeper (envOfC d.name d.scope s₁.heap.objs.size fa cd)) (execs d.body (envOfC d.name d.scope s₁.heap.objs.size fa cd))
        (fun f s' => f = .ret (.bool true) ∧ OldK s₁.heap s'.heap ∧ s'.os = s₁.os ∧ AllBare s'.gens) (fun _ _ => False) s) :
    WalkO q loose XP YP l.row.toRowW d [] (fun f vs => PySem.call f vs) := by
  intro w s₀ s₁ mg mb G Y fa o pm cd doc dV kV ho hd hcd hD hmg hg args vals as hpre hlay hrd hwl hlo
  obtain rfl : dV = .none := Dflts.none hD hdf
  obtain rfl : kV = .none := Dflts.noKw hD
  obtain ⟨a, vs, ns, rfl, rfl, hobj, hints, hlen⟩ := script_of hn hpre hwl
  refine enter_call ?_
  refine call_cells_ret (o := o) (by rw [depth_caller]; decide) ho (fd_plain hd) G.T.nolimit hcd (hbind pm cd doc (.ref a)) (fun y hy => ?_) (fun h₁ tk F X => ?_) hco hgen hk
  · obtain rfl : y = (x, Value.ref a) := List.mem_singleton.mp hy
    rcases hx with e | e
    · exact .inl e
    · exact .inr ⟨e, cellsFrom_some _ _ _ (.inl e)⟩
  · refine wpAny_mono (body w s₀ s₁ { s₁ with heap := h₁, toks := tk } mg mb fa o pm cd doc a vs ns G Y ho (fd_plain hd) hcd hmg hobj hints hlen hg rfl F X) (fun f s' hq => ?_) (fun _ _ hq => hq)
    obtain ⟨rfl, h2, h3, h4⟩ := hq
    exact ⟨.inl ⟨.bool true, .bool true, [], rfl, fun _ => rfl, .bool true, post_true l _, fun _ => ⟨List.Pairwise.nil, fun _ hm => (nomatch hm)⟩⟩, h2, h3, h4⟩

/-- the same from a codeAny of the CALL (for a layer whose function contracts speak of calls) -/
theorem attach_call {l : OpenLaw} {n : Nat} {q : Program} {loose : List Str} {XP : (Str → Option Value) → Heap → Prop} {YP : World → Heap → Prop} {d : DefRec}
    (hn : l.most = some n) (hdf : d.params.defaults = [])
    (call : ∀ (w : World) (s₀ s₁ : Shared) (mg mb : Str → Option Value) (fa : Addr) (o : Obj) (pm cd doc : Value) (a : Addr) (vs : List Value) (ns : List Int),
      Ground q loose [] XP w s₀ mg mb s₁.heap → YP w s₁.heap →
      s₁.heap.get? fa = some o → o.data = .func (docDef d.name d.params d.body d.scope pm cd doc) → s₁.heap.CodeRec cd d.name → mg d.name = some (.ref fa) →
      s₁.heap.get? a = some { cls := .type "list", data := .seq vs.toArray } → IntsAre vs ns → ns.length ≤ n → s₁.gens = #[] →
      codeAny (model l.prog w) callerA (.call (.ref fa) ⟨[.ref a], []⟩) (fun r s' => r = .ok (.ret (.bool true)) ∧ OldK s₁.heap s'.heap ∧ s'.os = s₁.os ∧ AllBare s'.gens) s₁) :
    WalkO q loose XP YP l.row.toRowW d [] (fun f vs => PySem.call f vs) := by
  intro w s₀ s₁ mg mb G Y fa o pm cd doc dV kV ho hd hcd hD hmg hg args vals as hpre hlay hrd hwl hlo
  obtain rfl : dV = .none := Dflts.none hD hdf
  obtain rfl : kV = .none := Dflts.noKw hD
  obtain ⟨a, vs, ns, rfl, rfl, hobj, hints, hlen⟩ := script_of hn hpre hwl
  refine enter_call (codeAny_mono (call w s₀ s₁ mg mb fa o pm cd doc a vs ns G Y ho (fd_plain hd) hcd hmg hobj hints hlen hg) fun r s' hq => ?_)
  obtain ⟨rfl, h2, h3, h4⟩ := hq
  exact ⟨.inl ⟨.bool true, .bool true, [], rfl, fun _ => rfl, .bool true, post_true l _, fun _ => ⟨List.Pairwise.nil, fun _ hm => (nomatch hm)⟩⟩, h2, h3, h4⟩

/-- the same where the top left finished generators (o_head chose holds_openN): nothing may have changed at all and no generator may be left -/
theorem attachN {l : OpenLaw} {n : Nat} {q : Program} {loose : List Str} {XP : (Str → Option Value) → Heap → Prop} {YP : World → Heap → Prop} {d : DefRec} {x : Str}
    (hn : l.most = some n) (hdf : d.params.defaults = [])
    (hbind : ∀ pm cd doc v : Value, bindArgs (docDef d.name d.params d.body d.scope pm cd doc) ⟨[v], []⟩ = pure [(x, v)])
    (hx : d.scope.names.lookup x = some .local ∨ d.scope.names.lookup x = some .cell)
    (hk : d.scope.kind = .function) (hco : d.scope.isCoroutine = false) (hgen : d.scope.isGenerator = false)
    (body : ∀ (w : World) (s₀ s₁ s : Shared) (mg mb : Str → Option Value) (fa : Addr) (o : Obj) (pm cd doc : Value) (a : Addr) (vs : List Value) (ns : List Int),
      Ground q loose [] XP w s₀ mg mb s₁.heap → YP w s₁.heap →
      s₁.heap.get? fa = some o → o.data = .func (docDef d.name d.params d.body d.scope pm cd doc) → s₁.heap.CodeRec cd d.name → mg d.name = some (.ref fa) →
      s₁.heap.get? a = some { cls := .type "list", data := .seq vs.toArray } → IntsAre vs ns → ns.length ≤ n →
      s.gens = #[] → s.os = s₁.os →
      Fr s₁.heap s₁.heap.objs.size s.heap (bindL (envOfC d.name d.scope s₁.heap.objs.size fa cd).kindOf [(x, .ref a)] fun _ => none) →
      Cl s₁.heap.objs.size (cellsFrom (s₁.heap.objs.size + 1) d.scope.names []) s.heap (bindC (envOfC d.name d.scope s₁.heap.objs.size fa cd).kindOf [(x, .ref a)] fun _ => none) →
      wpAny (model l.prog w) (callerA.deeper (envOfC d.name d.scope s₁.heap.objs.size fa cd)) (execs d.body (envOfC d.name d.scope s₁.heap.objs.size fa cd))
        (fun f s' => f = .ret (.bool true) ∧ (∀ b o, s₁.heap.get? b = some o → s'.heap.get? b = some o) ∧ s'.os = s₁.os ∧ s'.gens = #[]) (fun _ _ => False) s) :
    WalkN q loose XP YP l.row.toRowW d [] (fun f vs => PySem.call f vs) := by
  intro w s₀ s₁ mg mb G Y fa o pm cd doc dV kV ho hd hcd hD hmg hg args vals as hpre hlay hrd hwl hlo
  obtain rfl : dV = .none := Dflts.none hD hdf
  obtain rfl : kV = .none := Dflts.noKw hD
  obtain ⟨a, vs, ns, rfl, rfl, hobj, hints, hlen⟩ := script_of hn hpre hwl
  refine enter_callW ?_
  refine call_cells_ret (o := o) (by rw [depth_caller]; decide) ho (fd_plain hd) G.T.nolimit hcd (hbind pm cd doc (.ref a)) (fun y hy => ?_) (fun h₁ tk F X => ?_) hco hgen hk
  · obtain rfl : y = (x, Value.ref a) := List.mem_singleton.mp hy
    rcases hx with e | e
    · exact .inl e
    · exact .inr ⟨e, cellsFrom_some _ _ _ (.inl e)⟩
  · refine wpAny_mono (body w s₀ s₁ { s₁ with heap := h₁, toks := tk } mg mb fa o pm cd doc a vs ns G Y ho (fd_plain hd) hcd hmg hobj hints hlen hg rfl F X) (fun f s' hq => ?_) (fun _ _ hq => hq)
    obtain ⟨rfl, h2, h3, h4⟩ := hq
    exact ⟨.inl ⟨.bool true, .bool true, [], rfl, fun _ => rfl, .bool true, post_true l _, fun _ => ⟨List.Pairwise.nil, fun _ hm => (nomatch hm)⟩⟩, h2, h3, h4⟩

/-! ### rules over ANY heap (no ledger) from facts about the written part K: the library's own take a ledger (News) for what they write -/
section
variable {prog : Program} {w : World} {A : Around} {E : Value → Shared → Prop} {s : Shared} {K : Frag}

/-- a def of the module, or a method (qual 'C.m'), entered: the frame is the next address; cells behind it -/
theorem call_fn {R : Result → Shared → Prop} {name qual : Str} {params : Arguments} {body : List Stmt} {scope : Scope} {dV kV doc pm cdv ct oc : Value} {an od : Option Addr} {osl : Array (Option Value)} {f : Addr} {args : Args} {binds : List (Str × Value)}
    (X : K.In s.heap) (hlim : s.heap.NoLimit) (ho : K.lookup f = some ⟨oc, od, .func (fnOf name qual params body scope dV kV doc pm an cdv ct), osl⟩) (hcd : codeIn K cdv qual = true) (hroom : A.depth < recursionLimit)
    (hbind : BindsTo s (fnOf name qual params body scope dV kV doc pm an cdv ct) args binds)
    (hkind : (binds.all fun y => scope.names.lookup y.1 == some .local || scope.names.lookup y.1 == some .cell) = true)
    (h : ∀ s₁, InCallC s s.heap.objs.size (bindL (envOfC qual scope s.heap.objs.size f cdv).kindOf binds fun _ => none) (cellsFrom (s.heap.objs.size + 1) scope.names [])
        (bindC (envOfC qual scope s.heap.objs.size f cdv).kindOf binds fun _ => none) s₁ →
      wpAny (model prog w) (A.deeper (envOfC qual scope s.heap.objs.size f cdv)) (execs body (envOfC qual scope s.heap.objs.size f cdv))
        (fun fl s' => R (.ok (.ret (match fl with | .ret v => v | _ => .none))) s')
        (fun e s' => wpAny (model prog w) (A.deeper (envOfC qual scope s.heap.objs.size f cdv)) (leaving (envOfC qual scope s.heap.objs.size f cdv) e) (fun _ s'' => R (.error e) s'') (fun e' s'' => R (.error e') s'') s') s₁)
    (hco : scope.isCoroutine = false) (hgen : scope.isGenerator = false) (hk : scope.kind = .function) : codeAny (model prog w) A (.call (.ref f) args) R s := by
  refine codeAny_call_function hroom (X _ _ ho) rfl hco hgen rfl (codeRec_of X hcd) (hbind _ _ _ _ ?_)
  refine wpAny_newFunctionEnv_cells hk (kindsX hkind _) fun env he s₁ x => ?_
  subst he
  exact ⟨hlim.keeps x.toInCall.keep, codeAny_func (h s₁ x)⟩

/-- C(..): dict at size, instance at size + 1, then __init__ -/
theorem make_obj {R : Result → Shared → Prop} {C fI : Addr} {rest : List Value} {kw : List (Str × Value)}
    (X : K.In s.heap) (hm : makesIn K C = true) (hi : findIn K (.ref C) "__init__" = some (some (.ref fI))) (hf : isFn K (.ref fI) = true)
    (h : codeAny (model prog w) (A.under (.builtin "type.__call__" ⟨.ref C :: rest, kw⟩)) (.call (.ref fI) ⟨.ref (s.heap.objs.size + 1) :: rest, kw⟩) (InitBack (s.heap.objs.size + 1) R)
      { s with heap := (s.heap.push emptyDict).push (instObj C s.heap.objs.size) }) : codeAny (model prog w) A (.call (.ref C) ⟨rest, kw⟩) R s := by
  obtain ⟨hh, g, d, t, os⟩ := s
  exact make_core (makes_of X hm) (looks_findIn X hi) (fun self => bind_fn X self (beq_iff_eq.mp hf)) (.inl rfl) h

/-- x.name where the instance's dict holds the name and the class does not -/
theorem get_field {x C : Addr} {ox : Obj} {es : List DictEntry} {n : Nat} {name : Str} {expr : Bool} {v : Value} {Q : Value → Shared → Prop}
    (X : K.In s.heap) (I : PySem.W.InstAt s.heap x ox C (some (dictOf es n))) (hg : plainGet K C name = true) (hh : hasDictIn K C = true) (ha : findIn K (.ref C) name = some none)
    (hl : getL name es = some (some v)) (hv : handedIn v = true) (h : Q v { s with toks := s.toks + 1 }) : wpAny (model prog w) A (getAttr (.ref x) name expr) Q E s :=
  get_value X I (plainGet_of hg).1 (findObj_own hh ha rfl hl) hv h

/-- x.m(..): the method found in the class -/
theorem get_method {x C f : Addr} {ox : Obj} {es : List DictEntry} {n : Nat} {name : Str} {pl : Sem Bool} {Q : Value × List Value → Shared → Prop}
    (X : K.In s.heap) (I : PySem.W.InstAt s.heap x ox C (some (dictOf es n))) (hg : plainGet K C name = true) (hf : findIn K (.ref C) name = some (some (.ref f))) (ht : isFn K (.ref f) = true)
    (hl : getL name es = some none) (h : Q (.ref f, [.ref x]) s) : wpAny (model prog w) A (getMethod (.ref x) name pl) Q E s :=
  method_fn X I (plainGet_of hg).1 (plainGet_of hg).2 hf (beq_iff_eq.mp ht) (by show (lookIn name (dictOf es n)).map _ = _; rw [lookIn_dict, hl]; rfl) h

/-! the whole heap as the ledger: makes every rule that writes through a ledger a rule over any heap -/
def noObjs (h : Heap) : Heap := { h with objs := #[] }
theorem noObjs_get (h : Heap) (b : Addr) : (noObjs h).get? b = none := by
  cases e : (noObjs h).get? b with
  | none => rfl
  | some o => exact absurd (Heap.lt_size e) (Nat.not_lt_zero _)
def ledger (h : Heap) (L d : Addr) : List (Addr × Obj) := (List.range h.objs.size).filterMap fun a => if a = L ∨ a = d then none else (h.get? a).map fun o => (a, o)
theorem mem_ledger {h : Heap} {L d a : Addr} {o : Obj} : (a, o) ∈ ledger h L d ↔ a ≠ L ∧ a ≠ d ∧ h.get? a = some o := by
  unfold ledger
  rw [List.mem_filterMap]
  constructor
  · rintro ⟨b, _, e⟩
    split at e
    · cases e
    · rename_i hb
      obtain ⟨o', ho, e'⟩ := Option.map_eq_some_iff.mp e
      cases e'
      exact ⟨fun q => hb (.inl q), fun q => hb (.inr q), ho⟩
  · rintro ⟨n1, n2, ho⟩
    refine ⟨a, List.mem_range.mpr (Heap.lt_size ho), ?_⟩
    rw [if_neg (show ¬ (a = L ∨ a = d) from fun q => q.elim n1 n2), ho] <;> rfl
theorem news_ledger {h : Heap} {L d : Addr} {od : Obj} (hne : d ≠ L) (ho : h.get? d = some od) : News (noObjs h) L h ([] ++ (d, od) :: ledger h L d) := by
  rintro ⟨a, o⟩ hp
  rcases List.mem_cons.mp hp with e | hp
  · cases e
    exact ⟨ho, hne, noObjs_get _ _⟩
  · obtain ⟨n1, n2, e⟩ := mem_ledger.mp hp
    exact ⟨e, n1, noObjs_get _ _⟩
theorem fr_all {h : Heap} {L : Addr} {m : Str → Option Value} (n : h.Ns L m) : Fr (noObjs h) L h m :=
  ⟨n, fun b o e => (by rw [noObjs_get] at e; cases e), Nat.zero_le _⟩
/-- Upd of the head entry (for append_K, setItem_K ..) -/
theorem upd_ledger {h : Heap} {L d : Addr} {o o' : Obj} : Upd d o o' ((d, o) :: ledger h L d) ((d, o') :: ledger h L d) :=
  .head fun ⟨_, _⟩ hp => (mem_ledger.mp hp).2.1

/-- x.name = v over any heap: L is any namespace of the heap (the frame's, say): its map stays, its object is not told; all else but the dict stays -/
theorem set_field {x C dx L : Addr} {ox : Obj} {m : Str → Option Value} {es es' : List DictEntry} {n n' : Nat} {name : Str} {v : Value} {Q : Unit → Shared → Prop}
    (X : K.In s.heap) (I : PySem.W.InstAt s.heap x ox C (some (dictOf es n))) (hd : ox.dict = some dx) (hL : s.heap.Ns L m) (hne : dx ≠ L)
    (hs : findIn K (.ref C) "__setattr__" = some (some (.builtin "object.__setattr__"))) (hp : plainOver K C = true) (ht : takerIn K C name = some none) (hh : hasDictIn K C = true) (hl : (getL name es).isSome = true)
    (e : (putL name (PyData.keyHash w.params name) (.str name (s.toks + 1)) v es, putN name es n) = (es', n')) (hz : es'.length ≤ 1000)
    (h : ∀ h' : Heap, h'.Ns L m → h'.get? dx = some (dictOf es' n') → (∀ b o, b ≠ dx → b ≠ L → s.heap.get? b = some o → h'.get? b = some o) → Q () { s with heap := h', toks := s.toks + 2 }) :
    wpAny (model prog w) A (setAttr (.ref x) name v) Q E s := by
  obtain ⟨e1, e2⟩ := Prod.mk.inj e
  have hdx : s.heap.get? dx = some (dictOf es n) := by
    have := I.dict
    rw [hd] at this
    exact this
  refine set_plain X I hs (osa_dict (s := { s with toks := s.toks + 1 }) (h₀ := noObjs s.heap) (L := L) (m := m) (od := dictOf es n) (od' := dictOf es' n') (es := es') (n := n') (pre := []) (post := ledger s.heap L dx)
    (fr_all hL) (news_ledger hne hdx) X I hd hp ht hh hl (fun _ q => nomatch q) (fun ⟨_, _⟩ q => (mem_ledger.mp q).2.1) (by rw [putName_dict, e1, e2]) rfl hz fun h' F' N' => ?_)
  exact h h' F'.ns (N'.get (List.Mem.head _)) fun b o n1 n2 ho => N'.get (List.Mem.tail _ (mem_ledger.mpr ⟨n2, n1, ho⟩))
end
end Att

namespace L2
open PySem PySem.Spec PyProof.Rows

theorem vals_ints : ∀ {vs : List Value} {ns : List Int}, IntsAre vs ns → Vals (ns.map V.int) vs
  | _, _, .nil => .nil
  | _, _, .cons n t h => .cons ⟨t, rfl⟩ (vals_ints h)

/-- nothing is tracked but the script, known to the object (or it is an object of the module) -/
def Only (H : Hp) : Prop := ∀ b, H b = none ∨ ∃ o xs, H b = some (.frz o (.lst xs))

/-- THE HEAD: the law's promise, at the heap behind the top. F, the promise of the law's def, may use that base is part of the heap (so K.In base, base.Ns mainGlobals mg stand in Mod) -/
theorem law_call {P : Program} {w : World} {K : PySem.W.Frag} {mg mb : Str → Option Value} {CX : CXT} {k : Nat} {fa a : Addr} {fd : FuncData} {x : Str} {sp : Sp} {s₁ : Shared} {vs : List Value} {ns : List Int}
    (KX : K.In s₁.heap) (hns : s₁.heap.Ns mainGlobals mg) (hb : s₁.heap.Ns builtinsNs mb) (hbb : ∀ x : Str, x ≠ "__name__" → mb x = bootBuiltins x) (hlim : s₁.heap.NoLimit) (hg : s₁.gens = #[])
    (ha : s₁.heap.get? a = some { cls := .type "list", data := .seq vs.toArray }) (hi : IntsAre vs ns) (hl : ns.length ≤ sizeLine) (hr : Room k callerA)
    (F : ∀ base : Heap, K.In base → base.Ns mainGlobals mg → FnOk P w K mg base CX k fa fd [x] sp) (hbind : ∀ (s : Shared) (u : Value), BindsTo s fd ⟨[u], []⟩ [(x, u)])
    (hsp : ∀ H : Hp, Only H → SqL K H a (ns.map V.int) → sp [.ref a] H (fun v _ => v = .bl true) fun _ _ _ => False)
    (hCX : ∀ H e s', CX [] H s₁ (fun _ _ _ => False) e s' → False) :
    codeAny (model P w) callerA (.call (.ref fa) ⟨[.ref a], []⟩) (fun r s' => r = .ok (.ret (.bool true)) ∧ OldK s₁.heap s'.heap ∧ s'.os = s₁.os ∧ AllBare s'.gens) s₁ := by
  have rv := vals_ints hi
  have lenV := hi.length
  -- from an abstract heap in which nothing but the script may be tracked
  have core : ∀ H : Hp, Only H → SqL K H a (ns.map V.int) → HOk P w H s₁.heap → (∀ b, H b ≠ none → b = a) → (H a ≠ none → K.lookup a = none) →
      codeAny (model P w) callerA (.call (.ref fa) ⟨[.ref a], []⟩) (fun r s' => r = .ok (.ret (.bool true)) ∧ OldK s₁.heap s'.heap ∧ s'.os = s₁.os ∧ AllBare s'.gens) s₁ := by
    intro H hO hS hok hA hK
    have base_of : ∀ {b : Addr} {o : Obj}, s₁.heap.get? b = some o → H b = none → (hidT s₁.heap H).get? b = some o := fun e n => hidT_get e n
    have noA : ∀ {b : Addr} {o : Obj} {es : Array DictEntry} {ep : Nat}, s₁.heap.get? b = some o → o.data = .dict es ep → H b = none := fun {b o es ep} e d => by
      cases q : H b with
      | none => rfl
      | some u =>
        have e' : b = a := hA b (by rw [q]; simp)
        subst e'
        rw [ha] at e; cases e
        have d' : Data.seq vs.toArray _ = Data.dict es ep := d
        cases d'
    have nsK : ∀ {b : Addr} {m : Str → Option Value}, s₁.heap.Ns b m → (hidT s₁.heap H).Ns b m := fun {b m} ⟨o, es, ep, e, d, r⟩ => ⟨o, es, ep, base_of e (noA e d), d, r⟩
    have hKb : K.In (hidT s₁.heap H) := fun b o e => base_of (KX b o e) (by
      cases q : H b with
      | none => rfl
      | some u =>
        have e' : b = a := hA b (by rw [q]; simp)
        subst e'
        rw [hK (by rw [q]; simp)] at e; cases e)
    have hM : Mod K mg (hidT s₁.heap H) := ⟨hKb, nsK hns, ⟨mb, nsK hb, hbb⟩, let ⟨mc, h1, h2⟩ := hlim; ⟨mc, nsK h1, h2⟩⟩
    have e0 : Env0 P w K mg (hidT s₁.heap H) callerA [] s₁ H := ⟨rfl, hM, fun b o e => of_hidT e, Nat.le_of_eq (hidT_size _ _), trivial, fun b hb => absurd (show b ∈ ([] : List Addr) from hb) (by simp), hok, .of_eq hg⟩
    refine codeAny_mono ((F _ hKb (nsK hns)).run callerA [] s₁ H ⟨[.ref a], []⟩ [.ref a] [.ref a] _ _ hr e0 (hbind s₁ (.ref a)) (.cons rfl .nil) (hsp H hO hS)) fun r s' h => ?_
    cases r with
    | error e => exact (hCX H e s' h).elim
    | ok fl =>
      cases fl with
      | next => exact False.elim h
      | brk => exact False.elim h
      | cont => exact False.elim h
      | ret u =>
        obtain ⟨v, H', os, bare, un, hok', r', q⟩ := h
        have q' : v = .bl true := q
        subst q'
        obtain rfl : u = Value.bool true := r'
        refine ⟨rfl, OldK.of_keep fun b o e => ?_, os, bare⟩
        cases q : H b with
        | none => exact un.keep b o e q (by intro z; exact absurd (show b ∈ ([] : List Addr) from z) (by simp)) (by simp)
        | some u =>
          rcases hO b with z | ⟨ob, xs, z⟩
          · rw [q] at z; cases z
          · have z2 := un.frzs b ob _ z
            obtain ⟨e1, _⟩ := hok b _ z
            obtain ⟨e2, _⟩ := hok' b _ z2
            rw [e] at e1; cases e1
            exact e2
  cases hk : K.lookup a with
  | some o =>
    -- the script is one of the module's own objects
    have e := KX a o hk
    rw [ha] at e
    cases e
    refine core (fun _ => none) (fun _ => .inl rfl) (.inr ⟨_, vs.toArray, _, hk, rfl, rfl, rfl, by rw [List.size_toArray, lenV]; exact hl, by simpa using rv⟩) (fun b u z => by have z' : (none : Option HO) = some u := z; cases z') (fun b z => absurd rfl z) fun z => absurd rfl z
  | none =>
    refine core (fun b => if b = a then some (.frz { cls := .type "list", data := .seq vs.toArray } (.lst (ns.map V.int))) else none) (fun b => ?_) (.inl (.inr ⟨{ cls := .type "list", data := .seq vs.toArray }, if_pos rfl⟩)) (fun b u z => ?_) (fun b z => ?_) fun _ => hk
    · by_cases hb : b = a
      · exact .inr ⟨_, _, if_pos hb⟩
      · exact .inl (if_neg hb)
    · by_cases hb : b = a
      · have z' := (if_pos hb).symm.trans z
        cases z'
        subst hb
        exact ⟨ha, by rw [List.length_map]; exact hl, vs, _, rv, ha⟩
      · have z' := (if_neg hb).symm.trans z
        cases z'
    · by_cases hb : b = a
      · exact hb
      · exact absurd (if_neg hb) z
end L2

namespace L2
open PySem PySem.Spec PyProof.Rows

abbrev KOf {K : PySem.W.Frag} {h : Heap} (_ : K.In h) : PySem.W.Frag := K

/-- the goal that k_head leaves (case hc), from the law's promise. F gives the function object fd (K's own) once, then the promise over every base -/
theorem walk_of {l : PySem.W.OpenLaw} {n k : Nat} {q : Program} {loose : List Str} {XP : (Str → Option Value) → Heap → Prop} {YP : World → Heap → Prop} {d : DefRec} {K : Params → PySem.W.Frag} {CX : World → CXT} {sp : World → Sp} {x : Str}
    (hn : l.most = some n) (hn2 : n ≤ sizeLine) (hdf : d.params.defaults = []) (hr : Room k callerA)
    (hY : ∀ (w : World) (h : Heap), YP w h → (K w.params).In h)
    (F : ∀ (w : World) (mg : Str → Option Value) (fa : Addr) (h : Heap), (K w.params).In h → h.Ns mainGlobals mg → mg d.name = some (.ref fa) →
      ∃ fd : FuncData, (∀ (s : Shared) (u : Value), BindsTo s fd ⟨[u], []⟩ [(x, u)]) ∧
        ∀ base : Heap, (K w.params).In base → base.Ns mainGlobals mg → FnOk l.prog w (K w.params) mg base (CX w) k fa fd [x] (sp w))
    (hsp : ∀ (w : World) (H : Hp) (a : Addr) (ns : List Int), ns.length ≤ n → Only H → SqL (K w.params) H a (ns.map V.int) → sp w [.ref a] H (fun v _ => v = .bl true) fun _ _ _ => False)
    (hCX : ∀ (w : World) (H : Hp) (s : Shared) (e : Value) (s' : Shared), CX w [] H s (fun _ _ _ => False) e s' → False) :
    PySem.W.WalkO q loose XP YP l.row.toRowW d [] (fun f vs => PySem.call f vs) := by
  refine Att.attach_call hn hdf fun w s₀ s₁ mg mb fa o pm cd doc a vs ns G Y ho hd hcd hmg hobj hints hlen hg => ?_
  have KX := hY w _ Y
  obtain ⟨fd, hb, hF⟩ := F w mg fa _ KX G.T.g hmg
  exact law_call KX G.T.g G.T.b G.T.builtins G.T.nolimit hg hobj hints (Nat.le_trans hlen hn2) hr hF hb (fun H hO hS => hsp w H a ns hlen hO hS) fun H e s' => hCX w H s₁ e s'
/-- the same where the promise hangs on the written part alone: (sp := My.sp_law), no hole under a binder -/
theorem walk_ofK {l : PySem.W.OpenLaw} {n k : Nat} {q : Program} {loose : List Str} {XP : (Str → Option Value) → Heap → Prop} {YP : World → Heap → Prop} {d : DefRec} {K : Params → PySem.W.Frag} {CX : CXT} {sp : PySem.W.Frag → Sp} {x : Str}
    (hn : l.most = some n) (hn2 : n ≤ sizeLine) (hdf : d.params.defaults = []) (hr : Room k callerA)
    (hY : ∀ (w : World) (h : Heap), YP w h → (K w.params).In h)
    (F : ∀ (w : World) (mg : Str → Option Value) (fa : Addr) (h : Heap), (K w.params).In h → h.Ns mainGlobals mg → mg d.name = some (.ref fa) →
      ∃ fd : FuncData, (∀ (s : Shared) (u : Value), BindsTo s fd ⟨[u], []⟩ [(x, u)]) ∧
        ∀ base : Heap, (K w.params).In base → base.Ns mainGlobals mg → FnOk l.prog w (K w.params) mg base CX k fa fd [x] (sp (K w.params)))
    (hsp : ∀ (K : PySem.W.Frag) (H : Hp) (a : Addr) (ns : List Int), ns.length ≤ n → Only H → SqL K H a (ns.map V.int) → sp K [.ref a] H (fun v _ => v = .bl true) fun _ _ _ => False)
    (hCX : ∀ (H : Hp) (s : Shared) (e : Value) (s' : Shared), CX [] H s (fun _ _ _ => False) e s' → False) :
    PySem.W.WalkO q loose XP YP l.row.toRowW d [] (fun f vs => PySem.call f vs) :=
  walk_of (K := K) (CX := fun _ => CX) (sp := fun w => sp (K w.params)) hn hn2 hdf hr hY F (fun w H a ns h1 h2 h3 => hsp (K w.params) H a ns h1 h2 h3) fun _ H s e s' => hCX H s e s'
end L2

/- THE LAST THEOREM (shape; LID, My.* are yours):
   My.Adr: a structure of the addresses that your layer names (classes, functions); My.Txt K t: a structure (Prop) of the equations over K;
   My.txt_mk : {K} {implicit addresses ..} (e1 : nsIn K mainGlobals "law" = some (some (.ref f))) (e2 : K.lookup f = some ⟨oc, od, .func (fnOf "law" "law" params body scope dV kV doc pm an cdv ct), sl⟩) (e3 : codeIn K cdv "law" = true) .. : ∃ t, My.Txt K t

set_option maxRecDepth 100000 in
set_option maxHeartbeats 0 in
theorem PySem.Challenge.cw_LID_holds : PySem.Challenge.rw_LID.Holds := by
  w_on; o_law; k_head; (case hw => w_witness2)
  k_fill
  refine L2.walk_of (l := PySem.Challenge.rw_LID) (n := 63) (k := 40) (x := "script") (CX := fun w => ..) (sp := fun _ => My.sp_law) rfl (by decide) rfl ⟨rfl, by decide, by decide⟩ (fun w h Y => PySem.W.kIn_of Y) ?F ?S ?C
  case F =>
    intro w mg fa h KX G hmg
    have T : ∃ t, My.Txt (L2.KOf KX) t := by
      dsimp only [L2.KOf]                          -- K must stand as «<heap const> w.params» for k_is
      refine' My.txt_mk ?e1 ?e2 ?e3 ..
      (case e1 => PySem.W.k_is)                    -- in the order: a name -> its address -> its object -> its parts
      (case e2 => PySem.W.k_is)
      ..
    obtain ⟨t, T⟩ := T
    have e0 := hmg.symm.trans (PySem.W.mg_of KX G T.law)
    cases e0                                       -- fa is the law's own address
    exact ⟨_, fun s u => .of_eq rfl, fun base kb nb => My.law_fn T kb nb⟩     -- if «.of_eq rfl» comes too early: refine' ⟨_, ?b, fun base kb nb => My.law_fn T kb nb⟩; exact fun s u => .of_eq rfl
  case S => exact fun w H a ns hl hO hS => ..
  case C => exact ..
(the tactic k_is has no namespace: write k_is) -/

/-! SHORT WORDS over the layer: a def of the text, its body, what a loop and a test want. -/
namespace L2
open PySem PySem.Spec PyProof.Rows

/-! ### the text by places -/
/-- the j-th statement of a class's body -/
def inClass (s : Stmt) (j : Nat) : Stmt := match s with
  | .ClassDef _ _ _ body _ _ _ _ _ _ _ => body.getD j (.Pass ⟨0, 0, 0, 0⟩)
  | _ => .Pass ⟨0, 0, 0, 0⟩
def defArgs (s : Stmt) : Arguments := match s with
  | .FunctionDef _ a _ _ _ _ _ _ _ _ => a
  | _ => { posonlyargs := [], args := [], vararg := none, kwonlyargs := [], kw_defaults := [], kwarg := none, defaults := [] }
def defBody (s : Stmt) : List Stmt := match s with
  | .FunctionDef _ _ b _ _ _ _ _ _ _ => b
  | _ => []
def defScope (s : Stmt) : Scope := match s with
  | .FunctionDef _ _ _ _ _ _ sc _ _ _ => sc
  | _ => { kind := .function, names := [], isGenerator := false, isCoroutine := false }

/-! ### no exception leaves a def -/
abbrev CX0 : CXT := fun _ _ _ _ _ _ => False
abbrev E0 : XK := fun _ _ _ => False
theorem pass0 {X : Cx} : Passes CX0 X E0 := fun _ _ _ _ _ _ _ h => h.elim

/-! ### a def (or method) of the text as it stands behind the top -/
structure Fun (K : PySem.W.Frag) (x qual : Str) (st : Stmt) (f : Addr) (fd : FuncData) : Prop where
  ex : ∃ (oc : Value) (od : Option Addr) (kV doc pm : Value) (an : Option Addr) (cdv ct : Value) (osl : Array (Option Value)),
    fd = PySem.W.fnOf x qual (defArgs st) (defBody st) (defScope st) .none kV doc pm an cdv ct ∧ K.lookup f = some ⟨oc, od, .func fd, osl⟩ ∧ PySem.W.codeIn K cdv qual = true
  kp : PySem.W.keepIn K (.ref f) = true
section
variable {P : Program} {w : World} {K : PySem.W.Frag} {mg : Str → Option Value} {base : Heap}
/-- THE RULE for a def: its body as a term of rules, and the reading of that term -/
theorem Fun.ok {x qual : Str} {st : Stmt} {f : Addr} {fd : FuncData} {N ps : List Str} {k : Nat} {sp : Sp} (F : Fun K x qual st f fd) (S : FnScope N ps (defScope st)) (len : ∀ vs H Q E, sp vs H Q E → vs.length = ps.length)
    (hbody : ∀ (cdv : Value) (A : Around) (outer : List Env) (s : Shared) (H : Hp) (vs : List V) (Q : VK) (E : XK), Room k (A.deeper (envOfC qual (defScope st) s.heap.objs.size f cdv)) → sp vs H Q E →
      ∃ t, PSs (cxOf CX0 P w K mg base N qual (defScope st) f cdv A outer s H E).nox (defBody st) t ∧ t { nx := fun _ H' => Q .non H', rt := Q } (start N vs) H) : FnOk P w K mg base CX0 (k + 1) f fd ps sp := by
  obtain ⟨oc, od, kV, doc, pm, an, cdv, ct, osl, rfl, lk, hcd⟩ := F.ex
  refine fn_of lk hcd S len fun A outer s H vs Q E hr hsp => ?_
  obtain ⟨t, h, q⟩ := hbody cdv A outer s H vs Q E hr hsp
  exact ⟨t, h.nox, q⟩
/-- how its arguments bind (no defaults): h is «fun _ _ _ _ _ _ us hl => match us, hl with | [_, _], _ => rfl», one _ a parameter -/
theorem Fun.binds {x qual : Str} {st : Stmt} {f : Addr} {fd : FuncData} {ps : List Str} (F : Fun K x qual st f fd)
    (h : ∀ (kV doc pm : Value) (an : Option Addr) (cdv ct : Value) (us : List Value), us.length = ps.length → bindArgs (PySem.W.fnOf x qual (defArgs st) (defBody st) (defScope st) .none kV doc pm an cdv ct) ⟨us, []⟩ = pure (ps.zip us)) : Binds K fd ps [] := by
  obtain ⟨oc, od, kV, doc, pm, an, cdv, ct, osl, rfl, lk, hcd⟩ := F.ex
  exact .all (h kV doc pm an cdv ct)
theorem fun_mk {x qual : Str} {st : Stmt} {f : Addr} {oc : Value} {od an : Option Addr} {osl : Array (Option Value)} {kV doc pm cdv ct : Value} (l : K.lookup f = some ⟨oc, od, .func (PySem.W.fnOf x qual (defArgs st) (defBody st) (defScope st) .none kV doc pm an cdv ct), osl⟩)
    (c : PySem.W.codeIn K cdv qual = true) (k : PySem.W.keepIn K (.ref f) = true) : Fun K x qual st f (PySem.W.fnOf x qual (defArgs st) (defBody st) (defScope st) .none kV doc pm an cdv ct) := ⟨⟨oc, od, kV, doc, pm, an, cdv, ct, osl, rfl, l, c⟩, k⟩
end
theorem hu_of {A : Around} {k : Nat} (hr : Room k A) : A.units + 1 < cLine := Nat.lt_of_le_of_lt (Nat.add_le_add_left (by decide : 1 ≤ 64) _) hr.units
theorem small1000 {n : Nat} (h : n ≤ 1000) : n < sizeLine := Nat.lt_of_le_of_lt h (by decide)

/-! ### expressions in short: the name that stands in the i-th slot -/
section
variable {X : Cx}
theorem pv (i : Nat) {x : Str} {pos : Pos} (hN : X.N[i]? = some x := by rfl) (hv : Vis X.env.scope x := by first | exact Or.inl rfl | exact Or.inr (Or.inl rfl) | exact Or.inr (Or.inr rfl)) (hd : (x == ("__debug__" : Str)) = false := by decide)
    (hcd : (x == ("__classdict__" : Str)) = false := by decide) : PE X (.Name x pos) (tVar i) := pe_var hN hv hd hcd
end

/-! ### tests -/
theorem iteF {A B : Prop} (h : B) : if false = true then A else B := by
  rw [if_neg Bool.false_ne_true]
  exact h
theorem iteT {A B : Prop} (h : A) : if true = true then A else B := by
  rw [if_pos rfl]
  exact h
theorem ite2 {c A B : Prop} [Decidable c] (h1 : c → A) (h2 : ¬ c → B) : if c then A else B := by
  by_cases h : c
  · rw [if_pos h]
    exact h1 h
  · rw [if_neg h]
    exact h2 h
theorem iteNS {c A B : Prop} [Decidable c] (hc : c) (h : B) : if (!decide c) = true then A else B := by
  rw [decide_eq_true hc]
  exact iteF h

/-! ### heaps -/
/-- all that was tracked is as it was -/
def Same (H H' : Hp) : Prop := ∀ b o, H b = some o → H' b = some o
theorem Same.refl (H : Hp) : Same H H := fun _ _ h => h
theorem Same.trans {H H1 H2 : Hp} (a : Same H H1) (b : Same H1 H2) : Same H H2 := fun c o h => b c o (a c o h)
theorem Same.free {H H' : Hp} (e : Same H H') {l : Addr} (h : H' l = Option.none) : H l = Option.none := by
  cases q : H l with
  | none => rfl
  | some o =>
    rw [e l o q] at h
    cases h
theorem Same.seq {K : PySem.W.Frag} {H H' : Hp} {a : Addr} {xs : List V} (e : Same H H') (h : SqL K H a xs) : SqL K H' a xs := by
  rcases h with (h | ⟨o, h⟩) | h
  · exact .inl (.inl (e _ _ h))
  · exact .inl (.inr ⟨o, e _ _ h⟩)
  · exact .inr h

end L2
set_option maxHeartbeats 4000000
/-! Own rules over the layer: products and quotients of great numbers, isinstance of plain values, a def of the text with what binds it. -/
namespace L2
open PySem PySem.Spec PyProof.Rows
section
variable {X : Cx}
theorem op_mulG : OpR X (binaryOp .Mult) (rI IntMulOk fun i j => .int (i * j)) := opI fun _ _ _ _ _ _ _ hc q => mul_int q hc
def CDivG (_ j : Int) : Prop := 0 < j ∧ j.natAbs.log2 < 9000
theorem op_fdivG : OpR X (binaryOp .FloorDiv) (rI CDivG fun i j => .int (i / j)) := opI fun i j _ _ _ _ _ hc q => by
  have h1 : (0 : Int) < j := hc.1
  exact floordiv_int (by omega) (by rw [Int.fdiv_eq_ediv_of_nonneg i (by omega)]; exact q) (.inl (PyProof.noPylong_of_log2 hc.2))
theorem CDivG.small {i j : Int} (h : 0 < j) (h' : j < 1073741824) : CDivG i j := by
  refine ⟨h, ?_⟩
  have h0 : j.natAbs ≠ 0 := by omega
  have : j.natAbs.log2 < 30 := (Nat.log2_lt h0).mpr (by omega)
  omega
theorem CDivG.big {i j : Int} (h : 0 < j) (h' : j.natAbs < 2 ^ 8000) : CDivG i j := by
  refine ⟨h, ?_⟩
  have h0 : j.natAbs ≠ 0 := by omega
  have : j.natAbs.log2 < 8000 := (Nat.log2_lt h0).mpr h'
  omega
theorem mulS {i j : Int} (h1 : -(2 ^ 64) < j) (h2 : j < 2 ^ 64) : IntMulOk i j := IntMulOk.of_right (intBits_le_64 h1 h2)
theorem mulL {i j : Int} (h1 : -(2 ^ 64) < i) (h2 : i < 2 ^ 64) : IntMulOk i j := IntMulOk.of_left (intBits_le_64 h1 h2)
theorem mulB {i j : Int} (h1 : i.natAbs < 2 ^ 8000) (h2 : j.natAbs < 2 ^ 8000) : IntMulOk i j := IntMulOk.of_le (m := 8000) (n := 8000) (intBits_le_iff.mpr h1) (intBits_le_iff.mpr h2) (by decide)
/-- isinstance(x, T), T a built-in type -/
def kitB (T U : String) : Option Bool := if (Value.type T == Value.type U) = true then some true else if PySem.W.kitMeta U = true then (fastBuiltinMro T).map (·.contains (.type U)) else none
theorem kit_of (K : PySem.W.Frag) {T U : String} {b : Bool} (e : kitB T U = some b) : PySem.W.kitOne K (.type T) (.type U) = some b := e
theorem call_isinst : CallR X (.builtin "isinstance") (fun xs H Q => ∃ x T U b, xs = [x, .ty U] ∧ TyOf X.K H x (.type T) ∧ kitB T U = some b ∧ Q (.bl b) H) := by
  intro pins s σ H xs us Q I r h
  obtain ⟨x, T, U, b, rfl, ty, e, q⟩ := h
  obtain ⟨u, w', rfl, rx, ru⟩ := vals2 r
  cases ru
  exact isinst_ok I rx ty (kit_of X.K e) fun tk => ⟨.bl b, H, I.tok tk, rfl, q⟩
end
theorem iteP {b : Bool} {A B : Prop} (e : b = true) (h : A) : if b = true then A else B := by
  rw [if_pos e]
  exact h
theorem iteN {b : Bool} {A B : Prop} (e : b = false) (h : B) : if b = true then A else B := by
  subst e
  exact iteF h
/-- a def of the top: its object, its name, how it binds -/
structure DefAt (K : PySem.W.Frag) (mg : Str → Option Value) (x : Str) (st : Stmt) (ps : List Str) (f : Addr) (fd : FuncData) : Prop where
  F : Fun K x x st f fd
  g : mg x = some (.ref f)
  b : Binds K fd ps []
theorem atI_lt {α : Type} {xs : List α} {i : Int} {v : α} (h : 0 ≤ i) (e : xs[i.toNat]? = some v) : atI xs i = some v := by
  have := atI_nat e
  rwa [Int.toNat_of_nonneg h] at this
/-- behind a statement what M says holds; then the rest from M alone -/
def tMid (t u : TS) : TS := fun D σ H => ∃ M : St → Hp → Prop, t { D with nx := M } σ H ∧ ∀ σ' H', M σ' H' → u D σ' H'
theorem pss_mid {X : Cx} {st : Stmt} {rest : List Stmt} {t u : TS} (h1 : PS X st t) (h2 : PSs X rest u) : PSs X (st :: rest) (tMid t u) := by
  intro pins s σ H D I h
  obtain ⟨M, h3, h4⟩ := h
  refine wpAny_execs_cons (thn (h1 pins s σ H _ I h3) fun f s1 q => ?_)
  cases f with
  | next =>
    obtain ⟨σ1, H1, I1, q1⟩ := q
    exact h2 pins s1 σ1 H1 D I1 (h4 σ1 H1 q1)
  | brk => exact q
  | cont => exact q
  | ret v => exact q
theorem same_new {H : Hp} {l : Addr} {o : HO} (h : H l = none) : Same H (upd H l o) := fun b u e => by rw [upd_ne (ne_of_none e h)]; exact e
end L2
/-! Own rules: a text walked sign by sign; == and in over whole data. -/
namespace L2
open PySem PySem.Spec PyProof.Rows
def Its (x : Str) : It := ⟨fun i _ => i < x.cps.size, fun i H v H' => H' = H ∧ ∃ c, x.cps[i]? = some c ∧ v = .str ⟨#[c]⟩, fun i _ => i = x.cps.size⟩
theorem turn_str {P : Program} {w : World} {K : PySem.W.Frag} {tg : Expr} (it : Addr) (x : Str) (t : Tok) (n : String)
    (hn : ["enumerate", "zip", "dict_itemiterator", "dict_reverseitemiterator", "odict_iterator", "itertools.zip_longest", "itertools.pairwise"].contains n = false)
    (W : ∀ A' : Around, A'.handled = none → Walks P w A' it [it] [it] x.cps.size (SignAt x) (fun i h => h.IsStrIter it n x t i))
    (S : ∀ (A : Around) (i : Nat) (s : Shared) (Q : Value → Shared → Prop) (E : Value → Shared → Prop), s.heap.IsStrIter it n x t i → Q (.ref it) s → wpAny (model P w) A (pyIter (.ref it)) Q E s) :
    Turn P w K tg (Its x) [it] it (fun i h => h.IsStrIter it n x t i) where
  mem := by simp
  obj := fun i h st b hb => by
    have e : b = it := by simpa using hb
    subst e
    obtain ⟨o, e, c, d⟩ := st
    exact ⟨o, e, fun v z => by rw [d] at z; cases z⟩
  keep := fun i h h' st k => by
    obtain ⟨o, e, r⟩ := st
    exact ⟨o, k it (by simp) o e, r⟩
  item := by
    intro X hP hw hK hc i pins s σ H E I hf st hg
    subst hP hw hK
    obtain ⟨f0, f1, f2, f3, f4, f5⟩ := hf it (by simp)
    refine (W X.A (I.ok.hd hc)).item i s _ _ hg st fun v h' tk hv st' kk => ?_
    obtain ⟨c, u, hx, rfl⟩ := hv
    have I1 : Inv X pins σ H { s with heap := h', toks := tk } := I.turned (fun b o hb e => kk b o (by simpa using hb) e) f0 f1 f3 f4 f5
    obtain ⟨o, e, c1, d1⟩ := id st'
    exact ⟨_, rfl, go_of (s := { s with heap := h', toks := tk }) e c1 d1 hn ⟨.str ⟨#[c]⟩, H, I1, ⟨u, rfl⟩, ⟨rfl, c, hx, rfl⟩, st', fun b hb => (hf b hb).1⟩⟩
  done := by
    intro X hP hw hK hc i pins s σ H E I hf st hg
    subst hP hw hK
    obtain ⟨f0, f1, f2, f3, f4, f5⟩ := hf it (by simp)
    have e : i = x.cps.size := hg
    subst e
    exact (W X.A (I.ok.hd hc)).done s _ E st fun h' tk kk => ⟨rfl, I.turned (fun b o hb e => kk b o (by simpa using hb) e) f0 f1 f3 f4 f5⟩
  self := fun A i s Q E st h => S A i s Q E st h
section
variable {X : Cx} {tg : Expr}
def iStr (tl : TE) : TI := fun σ H R => tl σ H fun x H1 => ∃ z, x = .str z ∧ R (Its z) H1
theorem pi_str {l : Expr} {tl : TE} (hl : PE X l tl) : PI X tg l (iStr tl) := by
  intro pins s σ H R I h
  refine thn (hl pins s σ H _ I h) fun v s1 ⟨x, H1, I1, r1, q1⟩ => ?_
  obtain ⟨z, rfl, q⟩ := q1
  obtain ⟨t, rfl⟩ := r1
  have fp : ∀ b ∈ [s1.heap.objs.size], FpOk X pins H1 b := fun b hb => by
    have e : b = s1.heap.objs.size := by simpa using hb
    subst e
    exact I1.fpOk (Nat.le_refl _) (I1.hok.fresh (Nat.le_refl _))
  cases ha : z.cps.all (· < 128)
  · refine wpAny_pyIter_wide ha ?_
    exact ⟨s1.heap.objs.size, [s1.heap.objs.size], _, _, H1, rfl, I1.kept (t' := s1.toks) fun b o e => Heap.get?_push_of_some _ e, turn_str _ z t "str_iterator" (by decide) (fun A' hA => Walks.strWide hA _ z t) (fun _ _ _ _ _ st h => wpAny_pyIter_striter_wide st h), ⟨_, Heap.get?_push_size _ rfl, rfl, rfl⟩, fp, q⟩
  · refine wpAny_pyIter_ascii ha ?_
    exact ⟨s1.heap.objs.size, [s1.heap.objs.size], _, _, H1, rfl, I1.kept (t' := s1.toks) fun b o e => Heap.get?_push_of_some _ e, turn_str _ z t "str_ascii_iterator" (by decide) (fun A' hA => Walks.strAscii hA _ z t) (fun _ _ _ _ _ st h => wpAny_pyIter_striter_ascii st h), ⟨_, Heap.get?_push_size _ rfl, rfl, rfl⟩, fp, q⟩
end
theorem for_str {x : Str} {g : TG} {tb : TS} {D : Ends} {σ : St} {H : Hp} (Pv : Nat → St → Hp → Prop) (h0 : Pv 0 σ H)
    (hs : ∀ i c σ H, x.cps[i]? = some c → Pv i σ H → g (.str ⟨#[c]⟩) σ H fun σ2 H2 => tb { D with nx := Pv (i + 1), ct := Pv (i + 1), bk := D.nx } σ2 H2) (hd : ∀ σ H, Pv x.cps.size σ H → D.nx σ H) :
    ∃ W : Nat → Nat → St → Hp → Prop, (∃ m, W 0 m σ H) ∧ ∀ i m σ H, W i m σ H →
      ((Its x).stop i H ∧ D.nx σ H) ∨ ((Its x).go i H ∧ ∃ N : St → Hp → Prop, (∀ σ' H', N σ' H' → ∃ m', m' < m ∧ W (i + 1) m' σ' H') ∧ ∀ v H', (Its x).yld i H v H' → g v σ H' fun σ2 H2 => tb { D with nx := N, ct := N, bk := D.nx } σ2 H2) := by
  refine ⟨fun i m σ H => m = x.cps.size - i ∧ i ≤ x.cps.size ∧ Pv i σ H, ⟨x.cps.size, by simp, Nat.zero_le _, h0⟩, ?_⟩
  rintro i m σ H ⟨rfl, hi, p⟩
  by_cases hlt : i < x.cps.size
  · refine .inr ⟨hlt, Pv (i + 1), fun σ' H' p' => ⟨x.cps.size - (i + 1), by omega, rfl, hlt, p'⟩, fun v H' y => ?_⟩
    obtain ⟨e, c, hc, rfl⟩ := y
    subst e
    exact hs i c σ _ hc p
  · have e : i = x.cps.size := by omega
    subst e
    exact .inl ⟨rfl, hd σ H p⟩
/-! ### whole data -/
mutual
inductive Rdv (K : PySem.W.Frag) (H : Hp) : V → PyData → Prop
  | non : Rdv K H .non .none
  | bl (b : Bool) : Rdv K H (.bl b) (.bool b)
  | int (i : Int) : Rdv K H (.int i) (.int i)
  | str (x : Str) : Rdv K H (.str x) (.str x)
  | lst {a : Addr} {xs : List V} {ds : List PyData} : SqL K H a xs → RdvAll K H xs ds → Rdv K H (.ref a) (.list ds)
  | tup {a : Addr} {xs : List V} {ds : List PyData} : SqT K H a xs → RdvAll K H xs ds → Rdv K H (.ref a) (.tuple ds)
inductive RdvAll (K : PySem.W.Frag) (H : Hp) : List V → List PyData → Prop
  | nil : RdvAll K H [] []
  | cons {x : V} {d : PyData} {xs : List V} {ds : List PyData} : Rdv K H x d → RdvAll K H xs ds → RdvAll K H (x :: xs) (d :: ds)
end
section
variable {X : Cx} {pins : List (Addr × Obj)} {σ : St} {H : Hp} {s : Shared}
mutual
theorem Rdv.reads (I : Inv X pins σ H s) : ∀ {v : V} {d : PyData} {u : Value}, Rdv X.K H v d → RelV v u → ∃ as, Reads s.heap u d as
  | _, _, _, .non, r => by cases r; exact ⟨_, .none⟩
  | _, _, _, .bl b, r => by cases r; exact ⟨_, .bool b⟩
  | _, _, _, .int i, r => by obtain ⟨t, rfl⟩ := r; exact ⟨_, .int i t⟩
  | _, _, _, .str x, r => by obtain ⟨t, rfl⟩ := r; exact ⟨_, .str x t⟩
  | _, _, _, .lst hq hr, r => by
    cases r
    obtain ⟨its, rv, p, hz⟩ := I.list hq
    obtain ⟨as, ra⟩ := RdvAll.reads I hr rv
    obtain ⟨o, ho, hc, n, hd⟩ := p.isList
    exact ⟨_, .list ho hc hd (by simpa using ra)⟩
  | _, _, _, .tup hq hr, r => by
    cases r
    obtain ⟨its, rv, p, hz⟩ := I.tuple hq
    obtain ⟨as, ra⟩ := RdvAll.reads I hr rv
    obtain ⟨o, ho, hc, n, hd⟩ := p
    exact ⟨_, .tuple ho hc hd (by simpa using ra)⟩
theorem RdvAll.reads (I : Inv X pins σ H s) : ∀ {vs : List V} {ds : List PyData} {us : List Value}, RdvAll X.K H vs ds → Vals vs us → ∃ as, ReadsAll s.heap us ds as
  | _, _, _, .nil, r => by cases r; exact ⟨_, .nil⟩
  | _, _, _, .cons h t, r => by
    cases r with
    | cons r1 r2 =>
      obtain ⟨as, ra⟩ := Rdv.reads I h r1
      obtain ⟨bs, rb⟩ := RdvAll.reads I t r2
      exact ⟨_, .cons ra rb⟩
end
/-- two wholes that may be compared -/
structure CmpD (x y : PyData) : Prop where
  l1 : x.canLay0 = true
  l2 : y.canLay0 = true
  dp : x.depth ≤ 64
def rEqD (K : PySem.W.Frag) (neg : Bool) : R2 := fun x y H Q => ∃ dx dy, Rdv K H x dx ∧ Rdv K H y dy ∧ CmpD dx dy ∧ Q (.bl (if neg then !PyData.eqv dx dy else PyData.eqv dx dy)) H
theorem op_eq_deep (hu : X.A.units + 64 < cLine) : OpR X (compareOp .Eq) (rEqD X.K false) := by
  intro pins s σ H x y v u Q I rx ry h
  obtain ⟨dx, dy, hx, hy, c, q⟩ := h
  obtain ⟨as, ra⟩ := hx.reads I rx
  obtain ⟨bs, rb⟩ := hy.reads I ry
  have := c.dp
  exact SeqAt.compareEq_reads ra rb c.l1 c.l2 (by omega) ⟨.bl _, H, I, rfl, q⟩
theorem op_ne_deep (hu : X.A.units + 64 < cLine) : OpR X (compareOp .NotEq) (rEqD X.K true) := by
  intro pins s σ H x y v u Q I rx ry h
  obtain ⟨dx, dy, hx, hy, c, q⟩ := h
  obtain ⟨as, ra⟩ := hx.reads I rx
  obtain ⟨bs, rb⟩ := hy.reads I ry
  have := c.dp
  exact SeqAt.compareNe_reads ra rb c.l1 c.l2 (by omega) ⟨.bl _, H, I, rfl, q⟩
def rInD (K : PySem.W.Frag) (neg : Bool) : R2 := fun x y H Q => ∃ d ds, Rdv K H x d ∧ Rdv K H y (.list ds) ∧ d.canLay0 = true ∧ PyData.canLayAll0 ds = true ∧ d.depth ≤ 60 ∧ Q (.bl (if neg then !ds.any (fun z => PyData.eqv z d) else ds.any fun z => PyData.eqv z d)) H
theorem op_in_deep (hu : X.A.units + 64 < cLine) : OpR X (compareOp .In) (rInD X.K false) := by
  intro pins s σ H x y v u Q I rx ry h
  obtain ⟨d, ds, hx, hy, c1, c2, c3, q⟩ := h
  obtain ⟨as, ra⟩ := hx.reads I rx
  obtain ⟨bs, rb⟩ := hy.reads I ry
  exact SeqAt.in_list_reads rb ra c2 c1 (by omega) ⟨.bl _, H, I, rfl, q⟩
theorem op_notIn_deep (hu : X.A.units + 64 < cLine) : OpR X (compareOp .NotIn) (rInD X.K true) := by
  intro pins s σ H x y v u Q I rx ry h
  obtain ⟨d, ds, hx, hy, c1, c2, c3, q⟩ := h
  obtain ⟨as, ra⟩ := hx.reads I rx
  obtain ⟨bs, rb⟩ := hy.reads I ry
  exact SeqAt.notIn_list_reads rb ra c2 c1 (by omega) ⟨.bl _, H, I, rfl, q⟩
end
end L2
/-! Own rule: a list comprehension of one clause, its block a context of its own. -/
namespace L2
open PySem PySem.Spec PyProof.Rows
def compCx (X : Cx) (N : List Str) (scope : Scope) (cl : List (Str × Addr)) (C : Addr) (fp : List Addr) (pins : List (Addr × Obj)) (s : Shared) (H : Hp) : Cx where
  prog := X.prog
  w := X.w
  K := X.K
  mg := X.mg
  base := X.base
  A := X.A
  N := N
  s₀ := s
  H₀ := H
  env := compEnvC scope cl C X.env
  outer := X.stack
  stack := X.stack
  ex := fp
  fn := fun _ => false
  calm := X.calm
  pn := X.pn ++ pins
  xe := fun _ _ => False
/-- the block's names, each from its slot around, or unset -/
def pull (src : List (Option Nat)) (σ : St) : St := src.map fun o => match o with
  | some j => (σ[j]?).getD none
  | none => none
structure CompOk (X : Cx) (N : List Str) (src : List (Option Nat)) (scope : Scope) (cl : List (Str × Addr)) : Prop where
  kind : scope.kind = .function
  nocell : ∀ y ∈ scope.names, y.2 ≠ .cell
  names : ∀ y ∈ scope.names, y.2 = .local → scope.names.lookup y.1 = some .local
  clos : closureFor scope X.env = pure cl
  sub : ∀ x c, cl.lookup x = some c → X.env.cells.lookup x = some c
  has : ∀ x, ((relabel scope X.env).names.lookup x = some .cell ∨ (relabel scope X.env).names.lookup x = some .free) → ∃ c, cl.lookup x = some c
  len : src.length = N.length
  pulls : ∀ (i j : Nat) (x : Str), N[i]? = some x → src[i]? = some (some j) → X.N[j]? = some x ∧ (X.env.kindOf x = some .cell ∨ X.env.kindOf x = some .free) ∧ ((relabel scope X.env).names.lookup x = some .cell ∨ (relabel scope X.env).names.lookup x = some .free)
theorem relabel_plain {scope : Scope} {env : Env} (nf : ∀ y ∈ scope.names, y.2 ≠ .free) : (relabel scope env).names = scope.names := by
  show scope.names.map _ = scope.names
  refine map_eq_self fun x hx => ?_
  obtain ⟨n, k⟩ := x
  have : (k == NameKind.free) = false := by simpa using nf _ hx
  simp [this]
theorem CompOk.plain {X : Cx} {N : List Str} {src : List (Option Nat)} {scope : Scope} (kind : scope.kind = .function) (nocell : ∀ y ∈ scope.names, y.2 ≠ .cell) (nofree : ∀ y ∈ scope.names, y.2 ≠ .free)
    (names : ∀ y ∈ scope.names, y.2 = .local → scope.names.lookup y.1 = some .local) (len : src.length = N.length) (none : ∀ o ∈ src, o = none) : CompOk X N src scope [] where
  kind := kind
  nocell := nocell
  names := names
  clos := closureFor_none nofree
  sub := fun x c h => nomatch h
  has := fun x h => by
    rw [relabel_plain nofree] at h
    rcases h with h | h
    · exact absurd rfl (nocell _ (PySem.mem_of_lookup h))
    · exact absurd rfl (nofree _ (PySem.mem_of_lookup h))
  len := len
  pulls := fun i j x _ h => by
    have := none _ (List.mem_of_getElem? h)
    cases this
/-- the tests of a clause -/
def PIfs (X : Cx) (ifs : List Expr) (t : TT) : Prop :=
  ∀ (pins : List (Addr × Obj)) (s : Shared) (σ : St) (H : Hp) (Q : Bool → Hp → Prop), Inv X pins σ H s → t σ H Q →
    wpAny (model X.prog X.w) X.A (forIn ifs true fun c r => if r = true then do let ok ← isTrue c X.env (eval c X.env); pure (ForInStep.yield ok) else pure (ForInStep.yield r)) (TP X pins σ Q) X.xe s
def tYes : TT := fun _ H Q => Q true H
theorem pifs_nil {X : Cx} : PIfs X [] tYes := fun _ _ _ H _ I h => wpAny_tests_nil ⟨H, I, h⟩
theorem pifs_one {X : Cx} {c : Expr} {t : TT} (h : PT X c t) : PIfs X [c] t := fun pins s σ H Q I hq => wpAny_tests_one (h pins s σ H Q I hq)
/-- what is asked of a comprehension's turns -/
def CompGoes (J : It) (g : TG) (tc : TT) (te : TE) (Q : VK) (D : Addr) (σ0 : St) (H0 : Hp) : Prop :=
  ∃ W : Nat → Nat → St → Hp → Prop, (∃ m, W 0 m σ0 H0) ∧ ∀ i m σ' H', W i m σ' H' →
    (J.stop i H' ∧ Q (.ref D) H') ∨ (J.go i H' ∧ ∃ N : St → Hp → Prop, (∀ σ'' H'', N σ'' H'' → ∃ m', m' < m ∧ W (i + 1) m' σ'' H'') ∧
      ∀ x H2, J.yld i H' x H2 → g x σ' H2 fun σ2 H3 => tc σ2 H3 fun b H4 => if b = true then te σ2 H4 fun y H5 => ∃ ys, H5 D = some (.lst ys) ∧ ys.length < sizeLine ∧ N σ2 (upd H5 D (.lst (ys ++ [y]))) else N σ2 H4)
def tComp (wi : TI) (src : List (Option Nat)) (g : TG) (tc : TT) (te : TE) : TE := fun σ H Q => wi σ H fun J H1 => ∀ D, H1 D = none → CompGoes J g tc te Q D (pull src σ) (upd H1 D (.lst []))
theorem Un.but {fs ex : List Addr} {H H1 : Hp} {h h1 h2 : Heap} {C : Addr} (u : Un fs ex H H1 h h1) (hC : h.objs.size ≤ C) (sb : Heap.SameBut C h1 h2) : Un fs ex H H1 h h2 := by
  have ne : ∀ b o, h.get? b = some o → b ≠ C := fun b o e => Nat.ne_of_lt (Nat.lt_of_lt_of_le (Heap.lt_size e) hC)
  refine ⟨fun b o e n hb hx => (sb.2 b (ne b o e)).trans (u.keep b o e n hb hx), fun b o e n hb hx => ?_, u.free, fun b o e hx => ?_, u.tups, u.frzs, u.tbls⟩
  · obtain ⟨sl, q⟩ := u.slot b o e n hb hx
    exact ⟨sl, (sb.2 b (ne b o e)).trans q⟩
  · obtain ⟨o', q⟩ := u.there b o e hx
    exact ⟨o', (sb.2 b (ne b o e)).trans q⟩
theorem HOk.but {P : Program} {w : World} {H : Hp} {h h' : Heap} {C : Addr} (ok : HOk P w H h) (hn : H C = none) (sb : Heap.SameBut C h h') : HOk P w H h' := fun b ob e => by
  refine (ok b ob e).stay (fun c w' hc q => (sb.2 c ?_).trans q) (fun _ q => q) fun _ _ q => q
  rintro rfl
  rcases hc with rfl | hc
  · rw [hn] at e; cases e
  · rw [hn] at hc; cases hc
section
variable {X : Cx} {tg iter elt : Expr} {ifs : List Expr} {scope : Scope} {pos : Pos} {N : List Str} {src : List (Option Nat)} {cl : List (Str × Addr)} {wi : TI} {g : TG} {tc : TT} {te : TE}
/-- the block's entry -/
theorem comp_start {pins : List (Addr × Obj)} {σ : St} {H : Hp} {s : Shared} {fp : List Addr} {h1 : Heap} {C : Addr} {tk : Nat} (ok : CompOk X N src scope cl) (I : Inv X pins σ H s) (hf : ∀ b ∈ fp, FpOk X pins H b) (ho : ∀ b ∈ fp, ∃ o, s.heap.get? b = some o)
    (hC : C = s.heap.objs.size + 1) (k : ∀ b u, s.heap.get? b = some u → h1.get? b = some u) (hD : h1.get? s.heap.objs.size = some { cls := .type "list", data := .seq #[] }) {m : Str → Option Value} (hn : h1.Ns C m) :
    Inv (compCx X N scope cl C fp pins s H) [] (pull src σ) (upd H s.heap.objs.size (.lst [])) { s with heap := h1, toks := tk } := by
  have lt : ∀ b o, s.heap.get? b = some o → b < s.heap.objs.size := fun b o e => Heap.lt_size e
  have nC : ∀ b o, s.heap.get? b = some o → b ≠ C := fun b o e => by rw [hC]; exact Nat.ne_of_lt (Nat.lt_succ_of_lt (lt b o e))
  have nD : ∀ b o, s.heap.get? b = some o → b ≠ s.heap.objs.size := fun b o e => Nat.ne_of_lt (lt b o e)
  have fr : ∀ b, s.heap.objs.size ≤ b → H b = none := fun b hb => I.hok.fresh hb
  have nst : ∀ b, b ≠ X.env.locals → b ∉ X.fs → b ∉ frs X.stack := fun b h1 h2 z => (List.mem_cons.mp (I.stkSub b z)).elim h1 h2
  have sub := ok.sub
  refine ⟨⟨I.ok.mod, ok.kind, I.ok.glob, I.ok.blt, by rw [show (compCx X N scope cl C fp pins s H).env.locals = C from rfl, hC]; exact Nat.le_succ _, fun x y c e1 e2 => I.ok.inj x y c (sub x c e1) (sub y c e2), ok.has, (fun x c z _ => nomatch z), I.ok.hd, I.ok.frames, .inl rfl, fun b hb => ?_, I.bs, Nat.le_trans I.ok.bsz I.sz, fun b o e hb => ?_, fun b hb hz => ?_, I.stack, I.stkFree⟩,
    rfl, I.bare, Un.laid k (Nat.le_refl _) (fr _ (Nat.le_refl _)), ⟨m, hn, fun i x v e1 e2 e3 => ?_⟩, fun x c e => ?_, ?_, fun x c e => ?_, fun p hp => ?_, I.hok.laid k (Nat.le_refl _) ⟨Nat.zero_le _, [], 0, .nil, hD⟩, ?_⟩
  · obtain ⟨o, e⟩ := ho b hb
    exact ⟨nC b o e, fun x c z => (hf b hb).2.2.2.2.1 x c (sub x c z)⟩
  · rcases (hf b hb).2.2.2.1 with z | z
    · exact I.ok.noex b o e z
    · exact absurd (Nat.lt_of_lt_of_le (Heap.lt_size (I.ok.bs b o e).1) z) (Nat.lt_irrefl _)
  · exact nst b (hf b hb).2.1 (hf b hb).2.2.1 hz
  · have hi : i < src.length := by
      have := (List.getElem?_eq_some_iff.mp e2).1
      unfold pull at this
      rw [List.length_map] at this
      exact this
    unfold pull at e2
    rw [List.getElem?_map, List.getElem?_eq_getElem hi] at e2
    cases q : src[i] with
    | none => rw [q] at e2; cases e2
    | some j =>
      rw [q] at e2
      have e2' : (σ[j]?).getD none = some v := Option.some.inj e2
      have e4 : σ[j]? = some (some v) := by
        cases z : σ[j]? with
        | none => rw [z] at e2'; cases e2'
        | some o => rw [z] at e2'; exact congrArg some e2'
      obtain ⟨p1, p2, p3⟩ := ok.pulls i j x e1 (by rw [List.getElem?_eq_getElem hi, q])
      obtain ⟨m', hn', hl⟩ := I.loc
      obtain ⟨u, r, l⟩ := hl j x v p1 e4 (by
        rcases p2 with z | z
        · exact .inr (.inl z)
        · exact .inr (.inr z))
      refine ⟨u, r, .inr ⟨p3, ?_⟩⟩
      obtain ⟨c, hc⟩ := ok.has x p3
      refine ⟨c, hc, ?_⟩
      rcases l with ⟨z, _⟩ | ⟨_, c', hc', o, ho', hd'⟩
      · rcases p2 with y | y <;> rw [z] at y <;> cases y
      · rw [sub x c hc] at hc'
        cases hc'
        exact ⟨o, k _ o ho', hd'⟩
  · obtain ⟨v, o, e1, e2⟩ := I.cell x c (sub x c e)
    exact ⟨v, o, k c o e1, e2⟩
  · show upd H s.heap.objs.size (.lst []) C = none
    rw [hC, upd_ne (Nat.succ_ne_self _)]
    exact fr _ (Nat.le_succ _)
  · show upd H s.heap.objs.size (.lst []) c = none
    obtain ⟨v, o, e1, e2⟩ := I.cell x c (sub x c e)
    rw [upd_ne (nD c o e1)]
    exact I.freeC x c (sub x c e)
  · have hp' : p ∈ X.pn ++ pins := by
      have : p ∈ (X.pn ++ pins) ++ [] := hp
      simpa using this
    obtain ⟨e1, e2, e3, e4, e5⟩ := I.pin p hp'
    refine ⟨k _ _ e1, ?_, nC _ _ e1, nst _ e3 e4, e5⟩
    show upd H s.heap.objs.size (.lst []) p.1 = none
    rw [upd_ne (nD _ _ e1)]
    exact e2
  · unfold pull
    rw [List.length_map]
    exact ok.len
theorem pe_comp (ok : CompOk X N src scope cl) (hcalm : X.calm = true) (hi : PI X tg iter wi)
    (hg : ∀ C fp pins s H, PG (compCx X N scope cl C fp pins s H) tg g) (hc : ∀ C fp pins s H, PIfs (compCx X N scope cl C fp pins s H) ifs tc) (he : ∀ C fp pins s H, PE (compCx X N scope cl C fp pins s H) elt te)
    (hs : ∀ x, foldedSetIterable iter X.env x = pure x := by intro _; rfl) : PE X (.ListComp elt [⟨tg, iter, ifs, 0⟩] scope pos) (tComp wi src g tc te) := by
  intro pins s σ H Q I h
  rw [eval_ListComp]
  refine wpAny_comprehension_free (use := none) rfl hs ok.clos ok.kind ok.names (thn (hi pins s σ H _ I h) fun xv s1 h1 => thn h1 fun itv s2 h2 => ?_)
  obtain ⟨it, fp, tn, J, H2, e, I2, T, st2, f2, q2⟩ := h2
  subst e
  refine wpAny_newObj_type (wpAny_newFunctionEnv ok.nocell (by intro y hy; simp at hy) (fun h₁ hns₁ hsb₁ => ?_) ok.kind)
  dsimp only at hns₁ hsb₁ ⊢
  generalize hP : s2.heap.push { cls := .type "list", dict := none, data := .seq ([] : List Value).toArray } = P2 at hns₁ hsb₁ ⊢
  have hC : P2.objs.size = s2.heap.objs.size + 1 := by rw [← hP, Heap.size_push]
  have k : ∀ b u, s2.heap.get? b = some u → h₁.get? b = some u := fun b u e => by
    have lt := Heap.lt_size e
    exact (hsb₁.2 b (by rw [hC]; exact Nat.ne_of_lt (Nat.lt_succ_of_lt lt))).trans (Heap.get?_push_of_some _ (hP ▸ Heap.get?_push_of_some _ e))
  have hD : h₁.get? s2.heap.objs.size = some { cls := .type "list", data := .seq #[] } := (hsb₁.2 _ (by rw [hC]; exact (Nat.succ_ne_self _).symm)).trans (Heap.get?_push_of_some _ (hP ▸ Heap.get?_push_size _ rfl))
  have ho : ∀ b ∈ fp, ∃ o, s2.heap.get? b = some o := fun b hb => let ⟨o, e, _⟩ := T.obj 0 _ st2 b hb; ⟨o, e⟩
  obtain ⟨W, ⟨m0, w0⟩, turn⟩ := q2 s2.heap.objs.size (I2.hok.fresh (Nat.le_refl _))
  have I0 := comp_start (tk := s2.toks + ([] : List (Str × Value)).length) ok I2 f2 ho hC k hD hns₁
  have st0 : tn 0 h₁ := T.keep 0 _ _ st2 fun b _ o e => k b o e
  have fr0 : ∀ b ∈ fp, upd H2 s2.heap.objs.size (.lst []) b = none := fun b hb => by
    obtain ⟨o, e⟩ := ho b hb
    rw [upd_ne (Nat.ne_of_lt (Heap.lt_size e))]
    exact (f2 b hb).1
  have stat : ∀ {H' : Hp}, (∀ b ∈ fp, H' b = none) → ∀ b ∈ fp, FpOk (compCx X N scope cl P2.objs.size fp pins s2 H2) [] H' b := fun {H'} hn b hb => by
    obtain ⟨o, e⟩ := ho b hb
    have lt := Heap.lt_size e
    refine ⟨hn b hb, ?_, fun z => (List.mem_cons.mp (I2.stkSub b z)).elim (f2 b hb).2.1 (f2 b hb).2.2.1, .inl hb, fun x c z => (f2 b hb).2.2.2.2.1 x c (ok.sub x c z), fun p hp => ?_⟩
    · show b ≠ P2.objs.size
      rw [hC]
      exact Nat.ne_of_lt (Nat.lt_succ_of_lt lt)
    · have hp' : p ∈ X.pn ++ pins := by
        have : p ∈ (X.pn ++ pins) ++ [] := hp
        simpa using this
      exact (f2 b hb).2.2.2.2.2 p hp'
  have loop : ∀ s₃ : Shared, s₃ = { s2 with heap := h₁, toks := s2.toks + ([] : List (Str × Value)).length } →
      codeAny (model X.prog X.w) X.A (.compLoop (.ListComp elt [⟨tg, iter, ifs, 0⟩] scope pos) 0 (.ref it) (.ref s2.heap.objs.size) (compEnvC scope cl P2.objs.size X.env))
        (compPost (model X.prog X.w) X.A X.xe none (EP X pins σ Q) (.ref s2.heap.objs.size) P2.objs.size) s₃ := by
    rintro s₃ rfl
    refine codeAny_loop rfl (fun n s' => ∃ i σ' H', Inv (compCx X N scope cl P2.objs.size fp pins s2 H2) [] σ' H' s' ∧ tn i s'.heap ∧ (∀ b ∈ fp, H' b = none) ∧ W i n σ' H') ?_ m0 ⟨0, _, _, I0, st0, fr0, w0⟩
    rintro n s3 ⟨i, σ3, H3, I3, st3, fr3, w3⟩
    show wpAny _ X.A ((compTurn (.ListComp elt [⟨tg, iter, ifs, 0⟩] scope pos) 0 (.ref it) (.ref s2.heap.objs.size) (compEnvC scope cl P2.objs.size X.env)).onRaise (fun x => do noteFrame x (compEnvC scope cl P2.objs.size X.env); theTreesLotGoes x)) _ _ s3
    refine wpAny_noted ?_
    rw [compTurn_list]
    rcases turn i n σ3 H3 w3 with ⟨stop, qn⟩ | ⟨go, N', hN, step⟩
    · refine wpAny_bind (wpAny_standAt (wpAny_bind (thn (T.done (compCx X N scope cl P2.objs.size fp pins s2 H2) rfl rfl rfl hcalm i [] s3 σ3 H3 _ I3 (stat fr3) st3 stop) fun r s4 ⟨hr, I4⟩ => ?_)))
      subst hr
      refine wpAny_pure ?_
      obtain ⟨m, hm, _⟩ := I4.loc
      refine ⟨m, hm, fun h' sb => ⟨.ref s2.heap.objs.size, H3, ?_, rfl, qn⟩⟩
      have un : Un (frs X.stack) fp H2 H3 s2.heap h' := Un.but I4.base (by show s2.heap.objs.size ≤ P2.objs.size; rw [hC]; exact Nat.le_succ _) sb
      have hok : HOk X.prog X.w H3 h' := HOk.but I4.hok I4.free sb
      exact I2.call' (s' := { s4 with heap := h' }) (ch := fp) I4.os un hok I4.bare fun b hb => ⟨(f2 b hb).2.2.2.1, (f2 b hb).2.1, (f2 b hb).2.2.2.2.1, (f2 b hb).2.2.2.2.2⟩
    · refine wpAny_bind (wpAny_standAt (wpAny_bind (thn (T.item (compCx X N scope cl P2.objs.size fp pins s2 H2) rfl rfl rfl hcalm i [] s3 σ3 H3 _ I3 (stat fr3) st3 go) fun r s4 ⟨u, hr, h4⟩ => ?_)))
      subst hr
      dsimp only
      refine wpAny_bind (thn h4 fun _ s5 ⟨x, H5, I5, r5, y5, st5, fr5⟩ => ?_)
      have I5' := I5.pinned (stat fr5) (T.obj _ _ st5)
      refine wpAny_bind (wpAny_mono (hg P2.objs.size fp pins s2 H2 _ s5 σ3 H5 x u _ I5' r5 (step x H5 y5)) (fun _ s6 ⟨σ6, H6, I6, q6⟩ => ?_) fun _ _ z => False.elim z)
      have again : ∀ {s7 : Shared} {σ7 : St} {H7 : Hp}, Inv (compCx X N scope cl P2.objs.size fp pins s2 H2) ([] ++ pinsAt fp s5.heap) σ7 H7 s7 → N' σ7 H7 → ∃ m, m < n ∧ ∃ i σ' H', Inv (compCx X N scope cl P2.objs.size fp pins s2 H2) [] σ' H' s7 ∧ tn i s7.heap ∧ (∀ b ∈ fp, H' b = none) ∧ W i m σ' H' := fun {s7 σ7 H7} I7 n7 => by
        obtain ⟨m', hm, w7⟩ := hN σ7 H7 n7
        refine ⟨m', hm, i + 1, σ7, H7, I7.unpinned, T.keep _ _ _ st5 fun b hb o e => (I7.pin (b, o) (List.mem_append_right _ (List.mem_append_right _ (mem_pinsAt hb e)))).1, fun b hb => ?_, w7⟩
        obtain ⟨o, e, d⟩ := T.obj _ _ st5 b hb
        exact (I7.pin (b, o) (List.mem_append_right _ (List.mem_append_right _ (mem_pinsAt hb e)))).2.1
      refine wpAny_bind (wpAny_mono (hc P2.objs.size fp pins s2 H2 _ s6 σ6 H6 _ I6 q6) (fun b s7 ⟨H7, I7, q7⟩ => ?_) fun _ _ z => False.elim z)
      cases b with
      | false =>
        rw [if_neg Bool.false_ne_true] at q7
        exact wpAny_pure ⟨rfl, again I7 q7⟩
      | true =>
        rw [if_pos rfl] at q7
        refine wpAny_bind (wpAny_bind (wpAny_mono (he P2.objs.size fp pins s2 H2 _ s7 σ6 H7 _ I7 q7) (fun y s8 ⟨v8, H8, I8, r8, ys, hys, hlen, q8⟩ => ?_) fun _ _ z => False.elim z))
        refine wpAny_bind (wpAny_mono (mt_append (X := compCx X N scope cl P2.objs.size fp pins s2 H2) _ s8 σ6 H8 (.ref s2.heap.objs.size) [v8] (.ref s2.heap.objs.size) [y] (fun _ H9 => N' σ6 H9) I8 rfl (.cons r8 .nil) ⟨_, ys, v8, rfl, rfl, hys, hlen, q8⟩) (fun _ s9 ⟨v9, H9, I9, _, q9⟩ => ?_) fun _ _ z => False.elim z)
        exact wpAny_pure (wpAny_pure ⟨rfl, again I9 q9⟩)
  exact codeAny_compStart_list (loop _ rfl) (T.self _ 0 _ _ _ st0 (loop _ rfl))
end
end L2
namespace L2
open PySem PySem.Spec PyProof.Rows
section
variable {K : PySem.W.Frag} {src : List (Option Nat)} {g : TG} {tc : TT} {te : TE} {Q : VK} {σ : St} {H : Hp} {D : Addr}
theorem comp_list {a : Addr} {xs : List V} (Pv : Nat → St → Hp → Prop) (h0 : Pv 0 σ H) (hl : ∀ i σ H, i ≤ xs.length → Pv i σ H → SqL K H a xs)
    (hs : ∀ i x σ H, xs[i]? = some x → Pv i σ H → g x σ H fun σ2 H3 => tc σ2 H3 fun b H4 => if b = true then te σ2 H4 fun y H5 => ∃ ys, H5 D = some (.lst ys) ∧ ys.length < sizeLine ∧ Pv (i + 1) σ2 (upd H5 D (.lst (ys ++ [y]))) else Pv (i + 1) σ2 H4)
    (hd : ∀ σ H, Pv xs.length σ H → Q (.ref D) H) : CompGoes (Itl K a) g tc te Q D σ H := by
  refine ⟨fun i m σ H => m = xs.length - i ∧ i ≤ xs.length ∧ Pv i σ H, ⟨xs.length, by simp, Nat.zero_le _, h0⟩, ?_⟩
  rintro i m σ H ⟨rfl, hi, p⟩
  have q := hl i σ H hi p
  by_cases hlt : i < xs.length
  · refine .inr ⟨⟨xs, xs[i], q, by simp [hlt]⟩, Pv (i + 1), fun σ' H' p' => ⟨xs.length - (i + 1), by omega, rfl, hlt, p'⟩, fun x H' y => ?_⟩
    obtain ⟨e, y⟩ := y
    subst e
    exact hs i x σ _ (y xs q) p
  · have e : i = xs.length := by omega
    subst e
    exact .inl ⟨⟨xs, q, Nat.le_refl _⟩, hd σ H p⟩
theorem comp_range {lo : Int} {n : Nat} (Pv : Nat → St → Hp → Prop) (h0 : Pv 0 σ H)
    (hs : ∀ i σ H, i < n → Pv i σ H → g (.int (lo + i)) σ H fun σ2 H3 => tc σ2 H3 fun b H4 => if b = true then te σ2 H4 fun y H5 => ∃ ys, H5 D = some (.lst ys) ∧ ys.length < sizeLine ∧ Pv (i + 1) σ2 (upd H5 D (.lst (ys ++ [y]))) else Pv (i + 1) σ2 H4)
    (hd : ∀ σ H, Pv n σ H → Q (.ref D) H) : CompGoes (Itr lo n) g tc te Q D σ H := by
  refine ⟨fun i m σ H => m = n - i ∧ i ≤ n ∧ Pv i σ H, ⟨n, by simp, Nat.zero_le _, h0⟩, ?_⟩
  rintro i m σ H ⟨rfl, hi, p⟩
  by_cases hlt : i < n
  · refine .inr ⟨hlt, Pv (i + 1), fun σ' H' p' => ⟨n - (i + 1), by omega, rfl, hlt, p'⟩, fun x H' y => ?_⟩
    obtain ⟨e, y⟩ := y
    subst e y
    exact hs i σ _ hlt p
  · have e : i = n := by omega
    subst e
    exact .inl ⟨Nat.le_refl _, hd σ H p⟩
end
theorem rdv_strs {K : PySem.W.Frag} {H : Hp} : ∀ rs : List Str, RdvAll K H (rs.map V.str) (rs.map PyData.str)
  | [] => .nil
  | t :: r => .cons (.str t) (rdv_strs r)
end L2

/-! The rules whose reading names the written part, with that part said (a comprehension's block bears no letter of its own in its reading). -/
namespace L2
open PySem PySem.Spec PyProof.Rows
section
variable {X : Cx} {K : PySem.W.Frag}
theorem pt_truthK {a : Expr} {ta : TE} (hK : X.K = K) (ha : PE X a ta) (he : ∀ whole, isTrue a X.env whole = (do let v ← whole; standAt a.pos; holding [v] (truthy v))) :
    PT X a (fun σ H Q => ta σ H fun x H' => ∃ k, TruV K x H' k ∧ Q k H') := by
  subst hK
  exact pt_truth ha he
theorem ix_listK (hK : X.K = K) : IxR X (rIxL K) := by
  subst hK
  exact ix_list
theorem ix_tupK (hK : X.K = K) : IxR X (rIxT K) := by
  subst hK
  exact ix_tup
theorem call_isinstK (hK : X.K = K) : CallR X (.builtin "isinstance") (fun xs H Q => ∃ x T U b, xs = [x, .ty U] ∧ TyOf K H x (.type T) ∧ kitB T U = some b ∧ Q (.bl b) H) := by
  subst hK
  exact call_isinst
theorem call_len_seqK (hK : X.K = K) : CallR X (.builtin "len") (fun xs H Q => ∃ p ys, xs = [.ref p] ∧ (SqL K H p ys ∨ SqT K H p ys) ∧ Q (.int ys.length) H) := by
  subst hK
  exact call_len_seq
theorem op_eq_deepK (hK : X.K = K) (hu : X.A.units + 64 < cLine) : OpR X (compareOp .Eq) (rEqD K false) := by
  subst hK
  exact op_eq_deep hu
theorem op_ne_deepK (hK : X.K = K) (hu : X.A.units + 64 < cLine) : OpR X (compareOp .NotEq) (rEqD K true) := by
  subst hK
  exact op_ne_deep hu
theorem op_in_deepK (hK : X.K = K) (hu : X.A.units + 64 < cLine) : OpR X (compareOp .In) (rInD K false) := by
  subst hK
  exact op_in_deep hu
theorem op_notIn_deepK (hK : X.K = K) (hu : X.A.units + 64 < cLine) : OpR X (compareOp .NotIn) (rInD K true) := by
  subst hK
  exact op_notIn_deep hu
theorem pg_tupK {es : List Expr} {k : Nat} {t : TGs} {n : Nat} {pos : Pos} (hK : X.K = K) (hc : X.calm = true) (h : PGs X es t)
    (hn : (assignEach es X.env).length = n := by rfl) (hst : (assignEach es X.env).findIdx? (·.1) = none := by rfl) : PG X (.Tuple es k pos) (gTup K n t) := by
  subst hK
  exact pg_tup hc h hn hst
end
end L2
/-! Own rules: what yields pairs (zip of two lists, enumerate of a list and of a text), int of a text, str of a text. -/
namespace L2
open PySem PySem.Spec PyProof.Rows
section
variable {fs ch : List Addr} {H : Hp} {h h' : Heap} {a : Addr} {o : HO}
theorem Un.laidX (k : ∀ b u, b ∉ ch → h.get? b = some u → h'.get? b = some u) (hp : h.objs.size ≤ a) (hn : H a = none) : Un fs ch H (upd H a o) h h' where
  keep := fun b u q _ _ hx => k b u hx q
  slot := fun b u q _ _ hx => ⟨u.slots, k b u hx q⟩
  free := fun b u q n _ => by rw [upd_ne (Nat.ne_of_lt (Nat.lt_of_lt_of_le (Heap.lt_size q) hp))]; exact n
  there := fun b u q hx => ⟨u, k b u hx q⟩
  tups := fun b xs q => by rw [upd_ne (ne_of_none q hn)]; exact q
  frzs := fun b u xs q => by rw [upd_ne (ne_of_none q hn)]; exact q
  tbls := fun b ps q => ⟨#[], by rw [upd_ne (ne_of_none q hn), q]; simp⟩
theorem Un.keptX (k : ∀ b u, b ∉ ch → h.get? b = some u → h'.get? b = some u) : Un fs ch H H h h' :=
  ⟨fun b ob q _ _ hx => k b ob hx q, fun b ob q _ _ hx => ⟨ob.slots, k b ob hx q⟩, fun _ _ _ n _ => n, fun b ob q hx => ⟨ob, k b ob hx q⟩, fun _ _ q => q, fun _ _ _ q => q, fun _ ps q => ⟨#[], by rw [q]; simp⟩⟩
theorem HOk.keptX {P : Program} {w : World} (x : HOk P w H h) (k : ∀ b u, b ∉ ch → h.get? b = some u → h'.get? b = some u) (hch : ∀ b ∈ ch, H b = none) : HOk P w H h' := fun b u e => by
  refine (x b u e).stay (fun c v hc q => k c v (fun z => ?_) q) (fun _ q => q) fun _ _ q => q
  have n := hch c z
  rcases hc with rfl | hc
  · rw [n] at e; cases e
  · rw [n] at hc; cases hc
theorem HOk.laidX {P : Program} {w : World} (x : HOk P w H h) (k : ∀ b u, b ∉ ch → h.get? b = some u → h'.get? b = some u) (hch : ∀ b ∈ ch, H b = none) (hp : h.objs.size ≤ a) (new : ObjOk P w (upd H a o) h' a o) : HOk P w (upd H a o) h' := fun b u e => by
  have hn := x.fresh hp
  by_cases hb : b = a
  · subst hb; rw [upd_same] at e; cases e; exact new
  · rw [upd_ne hb] at e
    refine (x b u e).stay (fun c v hc q => k c v (fun z => ?_) q) (fun c q => by rw [upd_ne (ne_of_none q hn)]; exact q) fun c xs q => by rw [upd_ne (ne_of_none q hn)]; exact q
    have n := hch c z
    rcases hc with rfl | hc
    · rw [n] at e; cases e
    · rw [n] at hc; cases hc
end
section
variable {X : Cx} {pins : List (Addr × Obj)} {s : Shared} {σ : St} {H : Hp} {E : Value → Shared → Prop} {fp wr FP : List Addr} {elts : List Expr} {k : Nat} {pos : Pos} {e : Addr} {n i : Nat} {Pt : Nat → Array Value → Prop} {Sn : Nat → Heap → Prop} {Mid : Nat → Addr → Heap → Prop} {J : It} {tn : Nat → Heap → Prop}
theorem item_T (I : Inv X pins σ H s) (hf : ∀ b ∈ fp, FpOk X pins H b) (ho : ∀ b ∈ fp, ∃ o, s.heap.get? b = some o) (hwr : ∀ b ∈ wr, b ∈ fp) (W : WalksT X.prog X.w X.A e FP wr n Pt Sn Mid) (hi : i < n) (st : Sn i s.heap)
    (y : ∀ T vals, H T = none → Pt i vals → ∃ vs, Vals vs vals.toList ∧ vs.length ≤ sizeLine ∧ J.yld i H (.ref T) (upd H T (.tup vs))) (nx : ∀ h'', Sn (i + 1) h'' → tn (i + 1) h'') :
    wpAny (model X.prog X.w) X.A (pyNext (.ref e)) (fun r s1 => ∃ u, r = some u ∧
      wpAny (model X.prog X.w) X.A (letOwnedTupleGo (.Tuple elts k pos) (.ref e) u) (fun _ s2 => ∃ x H', Inv X pins σ H' s2 ∧ RelV x u ∧ J.yld i H x H' ∧ tn (i + 1) s2.heap ∧ ∀ b ∈ fp, H' b = none) E s1) E s := by
  refine W.item i s _ E hi st fun T vals h' tk hP hT0 hT hm kk => ⟨.ref T, rfl, ?_⟩
  have hn : H T = none := I.hok.fresh hT0
  obtain ⟨vs, hv, hl, hy⟩ := y T vals hn hP
  refine W.go elts k pos i T { s with heap := h', toks := tk } _ E hm fun h'' st'' kk2 => ?_
  have k2 : ∀ b o, b ∉ wr → s.heap.get? b = some o → h''.get? b = some o := fun b o hb e => kk2 b o hb (kk b o hb e)
  have hTup : IsTup h'' T vals := by
    obtain ⟨o, e1, c, m, d⟩ := hT
    exact ⟨o, kk2 T o (W.apart i T _ hm) e1, c, m, d⟩
  have hch : ∀ b ∈ wr, H b = none := fun b hb => (hf b (hwr b hb)).1
  refine ⟨.ref T, upd H T (.tup vs), ?_, rfl, hy, nx _ st'', fun b hb => ?_⟩
  · exact I.call' (s' := { s with heap := h'', toks := tk }) (ch := wr) rfl (Un.laidX k2 hT0 hn) (HOk.laidX I.hok k2 hch hT0 ⟨hl, vals.toList, hv, by simpa using hTup⟩) I.bare fun b hb => let f := hf b (hwr b hb); ⟨f.2.2.2.1, f.2.1, f.2.2.2.2.1, f.2.2.2.2.2⟩
  · obtain ⟨o, e1⟩ := ho b hb
    rw [upd_ne (Nat.ne_of_lt (Nat.lt_of_lt_of_le (Heap.lt_size e1) hT0))]
    exact (hf b hb).1
theorem done_T (I : Inv X pins σ H s) (hf : ∀ b ∈ fp, FpOk X pins H b) (hwr : ∀ b ∈ wr, b ∈ fp) (W : WalksT X.prog X.w X.A e FP wr n Pt Sn Mid) (st : Sn n s.heap) :
    wpAny (model X.prog X.w) X.A (pyNext (.ref e)) (fun r s1 => r = none ∧ Inv X pins σ H s1) E s :=
  W.done s _ E st fun h' tk kk => ⟨rfl, I.call' (s' := { s with heap := h', toks := tk }) (ch := wr) rfl (Un.keptX kk) (HOk.keptX I.hok kk fun b hb => (hf b (hwr b hb)).1) I.bare fun b hb => let f := hf b (hwr b hb); ⟨f.2.2.2.1, f.2.1, f.2.2.2.2.1, f.2.2.2.2.2⟩⟩
end
theorem not_cell {h : Heap} {b : Addr} {o : Obj} {vs : Array Value} (e : h.get? b = some o) (d : o.data = .fields vs) : ∃ o, h.get? b = some o ∧ ∀ v, o.data ≠ .cell v := ⟨o, e, fun v z => by rw [d] at z; cases z⟩
/-! ### enumerate of a list -/
def Ite (K : PySem.W.Frag) (l : Addr) : It := ⟨fun i H => ∃ xs, SqL K H l xs ∧ i < xs.length, fun i H x H' => ∃ T, x = .ref T ∧ H T = none ∧ ∀ xs, SqL K H l xs → ∃ v, xs[i]? = some v ∧ H' = upd H T (.tup [.int i, v]), fun i H => ∃ xs, SqL K H l xs ∧ i = xs.length⟩
theorem turn_enum {P : Program} {w : World} {K : PySem.W.Frag} {elts : List Expr} {k : Nat} {pos : Pos} (e it l : Addr) (hei : e ≠ it) (hle : l ≠ e) (hli : l ≠ it) :
    Turn P w K (.Tuple elts k pos) (Ite K l) [e, it] e (fun i h => (∃ old, IsEnum h e it i old) ∧ h.IsListIter it l i) where
  mem := by simp
  obj := fun i h st b hb => by
    obtain ⟨⟨old, he⟩, o, e2, c, d⟩ := st
    rcases List.mem_cons.mp hb with rfl | hb
    · exact not_cell he rfl
    · have z : b = it := by simpa using hb
      subst z
      exact not_cell e2 d
  keep := fun i h h' st kk => by
    obtain ⟨⟨old, he⟩, o, e2, r⟩ := st
    exact ⟨⟨old, kk e (by simp) _ he⟩, o, kk it (by simp) o e2, r⟩
  item := by
    intro X hP hw hK hc i pins s σ H E I hf st hg
    subst hP hw hK
    obtain ⟨xs, hq, hlt⟩ := hg
    obtain ⟨its, rv, p, hz⟩ := I.list hq
    have hl := rv.length
    obtain ⟨⟨old, he⟩, o2, e2, c2, d2⟩ := id st
    refine item_T (wr := [e, it]) (J := Ite X.K l) (tn := fun i h => (∃ old, IsEnum h e it i old) ∧ h.IsListIter it l i) I hf (fun b hb => ?_) (fun b hb => hb) (WalksT.enumerate (I.ok.hd hc) e it l hei hle hli its.toArray) (by simp; omega) ⟨st.1, st.2, p.isList⟩ (fun T vals hn hp => ?_) fun h'' q => ⟨q.1, q.2.1⟩
    · rcases List.mem_cons.mp hb with rfl | hb
      · exact ⟨_, he⟩
      · have z : b = it := by simpa using hb
        subst z
        exact ⟨_, e2⟩
    · obtain ⟨t, x, hx, rfl⟩ := hp
      have hx' : its[i]? = some x := by simpa using hx
      obtain ⟨u, hu, ru⟩ := rv.get (i := i) (x := xs[i]) (by rw [List.getElem?_eq_getElem hlt])
      rw [hu] at hx'
      cases hx'
      exact ⟨[.int i, xs[i]], .cons ⟨t, rfl⟩ (.cons ru .nil), (by show 2 ≤ sizeLine; decide), T, rfl, hn, fun ys hy => ⟨xs[i], by rw [I.list_inj hy hq, List.getElem?_eq_getElem hlt], rfl⟩⟩
  done := by
    intro X hP hw hK hc i pins s σ H E I hf st hg
    subst hP hw hK
    obtain ⟨xs, hq, rfl⟩ := hg
    obtain ⟨its, rv, p, hz⟩ := I.list hq
    have hl : its.toArray.size = xs.length := by simp [rv.length]
    refine done_T (fp := [e, it]) (wr := [e, it]) I hf (fun b hb => hb) (WalksT.enumerate (I.ok.hd hc) e it l hei hle hli its.toArray) ?_
    rw [hl]
    exact ⟨st.1, st.2, p.isList⟩
  self := fun A i s Q E st h => by
    obtain ⟨⟨old, he⟩, _⟩ := st
    exact wpAny_pyIter_enum he h
/-! ### enumerate of a text -/
def Ites (x : Str) : It := ⟨fun i _ => i < x.cps.size, fun i H v H' => ∃ T c, v = .ref T ∧ H T = none ∧ x.cps[i]? = some c ∧ H' = upd H T (.tup [.int i, .str ⟨#[c]⟩]), fun i _ => i = x.cps.size⟩
theorem turn_enumS {P : Program} {w : World} {K : PySem.W.Frag} {elts : List Expr} {k : Nat} {pos : Pos} (e it : Addr) (x : Str) (t : Tok) (n : String) (hei : e ≠ it)
    (D : ∀ A : Around, A.handled = none → Draws P w A it [it] x.cps.size (fun i v => ∃ c u, x.cps[i]? = some c ∧ v = .str ⟨#[c]⟩ u) (fun i h => h.IsStrIter it n x t i)) :
    Turn P w K (.Tuple elts k pos) (Ites x) [e, it] e (fun i h => (∃ old, IsEnum h e it i old) ∧ h.IsStrIter it n x t i) where
  mem := by simp
  obj := fun i h st b hb => by
    obtain ⟨⟨old, he⟩, o, e2, c, d⟩ := st
    rcases List.mem_cons.mp hb with rfl | hb
    · exact not_cell he rfl
    · have z : b = it := by simpa using hb
      subst z
      exact not_cell e2 d
  keep := fun i h h' st kk => by
    obtain ⟨⟨old, he⟩, o, e2, r⟩ := st
    exact ⟨⟨old, kk e (by simp) _ he⟩, o, kk it (by simp) o e2, r⟩
  item := by
    intro X hP hw hK hc i pins s σ H E I hf st hg
    subst hP hw hK
    obtain ⟨⟨old, he⟩, o2, e2, c2, d2⟩ := id st
    refine item_T (wr := [e, it]) (J := Ites x) (tn := fun i h => (∃ old, IsEnum h e it i old) ∧ h.IsStrIter it n x t i) I hf (fun b hb => ?_) (fun b hb => hb) (WalksT.enumerateD (D X.A.in1 (I.ok.hd hc)) e hei (by simpa using hei) (by simp)) hg st (fun T vals hn hp => ?_) fun h'' q => q
    · rcases List.mem_cons.mp hb with rfl | hb
      · exact ⟨_, he⟩
      · have z : b = it := by simpa using hb
        subst z
        exact ⟨_, e2⟩
    · obtain ⟨t', v, ⟨c, u, hx, rfl⟩, rfl⟩ := hp
      exact ⟨[.int i, .str ⟨#[c]⟩], .cons ⟨t', rfl⟩ (.cons ⟨u, rfl⟩ .nil), (by show 2 ≤ sizeLine; decide), T, c, rfl, hn, hx, rfl⟩
  done := by
    intro X hP hw hK hc i pins s σ H E I hf st hg
    subst hP hw hK
    have z : i = x.cps.size := hg
    subst z
    exact done_T (fp := [e, it]) (wr := [e, it]) I hf (fun b hb => hb) (WalksT.enumerateD (D X.A.in1 (I.ok.hd hc)) e hei (by simpa using hei) (by simp)) st
  self := fun A i s Q E st h => by
    obtain ⟨⟨old, he⟩, _⟩ := st
    exact wpAny_pyIter_enum he h
/-! ### zip of two lists -/
def Itz (K : PySem.W.Frag) (l1 l2 : Addr) : It := ⟨fun i H => ∃ xs ys, SqL K H l1 xs ∧ SqL K H l2 ys ∧ i < xs.length ∧ i < ys.length,
  fun i H x H' => ∃ T, x = .ref T ∧ H T = none ∧ ∀ xs ys, SqL K H l1 xs → SqL K H l2 ys → ∃ v v', xs[i]? = some v ∧ ys[i]? = some v' ∧ H' = upd H T (.tup [v, v']), fun i H => ∃ xs ys, SqL K H l1 xs ∧ SqL K H l2 ys ∧ i = min xs.length ys.length⟩
theorem turn_zip {P : Program} {w : World} {K : PySem.W.Frag} {elts : List Expr} {k : Nat} {pos : Pos} (z TI TO i1 i2 l1 l2 : Addr) (D : ZipApart z TI TO i1 i2 l1 l2) :
    Turn P w K (.Tuple elts k pos) (Itz K l1 l2) [z, TI, TO, i1, i2] z (fun i h => IsZip h z TI TO .none ∧ IsPair h TI (.ref i1) (.ref i2) ∧ (∃ a b, IsPair h TO a b) ∧ h.IsListIter i1 l1 i ∧ h.IsListIter i2 l2 i) where
  mem := by simp
  obj := fun i h st b hb => by
    obtain ⟨hz, hTI, ⟨a, b', hTO⟩, ⟨o1, e1, c1, d1⟩, ⟨o2, e2, c2, d2⟩⟩ := st
    simp only [List.mem_cons, List.not_mem_nil, or_false] at hb
    rcases hb with rfl | rfl | rfl | rfl | rfl
    · exact not_cell hz rfl
    · exact ⟨_, hTI, fun v q => by cases q⟩
    · exact ⟨_, hTO, fun v q => by cases q⟩
    · exact not_cell e1 d1
    · exact not_cell e2 d2
  keep := fun i h h' st kk => by
    obtain ⟨hz, hTI, ⟨a, b', hTO⟩, ⟨o1, e1, r1⟩, ⟨o2, e2, r2⟩⟩ := st
    exact ⟨kk z (by simp) _ hz, kk TI (by simp) _ hTI, ⟨a, b', kk TO (by simp) _ hTO⟩, ⟨o1, kk i1 (by simp) _ e1, r1⟩, ⟨o2, kk i2 (by simp) _ e2, r2⟩⟩
  item := by
    intro X hP hw hK hc i pins s σ H E I hf st hg
    subst hP hw hK
    obtain ⟨xs, ys, hq1, hq2, hlt1, hlt2⟩ := hg
    obtain ⟨its1, rv1, p1, hz1⟩ := I.list hq1
    obtain ⟨its2, rv2, p2, hz2⟩ := I.list hq2
    have g1 := rv1.length
    have g2 := rv2.length
    obtain ⟨hz, hTI, ⟨a, b', hTO⟩, ⟨o1, e1, r1⟩, ⟨o2, e2, r2⟩⟩ := id st
    refine item_T (wr := [z, TO, i1, i2]) (J := Itz X.K l1 l2) (tn := fun i h => IsZip h z TI TO .none ∧ IsPair h TI (.ref i1) (.ref i2) ∧ (∃ a b, IsPair h TO a b) ∧ h.IsListIter i1 l1 i ∧ h.IsListIter i2 l2 i) I hf (fun b hb => ?_) (fun b hb => ?_) (WalksT.zip2 (I.ok.hd hc) z TI TO i1 i2 l1 l2 D its1.toArray its2.toArray) (by simp; omega) ⟨st.1, st.2.1, st.2.2.1, st.2.2.2.1, st.2.2.2.2, p1.isList, p2.isList⟩ (fun T vals hn hp => ?_) fun h'' q => ⟨q.1, q.2.1, q.2.2.1, q.2.2.2.1, q.2.2.2.2.1⟩
    · simp only [List.mem_cons, List.not_mem_nil, or_false] at hb
      rcases hb with rfl | rfl | rfl | rfl | rfl
      · exact ⟨_, hz⟩
      · exact ⟨_, hTI⟩
      · exact ⟨_, hTO⟩
      · exact ⟨_, e1⟩
      · exact ⟨_, e2⟩
    · simp only [List.mem_cons, List.not_mem_nil, or_false] at hb ⊢
      rcases hb with rfl | rfl | rfl | rfl <;> simp
    · obtain ⟨x, y, hx, hy, rfl⟩ := hp
      have hx' : its1[i]? = some x := by simpa using hx
      have hy' : its2[i]? = some y := by simpa using hy
      obtain ⟨u, hu, ru⟩ := rv1.get (i := i) (x := xs[i]) (by rw [List.getElem?_eq_getElem hlt1])
      obtain ⟨u', hu', ru'⟩ := rv2.get (i := i) (x := ys[i]) (by rw [List.getElem?_eq_getElem hlt2])
      rw [hu] at hx'
      rw [hu'] at hy'
      cases hx'
      cases hy'
      exact ⟨[xs[i], ys[i]], .cons ru (.cons ru' .nil), (by show 2 ≤ sizeLine; decide), T, rfl, hn, fun xs' ys' h1 h2 => ⟨xs[i], ys[i], by rw [I.list_inj h1 hq1, List.getElem?_eq_getElem hlt1], by rw [I.list_inj h2 hq2, List.getElem?_eq_getElem hlt2], rfl⟩⟩
  done := by
    intro X hP hw hK hc i pins s σ H E I hf st hg
    subst hP hw hK
    obtain ⟨xs, ys, hq1, hq2, rfl⟩ := hg
    obtain ⟨its1, rv1, p1, hz1⟩ := I.list hq1
    obtain ⟨its2, rv2, p2, hz2⟩ := I.list hq2
    have g1 : min its1.toArray.size its2.toArray.size = min xs.length ys.length := by simp [rv1.length, rv2.length]
    refine done_T (fp := [z, TI, TO, i1, i2]) (wr := [z, TO, i1, i2]) I hf (fun b hb => ?_) (WalksT.zip2 (I.ok.hd hc) z TI TO i1 i2 l1 l2 D its1.toArray its2.toArray) ?_
    · simp only [List.mem_cons, List.not_mem_nil, or_false] at hb ⊢
      rcases hb with rfl | rfl | rfl | rfl <;> simp
    · rw [g1]
      exact ⟨st.1, st.2.1, st.2.2.1, st.2.2.2.1, st.2.2.2.2, p1.isList, p2.isList⟩
  self := fun A i s Q E st h => wpAny_pyIter_zip st.1 h
section
variable {X : Cx} {elts : List Expr} {k : Nat} {tpos : Pos}
def iEnumL (K : PySem.W.Frag) (ta : TA) : TI := fun σ H R => ta σ H fun vs H1 => ∃ l, vs = [.ref l] ∧ (∃ xs, SqL K H1 l xs) ∧ R (Ite K l) H1
theorem pi_enumL {a : Expr} {ta : TA} {p pos : Pos} (hg : Gl X "enumerate") (hm : X.mg "enumerate" = none) (ha : PA X [a] ta) (hs : starEach [a] X.env = [(false, eval a X.env)] := by rfl) : PI X (.Tuple elts k tpos) (.Call (.Name "enumerate" p) [a] [] pos) (iEnumL X.K ta) := by
  intro pins s σ H R I h
  refine Call_ (ld_blt I hg hm boot_enumerate (PyProof.Rows.callWith_type1 (thn (ha pos pins s σ H _ I h) fun us s1 ⟨vs, H1, I1, r1, q1⟩ => ?_) hs rfl))
  obtain ⟨l, rfl, ⟨xs, hq⟩, q⟩ := q1
  obtain ⟨u, rfl, ru⟩ := vals1 r1
  cases ru
  obtain ⟨its, rv, pl, hz⟩ := I1.list hq
  obtain ⟨ol, hol, _⟩ := pl.isList
  have hlt := Heap.lt_size hol
  refine call_enumerate_list pl.isList fun h' he hit hsz kk => ?_
  have I2 : Inv X pins σ H1 { s1 with heap := h' } := I1.kept (t' := s1.toks) kk
  refine wpAny_pyIter_enum he ?_
  refine ⟨s1.heap.objs.size + 1, [s1.heap.objs.size + 1, s1.heap.objs.size], _, _, H1, rfl, I2, turn_enum (s1.heap.objs.size + 1) s1.heap.objs.size l (Nat.succ_ne_self _) (Nat.ne_of_lt (Nat.lt_succ_of_lt hlt)) (Nat.ne_of_lt hlt), ⟨⟨_, he⟩, hit⟩, fun b hb => ?_, q⟩
  have hb' : s1.heap.objs.size ≤ b := by
    rcases List.mem_cons.mp hb with e | hb
    · rw [e]; exact Nat.le_succ _
    · have e : b = s1.heap.objs.size := by simpa using hb
      rw [e]; exact Nat.le_refl _
  exact I1.fpOk hb' (I1.hok.fresh hb')
def iEnumS (ta : TA) : TI := fun σ H R => ta σ H fun vs H1 => ∃ z, vs = [.str z] ∧ R (Ites z) H1
theorem pi_enumS {a : Expr} {ta : TA} {p pos : Pos} (hg : Gl X "enumerate") (hm : X.mg "enumerate" = none) (ha : PA X [a] ta) (hs : starEach [a] X.env = [(false, eval a X.env)] := by rfl) : PI X (.Tuple elts k tpos) (.Call (.Name "enumerate" p) [a] [] pos) (iEnumS ta) := by
  intro pins s σ H R I h
  refine Call_ (ld_blt I hg hm boot_enumerate (PyProof.Rows.callWith_type1 (thn (ha pos pins s σ H _ I h) fun us s1 ⟨vs, H1, I1, r1, q1⟩ => ?_) hs rfl))
  obtain ⟨z, rfl, q⟩ := q1
  obtain ⟨u, rfl, t, rfl⟩ := vals1 r1
  refine call_enumerate_str fun h' he hit hsz kk => ?_
  have I2 : Inv X pins σ H1 { s1 with heap := h' } := I1.kept (t' := s1.toks) kk
  refine wpAny_pyIter_enum he ?_
  have fpk : ∀ b ∈ [s1.heap.objs.size + 1, s1.heap.objs.size], FpOk X pins H1 b := fun b hb => by
    have hb' : s1.heap.objs.size ≤ b := by
      rcases List.mem_cons.mp hb with e | hb
      · rw [e]; exact Nat.le_succ _
      · have e : b = s1.heap.objs.size := by simpa using hb
        rw [e]; exact Nat.le_refl _
    exact I1.fpOk hb' (I1.hok.fresh hb')
  unfold strIterType at hit
  by_cases ha : z.cps.all (· < 128) = true
  · rw [if_pos ha] at hit
    exact ⟨s1.heap.objs.size + 1, [s1.heap.objs.size + 1, s1.heap.objs.size], _, _, H1, rfl, I2, turn_enumS (s1.heap.objs.size + 1) s1.heap.objs.size z t "str_ascii_iterator" (Nat.succ_ne_self _) (fun A hA => Draws.strAscii hA _ z t), ⟨⟨_, he⟩, hit⟩, fpk, q⟩
  · rw [if_neg ha] at hit
    exact ⟨s1.heap.objs.size + 1, [s1.heap.objs.size + 1, s1.heap.objs.size], _, _, H1, rfl, I2, turn_enumS (s1.heap.objs.size + 1) s1.heap.objs.size z t "str_iterator" (Nat.succ_ne_self _) (fun A hA => Draws.strWide hA _ z t), ⟨⟨_, he⟩, hit⟩, fpk, q⟩
def iZip (K : PySem.W.Frag) (ta : TA) : TI := fun σ H R => ta σ H fun vs H1 => ∃ l1 l2, vs = [.ref l1, .ref l2] ∧ (∃ xs, SqL K H1 l1 xs) ∧ (∃ ys, SqL K H1 l2 ys) ∧ R (Itz K l1 l2) H1
theorem pi_zip {a b : Expr} {ta : TA} {p pos : Pos} (hg : Gl X "zip") (hm : X.mg "zip" = none) (ha : PA X [a, b] ta) (hs : starEach [a, b] X.env = [(false, eval a X.env), (false, eval b X.env)] := by rfl) (hs2 : starEach [b] X.env = [(false, eval b X.env)] := by rfl) :
    PI X (.Tuple elts k tpos) (.Call (.Name "zip" p) [a, b] [] pos) (iZip X.K ta) := by
  intro pins s σ H R I h
  refine Call_ (ld_blt I hg hm boot_zip (PyProof.Rows.callWith_type1 (thn (ha pos pins s σ H _ I h) fun us s1 ⟨vs, H1, I1, r1, q1⟩ => ?_) (by rw [hs, hs2]) (by rw [hs2]; rfl)))
  obtain ⟨l1, l2, rfl, ⟨xs, hq1⟩, ⟨ys, hq2⟩, q⟩ := q1
  obtain ⟨u, u', rfl, ru, ru'⟩ := vals2 r1
  cases ru
  cases ru'
  obtain ⟨its1, rv1, p1, hz1⟩ := I1.list hq1
  obtain ⟨its2, rv2, p2, hz2⟩ := I1.list hq2
  obtain ⟨o1, ho1, _⟩ := p1.isList
  obtain ⟨o2, ho2, _⟩ := p2.isList
  have lt1 : @LT.lt Nat _ l1 s1.heap.objs.size := Heap.lt_size ho1
  have lt2 : @LT.lt Nat _ l2 s1.heap.objs.size := Heap.lt_size ho2
  refine call_zip_2 p1.isList p2.isList fun h' hz hTI hTO hi1 hi2 hsz kk => ?_
  have I2 : Inv X pins σ H1 { s1 with heap := h' } := I1.kept (t' := s1.toks) kk
  refine wpAny_pyIter_zip hz ?_
  generalize hN : s1.heap.objs.size = N at *
  have apart : ZipApart (N + 4) (N + 2) (N + 3) N (N + 1) l1 l2 := by
    constructor <;> first
      | exact Nat.ne_of_lt (by omega)
      | exact Nat.ne_of_gt (by omega)
  refine ⟨N + 4, [N + 4, N + 2, N + 3, N, N + 1], _, _, H1, rfl, I2, turn_zip (N + 4) (N + 2) (N + 3) N (N + 1) l1 l2 apart, ⟨hz, hTI, ⟨_, _, hTO⟩, hi1, hi2⟩, fun b hb => ?_, q⟩
  have hb' : s1.heap.objs.size ≤ b := by
    rw [hN]
    simp only [List.mem_cons, List.not_mem_nil, or_false] at hb
    rcases hb with rfl | rfl | rfl | rfl | rfl <;> omega
  exact I1.fpOk hb' (I1.hok.fresh hb')
theorem call_int_str : CallR X (.type "int") (fun xs H Q => ∃ x n, xs = [.str x] ∧ PySem.intText? x = some n ∧ x.length ≤ 640 ∧ Q (.int n) H) := by
  intro pins s σ H xs us Q I r h
  obtain ⟨x, n, rfl, hn, hl, q⟩ := h
  obtain ⟨u, rfl, t, rfl⟩ := vals1 r
  exact PySem.W.KIN.call_text hn hl ⟨.int n, H, I.tok _, ⟨_, rfl⟩, q⟩
theorem call_str_str : CallR X (.type "str") (fun xs H Q => ∃ x, xs = [.str x] ∧ Q (.str x) H) := by
  intro pins s σ H xs us Q I r h
  obtain ⟨x, rfl, q⟩ := h
  obtain ⟨u, rfl, t, rfl⟩ := vals1 r
  exact PySem.P.str_of_str ⟨.str x, H, I, ⟨_, rfl⟩, q⟩
end
/-! ### the forms one uses -/
theorem for_enumL {K : PySem.W.Frag} {l : Addr} {xs : List V} {g : TG} {tb : TS} {D : Ends} {σ : St} {H : Hp} (Pv : Nat → St → Hp → Prop) (h0 : Pv 0 σ H) (hl : ∀ i σ H, i ≤ xs.length → Pv i σ H → SqL K H l xs)
    (hs : ∀ i x T σ H, xs[i]? = some x → H T = none → Pv i σ H → g (.ref T) σ (upd H T (.tup [.int i, x])) fun σ2 H2 => tb { D with nx := Pv (i + 1), ct := Pv (i + 1), bk := D.nx } σ2 H2) (hd : ∀ σ H, Pv xs.length σ H → D.nx σ H) :
    ∃ W : Nat → Nat → St → Hp → Prop, (∃ m, W 0 m σ H) ∧ ∀ i m σ H, W i m σ H →
      ((Ite K l).stop i H ∧ D.nx σ H) ∨ ((Ite K l).go i H ∧ ∃ N : St → Hp → Prop, (∀ σ' H', N σ' H' → ∃ m', m' < m ∧ W (i + 1) m' σ' H') ∧ ∀ x H', (Ite K l).yld i H x H' → g x σ H' fun σ2 H2 => tb { D with nx := N, ct := N, bk := D.nx } σ2 H2) := by
  refine ⟨fun i m σ H => m = xs.length - i ∧ i ≤ xs.length ∧ Pv i σ H, ⟨xs.length, by simp, Nat.zero_le _, h0⟩, ?_⟩
  rintro i m σ H ⟨rfl, hi, p⟩
  have q := hl i σ H hi p
  by_cases hlt : i < xs.length
  · refine .inr ⟨⟨xs, q, hlt⟩, Pv (i + 1), fun σ' H' p' => ⟨xs.length - (i + 1), by omega, rfl, hlt, p'⟩, fun x H' y => ?_⟩
    obtain ⟨T, rfl, hT, y⟩ := y
    obtain ⟨v, hv, rfl⟩ := y xs q
    exact hs i v T σ H hv hT p
  · have e : i = xs.length := by omega
    subst e
    exact .inl ⟨⟨xs, q, rfl⟩, hd σ H p⟩
theorem for_zip {K : PySem.W.Frag} {l1 l2 : Addr} {xs ys : List V} {g : TG} {tb : TS} {D : Ends} {σ : St} {H : Hp} (Pv : Nat → St → Hp → Prop) (he : xs.length = ys.length) (h0 : Pv 0 σ H) (hl : ∀ i σ H, i ≤ xs.length → Pv i σ H → SqL K H l1 xs ∧ SqL K H l2 ys)
    (hs : ∀ i x y T σ H, xs[i]? = some x → ys[i]? = some y → H T = none → Pv i σ H → g (.ref T) σ (upd H T (.tup [x, y])) fun σ2 H2 => tb { D with nx := Pv (i + 1), ct := Pv (i + 1), bk := D.nx } σ2 H2) (hd : ∀ σ H, Pv xs.length σ H → D.nx σ H) :
    ∃ W : Nat → Nat → St → Hp → Prop, (∃ m, W 0 m σ H) ∧ ∀ i m σ H, W i m σ H →
      ((Itz K l1 l2).stop i H ∧ D.nx σ H) ∨ ((Itz K l1 l2).go i H ∧ ∃ N : St → Hp → Prop, (∀ σ' H', N σ' H' → ∃ m', m' < m ∧ W (i + 1) m' σ' H') ∧ ∀ x H', (Itz K l1 l2).yld i H x H' → g x σ H' fun σ2 H2 => tb { D with nx := N, ct := N, bk := D.nx } σ2 H2) := by
  refine ⟨fun i m σ H => m = xs.length - i ∧ i ≤ xs.length ∧ Pv i σ H, ⟨xs.length, by simp, Nat.zero_le _, h0⟩, ?_⟩
  rintro i m σ H ⟨rfl, hi, p⟩
  obtain ⟨q1, q2⟩ := hl i σ H hi p
  by_cases hlt : i < xs.length
  · refine .inr ⟨⟨xs, ys, q1, q2, hlt, by omega⟩, Pv (i + 1), fun σ' H' p' => ⟨xs.length - (i + 1), by omega, rfl, hlt, p'⟩, fun x H' y => ?_⟩
    obtain ⟨T, rfl, hT, y⟩ := y
    obtain ⟨v, v', hv, hv', rfl⟩ := y xs ys q1 q2
    exact hs i v v' T σ H hv hv' hT p
  · have e : i = xs.length := by omega
    subst e
    exact .inl ⟨⟨xs, ys, q1, q2, by omega⟩, hd σ H p⟩
theorem comp_enumS {g : TG} {tc : TT} {te : TE} {Q : VK} {σ : St} {H : Hp} {D : Addr} {x : Str} (Pv : Nat → St → Hp → Prop) (h0 : Pv 0 σ H)
    (hs : ∀ i c T σ H, x.cps[i]? = some c → H T = none → Pv i σ H → g (.ref T) σ (upd H T (.tup [.int i, .str ⟨#[c]⟩])) fun σ2 H3 => tc σ2 H3 fun b H4 => if b = true then te σ2 H4 fun y H5 => ∃ ys, H5 D = some (.lst ys) ∧ ys.length < sizeLine ∧ Pv (i + 1) σ2 (upd H5 D (.lst (ys ++ [y]))) else Pv (i + 1) σ2 H4)
    (hd : ∀ σ H, Pv x.cps.size σ H → Q (.ref D) H) : CompGoes (Ites x) g tc te Q D σ H := by
  refine ⟨fun i m σ H => m = x.cps.size - i ∧ i ≤ x.cps.size ∧ Pv i σ H, ⟨x.cps.size, by simp, Nat.zero_le _, h0⟩, ?_⟩
  rintro i m σ H ⟨rfl, hi, p⟩
  by_cases hlt : i < x.cps.size
  · refine .inr ⟨hlt, Pv (i + 1), fun σ' H' p' => ⟨x.cps.size - (i + 1), by omega, rfl, hlt, p'⟩, fun v H' y => ?_⟩
    obtain ⟨T, c, rfl, hT, hc, rfl⟩ := y
    exact hs i c T σ H hc hT p
  · have e : i = x.cps.size := by omega
    subst e
    exact .inl ⟨rfl, hd σ H p⟩
end L2
/-! Own rule: a comprehension whose block names locals of the def around. -/
namespace L2
open PySem PySem.Spec PyProof.Rows
def clOf (look : Str → Option Addr) : List (Str × NameKind) → List (Str × Addr) → List (Str × Addr)
  | [], acc => acc
  | (n, k) :: r, acc => if k == .free then (match look n with
    | some c => clOf look r ((n, c) :: acc)
    | none => clOf look r acc) else clOf look r acc
theorem clOf_mem {look : Str → Option Addr} : ∀ (names : List (Str × NameKind)) (acc : List (Str × Addr)) (p : Str × Addr), p ∈ clOf look names acc → p ∈ acc ∨ look p.1 = some p.2
  | [], acc, p, h => .inl h
  | (n, k) :: r, acc, p, h => by
    unfold clOf at h
    split at h
    · cases e : look n with
      | none =>
        rw [e] at h
        exact clOf_mem r acc p h
      | some c =>
        rw [e] at h
        rcases clOf_mem r _ p h with h | h
        · rcases List.mem_cons.mp h with h | h
          · subst h
            exact .inr e
          · exact .inl h
        · exact .inr h
    · exact clOf_mem r acc p h
theorem lookup_cons_some {x n : Str} {c : Addr} {acc : List (Str × Addr)} (h : (acc.lookup x).isSome = true ∨ x = n) : (List.lookup x ((n, c) :: acc)).isSome = true := by
  rw [List.lookup_cons]
  cases e : x == n with
  | true => rfl
  | false =>
    rcases h with h | h
    · exact h
    · subst h
      simp at e
theorem clOf_has {look : Str → Option Addr} {x : Str} : ∀ (names : List (Str × NameKind)) (acc : List (Str × Addr)), ((acc.lookup x).isSome = true ∨ ((x, NameKind.free) ∈ names ∧ (look x).isSome = true)) → ((clOf look names acc).lookup x).isSome = true
  | [], acc, h => by
    rcases h with h | h
    · exact h
    · cases h.1
  | (n, k) :: r, acc, h => by
    unfold clOf
    split
    · rename_i hk
      cases e : look n with
      | none =>
        refine clOf_has r acc ?_
        rcases h with h | ⟨h, h2⟩
        · exact .inl h
        · rcases List.mem_cons.mp h with h | h
          · cases h
            rw [e] at h2
            cases h2
          · exact .inr ⟨h, h2⟩
      | some c =>
        refine clOf_has r _ ?_
        rcases h with h | ⟨h, h2⟩
        · exact .inl (lookup_cons_some (.inl h))
        · rcases List.mem_cons.mp h with h | h
          · cases h
            exact .inl (lookup_cons_some (.inr rfl))
          · exact .inr ⟨h, h2⟩
    · rename_i hk
      refine clOf_has r acc ?_
      rcases h with h | ⟨h, h2⟩
      · exact .inl h
      · rcases List.mem_cons.mp h with h | h
        · cases h
          exact absurd rfl hk
        · exact .inr ⟨h, h2⟩
theorem closureFor_free {scope : Scope} {env : Env} (h : ∀ y ∈ scope.names, y.2 = .free → (env.cells.lookup y.1).isSome = true) : closureFor scope env = pure (clOf (fun x => env.cells.lookup x) scope.names []) := by
  have go : ∀ (names : List (Str × NameKind)) (acc : List (Str × Addr)), (∀ y ∈ names, y.2 = .free → (env.cells.lookup y.1).isSome = true) →
      (forIn names acc fun x cs => (match x with
        | (name, kind) => if (kind == .free) = true then do let a ← cellOf env name; pure (ForInStep.yield ((name, a) :: cs)) else pure (ForInStep.yield cs) : Sem (ForInStep (List (Str × Addr))))) = (pure (clOf (fun x => env.cells.lookup x) names acc) : Sem _) := by
    intro names
    induction names with
    | nil => intro acc _; rfl
    | cons y r ih =>
      intro acc hy
      obtain ⟨n, k⟩ := y
      have hr : ∀ y ∈ r, y.2 = .free → (env.cells.lookup y.1).isSome = true := fun y hm => hy y (List.mem_cons_of_mem _ hm)
      rw [List.forIn_cons]
      unfold clOf
      by_cases hk : (k == NameKind.free) = true
      · have hk' : k = .free := by simpa using hk
        have hs := hy (n, k) List.mem_cons_self hk'
        obtain ⟨c, hc⟩ := Option.isSome_iff_exists.mp hs
        have hc' : List.lookup n env.cells = some c := hc
        have e1 : cellOf env n = pure c := by
          unfold cellOf
          rw [hc']
        simp only [hk, if_true, e1, hc', pure_bind]
        exact ih _ hr
      · simp only [hk, Bool.false_eq_true, if_false, pure_bind]
        exact ih _ hr
  simp only [closureFor]
  exact Eq.trans (congrArg (fun m : Sem (List (Str × Addr)) => m >>= fun cs => pure cs) (go scope.names [] h)) rfl
theorem relabel_mem {scope : Scope} {env : Env} {x : Str} {k : NameKind} (h : (x, k) ∈ (relabel scope env).names) (hk : k = .cell ∨ k = .free) : (x, NameKind.cell) ∈ scope.names ∨ (x, NameKind.free) ∈ scope.names := by
  obtain ⟨y, hy, e⟩ := List.mem_map.mp h
  obtain ⟨n, k0⟩ := y
  by_cases c : (k0 == NameKind.free && env.scope.kind == .function && env.kindOf n == some .cell) = true
  · have e' : (if (k0 == NameKind.free && env.scope.kind == .function && env.kindOf n == some .cell) = true then (n, NameKind.cell) else (n, k0)) = (x, k) := e
    rw [if_pos c] at e'
    cases e'
    have c1 : k0 = .free := by
      have := (Bool.and_eq_true_iff.mp (Bool.and_eq_true_iff.mp c).1).1
      simpa using this
    subst c1
    exact .inr hy
  · have e' : (if (k0 == NameKind.free && env.scope.kind == .function && env.kindOf n == some .cell) = true then (n, NameKind.cell) else (n, k0)) = (x, k) := e
    rw [if_neg c] at e'
    cases e'
    rcases hk with rfl | rfl
    · exact .inl hy
    · exact .inr hy
theorem relabel_free {scope : Scope} {env : Env} {x : Str} (hk : env.scope.kind = .function) (ho : env.kindOf x = some .cell) (h : scope.names.lookup x = some .free) : (relabel scope env).names.lookup x = some .cell := by
  have go : ∀ names : List (Str × NameKind), names.lookup x = some .free → (names.map fun (n, k) => if (k == NameKind.free && env.scope.kind == .function && env.kindOf n == some .cell) = true then (n, NameKind.cell) else (n, k)).lookup x = some .cell := by
    intro names
    induction names with
    | nil => intro h; cases h
    | cons y r ih =>
      obtain ⟨n, k⟩ := y
      intro h
      show List.lookup x ((if (k == NameKind.free && env.scope.kind == .function && env.kindOf n == some .cell) = true then (n, NameKind.cell) else (n, k)) :: _) = _
      rw [List.lookup_cons] at h
      cases e : x == n with
      | true =>
        rw [e] at h
        have hk' : k = .free := Option.some.inj h
        have hn : x = n := by simpa using e
        subst hk' hn
        rw [if_pos (by rw [hk, ho]; rfl), List.lookup_cons, beq_self_eq_true]
      | false =>
        rw [e] at h
        by_cases c : (k == NameKind.free && env.scope.kind == .function && env.kindOf n == some .cell) = true
        · rw [if_pos c, List.lookup_cons, e]
          exact ih h
        · rw [if_neg c, List.lookup_cons, e]
          exact ih h
  exact go scope.names h
theorem CompOk.free {X : Cx} {N : List Str} {src : List (Option Nat)} {scope : Scope} {O : List (Str × NameKind)} {XN : List Str} (hO : X.env.scope.names = O) (hK : X.env.scope.kind = .function) (hC : ∃ n, X.env.cells = cellsFrom n O []) (hX : X.N = XN)
    (kind : scope.kind = .function) (nocell : ∀ y ∈ scope.names, y.2 ≠ .cell) (names : ∀ y ∈ scope.names, y.2 = .local → scope.names.lookup y.1 = some .local) (fr : ∀ y ∈ scope.names, y.2 = .free → O.lookup y.1 = some .cell) (len : src.length = N.length)
    (pc : ∀ q ∈ N.zip src, q.2 = none ∨ (∃ j ∈ List.range XN.length, q.2 = some j ∧ XN[j]? = some q.1 ∧ O.lookup q.1 = some .cell ∧ scope.names.lookup q.1 = some .free)) : CompOk X N src scope (clOf (fun x => X.env.cells.lookup x) scope.names []) := by
  have hs : ∀ y ∈ scope.names, y.2 = .free → (X.env.cells.lookup y.1).isSome = true := fun y hy e => by
    obtain ⟨n, hn⟩ := hC
    rw [hn]
    exact PySem.W.cellsFrom_some O n [] (.inl (fr y hy e))
  refine ⟨kind, nocell, names, closureFor_free hs, fun x c h => ?_, fun x h => ?_, len, fun i j x h1 h2 => ?_⟩
  · rcases clOf_mem _ _ _ (PySem.mem_of_lookup h) with z | z
    · cases z
    · exact z
  · refine Option.isSome_iff_exists.mp (clOf_has _ _ (.inr ?_))
    have hm : (x, NameKind.cell) ∈ scope.names ∨ (x, NameKind.free) ∈ scope.names := by
      rcases h with h | h
      · exact relabel_mem (PySem.mem_of_lookup h) (.inl rfl)
      · exact relabel_mem (PySem.mem_of_lookup h) (.inr rfl)
    rcases hm with hm | hm
    · exact absurd rfl (nocell _ hm)
    · exact ⟨hm, hs _ hm rfl⟩
  · have hm : (x, some j) ∈ N.zip src := by
      refine List.mem_of_getElem? (i := i) ?_
      rw [List.getElem?_zip_eq_some]
      exact ⟨h1, h2⟩
    rcases pc _ hm with z | ⟨j', _, e, e1, e2, e3⟩
    · cases z
    · cases e
      have ko : X.env.kindOf x = some .cell := by
        show X.env.scope.names.lookup x = some .cell
        rw [hO]
        exact e2
      exact ⟨by rw [hX]; exact e1, .inl ko, .inl (relabel_free hK ko e3)⟩
end L2
/-! Own rule: sorted of a list whose keys are asked by a comparison that changes nothing; a list of cells that rises already. -/
namespace L2
open PySem PySem.Spec PyProof.Rows PySem.W
section
variable {prog : Program} {w : World} {A : Around} {E : Value → Shared → Prop} {s : Shared}
theorem range_pick (vs : List Value) : ((List.range vs.length).map fun i => vs.getD i Value.none) = vs := by
  refine List.ext_getElem (by simp) fun i h1 h2 => ?_
  simp [h2]
theorem srt_list {a : Addr} {vs : List Value} {n : Nat} {P : PySem.Fin → Shared → Prop} (ho : s.heap.get? a = some (seqObj "list" vs.toArray n)) (h64 : vs.length < 64) (Good : Array Nat → Prop) (h1 : vs.length < 2 → Good (List.toArray (List.range vs.length)))
    (hk : 2 ≤ vs.length → ∀ s' : Shared, (∀ b o, b ≠ a → s.heap.get? b = some o → s'.heap.get? b = some o) → wpAny (model prog w) A (keyKind' vs.toArray) (fun κ s2 => s2 = s' ∧ (kas_sort vs.length).kasWp (kas_cmp prog w A κ (pairsOf vs)) (fun p s3 => s3 = s' ∧ Good p) s') (fun _ _ => False) s')
    (h : ∀ (p : Array Nat) (h' : Heap) (c : Nat), p.size = vs.length → Good p → (∀ b o, b ≠ a → s.heap.get? b = some o → h'.get? b = some o) → h'.get? a = some (seqObj "list" (List.toArray (p.toList.map fun i => vs.getD i Value.none)) c) → P (.done (.ret .none)) { s with heap := h' }) :
    wpAny (model prog w) A (Builtin.«list.sort» ⟨[.ref a], []⟩) P E s := by
  have lta : a < s.heap.objs.size := Heap.lt_size ho
  have small : vs.length ≤ sizeLine := by rw [sizeLine_eq]; omega
  have hu1 := get?_update_seq ho fun _ => (#[] : Array Value)
  generalize hX : s.heap.update a (Obj.mapSeq fun _ => (#[] : Array Value)) = X1 at hu1
  have zX : X1.objs.size = s.heap.objs.size := by rw [← hX, Heap.size_update]
  have kX : ∀ b o, b ≠ a → s.heap.get? b = some o → X1.get? b = some o := fun b o hb e => by
    rw [← hX, Heap.get?_update_ne _ _ _ _ hb]
    exact e
  obtain ⟨e1, hu⟩ : ∃ e1, X1.get? a = some (seqObj "list" #[] e1) := ⟨_, hu1⟩
  generalize hY : (X1.push (seqObj "tuple" vs.toArray 0)).push (seqObj "list" #[] 0) = Y
  have hYa : Y.get? a = some (seqObj "list" #[] e1) := by
    rw [← hY]
    exact Heap.get?_push_of_some _ (Heap.get?_push_of_some _ hu)
  have kY : ∀ b o, b ≠ a → s.heap.get? b = some o → Y.get? b = some o := fun b o hb e => by
    rw [← hY]
    exact Heap.get?_push_of_some _ (Heap.get?_push_of_some _ (kX b o hb e))
  have last : ∀ (p : Array Nat) (st : SortSt), p.size = vs.length → Good p → arrOf st = p.map (kas_item (pairsOf vs)) → failedOf st = none →
      wpAny (model prog w) A (do
        let touched := (← seqEpoch a) != e1
        Builtin.List.listUpdate (.ref a) fun _ => (arrOf st).map (·.2)
        if let some e := failedOf st then rule "list.sort.comparison-raised"; throw e
        if touched then rule "list.sort.modified"; raiseError "ValueError" "list modified during sort"
        ret .none) P E { s with heap := Y } := by
    intro p st hp hg har hf
    have hout : (arrOf st).map (·.2) = List.toArray (p.toList.map fun i => vs.getD i Value.none) := by
      apply Array.toList_inj.mp
      rw [har, Array.map_map, Array.toList_map]
      refine List.map_congr_left fun i _ => ?_
      show (kas_item (pairsOf vs) i).2 = _
      rw [kas_item_eq]
    have hlen : (List.toArray (p.toList.map fun i => vs.getD i Value.none)).size = vs.length := by rw [List.size_toArray, List.length_map, Array.length_toList, hp]
    rw [hout, hf]
    have hu2 := get?_update_seq hYa fun _ => List.toArray (p.toList.map fun i => vs.getD i Value.none)
    refine wpAny_bind (seqEpoch_at hYa rfl (wpAny_bind (listUpdate_at hYa rfl ?_ (Nat.zero_le _) (by rw [hlen]; omega))))
    simp only [bne_self_eq_false, Bool.false_eq_true, if_false]
    refine wpAny_pure (h p _ _ hp hg (fun b o hb e => ?_) hu2)
    rw [Heap.get?_update_ne _ _ _ _ hb]
    exact kY b o hb e
  rw [list_sort_plain]
  refine wpAny_bind (listItems_at ho rfl (wpAny_bind (listUpdate_at ho rfl ?_ (by rw [List.size_toArray]; exact small) (Nat.zero_le _))))
  rw [hX]
  refine wpAny_bind (seqEpoch_at hu rfl (wpAny_bind (wpAny_newTuple (wpAny_bind (wpAny_newList ?_ (Nat.zero_le _))) small)))
  show wpAny (model prog w) A _ P E { s with heap := (X1.push (seqObj "tuple" vs.toArray 0)).push (seqObj "list" #[] 0) }
  rw [hY]
  refine wpAny_holding ?_
  dsimp only
  by_cases c2 : vs.toArray.size < 2
  · have c2' : vs.length < 2 := by rw [List.size_toArray] at c2; exact c2
    rw [if_pos c2, if_pos c2]
    refine wpAny_bind (wpAny_pure ?_)
    rw [StateT.run_pure]
    refine wpAny_bind (wpAny_pure ?_)
    refine last (List.toArray (List.range vs.length)) _ (by simp) (h1 c2') ?_ rfl
    have e := kas_range (pairsOf vs)
    rw [pairsOf_size] at e
    rw [e]
    rfl
  · have c2' : 2 ≤ vs.length := by rw [List.size_toArray] at c2; omega
    rw [if_neg c2, if_neg c2]
    refine wpAny_bind (wpAny_mono (hk c2' { s with heap := Y } kY) (fun κ s2 ⟨e2, hw⟩ => ?_) fun _ _ x => x.elim)
    subst e2
    have run := kas_runs (E := E) (Q := fun _ st' s' => ∃ p : Array Nat, s' = { s with heap := Y } ∧ p.size = vs.length ∧ Good p ∧ arrOf st' = p.map (kas_item (pairsOf vs)) ∧ failedOf st' = none) c2' h64 (fun p' st' s' x1 x2 x3 x4 => ⟨p', x4.1, x1, x4.2, x2, x3⟩) hw
    have est : SortSt.mk' κ (vs.toArray.zip vs.toArray) #[] 7 none = kas_st κ (pairsOf vs) (List.toArray (List.range vs.length)) := by
      have e := kas_range (pairsOf vs)
      rw [pairsOf_size] at e
      unfold kas_st
      rw [e]
      rfl
    rw [← est] at run
    refine wpAny_bind (wpAny_mono run ?_ fun _ _ z => z)
    rintro ⟨⟨⟩, st'⟩ s' ⟨p, rfl, hp, hg, har, hf⟩
    exact last p st' hp hg har hf
theorem srt_call {l : Addr} {vs : List Value} {Q : Value → Shared → Prop} (hl : s.heap.IsList l vs.toArray) (h64 : vs.length < 64) (Good : Array Nat → Prop) (h1 : vs.length < 2 → Good (List.toArray (List.range vs.length)))
    (hk : 2 ≤ vs.length → ∀ s' : Shared, (∀ b o, s.heap.get? b = some o → s'.heap.get? b = some o) → wpAny (model prog w) A.in1.in1 (keyKind' vs.toArray) (fun κ s2 => s2 = s' ∧ (kas_sort vs.length).kasWp (kas_cmp prog w A.in1.in1 κ (pairsOf vs)) (fun p s3 => s3 = s' ∧ Good p) s') (fun _ _ => False) s')
    (h : ∀ (p : Array Nat) (h' : Heap) (c : Nat), p.size = vs.length → Good p → (∀ b o, s.heap.get? b = some o → h'.get? b = some o) → h'.get? (s.heap.objs.size + 1) = some (seqObj "list" (List.toArray (p.toList.map fun i => vs.getD i Value.none)) c) → Q (.ref (s.heap.objs.size + 1)) { s with heap := h' }) :
    wpAny (model prog w) A (call (.builtin "sorted") [.ref l]) Q E s := by
  have small : vs.length ≤ sizeLine := by rw [sizeLine_eq]; omega
  generalize hX : (s.heap.push (seqObj "list" #[] 0)).update s.heap.objs.size (Obj.mapSeq (· ++ vs.toArray)) = X1
  have zX : X1.objs.size = s.heap.objs.size + 1 := by rw [← hX, Heap.size_update, Heap.size_push]
  have kX : ∀ b o, s.heap.get? b = some o → X1.get? b = some o := fun b o e => by
    have lt := Heap.lt_size e
    rw [← hX, Heap.get?_update_ne _ _ _ _ (Nat.ne_of_lt lt)]
    exact Heap.get?_push_of_some _ e
  apply Calls.call_function_entry kind_sorted plain_sorted entry_sorted (args_sorted1 _)
  unfold Builtin.«sorted»
  refine wpAny_bind (m := checkCount "sorted" 1 1 _) (wpAny_pure (wpAny_bind (collect_list hl ?_ small)))
  rw [hX]
  refine wpAny_bind (wpAny_newList ?_ small)
  show wpAny _ _ _ _ _ { s with heap := X1.push (seqObj "list" vs.toArray 0) }
  have hoL : (X1.push (seqObj "list" vs.toArray 0)).get? (s.heap.objs.size + 1) = some (seqObj "list" vs.toArray 0) := by
    rw [← zX]
    exact Heap.get?_push_size _ rfl
  have kL : ∀ b o, s.heap.get? b = some o → (X1.push (seqObj "list" vs.toArray 0)).get? b = some o := fun b o e => Heap.get?_push_of_some _ (kX b o e)
  have ne : ∀ b o, s.heap.get? b = some o → b ≠ s.heap.objs.size + 1 := fun b o e => Nat.ne_of_lt (Nat.lt_succ_of_lt (Heap.lt_size e))
  rw [zX]
  refine wpAny_bind (wpAny_holding (wpAny_call_entry slot_list_sort ⟨_, hoL, rfl⟩ entry_list_sort (srt_list (s := { s with heap := X1.push (seqObj "list" vs.toArray 0) }) hoL h64 Good h1 (fun c s' k => hk c s' fun b o e => k b o (ne b o e) (kL b o e)) ?_) (args_list_sort _)))
  intro p h' c hp hg kk ha
  exact ⟨_, rfl, wpAny_pure ⟨_, rfl, h p h' c hp hg (fun b o e => kk b o (ne b o e) (kL b o e)) ha⟩⟩
/-- a run that rises from end to end is left as it is -/
theorem asc_all {cmp : Nat → Nat → (Bool → Shared → Prop) → Shared → Prop} {p : Array Nat} {s0 : Shared} {G : Nat → Shared → Prop} : ∀ (f n : Nat), (∀ i, n ≤ i → i < n + f → ∀ C : Bool → Shared → Prop, C false s0 → cmp (p.getD i 0) (p.getD (i - 1) 0) C s0) → G (n + f) s0 → (kas_asc p f n).kasWp cmp G s0
  | 0, n, _, h => h
  | f + 1, n, hc, h => by
    refine hc n (Nat.le_refl _) (by omega) _ ?_
    show (if false = true then KasT.ret n else kas_asc p f (n + 1)).kasWp cmp G s0
    rw [if_neg Bool.false_ne_true]
    exact asc_all f (n + 1) (fun i h1 h2 => hc i (by omega) (by omega)) (by rw [show n + 1 + f = n + (f + 1) by omega]; exact h)
theorem sort_all {cmp : Nat → Nat → (Bool → Shared → Prop) → Shared → Prop} {n : Nat} {s0 : Shared} {G : Array Nat → Shared → Prop} (h2 : 2 ≤ n) (hc : ∀ i, 1 ≤ i → i < n → ∀ C : Bool → Shared → Prop, C false s0 → cmp i (i - 1) C s0) (h : G (List.toArray (List.range n)) s0) : (kas_sort n).kasWp cmp G s0 := by
  unfold kas_sort
  rw [KasT.kasWp_bind]
  unfold kas_count
  rw [KasT.kasWp_bind]
  have gd : ∀ i, i < n → (List.toArray (List.range n)).getD i 0 = i := fun i hi => by simp [Array.getD, hi]
  refine asc_all (n - 1) 1 (fun i h1 h3 C hC => ?_) ?_
  · rw [gd i (by omega), gd (i - 1) (by omega)]
    exact hc i h1 (by omega) C hC
  · rw [show 1 + (n - 1) = n by omega, if_pos (by simp)]
    show (if n < n then kas_bin (n - max n 1) (List.toArray (List.range n)) (max n 1) else KasT.ret (List.toArray (List.range n))).kasWp cmp G s0
    rw [if_neg (Nat.lt_irrefl n)]
    exact h
end
end L2
/-! Own rule: sorted of a list of pairs of numbers that rises already. -/
namespace L2
open PySem PySem.Spec PyProof.Rows PySem.W
/-- a list of tuples of two numbers -/
def Tup2 (H : Hp) : List V → List (Int × Int) → Prop := Paired fun v p => ∃ a, v = V.ref a ∧ H a = some (.tup [.int p.1, .int p.2])
def lt2 (p q : Int × Int) : Bool := if p.1 = q.1 then decide (p.2 < q.2) else decide (p.1 < q.1)
structure IntPair (h : Heap) (v : Value) (p : Int × Int) : Prop where
  ex : ∃ a o n t u, v = .ref a ∧ h.get? a = some o ∧ o.cls = .type "tuple" ∧ o.data = .seq #[.int p.1 t, .int p.2 u] n
section
variable {X : Cx} {pins : List (Addr × Obj)} {σ : St} {H : Hp} {s : Shared}
theorem Tup2.pairs (I : Inv X pins σ H s) : ∀ {us : List V} {ps : List (Int × Int)} {its : List Value}, Tup2 H us ps → Vals us its → Paired (IntPair s.heap) its ps
  | _, _, _, .nil, r => by
    cases r
    exact .nil
  | _, _, _, .cons ⟨a, e, h⟩ t, r => by
    subst e
    cases r with
    | cons r1 r2 =>
      cases r1
      refine .cons ?_ (Tup2.pairs I t r2)
      obtain ⟨items, rv, tp, _⟩ := I.tuple (SqT.of h)
      obtain ⟨u1, u2, rfl, ⟨t1, rfl⟩, ⟨t2, rfl⟩⟩ := vals2 rv
      obtain ⟨ob, e1, c1, n, d1⟩ := tp
      exact ⟨a, ob, n, t1, t2, rfl, e1, c1, d1⟩
end
theorem pairs_kept {h h' : Heap} (k : ∀ b o, h.get? b = some o → h'.get? b = some o) : ∀ {its : List Value} {ps : List (Int × Int)}, Paired (IntPair h) its ps → Paired (IntPair h') its ps
  | _, _, .nil => .nil
  | _, _, .cons ⟨a, o, n, t, u, e, e1, r⟩ tl => .cons ⟨a, o, n, t, u, e, k _ _ e1, r⟩ (pairs_kept k tl)
theorem pairs_firsts {h : Heap} : ∀ {its : List Value} {ps : List (Int × Int)}, Paired (IntPair h) its ps → ∃ fs : List Value, KatTups h its fs ∧ fs.length = its.length ∧ ∀ v ∈ fs, ∃ x t, v = Value.int x t
  | _, _, .nil => ⟨[], .nil, rfl, fun _ z => nomatch z⟩
  | _, _, .cons ⟨a, o, n, t, u, e, e1, c, d⟩ tl => by
    obtain ⟨fs, k, l, q⟩ := pairs_firsts tl
    subst e
    refine ⟨.int _ t :: fs, KatTups.cons e1 c d rfl k, by simp [l], fun v hv => ?_⟩
    rcases List.mem_cons.mp hv with rfl | hv
    · exact ⟨_, t, rfl⟩
    · exact q v hv
theorem pairs_get {h : Heap} : ∀ {its : List Value} {ps : List (Int × Int)} {i : Nat} {p : Int × Int}, Paired (IntPair h) its ps → ps[i]? = some p → IntPair h (its.getD i Value.none) p
  | _, _, _, _, .nil, e => by simp at e
  | _, _, 0, _, .cons r _, e => by
    simp at e
    subst e
    exact r
  | _, _, i + 1, p, .cons _ t, e => by
    have := pairs_get (i := i) (p := p) t (by simpa using e)
    simpa using this
section
variable {prog : Program} {w : World} {A : Around} {E : Value → Shared → Prop} {s : Shared}
theorem pair_lt {v v' : Value} {p q : Int × Int} {C : Bool → Shared → Prop} (hv : IntPair s.heap v p) (hv' : IntPair s.heap v' q) (h : C (lt2 p q) s) : wpAny (model prog w) A (keyLt' (tuples' true) v v') C E s := by
  obtain ⟨a, o, n, t, u, rfl, e1, c1, d1⟩ := hv
  obtain ⟨a', o', n', t', u', rfl, e1', c1', d1'⟩ := hv'
  refine kat_lt e1 d1 e1' d1' ?_
  show KatLex prog w A true _ C [(Value.int p.1 t, Value.int q.1 t'), (Value.int p.2 u, Value.int q.2 u')] 0 s
  unfold lt2 at h
  refine kat_cons (SeqAt.EqAt.int_int _ _ _ _ prog w _ _ (kat_go (fun ee => kat_yes ?_) fun ee => kat_no ?_))
  · have e : p.1 = q.1 := by simpa using ee
    rw [if_pos e] at h
    refine kat_cons (SeqAt.EqAt.int_int _ _ _ _ prog w _ _ (kat_go (fun e2 => kat_yes (kat_nil ?_)) fun e2 => kat_no ?_))
    · have e3 : p.2 = q.2 := by simpa using e2
      have e4 : decide (p.2 < q.2) = false := decide_eq_false (by omega)
      rw [e4] at h
      exact h
    · exact kat_one _ _ (lt_int h)
  · have e : ¬ p.1 = q.1 := by simpa using ee
    rw [if_neg e] at h
    exact oneLt_int h
end
section
variable {X : Cx}
theorem call_sortedUp : CallR X (.builtin "sorted") (fun xs H Q => ∃ l us ps, xs = [.ref l] ∧ SqL X.K H l us ∧ Tup2 H us ps ∧ (∀ (i : Nat) p q, ps[i]? = some p → ps[i + 1]? = some q → lt2 q p = false) ∧ us.length < 64 ∧ ∀ d, H d = none → Q (.ref d) (upd H d (.lst us))) := by
  intro pins s σ H xs us' Q I r h
  obtain ⟨l, us, ps, rfl, hq, ht, hup, h64, q⟩ := h
  obtain ⟨u, rfl, ru⟩ := vals1 r
  cases ru
  obtain ⟨its, rv, pl, hz⟩ := I.list hq
  have hl := rv.length
  have hp := Tup2.pairs I ht rv
  have hlp : its.length = ps.length := Paired.length hp
  refine srt_call (vs := its) pl.isList (by omega) (fun p => p = List.toArray (List.range its.length)) (fun _ => rfl) (fun h2 s' kk => ?_) fun p h' c hps hg kk ha => ?_
  · have hp' := pairs_kept kk hp
    obtain ⟨fs, hk, hfl, hint⟩ := pairs_firsts hp'
    refine kat_kind (T := .type "int") hk (by omega) (fun v hv => ?_) (by decide) ⟨rfl, sort_all h2 (fun i h1 h3 C hC => ?_) ⟨rfl, rfl⟩⟩
    · obtain ⟨x, t, rfl⟩ := hint v hv
      exact Looks.of_pure rfl
    · obtain ⟨j, rfl⟩ : ∃ j, i = j + 1 := ⟨i - 1, by omega⟩
      have g1 : ps[j]? = some ps[j] := List.getElem?_eq_getElem (by omega)
      have g2 : ps[j + 1]? = some ps[j + 1] := List.getElem?_eq_getElem (by omega)
      have e := hup j _ _ g1 g2
      unfold kas_cmp
      rw [kas_item_eq, kas_item_eq]
      show wpAny _ _ (keyLt' (tuples' true) (its.getD (j + 1) Value.none) (its.getD j Value.none)) C _ _
      exact pair_lt (pairs_get hp' g2) (pairs_get hp' g1) (by rw [e]; exact hC)
  · subst hg
    rw [List.toList_toArray, range_pick] at ha
    have hD : H (s.heap.objs.size + 1) = none := I.hok.fresh (Nat.le_succ _)
    exact ⟨.ref (s.heap.objs.size + 1), upd H (s.heap.objs.size + 1) (.lst us), I.laid (t' := s.toks) kk (Nat.le_succ _) ⟨hz, its, c, rv, ha⟩, rfl, q _ hD⟩
end
end L2
/-! Own rules: xs[i] op= e, sum of a list of ints, any and all of a list of truths. -/
namespace L2
open PySem PySem.Spec PyProof.Rows
section
variable {X : Cx}
theorem get_list : PGet X (rIxL X.K) := by
  intro pins s σ H x y v u Q I rx ry h
  obtain ⟨p, xs, i, z, rfl, rfl, hq, he, q⟩ := h
  cases rx
  obtain ⟨t, rfl⟩ := ry
  obtain ⟨its, r, pl, hz⟩ := I.list hq
  obtain ⟨j, h1, h2, h3, h4, h5⟩ := atI_get he
  obtain ⟨w, ew, rw'⟩ := r.get h2
  have hl := r.length
  have hn := line63
  have fin : EP X pins σ Q w s := ⟨z, H, I, rw', q⟩
  by_cases h0 : 0 ≤ i
  · have hj : i.toNat = j := by
      rw [seqIndex_of h0 h5] at h1
      exact Option.some.inj h1
    exact wpAny_getItem_list pl.isList h0 (by omega) (by rw [hj]; simpa using ew) fin
  · have hj : (i + (its.toArray.size : Int)).toNat = j := by
      rw [seqIndex_neg (by omega) h4] at h1
      rw [List.size_toArray, ← hl]
      exact Option.some.inj h1
    exact wpAny_getItem_list_neg pl.isList (by omega) (by rw [List.size_toArray] <;> omega) (by omega) (by rw [hj]; simpa using ew) fin
theorem ints_are : ∀ {ns : List Int} {its : List Value}, Vals (ns.map V.int) its → IntsAre its ns
  | [], _, r => by cases r; exact .nil
  | n :: ns, _, r => by
    cases r with
    | cons r1 r2 =>
      obtain ⟨t, rfl⟩ := r1
      exact .cons n t (ints_are r2)
theorem call_sum (hc : X.calm = true) : CallR X (.builtin "sum") (fun xs H Q => ∃ (l : Addr) (ns : List Int), xs = [.ref l] ∧ SqL X.K H l (ns.map V.int) ∧ Q (.int ns.sum) H) := by
  intro pins s σ H xs us Q I r h
  obtain ⟨l, ns, rfl, hq, q⟩ := h
  obtain ⟨u, rfl, ru⟩ := vals1 r
  cases ru
  obtain ⟨its, rv, pl, hz⟩ := I.list hq
  have hi : IntsAre its ns := ints_are rv
  obtain ⟨ys, ey⟩ := hi.allInts.items
  refine sum_intListG (I.ok.hd hc) (xs := ys) (ey ▸ pl.isList) fun h' tk t' hk => ?_
  have f1 : ns = ys.toList.map (·.1) := by
    rw [← nums_intItems, ← ey]
    exact (show numsOf its.toArray.toList = ns from hi.numsOf).symm
  have f2 : preSum (numAt ys) ys.size = ns.sum := by
    rw [f1, preSum_eq, List.take_of_length_le (by simp)]
  rw [f2]
  exact ⟨.int _, H, I.kept hk, ⟨_, rfl⟩, q⟩
theorem bools_get {bs : List Bool} {its : List Value} (r : Vals (bs.map V.bl) its) {i : Nat} {v : Value} (e : its[i]? = some v) : ∃ b, bs[i]? = some b ∧ v = .bool b := by
  have hl := r.length
  rw [List.length_map] at hl
  have hi : i < bs.length := by
    have := (List.getElem?_eq_some_iff.mp e).1
    omega
  obtain ⟨u, hu, ru⟩ := r.get (i := i) (x := .bl bs[i]) (by rw [List.getElem?_map, List.getElem?_eq_getElem hi]; rfl)
  rw [hu] at e
  cases e
  exact ⟨bs[i], List.getElem?_eq_getElem hi, ru⟩
theorem call_any (hc : X.calm = true) : CallR X (.builtin "any") (fun xs H Q => ∃ (l : Addr) (bs : List Bool), xs = [.ref l] ∧ SqL X.K H l (bs.map V.bl) ∧ Q (.bl (bs.any id)) H) := by
  intro pins s σ H xs us Q I r h
  obtain ⟨l, bs, rfl, hq, q⟩ := h
  obtain ⟨u, rfl, ru⟩ := vals1 r
  cases ru
  obtain ⟨its, rv, pl, hz⟩ := I.list hq
  have hl := pl.isList
  have hlt : l < s.heap.objs.size := let ⟨_, he, _⟩ := hl; Heap.lt_size he
  have hln := rv.length
  rw [List.length_map] at hln
  refine call_any_walk (wpAny_pyIter_list hl ?_)
  refine ⟨s.heap.objs.size, [s.heap.objs.size, l], [s.heap.objs.size], its.toArray.size, _, _, fun i => (bs[i]?).getD false, rfl, Walks.list (A := X.A.in1) (I.ok.hd hc) _ l (Nat.ne_of_lt hlt) its.toArray,
    ⟨⟨_, Heap.get?_push_size _ rfl, rfl, rfl⟩, hl.push _⟩, fun i v s' Q' E' hP hQ => ?_, fun h' tk hk => ?_⟩
  · obtain ⟨b, eb, rfl⟩ := bools_get rv (i := i) (v := v) (by simpa using hP)
    simp only [eb, Option.getD_some] at hQ
    exact wpAny_truthy_bool hQ
  · have e : ((List.range its.toArray.size).any fun i => (bs[i]?).getD false) = bs.any id := by
      rw [List.size_toArray, ← hln]; exact LSm.range_any bs
    rw [e]
    exact ⟨.bl _, H, I.kept (LSm.kept_iter hk), rfl, q⟩
theorem call_all (hc : X.calm = true) : CallR X (.builtin "all") (fun xs H Q => ∃ (l : Addr) (bs : List Bool), xs = [.ref l] ∧ SqL X.K H l (bs.map V.bl) ∧ Q (.bl (bs.all id)) H) := by
  intro pins s σ H xs us Q I r h
  obtain ⟨l, bs, rfl, hq, q⟩ := h
  obtain ⟨u, rfl, ru⟩ := vals1 r
  cases ru
  obtain ⟨its, rv, pl, hz⟩ := I.list hq
  have hl := pl.isList
  have hlt : l < s.heap.objs.size := let ⟨_, he, _⟩ := hl; Heap.lt_size he
  have hln := rv.length
  rw [List.length_map] at hln
  refine call_all_walk (wpAny_pyIter_list hl ?_)
  refine ⟨s.heap.objs.size, [s.heap.objs.size, l], [s.heap.objs.size], its.toArray.size, _, _, fun i => (bs[i]?).getD true, rfl, Walks.list (A := X.A.in1) (I.ok.hd hc) _ l (Nat.ne_of_lt hlt) its.toArray,
    ⟨⟨_, Heap.get?_push_size _ rfl, rfl, rfl⟩, hl.push _⟩, fun i v s' Q' E' hP hQ => ?_, fun h' tk hk => ?_⟩
  · obtain ⟨b, eb, rfl⟩ := bools_get rv (i := i) (v := v) (by simpa using hP)
    simp only [eb, Option.getD_some] at hQ
    exact wpAny_truthy_bool hQ
  · have e : ((List.range its.toArray.size).all fun i => (bs[i]?).getD true) = bs.all id := by
      rw [List.size_toArray, ← hln]; exact LSm.range_all bs
    rw [e]
    exact ⟨.bl _, H, I.kept (LSm.kept_iter hk), rfl, q⟩
end
end L2
/-! Own rules: what is read as whole data, its lists known apart (N says which); comprehensions by what each turn gives. -/
namespace L2
open PySem PySem.Spec PyProof.Rows
mutual
inductive Rdn (N : Addr → Prop) (H : Hp) : V → PyData → Prop
  | non : Rdn N H .non .none
  | bl (b : Bool) : Rdn N H (.bl b) (.bool b)
  | int (i : Int) : Rdn N H (.int i) (.int i)
  | str (x : Str) : Rdn N H (.str x) (.str x)
  | lst {a : Addr} {xs : List V} {ds : List PyData} : N a → H a = some (.lst xs) → RdnAll N H xs ds → Rdn N H (.ref a) (.list ds)
  | tup {a : Addr} {xs : List V} {ds : List PyData} : H a = some (.tup xs) → RdnAll N H xs ds → Rdn N H (.ref a) (.tuple ds)
inductive RdnAll (N : Addr → Prop) (H : Hp) : List V → List PyData → Prop
  | nil : RdnAll N H [] []
  | cons {x : V} {d : PyData} {xs : List V} {ds : List PyData} : Rdn N H x d → RdnAll N H xs ds → RdnAll N H (x :: xs) (d :: ds)
end
section
variable {K : PySem.W.Frag} {N N' : Addr → Prop} {H H' : Hp}
mutual
theorem Rdn.rdv : ∀ {v : V} {d : PyData}, Rdn N H v d → Rdv K H v d
  | _, _, .non => .non
  | _, _, .bl b => .bl b
  | _, _, .int i => .int i
  | _, _, .str x => .str x
  | _, _, .lst _ h t => .lst (SqL.of h) (RdnAll.rdv t)
  | _, _, .tup h t => .tup (SqT.of h) (RdnAll.rdv t)
theorem RdnAll.rdv : ∀ {vs : List V} {ds : List PyData}, RdnAll N H vs ds → RdvAll K H vs ds
  | _, _, .nil => .nil
  | _, _, .cons h t => .cons (Rdn.rdv h) (RdnAll.rdv t)
end
mutual
theorem Rdn.mono (s : Same H H') (i : ∀ a, N a → N' a) : ∀ {v : V} {d : PyData}, Rdn N H v d → Rdn N' H' v d
  | _, _, .non => .non
  | _, _, .bl b => .bl b
  | _, _, .int i => .int i
  | _, _, .str x => .str x
  | _, _, .lst n h t => .lst (i _ n) (s _ _ h) (RdnAll.mono s i t)
  | _, _, .tup h t => .tup (s _ _ h) (RdnAll.mono s i t)
theorem RdnAll.mono (s : Same H H') (i : ∀ a, N a → N' a) : ∀ {vs : List V} {ds : List PyData}, RdnAll N H vs ds → RdnAll N' H' vs ds
  | _, _, .nil => .nil
  | _, _, .cons h t => .cons (Rdn.mono s i h) (RdnAll.mono s i t)
end
mutual
theorem Rdn.into {D : Addr} {o : HO} {old : List V} (hD : H D = some (.lst old)) (i : ∀ a, N a → a ≠ D) : ∀ {v : V} {d : PyData}, Rdn N H v d → Rdn N (upd H D o) v d
  | _, _, .non => .non
  | _, _, .bl b => .bl b
  | _, _, .int i => .int i
  | _, _, .str x => .str x
  | _, _, .lst n h t => .lst n (by rw [upd_ne (i _ n)]; exact h) (RdnAll.into hD i t)
  | _, _, .tup h t => .tup (by rw [upd_ne (ne_of h hD (by intro z; cases z))]; exact h) (RdnAll.into hD i t)
theorem RdnAll.into {D : Addr} {o : HO} {old : List V} (hD : H D = some (.lst old)) (i : ∀ a, N a → a ≠ D) : ∀ {vs : List V} {ds : List PyData}, RdnAll N H vs ds → RdnAll N (upd H D o) vs ds
  | _, _, .nil => .nil
  | _, _, .cons h t => .cons (Rdn.into hD i h) (RdnAll.into hD i t)
end
theorem Rdn.keep (s : Same H H') {v : V} {d : PyData} (h : Rdn N H v d) : Rdn N H' v d := h.mono s fun _ n => n
theorem RdnAll.keep (s : Same H H') {vs : List V} {ds : List PyData} (h : RdnAll N H vs ds) : RdnAll N H' vs ds := h.mono s fun _ n => n
theorem RdnAll.snoc : ∀ {vs : List V} {ds : List PyData} {v : V} {d : PyData}, RdnAll N H vs ds → Rdn N H v d → RdnAll N H (vs ++ [v]) (ds ++ [d])
  | _, _, _, _, .nil, h => .cons h .nil
  | _, _, _, _, .cons a t, h => .cons a (RdnAll.snoc t h)
theorem RdnAll.append : ∀ {vs ws : List V} {ds es : List PyData}, RdnAll N H vs ds → RdnAll N H ws es → RdnAll N H (vs ++ ws) (ds ++ es)
  | _, _, _, _, .nil, h => h
  | _, _, _, _, .cons a t, h => .cons a (RdnAll.append t h)
theorem RdnAll.length : ∀ {vs : List V} {ds : List PyData}, RdnAll N H vs ds → vs.length = ds.length
  | _, _, .nil => rfl
  | _, _, .cons _ t => by rw [List.length_cons, List.length_cons, RdnAll.length t]
theorem RdnAll.get : ∀ {vs : List V} {ds : List PyData} {i : Nat} {v : V}, RdnAll N H vs ds → vs[i]? = some v → ∃ d, ds[i]? = some d ∧ Rdn N H v d
  | _, _, _, _, .nil, e => by simp at e
  | _, _, 0, _, .cons r _, e => by
    simp at e
    subst e
    exact ⟨_, rfl, r⟩
  | _, _, i + 1, v, .cons _ t, e => by
    obtain ⟨d, h1, h2⟩ := RdnAll.get (i := i) (v := v) t (by simpa using e)
    exact ⟨d, by simpa using h1, h2⟩
theorem RdnAll.at : ∀ {vs : List V} {ds : List PyData} {i : Nat} {d : PyData}, RdnAll N H vs ds → ds[i]? = some d → ∃ v, vs[i]? = some v ∧ Rdn N H v d
  | _, _, _, _, .nil, e => by simp at e
  | _, _, 0, _, .cons r _, e => by
    simp at e
    subst e
    exact ⟨_, rfl, r⟩
  | _, _, i + 1, d, .cons _ t, e => by
    obtain ⟨v, h1, h2⟩ := RdnAll.at (i := i) (d := d) t (by simpa using e)
    exact ⟨v, by simpa using h1, h2⟩
/-- a fresh thing stands apart from what was there -/
theorem new_ne {H : Hp} {D a : Addr} {o : HO} (hD : H D = some o) (h : H a = none) : a ≠ D := fun z => by
  rw [z, hD] at h
  cases h
end
section
variable {K : PySem.W.Frag} {g : TG} {tc : TT} {te : TE} {Q : VK} {σ0 : St} {H1 : Hp} {D : Addr}
/-- what a comprehension's turn leaves -/
def TurnYes (N : Addr → Prop) (inv : St → Prop) (H : Hp) (o : Option PyData) (Y : St → V → Hp → Prop) : Prop := ∀ d y σ2 H5, o = some d → inv σ2 → Same H H5 → Rdn N H5 y d → Y σ2 y H5
def TurnNo (inv : St → Prop) (H : Hp) (o : Option PyData) (Z : St → Hp → Prop) : Prop := ∀ σ2 H4, o = none → inv σ2 → Same H H4 → Z σ2 H4
theorem comp_data {a : Addr} {xs : List V} (N : Addr → Prop) (outs : List (Option PyData)) (inv : St → Prop) (hD : H1 D = none) (hN : ∀ a, N a → a ≠ D) (h0 : inv σ0) (hlen : outs.length = xs.length) (hz : xs.length ≤ 100000)
    (hl : SqL K H1 a xs)
    (hs : ∀ (i : Nat) (x : V) (o : Option PyData) (σ : St) (H : Hp), xs[i]? = some x → outs[i]? = some o → Same H1 H → H D ≠ none → inv σ → ∀ Y Z, TurnYes N inv H o Y → TurnNo inv H o Z →
      g x σ H fun σ2 H3 => tc σ2 H3 fun b H4 => if b = true then te σ2 H4 fun y H5 => Y σ2 y H5 else Z σ2 H4)
    (hd : ∀ ys H', Same H1 H' → H' D = some (.lst ys) → RdnAll N H' ys (outs.filterMap id) → Q (.ref D) H') : CompGoes (Itl K a) g tc te Q D σ0 (upd H1 D (.lst [])) := by
  refine comp_list (K := K) (a := a) (xs := xs) (fun i σ H' => inv σ ∧ Same H1 H' ∧ ∃ ys, H' D = some (.lst ys) ∧ ys.length ≤ i ∧ RdnAll N H' ys ((outs.take i).filterMap id)) ⟨h0, same_new hD, [], upd_same, Nat.le_refl _, .nil⟩ (fun i σ H' _ ⟨_, s, _⟩ => s.seq hl) ?_ ?_
  · rintro i x σ H hx ⟨hi, s, ys, hy, yl, hr⟩
    have hil : i < xs.length := (List.getElem?_eq_some_iff.mp hx).1
    obtain ⟨o, ho⟩ : ∃ o, outs[i]? = some o := ⟨outs[i]'(by omega), List.getElem?_eq_getElem (by omega)⟩
    have step : (outs.take (i + 1)).filterMap id = (outs.take i).filterMap id ++ o.toList := by
      rw [List.take_add_one, ho, List.filterMap_append]
      cases o <;> rfl
    refine hs i x o σ H hx ho s (by rw [hy]; exact fun z => nomatch z) hi _ _ (fun d y σ2 H5 e hi2 s5 hr5 => ?_) (fun σ2 H4 e hi2 s4 => ?_)
    · subst e
      refine ⟨ys, s5 _ _ hy, Nat.lt_of_le_of_lt yl (Nat.lt_of_lt_of_le hil (Nat.le_trans hz (by decide))), hi2, fun b ob e => ?_, ys ++ [y], upd_same, ?_, ?_⟩
      · rw [upd_ne (ne_of_none e hD)]
        exact s5 _ _ (s _ _ e)
      · rw [List.length_append]
        exact Nat.add_le_add_right yl 1
      · rw [step]
        exact RdnAll.into (s5 _ _ hy) hN (RdnAll.snoc (hr.keep s5) hr5)
    · subst e
      refine ⟨hi2, s.trans s4, ys, s4 _ _ hy, Nat.le_succ_of_le yl, ?_⟩
      rw [step]
      simpa using hr.keep s4
  · rintro σ H ⟨_, s, ys, hy, _, hr⟩
    rw [← hlen, List.take_length] at hr
    exact hd ys H s hy hr
theorem comp_dataR {lo : Int} {n : Nat} (N : Addr → Prop) (outs : List (Option PyData)) (inv : St → Prop) (hD : H1 D = none) (hN : ∀ a, N a → a ≠ D) (h0 : inv σ0) (hlen : outs.length = n) (hz : n ≤ 100000)
    (hs : ∀ (i : Nat) (o : Option PyData) (σ : St) (H : Hp), i < n → outs[i]? = some o → Same H1 H → H D ≠ none → inv σ → ∀ Y Z, TurnYes N inv H o Y → TurnNo inv H o Z →
      g (.int (lo + i)) σ H fun σ2 H3 => tc σ2 H3 fun b H4 => if b = true then te σ2 H4 fun y H5 => Y σ2 y H5 else Z σ2 H4)
    (hd : ∀ ys H', Same H1 H' → H' D = some (.lst ys) → RdnAll N H' ys (outs.filterMap id) → Q (.ref D) H') : CompGoes (Itr lo n) g tc te Q D σ0 (upd H1 D (.lst [])) := by
  refine comp_range (lo := lo) (n := n) (fun i σ H' => inv σ ∧ Same H1 H' ∧ ∃ ys, H' D = some (.lst ys) ∧ ys.length ≤ i ∧ RdnAll N H' ys ((outs.take i).filterMap id)) ⟨h0, same_new hD, [], upd_same, Nat.le_refl _, .nil⟩ ?_ ?_
  · rintro i σ H hil ⟨hi, s, ys, hy, yl, hr⟩
    obtain ⟨o, ho⟩ : ∃ o, outs[i]? = some o := ⟨outs[i]'(by omega), List.getElem?_eq_getElem (by omega)⟩
    have step : (outs.take (i + 1)).filterMap id = (outs.take i).filterMap id ++ o.toList := by
      rw [List.take_add_one, ho, List.filterMap_append]
      cases o <;> rfl
    refine hs i o σ H hil ho s (by rw [hy]; exact fun z => nomatch z) hi _ _ (fun d y σ2 H5 e hi2 s5 hr5 => ?_) (fun σ2 H4 e hi2 s4 => ?_)
    · subst e
      refine ⟨ys, s5 _ _ hy, Nat.lt_of_le_of_lt yl (Nat.lt_of_lt_of_le hil (Nat.le_trans hz (by decide))), hi2, fun b ob e => ?_, ys ++ [y], upd_same, ?_, ?_⟩
      · rw [upd_ne (ne_of_none e hD)]
        exact s5 _ _ (s _ _ e)
      · rw [List.length_append]
        exact Nat.add_le_add_right yl 1
      · rw [step]
        exact RdnAll.into (s5 _ _ hy) hN (RdnAll.snoc (hr.keep s5) hr5)
    · subst e
      refine ⟨hi2, s.trans s4, ys, s4 _ _ hy, Nat.le_succ_of_le yl, ?_⟩
      rw [step]
      simpa using hr.keep s4
  · rintro σ H ⟨_, s, ys, hy, _, hr⟩
    rw [← hlen, List.take_length] at hr
    exact hd ys H s hy hr
/-- over enumerate(list) -/
theorem comp_enumL {a : Addr} {xs : List V} (Pv : Nat → St → Hp → Prop) {H : Hp} (h0 : Pv 0 σ0 H) (hl : ∀ i σ H, i ≤ xs.length → Pv i σ H → SqL K H a xs)
    (hs : ∀ i x T σ H, xs[i]? = some x → H T = none → Pv i σ H → g (.ref T) σ (upd H T (.tup [.int i, x])) fun σ2 H3 => tc σ2 H3 fun b H4 => if b = true then te σ2 H4 fun y H5 => ∃ ys, H5 D = some (.lst ys) ∧ ys.length < sizeLine ∧ Pv (i + 1) σ2 (upd H5 D (.lst (ys ++ [y]))) else Pv (i + 1) σ2 H4)
    (hd : ∀ σ H, Pv xs.length σ H → Q (.ref D) H) : CompGoes (Ite K a) g tc te Q D σ0 H := by
  refine ⟨fun i m σ H => m = xs.length - i ∧ i ≤ xs.length ∧ Pv i σ H, ⟨xs.length, by simp, Nat.zero_le _, h0⟩, ?_⟩
  rintro i m σ H ⟨rfl, hi, p⟩
  have q := hl i σ H hi p
  by_cases hlt : i < xs.length
  · refine .inr ⟨⟨xs, q, hlt⟩, Pv (i + 1), fun σ' H' p' => ⟨xs.length - (i + 1), by omega, rfl, hlt, p'⟩, fun x H' y => ?_⟩
    obtain ⟨T, rfl, hT, y⟩ := y
    obtain ⟨v, hv, rfl⟩ := y xs q
    exact hs i v T σ H hv hT p
  · have e : i = xs.length := by omega
    subst e
    exact .inl ⟨⟨xs, q, rfl⟩, hd σ H p⟩
/-- a turn of a comprehension without a test -/
theorem tYes_it {i : Nat} {v : V} {σ : St} {H : Hp} {A B : St → Hp → Prop} (h : A (σ.set i (some v)) H) : gName i v σ H fun σ2 H3 => tYes σ2 H3 fun b H4 => if b = true then A σ2 H4 else B σ2 H4 := by
  show if true = true then A (σ.set i (some v)) H else B (σ.set i (some v)) H
  exact iteT h
theorem pe_never {X : Cx} {e : Expr} : PE X e (fun _ _ _ => False) := fun _ _ _ _ _ _ h => h.elim
end
end L2
/-! Own rules: slices of texts, a text times a number. -/
namespace L2
open PySem PySem.Spec PyProof.Rows
def cutS (z : Str) (lo hi : Option Int) : Str := ⟨((z.cps.toList.drop (HT.sIx z.length 0 lo)).take (HT.sIx z.length z.length hi - HT.sIx z.length 0 lo)).toArray⟩
theorem slice_ix (lo hi : Option Int) (n : Nat) : Builtin.Str.strSliceIndices lo hi 1 n = (List.range (HT.sIx n n hi - HT.sIx n 0 lo)).map (HT.sIx n 0 lo + ·) := by
  rw [← sliceRange_one]
  unfold Builtin.Str.strSliceIndices
  simp only [show (1 : Int) > 0 by decide, if_true]
  have clip : ∀ (v : Option Int) (d : Nat), (match v with | none => (d : Int) | some i => max 0 (min (if i < 0 then i + (n : Int) else i) (n : Int))) = ((HT.sIx n d v : Nat) : Int) := fun v d => by
    cases v with
    | none => rfl
    | some i =>
      simp only [HT.sIx]
      by_cases h : i < 0
      · simp only [h, if_true]
        omega
      · simp only [h, if_false]
        omega
  have e1 := clip lo 0
  have e2 := clip hi n
  rw [← e1, ← e2]
  rfl
theorem sIx_top (n : Nat) (hi : Option Int) : HT.sIx n n hi ≤ n := HT.sIx_le n n (Nat.le_refl _) hi
theorem slice_is (z : Str) (lo hi : Option Int) : Txt.slice z lo hi = cutS z lo hi := by
  unfold Txt.slice cutS
  rw [slice_ix, pick_run]
  by_cases c : ((1 : Int) == 1 && ((List.range (HT.sIx z.length z.length hi - HT.sIx z.length 0 lo)).map (HT.sIx z.length 0 lo + ·)).length == z.length) = true
  · rw [if_pos c]
    have c2 : HT.sIx z.length z.length hi - HT.sIx z.length 0 lo = z.length := by
      simp only [List.length_map, List.length_range] at c
      simpa using c
    have h1 := sIx_top z.length hi
    have e1 : HT.sIx z.length z.length hi = z.length := by omega
    have e0 : HT.sIx z.length 0 lo = 0 ∨ z.length = 0 := by omega
    have el : z.cps.toList.length = z.length := Array.length_toList
    rw [c2]
    rcases e0 with e0 | e0
    · rw [e0, List.drop_zero, List.take_of_length_le (by omega)]
    · have e2 : z.cps.toList = [] := List.length_eq_zero_iff.mp (by omega)
      rw [e2]
      simp only [List.drop_nil, List.take_nil]
      cases z with
      | mk cps =>
        have e3 : cps = #[] := by simpa using e2
        rw [e3]
  · rw [if_neg c]
section
variable {X : Cx}
def rSlS : V → Option Int → Option Int → Hp → VK → Prop := fun x lo hi H Q => ∃ z, x = .str z ∧ z.length ≤ sizeLine ∧ Q (.str (cutS z lo hi)) H
theorem part_tok {v : Value} {o : Option Int} (h : IsPart v o) : ∃ p : Option (Int × Tok), v = partValue p ∧ p.map (·.1) = o := by
  cases h with
  | none => exact ⟨none, rfl, rfl⟩
  | int i t => exact ⟨some (i, t), rfl, rfl⟩
theorem sl_str : SlR X rSlS := by
  intro pins s σ H x v vl vu lo hi sl Q I rx hs pl pu h
  obtain ⟨z, rfl, hz, q⟩ := h
  obtain ⟨t, rfl⟩ := rx
  obtain ⟨p1, rfl, e1⟩ := part_tok pl
  obtain ⟨p2, rfl, e2⟩ := part_tok pu
  refine ⟨"str", _, F.slot_str_getitem.lookup, typeIs_str _ _ _, wpAny_getItem_str_slice (l := p1) (u := p2) (st := none) hs rfl ?_⟩
  have e : sliceMade z t p1 p2 none = if ((1 : Int) == 1 && (Builtin.Str.strSliceIndices lo hi 1 z.length).length == z.length) = true then Made.val (.str z t) else Made.str ⟨((Builtin.Str.strSliceIndices lo hi 1 z.length).filterMap (z.cps[·]?)).toArray⟩ := by
    rw [← e1, ← e2]
    rfl
  rw [e]
  refine post_val_or_str ⟨Nat.le_trans (Txt.slice_le z lo hi) hz, fun t' k => ?_⟩
  rw [← slice_is] at q
  exact ⟨.str (Txt.slice z lo hi), H, I.tok k, ⟨_, rfl⟩, q⟩
end
end L2
/-! Own rules: raise, an exception that passes through frames. -/
namespace L2
open PySem PySem.Spec PyProof.Rows
def vmro : List Value := [.type "ValueError", .type "Exception", .type "BaseException", .type "object"]
/-- an exception e of the class at C flies over the frames outer, all that was there ahead of the call (H, s) being kept in B, with the tracked things H' -/
structure Fly (P : Program) (w : World) (outer : List Env) (H : Hp) (s : Shared) (e C : Addr) (a0 : Value) (B : Heap) (H' : Hp) (s' : Shared) : Prop where
  fly : Heap.FlyingW B outer e (.ref C) a0 s'.heap
  os : s'.os = s.os
  bare : AllBare s'.gens
  un : Un (frs outer) [] H H' s.heap s'.heap
  ok : HOk P w H' B
  kB : ∀ b o, s.heap.get? b = some o → H b = none → b ∉ frs outer → B.get? b = some o
  tB : ∀ b o, s.heap.get? b = some o → b ∉ frs outer → ∃ o', B.get? b = some o'
  new : s.heap.get? e = none
  free : H' e = none
def CXE (P : Program) (w : World) : CXT := fun outer H s E x s' => ∃ (e C : Addr) (a0 : Value) (B : Heap) (H' : Hp), x = .ref e ∧ Fly P w outer H s e C a0 B H' s' ∧ E (.ref C) none H'
/-- what is tracked is there -/
theorem objThere {P : Program} {w : World} {H : Hp} {h : Heap} {a : Addr} : ∀ {o : HO}, ObjOk P w H h a o → ∃ ob, h.get? a = some ob
  | .lst _, x => by obtain ⟨_, _, _, _, q⟩ := x; exact ⟨_, q⟩
  | .tup _, x => by obtain ⟨_, _, _, ob, q, _⟩ := x; exact ⟨ob, q⟩
  | .dK _, x => by obtain ⟨_, _, _, _, ob, _, _, q, _⟩ := x; exact ⟨ob, q⟩
  | .dT _, x => by obtain ⟨_, _, _, _, ob, _, _, q, _⟩ := x; exact ⟨ob, q⟩
  | .set _ _, x => by obtain ⟨ob, _, _, _, q, _⟩ := x; exact ⟨ob, q⟩
  | .ins _ _ _, x => by obtain ⟨_, _, _, q, _⟩ := x; exact ⟨_, q⟩
  | .own _, x => x
  | .xd _, x => by obtain ⟨_, ⟨ob, _, _, q, _⟩, _⟩ := x; exact ⟨ob, q⟩
  | .met _ _, x => ⟨_, x⟩
  | .rng _ _, x => by obtain ⟨_, _, _, q⟩ := x; exact ⟨_, q⟩
  | .frz _ _, x => ⟨_, x.1⟩
  | .tbl _, x => ⟨_, x⟩
  | .ext _, x => x.2.1
section
variable {X : Cx} {pins : List (Addr × Obj)} {σ : St} {H H' : Hp} {s s' : Shared} {e C : Addr} {a0 : Value} {B h2 : Heap}
theorem Inv.notLoc (I : Inv X pins σ H s) {b : Addr} {o : Obj} (q : X.s₀.heap.get? b = some o) : b ≠ X.env.locals := fun z => Nat.lt_irrefl _ (Nat.lt_of_lt_of_le (z ▸ Heap.lt_size q) I.ok.above)
theorem Inv.notStk (I : Inv X pins σ H s) {b : Addr} {o : Obj} (q : X.s₀.heap.get? b = some o) (hb : b ∉ X.fs) : b ∉ frs X.stack := fun z => by
  rcases List.mem_cons.mp (I.stkSub b z) with r | r
  · exact I.notLoc q r
  · exact hb r
/-- the frame of X is left: what flies over the callers -/
theorem Inv.flies (I : Inv X pins σ H s) (hex : X.ex = []) (F : Heap.FlyingW B X.outer e (.ref C) a0 h2) (up : s'.heap.UpToSlots h2) (os : s'.os = s.os) (bare : AllBare s'.gens) (un : Un (frs X.stack) [] H H' s.heap s'.heap) (ok : HOk X.prog X.w H' B)
    (kB : ∀ b o, s.heap.get? b = some o → H b = none → b ∉ frs X.stack → B.get? b = some o) (tB : ∀ b o, s.heap.get? b = some o → b ∉ frs X.stack → ∃ o', B.get? b = some o') (new : s.heap.get? e = none) (free : H' e = none) :
    Fly X.prog X.w X.outer X.H₀ X.s₀ e C a0 B H' { s' with heap := h2 } := by
  have nx : ∀ b, b ∉ X.ex := fun b z => by rw [hex] at z; cases z
  have keep : ∀ b o, X.s₀.heap.get? b = some o → X.H₀ b = none → b ∉ X.fs → B.get? b = some o := fun b o q n hb =>
    kB b o (I.base.keep b o q n hb (nx b)) (I.base.free b o q n (nx b)) (I.notStk q hb)
  have there : ∀ b o, X.s₀.heap.get? b = some o → b ∉ X.fs → ∃ o', B.get? b = some o' := fun b o q hb => by
    obtain ⟨o', q'⟩ := I.base.there b o q (nx b)
    exact tB b o' q' (I.notStk q hb)
  have slot : ∀ b o, X.s₀.heap.get? b = some o → b ∈ X.fs → ∃ sl, h2.get? b = some { o with slots := sl } := fun b o q hb => by
    obtain ⟨_, o1, q1, nf⟩ := I.ok.funs.mem hb
    rw [q] at q1
    cases q1
    obtain ⟨sl, q2⟩ := I.base.slot b o q (I.ok.frf b hb) hb (nx b)
    obtain ⟨sl2, q3⟩ := un.any q2 (I.base.free b o q (I.ok.frf b hb) (nx b)) (fun z => nomatch z)
    obtain ⟨sl3, q4⟩ := up b _ q3 nf
    exact ⟨sl3, q4⟩
  refine ⟨F, os.trans I.os, bare, ⟨fun b o q n hb _ => F.1 b o (keep b o q n hb), fun b o q _ hb _ => slot b o q hb, fun b o q n _ => ?_, fun b o q _ => ?_, fun b xs q => un.tups b xs (I.base.tups b xs q), fun b o u q => un.frzs b o u (I.base.frzs b o u q), fun b ps q => ?_⟩, ok, keep, there, ?_, free⟩
  · obtain ⟨o', q'⟩ := I.base.there b o q (nx b)
    exact un.free b o' q' (I.base.free b o q n (nx b)) fun z => nomatch z
  · by_cases hb : b ∈ X.fs
    · obtain ⟨sl, r⟩ := slot b o q hb
      exact ⟨_, r⟩
    · obtain ⟨o', r⟩ := there b o q hb
      exact ⟨o', F.1 b o' r⟩
  · obtain ⟨m1, r1⟩ := I.base.tbls b ps q
    obtain ⟨m2, r2⟩ := un.tbls b _ r1
    exact ⟨m1 ++ m2, by rw [r2, Array.append_assoc]⟩
  · cases q : X.s₀.heap.get? e with
    | none => rfl
    | some o =>
      obtain ⟨o', q'⟩ := I.base.there e o q (nx e)
      rw [new] at q'
      cases q'
/-- what a body of X may do with an exception of its own -/
structure Leaves (X : Cx) (E : XK) : Prop where
  stk : X.stack = X.env :: X.outer
  fr : X.env.frame = some X.env.locals
  ex : X.ex = []
  xe : X.xe = fun x s' => wpAny (model X.prog X.w) X.A (leaving X.env x) (fun _ s'' => CXE X.prog X.w X.outer X.H₀ X.s₀ E x s'') (fun x' s'' => CXE X.prog X.w X.outer X.H₀ X.s₀ E x' s'') s'
theorem leaves_of {P : Program} {w : World} {K : PySem.W.Frag} {mg : Str → Option Value} {base : Heap} {N : List Str} {qual : Str} {scope : Scope} {f : Addr} {cd : Value} {A : Around} {outer : List Env} {s : Shared} {H : Hp} {E : XK} :
    Leaves (cxOf (CXE P w) P w K mg base N qual scope f cd A outer s H E) E := ⟨rfl, rfl, rfl, rfl⟩
theorem stk_in {l : List Env} : ∀ env ∈ l, ∀ a, env.frame = some a → a ∈ frs l := fun env he a hf => List.mem_filterMap.mpr ⟨env, he, hf⟩
/-- an exception is made here -/
theorem Leaves.made {E : XK} (L : Leaves X E) (I : Inv X pins σ H s) {h1 : Heap} {vs : List Value} (hx : Heap.MadeExcOf s.heap h1 e (.ref C) vs) (hE : E (.ref C) none H) : X.xe (.ref e) { s with heap := h1 } := by
  rw [L.xe]
  have hs := I.stack
  have nb : ∀ a o, H a = some o → a ∉ frs X.stack := fun a o q z => by
    rw [I.stkFree a z] at q
    cases q
  have own : ∀ a b, H b = some (.own a) → b ∉ frs X.stack := fun a b q => nb b _ q
  have fresh : H e = none := by
    cases q : H e with
    | none => rfl
    | some o =>
      obtain ⟨o', q'⟩ : ∃ o', s.heap.get? e = some o' := by
        exact objThere (I.hok e o q)
      rw [hx.new] at q'
      cases q'
  refine wpAny_leaves_madeW (base := PySem.W.hideAll s.heap (frs X.stack)) (L := X.env.locals) (by rw [I.ok.frames, L.stk]) L.fr (fun b o q => PySem.W.of_hideAll _ q) (PySem.W.funFrames_hide (by rw [← L.stk]; exact hs) (by rw [← L.stk]; exact stk_in)) hx fun h' t x1 x2 x3 x4 => ?_
  refine ⟨e, C, _, _, H, rfl, I.flies (s' := { s with heap := h1 }) L.ex x1 x4 rfl I.bare (Un.kept hx.keeps) ?_ (fun b o q _ hb => PySem.W.hideAll_get _ q hb) (fun b o q hb => ⟨o, PySem.W.hideAll_get _ q hb⟩) hx.new fresh, hE⟩
  exact fun a o q => (I.hok a o q).stay (fun b u hb r => PySem.W.hideAll_get _ r (by
    rcases hb with hb | hb
    · rw [hb]
      exact nb a o q
    · exact own a b hb)) (fun _ r => r) fun _ _ r => r
/-- an exception of a callee passes -/
theorem Leaves.passes {E : XK} (L : Leaves X E) : Passes (CXE X.prog X.w) X E := by
  intro pins σ H s x s' I h
  obtain ⟨e, C, a0, B, H', rfl, F, hE⟩ := h
  rw [L.xe]
  have ff := F.fly
  rw [L.stk] at ff
  refine wpAny_leaves_onW (by rw [I.ok.frames, L.stk]) L.fr ff fun h2 x1 x2 => ?_
  exact ⟨e, C, a0, B, H', rfl, I.flies L.ex x1 x2 F.os F.bare F.un F.ok F.kB F.tB F.new F.free, hE⟩
theorem Leaves.own {E : XK} (L : Leaves X E) : PassesOwn (model X.prog X.w) X.A X.env X.xe := by
  rw [L.xe]
  exact PassesOwn.leaving
end
end L2
/-! Own rules: the raise statement, try .. except C as n around one call, isinstance of what was caught. -/
namespace L2
open PySem PySem.Spec PyProof.Rows
/-- an own exception class of the text, under ValueError -/
structure ExCls (K : PySem.W.Frag) (mg : Str → Option Value) (x : Str) (C : Addr) : Prop where
  g : mg x = some (.ref C)
  q : PySem.W.excIn K C vmro "ValueError.__new__" = true
/-- its object -/
structure ExObj (h : Heap) (C : Addr) (bm : List Value) : Prop where
  ex : ∃ N nm qn bs hdct sn sub ab col dd k0 k1 k2 k3 k5 mN, h.get? C = some (excClassObj nm qn C N bs bm hdct sn sub ab col dd k0 k1 k2 k3 k5 "ValueError.__new__") ∧ h.Ns N mN ∧ mN "__init__" = none
  tl : OwnTail h vmro bm
theorem exObj {K : PySem.W.Frag} {h : Heap} {C : Addr} (kin : K.In h) (hq : PySem.W.excIn K C vmro "ValueError.__new__" = true) : ∃ bm, ExObj h C bm := by
  unfold PySem.W.excIn at hq
  split at hq
  · rename_i dd cd sl look
    split at hq
    · rename_i C' bm k0 k1 k2 k3 n k5 em es
      simp only [Bool.and_eq_true, beq_iff_eq, Bool.not_eq_true'] at hq
      obtain ⟨⟨⟨⟨⟨rfl, rfl⟩, nodel⟩, tailok⟩, nsok⟩, noinit⟩ := hq
      obtain ⟨nm, bs, mro, ns, qn, hd, sn, sub, ab, col, del⟩ := cd
      dsimp only at em nodel nsok noinit
      subst em nodel
      have esl : sl = #[k0, k1, k2, k3, some (.builtin "ValueError.__new__"), k5] := by
        obtain ⟨l⟩ := sl
        simp only at es
        rw [es]
      subst esl
      exact ⟨bm, ⟨ns, nm, qn, bs, hd, sn, sub, ab, col, dd, k0, k1, k2, k3, k5, _, kin _ _ look, .of_isNs (PySem.W.isNs_of_in kin nsok), PySem.W.nsMap_none_of_in kin nsok noinit⟩, PySem.W.tail_of_in kin tailok⟩
    · cases hq
  · cases hq
section
variable {X : Cx}
def tRaise (E : XK) (C : Addr) (t : TA) : TS := fun _ σ H => t σ H fun vs H1 => vs.length ≤ sizeLine ∧ E (.ref C) none H1
theorem ps_raise {x : Str} {C : Addr} {np cpos pos : Pos} {e0 : Expr} {rest : List Expr} {t : TA} {E : XK} (L : Leaves X E) (O : ExCls X.K X.mg x C) (hg : Gl X x) (hc : X.calm = true) (ha : PA X (e0 :: rest) t)
    (he : starEach (e0 :: rest) X.env = (false, eval e0 X.env) :: starEach rest X.env := by rfl) (hp : (backTo cpos (starEach rest X.env)).any (·.1) = false := by rfl) (hdb : (x == ("__debug__" : Str)) = false := by decide) :
    PS X (.Raise (some (.Call (.Name x np) (e0 :: rest) [] cpos)) none pos) (tRaise E C t) := by
  intro pins s σ H D I h
  obtain ⟨bm, ⟨N, nm, qn, bs, hdct, sn, sub, ab, col, dd, k0, k1, k2, k3, k5, mN, hC, hN, hni⟩, T⟩ := exObj I.ok.mod.kin O.q
  refine wpAny_Raise_call_subU (C := C) (nm := nm) (q := qn) (N := N) (bs := bs) (bm := bm) (hdct := hdct) (sn := sn) (sub := sub) (ab := ab) (col := col) (dd := dd) (k0 := k0) (k1 := k1) (k2 := k2) (k3 := k3) (k5 := k5)
    PySem.F.excBase_ValueError (by decide) PySem.F.excBase_ValueError (mN := mN) (T.hasType PySem.F.excBase_ValueError.hasBase) (I.ok.hd hc) (by rw [he]; show (false || (backTo cpos (starEach rest X.env)).any (·.1)) = false; rw [hp]; rfl) hni (ld_glob I hg O.g ⟨rfl, ?_⟩ hdb)
  have a := ha cpos pins s σ H _ I h
  rw [he] at a ⊢
  refine Calls.evalArgs_plain (thn a fun us s2 ⟨vs, H1, I1, r, hz, q⟩ => ?_)
  exact ⟨rfl, by rw [← r.length]; exact hz, I1.bk _ _ hC, hN.keeps I1.bk, T.keeps I1.bk, fun h' e hx => L.made I1 hx q⟩
/-! ### within an except suite -/
def markX (X : Cx) (e : Addr) : Cx := { X with A := X.A.mark (some (.ref e)), calm := false, xe := fun _ _ => False }
variable {pins : List (Addr × Obj)} {σ : St} {H : Hp} {s : Shared}
theorem Cx.Ok.mark (ok : X.Ok) (e : Addr) : (markX X e).Ok :=
  ⟨ok.mod, ok.kind, ok.glob, ok.blt, ok.above, ok.inj, ok.has, ok.cab, (fun z => nomatch z), ok.frames, ok.stk, ok.exf, ok.bs, ok.bsz, ok.noex, ok.exfs, ok.funs, ok.frf⟩
theorem Inv.mark (I : Inv X pins σ H s) (e : Addr) : Inv (markX X e) pins σ H s := ⟨I.ok.mark e, I.os, I.bare, I.base, I.loc, I.cell, I.free, I.freeC, I.pin, I.hok, I.len⟩
theorem Inv.unmark {e : Addr} (I : Inv (markX X e) pins σ H s) (ok : X.Ok) : Inv X pins σ H s := ⟨ok, I.os, I.bare, I.base, I.loc, I.cell, I.free, I.freeC, I.pin, I.hok, I.len⟩
/-- what was caught: an exception of the class at C -/
def exAt (e C : Addr) (h : Heap) : Prop := ∃ ob vs, h.get? e = some ob ∧ ob.cls = .ref C ∧ ob.data = .fields vs
def exO (e C : Addr) : HO := .ext (exAt e C)
/-- the name n goes behind the suite -/
theorem Inv.nameGoes {M : Model} {A : Around} {E : Value → Shared → Prop} {j : Nat} {n : Str} {pos : Pos} {Q : Unit → Shared → Prop} (I : Inv X pins σ H s) (hN : X.N.Nodup) (hj : X.N[j]? = some n) (hl : X.env.scope.names.lookup n = some .local)
    (h : ∀ s', Inv X pins (σ.set j none) H s' → Q () s') : wpAny M A (do bindName X.env n .none; unbindBehindTheSuite X.env n pos) Q E s := by
  obtain ⟨m, hn, hlk⟩ := id I.loc
  refine wpAny_nameGoes_keeps hl hn (by rw [I.ok.kind]; rfl) fun h' v hn' sb => h _ ?_
  have other : ∀ b o, b ≠ X.env.locals → s.heap.get? b = some o → h'.get? b = some o := fun b o hb q => (sb.2 b hb).trans q
  obtain ⟨oL, _, _, hoL, _⟩ := id hn
  have low : ∀ b o, X.s₀.heap.get? b = some o → b ≠ X.env.locals := fun b o q => I.notLoc q
  refine ⟨I.ok, I.os, I.bare, ⟨fun b o q n hb hx => other b o (low b o q) (I.base.keep b o q n hb hx), fun b o q n hb hx => ?_, I.base.free, fun b o q hx => ?_, I.base.tups, I.base.frzs, I.base.tbls⟩, ⟨_, hn', fun i y v' e1 e2 e3 => ?_⟩, fun y c q => ?_, I.free, I.freeC, fun p hp => ?_, fun b ob q => ?_, by simpa using I.len⟩
  · obtain ⟨sl, r⟩ := I.base.slot b o q n hb hx
    exact ⟨sl, other b _ (low b o q) r⟩
  · obtain ⟨o', r⟩ := I.base.there b o q hx
    exact ⟨o', other b _ (low b o q) r⟩
  · by_cases hij : i = j
    · subst hij
      have hiσ : i < σ.length := by rw [I.len]; exact (List.getElem?_eq_some_iff.mp hj).1
      rw [List.getElem?_set_self hiσ] at e2
      cases e2
    · rw [List.getElem?_set_ne (Ne.symm hij)] at e2
      obtain ⟨u', r', z⟩ := hlk i y v' e1 e2 e3
      refine ⟨u', r', ?_⟩
      rcases z with ⟨k, q⟩ | ⟨k, c, q, z⟩
      · refine .inl ⟨k, ?_⟩
        have ny : y ≠ n := fun q => hij (nodup_ix hN e1 (q ▸ hj))
        simp [ny, q]
      · exact .inr ⟨k, c, q, z.sameBut sb (I.cne y c q)⟩
  · obtain ⟨w', z⟩ := I.cell y c q
    exact ⟨w', z.sameBut sb (I.cne y c q)⟩
  · obtain ⟨q, n', ne, nf, d⟩ := I.pin p hp
    exact ⟨other p.1 _ ne q, n', ne, nf, d⟩
  · refine (I.hok b ob q).stay (fun c w' hc r => other c w' ?_ r) (fun _ r => r) fun _ _ r => r
    rintro rfl
    rcases hc with rfl | hc
    · rw [I.free] at q
      cases q
    · rw [I.free] at hc
      cases hc
/-- the exception is caught: the state, with it tracked -/
theorem Fly.caught {H1 H' : Hp} {s1 s' : Shared} {e C : Addr} {a0 : Value} {B h : Heap} (I : Inv X pins σ H1 s1) (F : Fly X.prog X.w X.stack H1 s1 e C a0 B H' s') (fl : Heap.FlyingW B X.stack e (.ref C) a0 h) (up : s'.heap.UpToSlots h) :
    Inv X pins σ (upd H' e (exO e C)) { s' with heap := h } := by
  have ne : ∀ b o, s1.heap.get? b = some o → b ≠ e := fun b o q z => by
    rw [z, F.new] at q
    cases q
  have nt : ∀ b u, H' b = some u → b ≠ e := fun b u q => ne_of_none q F.free
  have slot : ∀ b o, s1.heap.get? b = some o → H1 b = none → b ∈ frs X.stack → ∃ sl, h.get? b = some { o with slots := sl } := fun b o q n hb => by
    obtain ⟨_, o1, q1, nf⟩ := I.stack.mem hb
    rw [q] at q1
    cases q1
    obtain ⟨sl, q2⟩ := F.un.slot b o q n hb (fun z => nomatch z)
    obtain ⟨sl2, q3⟩ := up b _ q2 nf
    exact ⟨sl2, q3⟩
  refine I.call' (ch := []) F.os ⟨fun b o q n hb _ => fl.1 b o (F.kB b o q n hb), fun b o q n hb _ => slot b o q n hb, fun b o q n _ => ?_, fun b o q _ => ?_, fun b xs q => ?_, fun b o u q => ?_, fun b ps q => ?_⟩ (fun b ob q => ?_) F.bare fun b z => nomatch z
  · rw [upd_ne (ne b o q)]
    exact F.un.free b o q n fun z => nomatch z
  · by_cases hb : b ∈ frs X.stack
    · obtain ⟨sl, r⟩ := slot b o q (I.stkFree b hb) hb
      exact ⟨_, r⟩
    · obtain ⟨o', r⟩ := F.tB b o q hb
      exact ⟨o', fl.1 b o' r⟩
  · have r := F.un.tups b xs q
    rw [upd_ne (nt b _ r)]
    exact r
  · have r := F.un.frzs b o u q
    rw [upd_ne (nt b _ r)]
    exact r
  · obtain ⟨m, r⟩ := F.un.tbls b ps q
    exact ⟨m, by rw [upd_ne (nt b _ r)]; exact r⟩
  · by_cases hb : b = e
    · subst hb
      rw [upd_same] at q
      cases q
      obtain ⟨oe, vs, q1, q2, q3, _⟩ := fl.first
      exact ⟨⟨oe, vs, q1, q2, q3⟩, ⟨oe, q1⟩, fun g1 g2 ⟨o1, v1, r1, r2, r3⟩ k => ⟨o1, v1, k _ r1, r2, r3⟩⟩
    · rw [upd_ne hb] at q
      refine (F.ok b ob q).stay (fun c u _ r => fl.1 c u r) (fun c r => ?_) fun c xs r => ?_
      · rw [upd_ne (nt c _ r)]
        exact r
      · rw [upd_ne (nt c _ r)]
        exact r
theorem exc_hit {M : Model} {A : Around} {E : Value → Shared → Prop} {s : Shared} {S e C : Addr} {bm : List Value} {oe : Obj} {Q : Bool → Shared → Prop} (O : ExObj s.heap S bm) (he : s.heap.get? e = some oe) (hcls : oe.cls = .ref C)
    (hL : PySem.W.Looks M s.heap (isSubtype (.ref C) (.ref S)) true) (hq : Q true s) : wpAny M A (excMatches (.ref e) (.ref S)) Q E s := by
  obtain ⟨⟨N, nm, qn, bs, hdct, sn, sub, ab, col, dd, k0, k1, k2, k3, k5, mN, hS, hN, hni⟩, T⟩ := O
  have hb := T.hasType PySem.F.excBase_ValueError.hasBase
  obtain ⟨h, g, d, t, os⟩ := s
  have hcB : (Value.ref S :: bm).contains (.type "BaseException") = true := by rw [List.contains_cons, hb, Bool.or_true]
  have f := tc_notTuple
  unfold excMatches
  repeat (first | (with_reducible refine wpAny_loadPart_at he ?_; rw [hcls]) | with_reducible refine wpAny_loadPart_at hS ?_ | (with_reducible refine wpAny_isSubtype_exc hS ?_; rw [hcB]) | wp_step)
  refine hL A _ E _ (fun _ _ q => q) ?_
  rw [if_pos rfl]
  exact wpAny_pure (wpAny_pure (wpAny_pure hq))
/-- try: x = f(..) except S as n: suite -/
def tTry (K : PySem.W.Frag) (S : Addr) (i j : Nat) (sp : Sp) (ta : TA) (ts : TS) : TS := fun D σ H => ta σ H fun vs H1 => sp vs H1 (fun v H2 => D.nx (σ.set i (some v)) H2)
  (fun c _ H2 => ∃ C, c = .ref C ∧ PySem.W.mroIn K C (.ref S) = some true ∧ ∀ e, H2 e = none →
    ts { nx := fun σ3 H3 => D.nx (σ3.set j none) H3, rt := D.rt, bk := fun σ3 H3 => D.bk (σ3.set j none) H3, ct := fun σ3 H3 => D.ct (σ3.set j none) H3 } (σ.set j (some (.ref e))) (upd H2 e (exO e C)))
theorem ps_try {k i j : Nat} {x n f xS : Str} {fA S : Addr} {fd : FuncData} {ps : List Str} {sp : Sp} {ta : TA} {ts : TS} {e0 : Expr} {es : List Expr} {xp fp cp ap sp0 hp pos : Pos} {b0 : Stmt} {suite : List Stmt}
    (hst : X.stack = X.env :: X.outer) (hfr : X.env.frame = some X.env.locals) (F : FnOk X.prog X.w X.K X.mg X.base (CXE X.prog X.w) k fA fd ps sp) (hr : Room k X.A) (hg : Gl X f) (hm : X.mg f = some (.ref fA)) (hk : PySem.W.keepIn X.K (.ref fA) = true) (hb : Binds X.K fd ps [])
    (hN : X.N.Nodup) (hi : X.N[i]? = some x) (hx : Loc X.env.scope x) (hf : X.fn x = true ∨ X.env.scope.names.lookup x = some .local) (hj : X.N[j]? = some n) (hl : X.env.scope.names.lookup n = some .local) (gS : Gl X xS) (O : ExCls X.K X.mg xS S)
    (ha : PA X.nox (e0 :: es) ta) (hs : ∀ e, PSs (markX X e) (b0 :: suite) ts)
    (he : starEach (e0 :: es) X.env = (false, eval e0 X.env) :: starEach es X.env := by rfl) (hpl : (backTo cp (starEach es X.env)).any (·.1) = false := by rfl) (hdb : (f == ("__debug__" : Str)) = false := by decide) (hdS : (xS == ("__debug__" : Str)) = false := by decide)
    (hsw : swapsWith (.Call (.Name f fp) (e0 :: es) [] cp) (some (.Name x xp)) ap.line X.env = pure false := by rfl) :
    PS X (.Try [.Assign [.Name x xp] (.Call (.Name f fp) (e0 :: es) [] cp) ap] [.ExceptHandler (some (.Name xS sp0)) (some n) (b0 :: suite) hp] [] [] pos) (tTry X.K S i j sp ta ts) := by
  intro pins s σ H D I h
  refine wpAny_Try_except (wpAny_execs_cons ?_)
  refine wpAny_Assign_Name (wpAny_Call_Name_kw (ld_glob I hg hm ?_ hdb)) hsw
  refine PySem.W.callWith_K (h₀ := X.base) I.ok.mod.kin hk (wpAny_mono (ha cp pins s σ H _ (I.wish _) h) (fun us s1 ⟨vs, H1, I1', r, q⟩ => ⟨I1'.kIn, ?_⟩) fun _ _ z => False.elim z) he hpl
  have I1 : Inv X pins σ H1 s1 := I1'.unwish
  have hlen : us.length = ps.length := by rw [← r.length]; exact F.len _ _ _ _ q
  have bt := hb s1 us I1.kIn (by rw [List.append_nil]; exact hlen)
  rw [List.append_nil] at bt
  refine wpAny_call (codeAny_mono (F.run X.A X.stack s1 H1 ⟨us, []⟩ us vs _ _ hr I1.env0 bt r q) fun res s' hq => ?_)
  cases res with
  | ok fl =>
    cases fl with
    | ret u =>
      obtain ⟨v, H2, I2, rv, q2⟩ := I1.after hq
      exact store_ok I2 hN hi hx rv (fun s3 I3 => wpAny_execs_nil (wpAny_execs_nil ⟨_, H2, I3, q2⟩)) hf
    | next => exact False.elim hq
    | brk => exact False.elim hq
    | cont => exact False.elim hq
  | error y =>
    obtain ⟨e, C, a0, B, H', rfl, Fl, C', ec, hmr, hsu⟩ := hq
    cases ec
    have ff := Fl.fly
    rw [hst] at ff
    refine wpAny_looks_onW (by rw [I1.ok.frames, hst]) hfr ff fun h4 held4 up4 => ?_
    refine wpAny_landsW held4 fun h5 fly5 up5 => ?_
    have up := up4.trans up5
    have I5 := Fl.caught I1 (h := h5) (by rw [hst]; exact fly5) up
    refine wpAny_handleBy_cons (codeAny_handlers_test (ld_glob (X := markX X e) (I5.mark e) gS O.g ?_ hdS)) (by intro z; cases z)
    obtain ⟨bm, OS⟩ := exObj I5.kIn O.q
    obtain ⟨oe, vs5, q1, q2, q3, _⟩ := fly5.first
    refine exc_hit OS q1 q2 (PySem.W.looks_mroIn I5.kIn hmr) (codeAny_handlers_suite_as ?_)
    refine lands_againW fly5 fun h6 fly6 up6 => ?_
    have I6 := Fl.caught I1 (h := h6) (by rw [hst]; exact fly6) (up.trans up6)
    refine store_ok (X := markX X e) (I6.mark e) hN hj (.inl hl) (v := .ref e) rfl (fun s7 I7 => ?_) (.inr hl)
    refine wpAny_mono (hs e pins s7 _ _ _ I7 (hsu e Fl.free)) (fun fl s8 q8 => ?_) fun _ _ z => z.elim
    cases fl with
    | next =>
      obtain ⟨σ8, H8, I8, q8⟩ := q8
      exact (I8.unmark I.ok).nameGoes hN hj hl fun s9 I9 => ⟨_, H8, I9, q8⟩
    | brk =>
      obtain ⟨σ8, H8, I8, q8⟩ := q8
      exact (I8.unmark I.ok).nameGoes hN hj hl fun s9 I9 => ⟨_, H8, I9, q8⟩
    | cont =>
      obtain ⟨σ8, H8, I8, q8⟩ := q8
      exact (I8.unmark I.ok).nameGoes hN hj hl fun s9 I9 => ⟨_, H8, I9, q8⟩
    | ret u =>
      obtain ⟨v8, σ8, H8, I8, r8, q8⟩ := q8
      exact (I8.unmark I.ok).nameGoes hN hj hl fun s9 I9 => ⟨v8, _, H8, I9, r8, q8⟩
end
/-- a def of the text that may refuse -/
theorem Fun.okX {P : Program} {w : World} {K : PySem.W.Frag} {mg : Str → Option Value} {base : Heap} {x qual : Str} {st : Stmt} {f : Addr} {fd : FuncData} {N ps : List Str} {k : Nat} {sp : Sp} (F : Fun K x qual st f fd) (S : FnScope N ps (defScope st)) (len : ∀ vs H Q E, sp vs H Q E → vs.length = ps.length)
    (hbody : ∀ (cdv : Value) (A : Around) (outer : List Env) (s : Shared) (H : Hp) (vs : List V) (Q : VK) (E : XK), Room k (A.deeper (envOfC qual (defScope st) s.heap.objs.size f cdv)) → sp vs H Q E →
      ∃ t, PSs (cxOf (CXE P w) P w K mg base N qual (defScope st) f cdv A outer s H E) (defBody st) t ∧ t { nx := fun _ H' => Q .non H', rt := Q } (start N vs) H) : FnOk P w K mg base (CXE P w) (k + 1) f fd ps sp := by
  obtain ⟨oc, od, kV, doc, pm, an, cdv, ct, osl, rfl, lk, hcd⟩ := F.ex
  exact fn_of lk hcd S len fun A outer s H vs Q E hr hsp => hbody cdv A outer s H vs Q E hr hsp
/-! ### isinstance of what was caught -/
structure ExFind (K : PySem.W.Frag) (C : Addr) : Prop where
  ga : PySem.W.findIn K (.ref C) "__getattribute__" = some (some (.builtin "BaseException.__getattribute__"))
  gh : PySem.W.findIn K (.ref C) "__getattr__" = some none
  cl : PySem.W.findIn K (.ref C) "__class__" = some (some (.builtin "object.__class__"))
  mb : PySem.W.mroIn K C (.type "BaseException") = some true
  mo : PySem.W.mroIn K C (.type "object") = some true
  ci : PySem.W.isClsIn K C = true
section
variable {prog : Program} {w : World} {A : Around} {E : Value → Shared → Prop} {K : PySem.W.Frag} {e C : Addr}
theorem class_get_exc {R : Result → Shared → Prop} {h : Heap} {g : Array GenState} {d : Drawn} {t : Nat} {os : OsState} (F : ExFind K C) (kin : K.In h) {o : Obj} (hx : h.get? e = some o) (hc : o.cls = .ref C) (hq : R (.ok (.ret (.ref C))) ⟨h, g, d, t, os⟩) :
    codeAny (model prog w) A (.call (.builtin "getset_descriptor.__get__") ⟨[.builtin "object.__class__", .ref e, .ref C], []⟩) R ⟨h, g, d, t, os⟩ := by
  have hT5 : (⟨h, g, d, t, os⟩ : Shared).TypeIs (.builtin "object.__class__") "getset_descriptor" := PySem.F.typeOf_object_class
  have lo := PySem.W.looks_mroIn (M := model prog w) kin F.mo
  rw [← PySem.F.owner_object_class] at lo
  refine codeAny_call_builtin PySem.F.slot_gs_get.plain PySem.F.entry_gs_get (PySem.F.slot_gs_get.check _ _ _ _ _ _ _ _ hT5 (PySem.F.args_gs_get _ _ _) ?_)
  repeat (any_goals (first | assumption | (with_reducible refine wpAny_loadPart_at hx ?_; rw [hc]) | wp_step))
  refine lo _ _ _ _ (fun _ _ z => z) ?_
  repeat (any_goals (first | assumption | wp_step))
  refine ⟨Code.quiet_builtin _ (by decide +kernel), codeAny_builtin PySem.F.entry_object_class ?_⟩
  repeat (any_goals (first | assumption | (with_reducible refine wpAny_loadPart_at hx ?_; rw [hc]) | wp_step))
theorem class_entry_exc {tk : Tok} {Q : Fin → Shared → Prop} {h : Heap} {g : Array GenState} {d : Drawn} {t : Nat} {os : OsState} (F : ExFind K C) (kin : K.In h) {o : Obj} (hx : h.get? e = some o) (hc : o.cls = .ref C) (hq : Q (.done (.ret (.ref C))) ⟨h, g, d, t, os⟩) :
    wpAny (model prog w) A (Builtin.«object.__getattribute__» ⟨[.ref e, .str "__class__" tk], []⟩) Q E ⟨h, g, d, t, os⟩ := by
  have hT5 : (⟨h, g, d, t, os⟩ : Shared).TypeIs (.builtin "object.__class__") "getset_descriptor" := PySem.F.typeOf_object_class
  have f5 := PySem.F.typeOf_object_class
  have f6 := PySem.F.slot_gs_get.lookup
  have f7 := PySem.F.slot_gs_set.lookup
  have lc := PySem.W.looks_findIn (M := model prog w) kin F.cl
  repeat (any_goals (first | assumption | (with_reducible refine wpAny_loadPart_at hx ?_; rw [hc]) | wp_step))
  refine lc _ _ _ _ (fun _ _ z => z) ?_
  repeat (any_goals (first | assumption | (with_reducible refine wpAny_loadPart_at hx ?_; rw [hc]) | wp_step))
  refine class_get_exc F kin hx hc ?_
  repeat (any_goals (first | assumption | wp_step))
theorem ga_check_exc {M : Model} {nameV : Value} {Q : Unit → Shared → Prop} {h : Heap} {g : Array GenState} {d : Drawn} {t : Nat} {os : OsState} (F : ExFind K C) (kin : K.In h) {o : Obj} (hx : h.get? e = some o) (hc : o.cls = .ref C) (hq : Q () ⟨h, g, d, t, os⟩) :
    wpAny M A (checkBuiltinCall "BaseException.__getattribute__" ⟨[.ref e, nameV], []⟩) Q E ⟨h, g, d, t, os⟩ := by
  have kd : builtinKind "BaseException.__getattribute__" = some .slot := by decide +kernel
  have sp : splitId "BaseException.__getattribute__" = some ("BaseException", "__getattribute__") := by decide +kernel
  have ha := PySem.F.args_bexc_ga (.ref e) nameV
  have lb := PySem.W.looks_mroIn (M := M) kin F.mb
  simp only [checkBuiltinCall, kd, sp]
  refine wpAny_bind ?_
  unfold isInstance
  repeat (first | (with_reducible refine wpAny_loadPart_at hx ?_; rw [hc]) | wp_step)
  refine lb _ _ _ _ (fun _ _ z => z) ?_
  repeat (any_goals (first | assumption | wp_step))
theorem class_call_exc {tk : Tok} {R : Result → Shared → Prop} {h : Heap} {g : Array GenState} {d : Drawn} {t : Nat} {os : OsState} (F : ExFind K C) (kin : K.In h) {o : Obj} (hx : h.get? e = some o) (hc : o.cls = .ref C) (hq : R (.ok (.ret (.ref C))) ⟨h, g, d, t, os⟩) :
    codeAny (model prog w) A (.call (.builtin "BaseException.__getattribute__") ⟨[.ref e, .str "__class__" tk], []⟩) R ⟨h, g, d, t, os⟩ :=
  codeAny_call_builtin PySem.F.attr_ValueError.ga.plain PySem.F.entry_bexc_ga (ga_check_exc F kin hx hc (class_entry_exc F kin hx hc hq))
theorem class_attr_exc {Q : Option Value → Shared → Prop} {h : Heap} {g : Array GenState} {d : Drawn} {t : Nat} {os : OsState} (F : ExFind K C) (kin : K.In h) {o : Obj} (hx : h.get? e = some o) (hc : o.cls = .ref C) (hq : Q (some (.ref C)) ⟨h, g, d, t + 1, os⟩) :
    wpAny (model prog w) A (getAttr? (.ref e) "__class__") Q E ⟨h, g, d, t, os⟩ := by
  have f3 := PySem.F.attr_ValueError.ga.bind (.ref e)
  have hx2 : (Value.builtin "BaseException.__getattribute__" == Value.builtin "object.__getattribute__") = false := by decide +kernel
  have hx1 : (onTheHeap (Value.ref C) && Value.builtin "BaseException.__getattribute__" == Value.builtin "object.__getattribute__") = false := by rw [hx2]; rfl
  have l1 := PySem.W.looks_findIn (M := model prog w) kin F.ga
  have l2 := PySem.W.looks_findIn (M := model prog w) kin F.gh
  unfold getAttr? getAttrBy? getAttrBy
  repeat (any_goals (first | assumption | (with_reducible refine wpAny_loadPart_at hx ?_; rw [hc]) | wp_step))
  refine l1 _ _ _ _ (fun _ _ z => z) ?_
  repeat (any_goals (first | assumption | (with_reducible refine wpAny_loadPart_at hx ?_; rw [hc]) | wp_step))
  refine l2 _ _ _ _ (fun _ _ z => z) ?_
  repeat (any_goals (first | assumption | (with_reducible refine wpAny_loadPart_at hx ?_; rw [hc]) | wp_step))
  refine class_call_exc F kin hx hc ?_
  repeat (any_goals (first | assumption | wp_step))
theorem kitx_exc (F : ExFind K C) : PySem.W.KitX K (.ref e) (.ref C) (exAt e C) where
  ty := fun M h _ p => by
    obtain ⟨ob, vs, q1, q2, _⟩ := p
    exact q2 ▸ (PySem.W.Looks.ld q1).andThen .now
  it := fun M h kin _ => by
    have ci := F.ci
    unfold PySem.W.isClsIn PySem.W.clsIn at ci
    split at ci
    · rename_i c1 d1 cd1 sl1 lk
      intro A1 Q1 E1 s1 k q
      unfold isType loadHead
      exact wpAny_bind (wpAny_loadPart (k _ _ (kin _ _ lk)) (wpAny_pure q))
    · cases ci
  ne := fun h tp dd its n sl kin htp => by
    refine Bool.eq_false_iff.mpr fun q => ?_
    have ec : C = tp := Value.ref.inj (beq_iff_eq.mp q)
    subst ec
    have ci := F.ci
    unfold PySem.W.isClsIn PySem.W.clsIn at ci
    split at ci
    · rename_i c1 d1 cd1 sl1 lk
      have z := (kin _ _ lk).symm.trans htp
      cases z
    · cases ci
  ca := fun {prog w A E Q s} kin p k => by
    obtain ⟨ob, vs, q1, q2, _⟩ := p
    obtain ⟨h, g, d, t, os⟩ := s
    exact class_attr_exc F kin q1 q2 k
def clsVal : V → Value
  | .ref D => .ref D
  | .ty n => .type n
  | _ => .none
theorem call_isinstE {X : Cx} (hK : X.K = K) : CallR X (.builtin "isinstance") (fun xs H Q => ∃ e C c b, xs = [.ref e, c] ∧ H e = some (exO e C) ∧ ExFind K C ∧ ((∃ D, c = .ref D) ∨ ∃ n, c = .ty n) ∧ PySem.W.kitOne K (.ref C) (clsVal c) = some b ∧ Q (.bl b) H) := by
  intro pins s σ H xs us Q I r h
  obtain ⟨e, C, c, b, rfl, he, F, hc, hk, q⟩ := h
  obtain ⟨u, u2, rfl, rx, ru⟩ := vals2 r
  cases rx
  have p : exAt e C s.heap := (I.hok e _ he).1
  have kin := I.kIn
  rw [hK] at kin
  have e2 : u2 = clsVal c := by
    rcases hc with ⟨D, rfl⟩ | ⟨n, rfl⟩
    · cases ru
      rfl
    · cases ru
      rfl
  subst e2
  exact PySem.W.kia_one (kitx_exc F) kin p hk (fun z => nomatch z) fun tk => ⟨.bl b, H, I.tok tk, rfl, q⟩
end
end L2
/-! Own rules: a text times a number. -/
namespace L2
open PySem PySem.Spec PyProof.Rows
theorem fold_rep {α : Type} (a : Array α) : ∀ (n : Nat) (acc : Array α), (List.replicate n a).foldl (· ++ ·) acc = acc ++ ((List.replicate n a.toList).flatten).toArray
  | 0, acc => by simp
  | n + 1, acc => by
    rw [List.replicate_succ, List.foldl_cons, fold_rep a n, List.replicate_succ, List.flatten_cons, Array.append_assoc]
    congr 1
    simp
/-- a text times a number from 1 on: some text of that length, of the same signs -/
def rRepS : R2 := fun x y H Q => ∃ z k, x = .str z ∧ y = .int k ∧ 1 ≤ k ∧ k ≤ 1000 ∧ z.length ≤ 1000 ∧ ∀ z' : Str, z'.length = z.length * k.toNat → (∀ c ∈ z'.cps.toList, c ∈ z.cps.toList) → Q (.str z') H
section
variable {X : Cx}
theorem op_rep_str : OpR X (binaryOp .Mult) rRepS := by
  intro pins s σ H x y v u Q I rx ry h
  obtain ⟨z, k, rfl, rfl, k1, k2, hz, q⟩ := h
  obtain ⟨t, rfl⟩ := rx
  obtain ⟨t', rfl⟩ := ry
  have hprod : z.length * k.toNat ≤ 1000000 := by
    have := Nat.mul_le_mul hz (show k.toNat ≤ 1000 by omega)
    omega
  refine PySem.P.mul_str ?_ (fun _ _ => ?_) (fun _ _ => ?_) ?_
  · rw [decide_eq_false (show ¬ k < -(2 ^ 63 : Int) by omega), decide_eq_false (show ¬ k ≥ 2 ^ 63 by omega)]
    rfl
  · have hp : (z.length : Int) * k ≤ 1000000 := by
      have e : ((z.length * k.toNat : Nat) : Int) = (z.length : Int) * k := by
        rw [Int.natCast_mul, Int.toNat_of_nonneg (by omega)]
      omega
    have := Int.le_ediv_of_mul_le (a := (z.length : Int)) (b := 2 ^ 63 - 1) (c := k) (by omega) (by omega)
    omega
  · exact decide_eq_false (Nat.not_lt.mpr (Nat.le_trans hprod (by decide)))
  · rw [if_neg (show ¬ k < 1 by omega)]
    by_cases c : (k == 1 || z.length == 0) = true
    · rw [if_pos c]
      refine ⟨.str z, H, I, ⟨_, rfl⟩, q z ?_ fun _ h => h⟩
      rw [Bool.or_eq_true, beq_iff_eq, beq_iff_eq] at c
      rcases c with c | c
      · rw [c]
        simp
      · rw [c]
        simp
    · rw [if_neg c]
      have e : (⟨(List.replicate k.toNat z.cps).foldl (· ++ ·) #[]⟩ : Str) = ⟨((List.replicate k.toNat z.cps.toList).flatten).toArray⟩ := by
        rw [fold_rep]
        simp
      have hl : (⟨((List.replicate k.toNat z.cps.toList).flatten).toArray⟩ : Str).length = z.length * k.toNat := by
        show ((List.replicate k.toNat z.cps.toList).flatten).toArray.size = _
        rw [List.size_toArray, len_rep, Array.length_toList, Nat.mul_comm]
        rfl
      rw [e]
      refine ⟨by rw [hl]; exact Nat.le_trans hprod (by decide), ⟨.str _, H, I.tok _, ⟨_, rfl⟩, q _ hl fun d hd => ?_⟩⟩
      have hd' : d ∈ (List.replicate k.toNat z.cps.toList).flatten := by simpa using hd
      obtain ⟨l, hl1, hl2⟩ := List.mem_flatten.mp hd'
      rw [List.eq_of_mem_replicate hl1] at hl2
      exact hl2
end
end L2
/-! Own rules: a comprehension over a text. -/
namespace L2
open PySem PySem.Spec PyProof.Rows
theorem Same.tuple {K : PySem.W.Frag} {H H' : Hp} {a : Addr} {xs : List V} (e : Same H H') (h : SqT K H a xs) : SqT K H' a xs := by
  rcases h with (h | ⟨o, h⟩) | h
  · exact .inl (.inl (e _ _ h))
  · exact .inl (.inr ⟨o, e _ _ h⟩)
  · exact .inr h
theorem comp_str {g : TG} {tc : TT} {te : TE} {Q : VK} {σ : St} {H : Hp} {D : Addr} {x : Str} (Pv : Nat → St → Hp → Prop) (h0 : Pv 0 σ H)
    (hs : ∀ i c σ H, x.cps[i]? = some c → Pv i σ H → g (.str ⟨#[c]⟩) σ H fun σ2 H3 => tc σ2 H3 fun b H4 => if b = true then te σ2 H4 fun y H5 => ∃ ys, H5 D = some (.lst ys) ∧ ys.length < sizeLine ∧ Pv (i + 1) σ2 (upd H5 D (.lst (ys ++ [y]))) else Pv (i + 1) σ2 H4)
    (hd : ∀ σ H, Pv x.cps.size σ H → Q (.ref D) H) : CompGoes (Its x) g tc te Q D σ H := by
  refine ⟨fun i m σ H => m = x.cps.size - i ∧ i ≤ x.cps.size ∧ Pv i σ H, ⟨x.cps.size, by simp, Nat.zero_le _, h0⟩, ?_⟩
  rintro i m σ H ⟨rfl, hi, p⟩
  by_cases hlt : i < x.cps.size
  · refine .inr ⟨hlt, Pv (i + 1), fun σ' H' p' => ⟨x.cps.size - (i + 1), by omega, rfl, hlt, p'⟩, fun v H' y => ?_⟩
    obtain ⟨e, c, hc, rfl⟩ := y
    subst e
    exact hs i c σ _ hc p
  · have e : i = x.cps.size := by omega
    subst e
    exact .inl ⟨rfl, hd σ H p⟩
mutual
theorem Rdv.kept {K : PySem.W.Frag} {H H' : Hp} (s : Same H H') : ∀ {v : V} {d : PyData}, Rdv K H v d → Rdv K H' v d
  | _, _, .non => .non
  | _, _, .bl b => .bl b
  | _, _, .int i => .int i
  | _, _, .str x => .str x
  | _, _, .lst h t => .lst (s.seq h) (RdvAll.kept s t)
  | _, _, .tup h t => .tup (s.tuple h) (RdvAll.kept s t)
theorem RdvAll.kept {K : PySem.W.Frag} {H H' : Hp} (s : Same H H') : ∀ {vs : List V} {ds : List PyData}, RdvAll K H vs ds → RdvAll K H' vs ds
  | _, _, .nil => .nil
  | _, _, .cons h t => .cons (Rdv.kept s h) (RdvAll.kept s t)
end
theorem RdvAll.strs {K : PySem.W.Frag} {H : Hp} (rs : List Str) : RdvAll K H (rs.map V.str) (rs.map PyData.str) := rdv_strs rs
end L2
/-! Own rule: name = [..], the comprehension's value stored ahead of its names' going. -/
namespace L2
open PySem PySem.Spec PyProof.Rows
section
variable {X : Cx} {tg iter elt : Expr} {ifs : List Expr} {scope : Scope} {pos : Pos} {N : List Str} {src : List (Option Nat)} {cl : List (Str × Addr)} {wi : TI} {g : TG} {tc : TT} {te : TE}
theorem ps_setC {i : Nat} {x : Str} {xpos spos : Pos} (hN : X.N.Nodup) (hix : X.N[i]? = some x) (hlx : X.env.scope.names.lookup x = some .local) (ok : CompOk X N src scope cl) (hcalm : X.calm = true) (hi : PI X tg iter wi)
    (hg : ∀ C fp pins s H, PG (compCx X N scope cl C fp pins s H) tg g) (hc : ∀ C fp pins s H, PIfs (compCx X N scope cl C fp pins s H) ifs tc) (he : ∀ C fp pins s H, PE (compCx X N scope cl C fp pins s H) elt te)
    (hs : ∀ x, foldedSetIterable iter X.env x = pure x := by intro _; rfl) (hsw : swapsWith (.ListComp elt [⟨tg, iter, ifs, 0⟩] scope pos) (some (.Name x xpos)) spos.line X.env = pure true := by rfl) :
    PS X (.Assign [.Name x xpos] (.ListComp elt [⟨tg, iter, ifs, 0⟩] scope pos) spos) (tAsg (tComp wi src g tc te) (gName i)) := by
  intro pins s σ H D I h
  rw [exec_Assign_Name_used _ _ _ _ hsw]
  refine wpAny_bind (wpAny_standAt (wpAny_bind ?_))
  unfold evalThenUse
  refine wpAny_bind (wpAny_mono (Q := fun _ s'' => ∃ σ' H', Inv X pins σ' H' s'' ∧ D.nx σ' H') ?_ (fun _ s'' ⟨σ', H', I', q'⟩ => wpAny_pure (wpAny_pure ⟨σ', H', I', q'⟩)) fun _ _ z => z)
  refine wpAny_comprehension_free (use := some (assign (.Name x xpos) X.env)) rfl hs ok.clos ok.kind ok.names (thn (hi pins s σ H _ I h) fun xv s1 h1 => thn h1 fun itv s2 h2 => ?_)
  obtain ⟨it, fp, tn, J, H2, e, I2, T, st2, f2, q2⟩ := h2
  subst e
  refine wpAny_newObj_type (wpAny_newFunctionEnv ok.nocell (by intro y hy; simp at hy) (fun h₁ hns₁ hsb₁ => ?_) ok.kind)
  dsimp only at hns₁ hsb₁ ⊢
  generalize hP : s2.heap.push { cls := .type "list", dict := none, data := .seq ([] : List Value).toArray } = P2 at hns₁ hsb₁ ⊢
  have hC : P2.objs.size = s2.heap.objs.size + 1 := by rw [← hP, Heap.size_push]
  have k : ∀ b u, s2.heap.get? b = some u → h₁.get? b = some u := fun b u e => by
    have lt := Heap.lt_size e
    exact (hsb₁.2 b (by rw [hC]; exact Nat.ne_of_lt (Nat.lt_succ_of_lt lt))).trans (Heap.get?_push_of_some _ (hP ▸ Heap.get?_push_of_some _ e))
  have hD : h₁.get? s2.heap.objs.size = some { cls := .type "list", data := .seq #[] } := (hsb₁.2 _ (by rw [hC]; exact (Nat.succ_ne_self _).symm)).trans (Heap.get?_push_of_some _ (hP ▸ Heap.get?_push_size _ rfl))
  have ho : ∀ b ∈ fp, ∃ o, s2.heap.get? b = some o := fun b hb => let ⟨o, e, _⟩ := T.obj 0 _ st2 b hb; ⟨o, e⟩
  obtain ⟨W, ⟨m0, w0⟩, turn⟩ := q2 s2.heap.objs.size (I2.hok.fresh (Nat.le_refl _))
  have I0 := comp_start (tk := s2.toks + ([] : List (Str × Value)).length) ok I2 f2 ho hC k hD hns₁
  have st0 : tn 0 h₁ := T.keep 0 _ _ st2 fun b _ o e => k b o e
  have fr0 : ∀ b ∈ fp, upd H2 s2.heap.objs.size (.lst []) b = none := fun b hb => by
    obtain ⟨o, e⟩ := ho b hb
    rw [upd_ne (Nat.ne_of_lt (Heap.lt_size e))]
    exact (f2 b hb).1
  have stat : ∀ {H' : Hp}, (∀ b ∈ fp, H' b = none) → ∀ b ∈ fp, FpOk (compCx X N scope cl P2.objs.size fp pins s2 H2) [] H' b := fun {H'} hn b hb => by
    obtain ⟨o, e⟩ := ho b hb
    have lt := Heap.lt_size e
    refine ⟨hn b hb, ?_, fun z => (List.mem_cons.mp (I2.stkSub b z)).elim (f2 b hb).2.1 (f2 b hb).2.2.1, .inl hb, fun x c z => (f2 b hb).2.2.2.2.1 x c (ok.sub x c z), fun p hp => ?_⟩
    · show b ≠ P2.objs.size
      rw [hC]
      exact Nat.ne_of_lt (Nat.lt_succ_of_lt lt)
    · have hp' : p ∈ X.pn ++ pins := by
        have : p ∈ (X.pn ++ pins) ++ [] := hp
        simpa using this
      exact (f2 b hb).2.2.2.2.2 p hp'
  have loop : ∀ s₃ : Shared, s₃ = { s2 with heap := h₁, toks := s2.toks + ([] : List (Str × Value)).length } →
      codeAny (model X.prog X.w) X.A (.compLoop (.ListComp elt [⟨tg, iter, ifs, 0⟩] scope pos) 0 (.ref it) (.ref s2.heap.objs.size) (compEnvC scope cl P2.objs.size X.env))
        (compPost (model X.prog X.w) X.A X.xe (some (assign (.Name x xpos) X.env)) (fun _ s'' => ∃ σ' H', Inv X pins σ' H' s'' ∧ D.nx σ' H') (.ref s2.heap.objs.size) P2.objs.size) s₃ := by
    rintro s₃ rfl
    refine codeAny_loop rfl (fun n s' => ∃ i σ' H', Inv (compCx X N scope cl P2.objs.size fp pins s2 H2) [] σ' H' s' ∧ tn i s'.heap ∧ (∀ b ∈ fp, H' b = none) ∧ W i n σ' H') ?_ m0 ⟨0, _, _, I0, st0, fr0, w0⟩
    rintro n s3 ⟨i, σ3, H3, I3, st3, fr3, w3⟩
    show wpAny _ X.A ((compTurn (.ListComp elt [⟨tg, iter, ifs, 0⟩] scope pos) 0 (.ref it) (.ref s2.heap.objs.size) (compEnvC scope cl P2.objs.size X.env)).onRaise (fun x => do noteFrame x (compEnvC scope cl P2.objs.size X.env); theTreesLotGoes x)) _ _ s3
    refine wpAny_noted ?_
    rw [compTurn_list]
    rcases turn i n σ3 H3 w3 with ⟨stop, qn⟩ | ⟨go, N', hN, step⟩
    · refine wpAny_bind (wpAny_standAt (wpAny_bind (thn (T.done (compCx X N scope cl P2.objs.size fp pins s2 H2) rfl rfl rfl hcalm i [] s3 σ3 H3 _ I3 (stat fr3) st3 stop) fun r s4 ⟨hr, I4⟩ => ?_)))
      subst hr
      refine wpAny_pure ?_
      obtain ⟨m, hm, _⟩ := I4.loc
      have leC : s2.heap.objs.size ≤ P2.objs.size := by rw [hC]; exact Nat.le_succ _
      have IX : Inv X pins σ H3 s4 := I2.call' (s' := s4) (ch := fp) I4.os I4.base I4.hok I4.bare fun b hb => ⟨(f2 b hb).2.2.2.1, (f2 b hb).2.1, (f2 b hb).2.2.2.2.1, (f2 b hb).2.2.2.2.2⟩
      have cellLt : ∀ y c, X.env.cells.lookup y = some c → c ≠ P2.objs.size := fun y c e z => by
        obtain ⟨_, o, e1, _⟩ := I2.cell y c e
        have := Heap.lt_size e1
        rw [z] at this
        exact Nat.lt_irrefl _ (Nat.lt_of_lt_of_le this leC)
      have locNe : X.env.locals ≠ P2.objs.size := fun z => by
        have := I2.lt
        rw [z] at this
        exact Nat.lt_irrefl _ (Nat.lt_of_lt_of_le this leC)
      refine wpAny_assign_Name (store_ok2 IX hN hix (.inl hlx) (v := .ref s2.heap.objs.size) rfl (fun s5 I5 ⟨a5, sb5, ha5⟩ => ?_) (.inr hlx))
      have na : a5 ≠ P2.objs.size := by
        rcases ha5 with z | z
        · rw [z]
          exact locNe
        · exact cellLt _ _ z
      refine ⟨m, hm.sameBut sb5 (Ne.symm na), fun h' sb => ⟨_, H3, ?_, qn⟩⟩
      exact I5.turned (t' := s5.toks) (it := P2.objs.size) (fun b o hb e => (sb.2 b hb).trans e) I4.free (Ne.symm locNe) (.inr (Nat.le_trans I2.sz leC)) cellLt fun p hp z => by
        obtain ⟨e1, _⟩ := I2.pin p hp
        have := Heap.lt_size e1
        rw [z] at this
        exact Nat.lt_irrefl _ (Nat.lt_of_lt_of_le this leC)
    · refine wpAny_bind (wpAny_standAt (wpAny_bind (thn (T.item (compCx X N scope cl P2.objs.size fp pins s2 H2) rfl rfl rfl hcalm i [] s3 σ3 H3 _ I3 (stat fr3) st3 go) fun r s4 ⟨u, hr, h4⟩ => ?_)))
      subst hr
      dsimp only
      refine wpAny_bind (thn h4 fun _ s5 ⟨x, H5, I5, r5, y5, st5, fr5⟩ => ?_)
      have I5' := I5.pinned (stat fr5) (T.obj _ _ st5)
      refine wpAny_bind (wpAny_mono (hg P2.objs.size fp pins s2 H2 _ s5 σ3 H5 x u _ I5' r5 (step x H5 y5)) (fun _ s6 ⟨σ6, H6, I6, q6⟩ => ?_) fun _ _ z => False.elim z)
      have again : ∀ {s7 : Shared} {σ7 : St} {H7 : Hp}, Inv (compCx X N scope cl P2.objs.size fp pins s2 H2) ([] ++ pinsAt fp s5.heap) σ7 H7 s7 → N' σ7 H7 → ∃ m, m < n ∧ ∃ i σ' H', Inv (compCx X N scope cl P2.objs.size fp pins s2 H2) [] σ' H' s7 ∧ tn i s7.heap ∧ (∀ b ∈ fp, H' b = none) ∧ W i m σ' H' := fun {s7 σ7 H7} I7 n7 => by
        obtain ⟨m', hm, w7⟩ := hN σ7 H7 n7
        refine ⟨m', hm, i + 1, σ7, H7, I7.unpinned, T.keep _ _ _ st5 fun b hb o e => (I7.pin (b, o) (List.mem_append_right _ (List.mem_append_right _ (mem_pinsAt hb e)))).1, fun b hb => ?_, w7⟩
        obtain ⟨o, e, d⟩ := T.obj _ _ st5 b hb
        exact (I7.pin (b, o) (List.mem_append_right _ (List.mem_append_right _ (mem_pinsAt hb e)))).2.1
      refine wpAny_bind (wpAny_mono (hc P2.objs.size fp pins s2 H2 _ s6 σ6 H6 _ I6 q6) (fun b s7 ⟨H7, I7, q7⟩ => ?_) fun _ _ z => False.elim z)
      cases b with
      | false =>
        rw [if_neg Bool.false_ne_true] at q7
        exact wpAny_pure ⟨rfl, again I7 q7⟩
      | true =>
        rw [if_pos rfl] at q7
        refine wpAny_bind (wpAny_bind (wpAny_mono (he P2.objs.size fp pins s2 H2 _ s7 σ6 H7 _ I7 q7) (fun y s8 ⟨v8, H8, I8, r8, ys, hys, hlen, q8⟩ => ?_) fun _ _ z => False.elim z))
        refine wpAny_bind (wpAny_mono (mt_append (X := compCx X N scope cl P2.objs.size fp pins s2 H2) _ s8 σ6 H8 (.ref s2.heap.objs.size) [v8] (.ref s2.heap.objs.size) [y] (fun _ H9 => N' σ6 H9) I8 rfl (.cons r8 .nil) ⟨_, ys, v8, rfl, rfl, hys, hlen, q8⟩) (fun _ s9 ⟨v9, H9, I9, _, q9⟩ => ?_) fun _ _ z => False.elim z)
        exact wpAny_pure (wpAny_pure ⟨rfl, again I9 q9⟩)
  exact codeAny_compStart_list (loop _ rfl) (T.self _ 0 _ _ _ st0 (loop _ rfl))
end
end L2
/-! Own rules: a comprehension whose own name another one within it takes; one within it. -/
namespace L2
open PySem PySem.Spec PyProof.Rows
/-- names by boolean looks: what may be said by rfl of a written scope -/
theorem CompOk.byRfl {X : Cx} {N : List Str} {src : List (Option Nat)} {scope : Scope} (kind : scope.kind = .function) (nocell : ∀ y ∈ scope.names, y.2 ≠ .cell) (names : ∀ y ∈ scope.names, y.2 = .local → scope.names.lookup y.1 = some .local)
    (hs : (scope.names.all fun y => y.2 != .free || (X.env.cells.lookup y.1).isSome) = true) (len : src.length = N.length)
    (pc : ((N.zip src).all fun q => match q.2 with | none => true | some j => X.N[j]? == some q.1 && X.env.kindOf q.1 == some .cell && (relabel scope X.env).names.lookup q.1 == some .cell) = true) : CompOk X N src scope (clOf (fun x => X.env.cells.lookup x) scope.names []) := by
  have hs' : ∀ y ∈ scope.names, y.2 = .free → (X.env.cells.lookup y.1).isSome = true := fun y hy e => by
    have z := List.all_eq_true.mp hs y hy
    rw [e] at z
    simpa using z
  refine ⟨kind, nocell, names, closureFor_free hs', fun x c h => ?_, fun x h => ?_, len, fun i j x h1 h2 => ?_⟩
  · rcases clOf_mem _ _ _ (PySem.mem_of_lookup h) with z | z
    · cases z
    · exact z
  · refine Option.isSome_iff_exists.mp (clOf_has _ _ (.inr ?_))
    have hm : (x, NameKind.cell) ∈ scope.names ∨ (x, NameKind.free) ∈ scope.names := by
      rcases h with h | h
      · exact relabel_mem (PySem.mem_of_lookup h) (.inl rfl)
      · exact relabel_mem (PySem.mem_of_lookup h) (.inr rfl)
    rcases hm with hm | hm
    · exact absurd rfl (nocell _ hm)
    · exact ⟨hm, hs' _ hm rfl⟩
  · have hm : (x, some j) ∈ N.zip src := List.mem_of_getElem? (i := i) (by rw [List.getElem?_zip_eq_some]; exact ⟨h1, h2⟩)
    have z := List.all_eq_true.mp pc _ hm
    simp only [Bool.and_eq_true, beq_iff_eq] at z
    exact ⟨z.1.1, .inl z.1.2, .inl z.2⟩
/-- the own name y stands in a cell -/
structure CompOk1 (X : Cx) (N : List Str) (src : List (Option Nat)) (scope : Scope) (cl : List (Str × Addr)) (y : Str) : Prop where
  kind : scope.kind = .function
  one : ∀ n acc, cellsFrom n scope.names acc = (y, n) :: acc
  push : ∀ h, pushCells h scope.names = h.push { cls := .type "cell", data := .cell none }
  names : ∀ y ∈ scope.names, y.2 = .local → scope.names.lookup y.1 = some .local
  clos : closureFor scope X.env = pure cl
  sub : ∀ x c, cl.lookup x = some c → X.env.cells.lookup x = some c
  has : ∀ x, ((relabel scope X.env).names.lookup x = some .cell ∨ (relabel scope X.env).names.lookup x = some .free) → x = y ∨ ∃ c, cl.lookup x = some c
  len : src.length = N.length
  pulls : ∀ (i j : Nat) (x : Str), N[i]? = some x → src[i]? = some (some j) → X.N[j]? = some x ∧ (X.env.kindOf x = some .cell ∨ X.env.kindOf x = some .free) ∧ ((relabel scope X.env).names.lookup x = some .cell ∨ (relabel scope X.env).names.lookup x = some .free)
  pny : ∀ (i j : Nat) (x : Str), N[i]? = some x → src[i]? = some (some j) → x ≠ y
theorem CompOk1.has1 {X : Cx} {N : List Str} {src : List (Option Nat)} {scope : Scope} {cl : List (Str × Addr)} {y : Str} {C : Addr} (ok : CompOk1 X N src scope cl y) (x : Str) (h : (relabel scope X.env).names.lookup x = some .cell ∨ (relabel scope X.env).names.lookup x = some .free) : ∃ c, List.lookup x ((y, C) :: cl) = some c := by
  rw [List.lookup_cons]
  cases q : x == y with
  | true => exact ⟨_, rfl⟩
  | false =>
    rcases ok.has x h with z | z
    · rw [z] at q
      simp at q
    · exact z
theorem CompOk1.byRfl {X : Cx} {N : List Str} {src : List (Option Nat)} {scope : Scope} {y : Str} (kind : scope.kind = .function) (one : ∀ n acc, cellsFrom n scope.names acc = (y, n) :: acc) (push : ∀ h, pushCells h scope.names = h.push { cls := .type "cell", data := .cell none })
    (only : ∀ z ∈ scope.names, z.2 = .cell → z.1 = y) (names : ∀ y ∈ scope.names, y.2 = .local → scope.names.lookup y.1 = some .local)
    (hs : (scope.names.all fun y => y.2 != .free || (X.env.cells.lookup y.1).isSome) = true) (len : src.length = N.length)
    (pc : ((N.zip src).all fun q => match q.2 with | none => true | some j => X.N[j]? == some q.1 && X.env.kindOf q.1 == some .cell && (relabel scope X.env).names.lookup q.1 == some .cell && q.1 != y) = true) : CompOk1 X N src scope (clOf (fun x => X.env.cells.lookup x) scope.names []) y := by
  have hs' : ∀ y ∈ scope.names, y.2 = .free → (X.env.cells.lookup y.1).isSome = true := fun y hy e => by
    have z := List.all_eq_true.mp hs y hy
    rw [e] at z
    simpa using z
  have pk : ∀ (i j : Nat) (x : Str), N[i]? = some x → src[i]? = some (some j) → (X.N[j]? = some x ∧ X.env.kindOf x = some .cell ∧ (relabel scope X.env).names.lookup x = some .cell) ∧ x ≠ y := fun i j x h1 h2 => by
    have hm : (x, some j) ∈ N.zip src := List.mem_of_getElem? (i := i) (by rw [List.getElem?_zip_eq_some]; exact ⟨h1, h2⟩)
    have z := List.all_eq_true.mp pc _ hm
    simp only [Bool.and_eq_true, beq_iff_eq, bne_iff_ne] at z
    exact ⟨⟨z.1.1.1, z.1.1.2, z.1.2⟩, z.2⟩
  refine ⟨kind, one, push, names, closureFor_free hs', fun x c h => ?_, fun x h => ?_, len, fun i j x h1 h2 => ⟨(pk i j x h1 h2).1.1, .inl (pk i j x h1 h2).1.2.1, .inl (pk i j x h1 h2).1.2.2⟩, fun i j x h1 h2 => (pk i j x h1 h2).2⟩
  · rcases clOf_mem _ _ _ (PySem.mem_of_lookup h) with z | z
    · cases z
    · exact z
  · have hm : (x, NameKind.cell) ∈ scope.names ∨ (x, NameKind.free) ∈ scope.names := by
      rcases h with h | h
      · exact relabel_mem (PySem.mem_of_lookup h) (.inl rfl)
      · exact relabel_mem (PySem.mem_of_lookup h) (.inr rfl)
    rcases hm with hm | hm
    · exact .inl (only _ hm rfl)
    · exact .inr (Option.isSome_iff_exists.mp (clOf_has _ _ (.inr ⟨hm, hs' _ hm rfl⟩)))
def compCx1 (X : Cx) (N : List Str) (scope : Scope) (cl : List (Str × Addr)) (y : Str) (C : Addr) (fp : List Addr) (pins : List (Addr × Obj)) (s : Shared) (H : Hp) : Cx :=
  { compCx X N scope ((y, C + 1) :: cl) C fp pins s H with fn := fun x => decide (x = y) }
theorem newEnv1 {M : Model} {A : Around} {E : Value → Shared → Prop} {s : Shared} {scope : Scope} {globals : Addr} {cl : List (Str × Addr)} {qual : Str} {env : Env} {y : Str} {Q : Env → Shared → Prop} (one : ∀ n acc, cellsFrom n scope.names acc = (y, n) :: acc) (push : ∀ h, pushCells h scope.names = h.push { cls := .type "cell", data := .cell none })
    (hQ : Q (newEnv scope s.heap.objs.size globals ((y, s.heap.objs.size + 1) :: cl) qual none .none (some env) builtinsNs) { s with heap := (s.heap.push { cls := .type "dict", data := .dict #[] }).push { cls := .type "cell", data := .cell none } }) :
    wpAny M A (newFunctionEnv scope globals cl [] qual none .none (some env)) Q E s := by
  simp only [newFunctionEnv, Option.isSome_some, if_true]
  refine wpAny_bind (wpAny_alloc ?_)
  refine wpAny_bind (wpAny_layCells _ (fun name kind cells => by cases hkc : kind == NameKind.cell <;> simp [hkc]) _ _ _ _ ?_)
  rw [push, one, show ({ s with heap := s.heap.push { cls := .type "dict", data := .dict #[] } } : Shared).heap.objs.size = s.heap.objs.size + 1 from Heap.size_push ..]
  exact wpAny_bind (wpAny_pure (wpAny_pure hQ))
section
variable {X : Cx} {tg iter elt : Expr} {ifs : List Expr} {scope : Scope} {pos : Pos} {N : List Str} {src : List (Option Nat)} {cl : List (Str × Addr)} {wi : TI} {g : TG} {tc : TT} {te : TE} {y : Str}
theorem comp_start1 {pins : List (Addr × Obj)} {σ : St} {H : Hp} {s : Shared} {fp : List Addr} {h1 : Heap} {C : Addr} {tk : Nat} (ok : CompOk1 X N src scope cl y) (I : Inv X pins σ H s) (hf : ∀ b ∈ fp, FpOk X pins H b) (ho : ∀ b ∈ fp, ∃ o, s.heap.get? b = some o)
    (hC : C = s.heap.objs.size + 1) (k : ∀ b u, s.heap.get? b = some u → h1.get? b = some u) (hD : h1.get? s.heap.objs.size = some { cls := .type "list", data := .seq #[] }) {m : Str → Option Value} (hn : h1.Ns C m) (hcc : h1.IsCell (C + 1) none) :
    Inv (compCx1 X N scope cl y C fp pins s H) [] (pull src σ) (upd H s.heap.objs.size (.lst [])) { s with heap := h1, toks := tk } := by
  have lt : ∀ b o, s.heap.get? b = some o → b < s.heap.objs.size := fun b o e => Heap.lt_size e
  have nC : ∀ b o, s.heap.get? b = some o → b ≠ C := fun b o e => by rw [hC]; exact Nat.ne_of_lt (Nat.lt_succ_of_lt (lt b o e))
  have nD : ∀ b o, s.heap.get? b = some o → b ≠ s.heap.objs.size := fun b o e => Nat.ne_of_lt (lt b o e)
  have fr : ∀ b, s.heap.objs.size ≤ b → H b = none := fun b hb => I.hok.fresh hb
  have nst : ∀ b, b ≠ X.env.locals → b ∉ X.fs → b ∉ frs X.stack := fun b h1 h2 z => (List.mem_cons.mp (I.stkSub b z)).elim h1 h2
  have nC1 : ∀ b o, s.heap.get? b = some o → b ≠ C + 1 := fun b o e => by rw [hC]; exact Nat.ne_of_lt (Nat.lt_succ_of_lt (Nat.lt_succ_of_lt (lt b o e)))
  have own : ∀ x c, List.lookup x ((y, C + 1) :: cl) = some c → (x = y ∧ c = C + 1) ∨ (x ≠ y ∧ X.env.cells.lookup x = some c) := fun x c e => by
    rw [List.lookup_cons] at e
    cases q : x == y with
    | true =>
      rw [q] at e
      exact .inl ⟨by simpa using q, (Option.some.inj e).symm⟩
    | false =>
      rw [q] at e
      exact .inr ⟨by simpa using q, ok.sub x c e⟩
  have oldc : ∀ x c, X.env.cells.lookup x = some c → c ≠ C + 1 := fun x c e => by
    obtain ⟨_, o, e1, _⟩ := I.cell x c e
    exact nC1 c o e1
  refine ⟨⟨I.ok.mod, ok.kind, I.ok.glob, I.ok.blt, by rw [show (compCx1 X N scope cl y C fp pins s H).env.locals = C from rfl, hC]; exact Nat.le_succ _, ?inj, ok.has1, ?cab, I.ok.hd, I.ok.frames, .inl rfl, fun b hb => ?_, I.bs, Nat.le_trans I.ok.bsz I.sz, fun b o e hb => ?_, fun b hb hz => ?_, I.stack, I.stkFree⟩,
    rfl, I.bare, Un.laid k (Nat.le_refl _) (fr _ (Nat.le_refl _)), ⟨m, hn, fun i x v e1 e2 e3 => ?_⟩, fun x c e => ?_, ?_, fun x c e => ?_, fun p hp => ?_, I.hok.laid k (Nat.le_refl _) ⟨Nat.zero_le _, [], 0, .nil, hD⟩, ?_⟩
  case inj =>
    intro x x' c e1 e2
    rcases own x c e1 with ⟨a1, a2⟩ | ⟨a1, a2⟩
    · rcases own x' c e2 with ⟨b1, b2⟩ | ⟨b1, b2⟩
      · rw [a1, b1]
      · exact absurd a2 (oldc x' c b2)
    · rcases own x' c e2 with ⟨b1, b2⟩ | ⟨b1, b2⟩
      · exact absurd b2 (oldc x c a2)
      · exact I.ok.inj x x' c a2 b2
  case cab =>
    intro x c z e
    have zy : x = y := of_decide_eq_true z
    rcases own x c e with ⟨_, a2⟩ | ⟨a1, _⟩
    · rw [a2, hC]
      exact Nat.le_succ_of_le (Nat.le_succ _)
    · exact absurd zy a1
  · obtain ⟨o, e⟩ := ho b hb
    refine ⟨nC b o e, fun x c z => ?_⟩
    rcases own x c z with ⟨_, a2⟩ | ⟨_, a2⟩
    · rw [a2]
      exact Ne.symm (nC1 b o e)
    · exact (hf b hb).2.2.2.2.1 x c a2
  · rcases (hf b hb).2.2.2.1 with z | z
    · exact I.ok.noex b o e z
    · exact absurd (Nat.lt_of_lt_of_le (Heap.lt_size (I.ok.bs b o e).1) z) (Nat.lt_irrefl _)
  · exact nst b (hf b hb).2.1 (hf b hb).2.2.1 hz
  · have hi : i < src.length := by
      have := (List.getElem?_eq_some_iff.mp e2).1
      unfold pull at this
      rw [List.length_map] at this
      exact this
    unfold pull at e2
    rw [List.getElem?_map, List.getElem?_eq_getElem hi] at e2
    cases q : src[i] with
    | none => rw [q] at e2; cases e2
    | some j =>
      rw [q] at e2
      have e2' : (σ[j]?).getD none = some v := Option.some.inj e2
      have e4 : σ[j]? = some (some v) := by
        cases z : σ[j]? with
        | none => rw [z] at e2'; cases e2'
        | some o => rw [z] at e2'; exact congrArg some e2'
      obtain ⟨p1, p2, p3⟩ := ok.pulls i j x e1 (by rw [List.getElem?_eq_getElem hi, q])
      obtain ⟨m', hn', hl⟩ := I.loc
      obtain ⟨u, r, l⟩ := hl j x v p1 e4 (by
        rcases p2 with z | z
        · exact .inr (.inl z)
        · exact .inr (.inr z))
      refine ⟨u, r, .inr ⟨p3, ?_⟩⟩
      obtain ⟨c, hc⟩ := ok.has1 x p3
      refine ⟨c, hc, ?_⟩
      rcases l with ⟨z, _⟩ | ⟨_, c', hc', o, ho', hd'⟩
      · rcases p2 with y | y <;> rw [z] at y <;> cases y
      · rcases own x c hc with ⟨a1, _⟩ | ⟨_, a2⟩
        · exact absurd a1 (ok.pny i j x e1 (by rw [List.getElem?_eq_getElem hi, q]))
        · rw [a2] at hc'
          cases hc'
          exact ⟨o, k _ o ho', hd'⟩
  · rcases own x c e with ⟨_, a2⟩ | ⟨_, a2⟩
    · rw [a2]
      exact ⟨_, hcc⟩
    · obtain ⟨v, o, e1, e2⟩ := I.cell x c a2
      exact ⟨v, o, k c o e1, e2⟩
  · show upd H s.heap.objs.size (.lst []) C = none
    rw [hC, upd_ne (Nat.succ_ne_self _)]
    exact fr _ (Nat.le_succ _)
  · show upd H s.heap.objs.size (.lst []) c = none
    rcases own x c e with ⟨_, a2⟩ | ⟨_, a2⟩
    · rw [a2, hC, upd_ne (Nat.ne_of_gt (Nat.lt_succ_of_lt (Nat.lt_succ_self _)))]
      exact fr _ (Nat.le_succ_of_le (Nat.le_succ _))
    · obtain ⟨v, o, e1, e2⟩ := I.cell x c a2
      rw [upd_ne (nD c o e1)]
      exact I.freeC x c a2
  · have hp' : p ∈ X.pn ++ pins := by
      have : p ∈ (X.pn ++ pins) ++ [] := hp
      simpa using this
    obtain ⟨e1, e2, e3, e4, e5⟩ := I.pin p hp'
    refine ⟨k _ _ e1, ?_, nC _ _ e1, nst _ e3 e4, e5⟩
    show upd H s.heap.objs.size (.lst []) p.1 = none
    rw [upd_ne (nD _ _ e1)]
    exact e2
  · unfold pull
    rw [List.length_map]
    exact ok.len
theorem pe_comp1 {y : Str} (ok : CompOk1 X N src scope cl y) (hcalm : X.calm = true) (hi : PI X tg iter wi)
    (hg : ∀ C fp pins s H, PG (compCx1 X N scope cl y C fp pins s H) tg g) (hc : ∀ C fp pins s H, PIfs (compCx1 X N scope cl y C fp pins s H) ifs tc) (he : ∀ C fp pins s H, PE (compCx1 X N scope cl y C fp pins s H) elt te)
    (hs : ∀ x, foldedSetIterable iter X.env x = pure x := by intro _; rfl) : PE X (.ListComp elt [⟨tg, iter, ifs, 0⟩] scope pos) (tComp wi src g tc te) := by
  intro pins s σ H Q I h
  rw [eval_ListComp]
  refine wpAny_comprehension_free (use := none) rfl hs ok.clos ok.kind ok.names (thn (hi pins s σ H _ I h) fun xv s1 h1 => thn h1 fun itv s2 h2 => ?_)
  obtain ⟨it, fp, tn, J, H2, e, I2, T, st2, f2, q2⟩ := h2
  subst e
  refine wpAny_newObj_type (newEnv1 ok.one ok.push ?_)
  generalize hP : s2.heap.push { cls := .type "list", dict := none, data := .seq ([] : List Value).toArray } = P2
  have hC : P2.objs.size = s2.heap.objs.size + 1 := by rw [← hP, Heap.size_push]
  have sz1 : (P2.push { cls := .type "dict", data := .dict #[] }).objs.size = P2.objs.size + 1 := Heap.size_push ..
  generalize hh1 : (P2.push { cls := .type "dict", data := .dict #[] }).push { cls := .type "cell", data := .cell none } = h₁
  have hns₁ : h₁.Ns P2.objs.size (fun _ => none) := by
    rw [← hh1]
    exact (Heap.Ns.new P2 _).push _
  have hcc : h₁.IsCell (P2.objs.size + 1) none := by
    rw [← hh1, ← sz1]
    exact ⟨_, Heap.get?_push_size _ rfl, rfl⟩
  have k : ∀ b u, s2.heap.get? b = some u → h₁.get? b = some u := fun b u e => by
    rw [← hh1]
    exact Heap.get?_push_of_some _ (Heap.get?_push_of_some _ (hP ▸ Heap.get?_push_of_some _ e))
  have hD : h₁.get? s2.heap.objs.size = some { cls := .type "list", data := .seq #[] } := by
    rw [← hh1]
    exact Heap.get?_push_of_some _ (Heap.get?_push_of_some _ (hP ▸ Heap.get?_push_size _ rfl))
  have ho : ∀ b ∈ fp, ∃ o, s2.heap.get? b = some o := fun b hb => let ⟨o, e, _⟩ := T.obj 0 _ st2 b hb; ⟨o, e⟩
  obtain ⟨W, ⟨m0, w0⟩, turn⟩ := q2 s2.heap.objs.size (I2.hok.fresh (Nat.le_refl _))
  have I0 := comp_start1 (tk := s2.toks) ok I2 f2 ho hC k hD hns₁ hcc
  have st0 : tn 0 h₁ := T.keep 0 _ _ st2 fun b _ o e => k b o e
  have fr0 : ∀ b ∈ fp, upd H2 s2.heap.objs.size (.lst []) b = none := fun b hb => by
    obtain ⟨o, e⟩ := ho b hb
    rw [upd_ne (Nat.ne_of_lt (Heap.lt_size e))]
    exact (f2 b hb).1
  have stat : ∀ {H' : Hp}, (∀ b ∈ fp, H' b = none) → ∀ b ∈ fp, FpOk (compCx1 X N scope cl y P2.objs.size fp pins s2 H2) [] H' b := fun {H'} hn b hb => by
    obtain ⟨o, e⟩ := ho b hb
    have lt := Heap.lt_size e
    refine ⟨hn b hb, ?_, fun z => (List.mem_cons.mp (I2.stkSub b z)).elim (f2 b hb).2.1 (f2 b hb).2.2.1, .inl hb, fun x c z => ?own, fun p hp => ?_⟩
    case own =>
      have z' : List.lookup x ((y, P2.objs.size + 1) :: cl) = some c := z
      rw [List.lookup_cons] at z'
      cases q : x == y with
      | true =>
        rw [q] at z'
        rw [← Option.some.inj z', hC]
        exact Nat.ne_of_gt (Nat.lt_succ_of_lt (Nat.lt_succ_of_lt lt))
      | false =>
        rw [q] at z'
        exact (f2 b hb).2.2.2.2.1 x c (ok.sub x c z')
    · show b ≠ P2.objs.size
      rw [hC]
      exact Nat.ne_of_lt (Nat.lt_succ_of_lt lt)
    · have hp' : p ∈ X.pn ++ pins := by
        have : p ∈ (X.pn ++ pins) ++ [] := hp
        simpa using this
      exact (f2 b hb).2.2.2.2.2 p hp'
  have loop : ∀ s₃ : Shared, s₃ = { s2 with heap := h₁, toks := s2.toks } →
      codeAny (model X.prog X.w) X.A (.compLoop (.ListComp elt [⟨tg, iter, ifs, 0⟩] scope pos) 0 (.ref it) (.ref s2.heap.objs.size) (compEnvC scope ((y, P2.objs.size + 1) :: cl) P2.objs.size X.env))
        (compPost (model X.prog X.w) X.A X.xe none (EP X pins σ Q) (.ref s2.heap.objs.size) P2.objs.size) s₃ := by
    rintro s₃ rfl
    refine codeAny_loop rfl (fun n s' => ∃ i σ' H', Inv (compCx1 X N scope cl y P2.objs.size fp pins s2 H2) [] σ' H' s' ∧ tn i s'.heap ∧ (∀ b ∈ fp, H' b = none) ∧ W i n σ' H') ?_ m0 ⟨0, _, _, I0, st0, fr0, w0⟩
    rintro n s3 ⟨i, σ3, H3, I3, st3, fr3, w3⟩
    show wpAny _ X.A ((compTurn (.ListComp elt [⟨tg, iter, ifs, 0⟩] scope pos) 0 (.ref it) (.ref s2.heap.objs.size) (compEnvC scope ((y, P2.objs.size + 1) :: cl) P2.objs.size X.env)).onRaise (fun x => do noteFrame x (compEnvC scope ((y, P2.objs.size + 1) :: cl) P2.objs.size X.env); theTreesLotGoes x)) _ _ s3
    refine wpAny_noted ?_
    rw [compTurn_list]
    rcases turn i n σ3 H3 w3 with ⟨stop, qn⟩ | ⟨go, N', hN, step⟩
    · refine wpAny_bind (wpAny_standAt (wpAny_bind (thn (T.done (compCx1 X N scope cl y P2.objs.size fp pins s2 H2) rfl rfl rfl hcalm i [] s3 σ3 H3 _ I3 (stat fr3) st3 stop) fun r s4 ⟨hr, I4⟩ => ?_)))
      subst hr
      refine wpAny_pure ?_
      obtain ⟨m, hm, _⟩ := I4.loc
      refine ⟨m, hm, fun h' sb => ⟨.ref s2.heap.objs.size, H3, ?_, rfl, qn⟩⟩
      have un : Un (frs X.stack) fp H2 H3 s2.heap h' := Un.but I4.base (by show s2.heap.objs.size ≤ P2.objs.size; rw [hC]; exact Nat.le_succ _) sb
      have hok : HOk X.prog X.w H3 h' := HOk.but I4.hok I4.free sb
      exact I2.call' (s' := { s4 with heap := h' }) (ch := fp) I4.os un hok I4.bare fun b hb => ⟨(f2 b hb).2.2.2.1, (f2 b hb).2.1, (f2 b hb).2.2.2.2.1, (f2 b hb).2.2.2.2.2⟩
    · refine wpAny_bind (wpAny_standAt (wpAny_bind (thn (T.item (compCx1 X N scope cl y P2.objs.size fp pins s2 H2) rfl rfl rfl hcalm i [] s3 σ3 H3 _ I3 (stat fr3) st3 go) fun r s4 ⟨u, hr, h4⟩ => ?_)))
      subst hr
      dsimp only
      refine wpAny_bind (thn h4 fun _ s5 ⟨x, H5, I5, r5, y5, st5, fr5⟩ => ?_)
      have I5' := I5.pinned (stat fr5) (T.obj _ _ st5)
      refine wpAny_bind (wpAny_mono (hg P2.objs.size fp pins s2 H2 _ s5 σ3 H5 x u _ I5' r5 (step x H5 y5)) (fun _ s6 ⟨σ6, H6, I6, q6⟩ => ?_) fun _ _ z => False.elim z)
      have again : ∀ {s7 : Shared} {σ7 : St} {H7 : Hp}, Inv (compCx1 X N scope cl y P2.objs.size fp pins s2 H2) ([] ++ pinsAt fp s5.heap) σ7 H7 s7 → N' σ7 H7 → ∃ m, m < n ∧ ∃ i σ' H', Inv (compCx1 X N scope cl y P2.objs.size fp pins s2 H2) [] σ' H' s7 ∧ tn i s7.heap ∧ (∀ b ∈ fp, H' b = none) ∧ W i m σ' H' := fun {s7 σ7 H7} I7 n7 => by
        obtain ⟨m', hm, w7⟩ := hN σ7 H7 n7
        refine ⟨m', hm, i + 1, σ7, H7, I7.unpinned, T.keep _ _ _ st5 fun b hb o e => (I7.pin (b, o) (List.mem_append_right _ (List.mem_append_right _ (mem_pinsAt hb e)))).1, fun b hb => ?_, w7⟩
        obtain ⟨o, e, d⟩ := T.obj _ _ st5 b hb
        exact (I7.pin (b, o) (List.mem_append_right _ (List.mem_append_right _ (mem_pinsAt hb e)))).2.1
      refine wpAny_bind (wpAny_mono (hc P2.objs.size fp pins s2 H2 _ s6 σ6 H6 _ I6 q6) (fun b s7 ⟨H7, I7, q7⟩ => ?_) fun _ _ z => False.elim z)
      cases b with
      | false =>
        rw [if_neg Bool.false_ne_true] at q7
        exact wpAny_pure ⟨rfl, again I7 q7⟩
      | true =>
        rw [if_pos rfl] at q7
        refine wpAny_bind (wpAny_bind (wpAny_mono (he P2.objs.size fp pins s2 H2 _ s7 σ6 H7 _ I7 q7) (fun yv s8 ⟨v8, H8, I8, r8, ys, hys, hlen, q8⟩ => ?_) fun _ _ z => False.elim z))
        refine wpAny_bind (wpAny_mono (mt_append (X := compCx1 X N scope cl y P2.objs.size fp pins s2 H2) _ s8 σ6 H8 (.ref s2.heap.objs.size) [v8] (.ref s2.heap.objs.size) [yv] (fun _ H9 => N' σ6 H9) I8 rfl (.cons r8 .nil) ⟨_, ys, v8, rfl, rfl, hys, hlen, q8⟩) (fun _ s9 ⟨v9, H9, I9, _, q9⟩ => ?_) fun _ _ z => False.elim z)
        exact wpAny_pure (wpAny_pure ⟨rfl, again I9 q9⟩)
  exact codeAny_compStart_list (loop _ rfl) (T.self _ 0 _ _ _ st0 (loop _ rfl))
end
end L2
/-! Own rules: any, sum in a comprehension's block; an expression that is never reached. -/
namespace L2
open PySem PySem.Spec PyProof.Rows
section
variable {X : Cx} {K : PySem.W.Frag}
theorem call_anyK (hK : X.K = K) (hc : X.calm = true) : CallR X (.builtin "any") (fun xs H Q => ∃ (l : Addr) (bs : List Bool), xs = [.ref l] ∧ SqL K H l (bs.map V.bl) ∧ Q (.bl (bs.any id)) H) := by
  subst hK
  exact call_any hc
theorem pi_listK {tg l : Expr} {tl : TE} (hK : X.K = K) (hl : PE X l tl) : PI X tg l (iList K tl) := by
  subst hK
  exact pi_list hl
theorem pt_never {e : Expr} : PT X e (fun _ _ _ => False) := fun _ _ _ _ _ _ h => h.elim
theorem pi_never {tg e : Expr} : PI X tg e (fun _ _ _ => False) := fun _ _ _ _ _ _ h => h.elim
end
end L2
/-! Own rules: text.replace (the model looks at the tokens of its two texts), list.count. -/
namespace L2
open PySem PySem.Spec PyProof.Rows
/-- an expression, statements from a state in which some token has been given -/
def PEp (X : Cx) (e : Expr) (t : TE) : Prop :=
  ∀ (pins : List (Addr × Obj)) (s : Shared) (σ : St) (H : Hp) (Q : VK), Inv X pins σ H s → 0 < s.toks → t σ H Q → wpAny (model X.prog X.w) X.A (eval e X.env) (EP X pins σ Q) X.xe s
def PSsp (X : Cx) (st : List Stmt) (t : TS) : Prop :=
  ∀ (pins : List (Addr × Obj)) (s : Shared) (σ : St) (H : Hp) (D : Ends), Inv X pins σ H s → 0 < s.toks → t D σ H → wpAny (model X.prog X.w) X.A (execs st X.env) (SP X pins D) X.xe s
section
variable {X : Cx}
/-- a name's load leaves the state alone -/
theorem name_keeps {i : Nat} {x : Str} {pos : Pos} {v : V} {pins : List (Addr × Obj)} {s : Shared} {σ : St} {H : Hp} {Q : Value → Shared → Prop} (hN : X.N[i]? = some x) (hv : Vis X.env.scope x) (hd : (x == ("__debug__" : Str)) = false) (hcd : (x == ("__classdict__" : Str)) = false)
    (I : Inv X pins σ H s) (e : σ[i]? = some (some v)) (q : ∀ u, RelV v u → Q u s) : wpAny (model X.prog X.w) X.A (eval (.Name x pos) X.env) Q X.xe s := by
  obtain ⟨m, hn, hl⟩ := I.loc
  obtain ⟨u, r, l⟩ := hl i x v hN e hv
  have fin : Q u s := q u r
  rcases l with ⟨hk, hm⟩ | ⟨hk, c, hc, hcell⟩
  · exact wpAny_Name (wpAny_loadName_local I.ok.kind hk hn hm fin) hd
  · rcases hk with hk | hk
    · exact wpAny_Name (wpAny_loadName_cell I.ok.kind hk hc hcell fin) hd
    · exact wpAny_Name (wpAny_loadName_free I.ok.kind hk hc hcell fin hcd) hd
/-- x.replace(y, z), y and z written, behind a token -/
def tRepl (i : Nat) (y z : Str) : TE := fun σ H Q => ∃ v, σ[i]? = some (some v) ∧ ∃ t : Str, v = .str t ∧ t.length ≤ 1000000 ∧ Q (.str (PySem.Txt.replace t y z)) H
theorem pep_rep (i : Nat) {x y z : Str} {p apos cpos p1 p2 : Pos} {j1 j2 : Nat} (hyz : (y == z) = false) (hz : z.length ≤ 14) (hN : X.N[i]? = some x := by rfl) (hv : Vis X.env.scope x := by first | exact Or.inl rfl | exact Or.inr (Or.inl rfl) | exact Or.inr (Or.inr rfl)) (hd : (x == ("__debug__" : Str)) = false := by decide) (hcd : (x == ("__classdict__" : Str)) = false := by decide)
    (hbase : attributeBase (.Name x p) "replace" X.env (eval (.Name x p) X.env) = eval (.Name x p) X.env := by rfl)
    (hfew : ((backTo cpos (starEach [.Constant (.str y) j1 p1, .Constant (.str z) j2 p2] X.env)).all (fun x => !x.1) && (backToKw cpos (keywordEach [] X.env)).all (fun x => x.1.isSome)
      && decide (([.Constant (.str y) j1 p1, .Constant (.str z) j2 p2] : List Expr).length + ([] : List Keyword).length + (if ([] : List Keyword).isEmpty then 0 else 1) < 30)) = true := by rfl)
    (hline : (apos.endLine == cpos.line) = true := by rfl) :
    PEp X (.Call (.Attribute (.Name x p) "replace" apos) [.Constant (.str y) j1 p1, .Constant (.str z) j2 p2] [] cpos) (tRepl i y z) := by
  intro pins s σ H Q I pos h
  obtain ⟨v, e, t, rfl, ht, q⟩ := h
  refine wpAny_Call_method_late hbase hfew hline rfl (name_keeps hN hv hd hcd I e fun u r => ?_)
  obtain ⟨tk, rfl⟩ := r
  refine ⟨"str", "str.replace", F.plainAttrs_str, F.slot_str_replace, F.type_str_replace, typeIs_str _ _ _, (fun a e => by cases e), ?_⟩
  have hs : starEach [.Constant (.str y) j1 p1, .Constant (.str z) j2 p2] X.env = [(false, eval (.Constant (.str y) j1 p1) X.env), (false, eval (.Constant (.str z) j2 p2) X.env)] := rfl
  rw [hs]
  refine Calls.callWith_builtin rfl (Calls.evalArgs_plain ?_)
  show wpAny _ _ (spliced ((false, eval (.Constant (.str y) j1 p1) X.env) :: backTo cpos [(false, eval (.Constant (.str z) j2 p2) X.env)])) _ _ s
  refine Calls.spliced_cons (Calls.Constant_str ?_)
  show wpAny _ _ (spliced ((false, eval (.Constant (.str z) j2 p2) X.env) :: backTo cpos [])) _ _ _
  refine Calls.spliced_cons (Calls.Constant_str ?_)
  refine Calls.spliced_nil ?_
  exact PySem.SC.replaceW (by show s.toks ≠ 0; omega) (by show s.toks + 1 ≠ 0; omega) (by show s.toks ≠ s.toks + 1; omega) hyz (by omega) hz fun t' k => ⟨.str _, H, I.tok k, ⟨_, rfl⟩, q⟩
/-- a + e, a a name -/
theorem pep_opN {op : Operator} {r : R2} (i : Nat) {x : Str} {p pos : Pos} {b : Expr} {tb : TE} (ho : OpR X (binaryOp op) r) (hb : PEp X b tb) (hN : X.N[i]? = some x := by rfl) (hv : Vis X.env.scope x := by first | exact Or.inl rfl | exact Or.inr (Or.inl rfl) | exact Or.inr (Or.inr rfl)) (hd : (x == ("__debug__" : Str)) = false := by decide) (hcd : (x == ("__classdict__" : Str)) = false := by decide) :
    PEp X (.BinOp (.Name x p) op b pos) (tOp r (tVar i) tb) := by
  intro pins s σ H Q I pos h
  obtain ⟨v, e, h⟩ := h
  refine wpAny_BinOp (name_keeps hN hv hd hcd I e fun u ru => ?_)
  exact thn (hb pins s σ H _ I pos h) fun u2 s2 ⟨y, H2, I2, r2, q2⟩ => ho pins s2 σ H2 v y u u2 Q I2 ru r2 q2
/-- x = e, then the rest -/
theorem pssp_set {i : Nat} {x : Str} {e : Expr} {te : TE} {pos pos' : Pos} {rest : List Stmt} {u : TS} (hN : X.N.Nodup) (hi : X.N[i]? = some x) (hx : Loc X.env.scope x) (he : PEp X e te) (hr : PSs X rest u) (hs : swapsWith e (some (.Name x pos')) pos.line X.env = pure false := by rfl) (hf : X.fn x = true ∨ X.env.scope.names.lookup x = some .local := by first | exact .inl rfl | exact .inr rfl | assumption) :
    PSsp X (.Assign [.Name x pos'] e pos :: rest) (tSeq (tAsg te (gName i)) u) := by
  intro pins s σ H D I ps h
  refine wpAny_execs_cons (wpAny_Assign_Name (thn (he pins s σ H _ I ps h) fun v s1 ⟨y, H1, I1, r1, q1⟩ => ?_) hs)
  refine store_ok I1 hN hi hx r1 (fun s2 I2 => ?_) hf
  exact hr pins s2 _ H1 D I2 q1
/-- if x == 'c': body, then the rest: where x is another text, a token has been given (that of 'c') -/
def tIfP (i : Nat) (c : Str) (tb tr tp : TS) : TS := fun D σ H => ∃ v, σ[i]? = some (some v) ∧ ∃ t : Str, v = .str t ∧ if (t == c) = true then tSeq tb tr D σ H else tp D σ H
theorem pss_ifP (i : Nat) {x c : Str} {p p1 p2 pos : Pos} {j : Nat} {body rest : List Stmt} {tb tr tp : TS} (hb : PSs X body tb) (hr : PSs X rest tr) (hp : PSsp X rest tp) (hN : X.N[i]? = some x := by rfl) (hv : Vis X.env.scope x := by first | exact Or.inl rfl | exact Or.inr (Or.inl rfl) | exact Or.inr (Or.inr rfl)) (hd : (x == ("__debug__" : Str)) = false := by decide) (hcd : (x == ("__classdict__" : Str)) = false := by decide) :
    PSs X (.If (.Compare (.Name x p) [.Eq] [.Constant (.str c) j p1] p2) body [] pos :: rest) (tIfP i c tb tr tp) := by
  intro pins s σ H D I h
  obtain ⟨v, e, t, rfl, h⟩ := h
  refine wpAny_execs_cons (wpAny_If (wpAny_isTrue_Compare1 (name_keeps hN hv hd hcd I e fun u r => ?_) (nomark _)))
  obtain ⟨tk, rfl⟩ := r
  refine Calls.Constant_str ?_
  refine PyProof.Rows.eq_str (wpAny_truthy_bool ?_)
  have I2 := I.tok (s.toks + 1)
  cases hc : (t == c) with
  | true =>
    rw [hc, if_pos rfl] at h
    refine thn (hb pins _ σ H _ I2 h) fun f s1 q => ?_
    cases f with
    | next =>
      obtain ⟨σ', H', I', q⟩ := q
      exact hr pins s1 σ' H' D I' q
    | ret v => exact q
    | brk => exact q
    | cont => exact q
  | false =>
    rw [hc, if_neg Bool.false_ne_true] at h
    exact wpAny_execs_nil (hp pins _ σ H D I2 (Nat.succ_pos _) h)
/-- text.replace where there is nothing to replace -/
theorem mt_replaceNo : MtR X "str.replace" (fun x xs H Q => ∃ t y z, x = .str t ∧ xs = [.str y, .str z] ∧ (Builtin.Str.occurrences t y 0 t.length (t.length + 1)).isEmpty = true ∧ Q (.str t) H) := by
  intro pins s σ H x xs v us Q I rx rv h
  obtain ⟨t, y, z, rfl, rfl, ho, q⟩ := h
  obtain ⟨tk, rfl⟩ := rx
  obtain ⟨u1, u2, rfl, ⟨k1, rfl⟩, ⟨k2, rfl⟩⟩ := rv.two
  have hc : ((Builtin.Str.occurrences t y 0 t.length (t.length + 1)).isEmpty || (y.length == 0 && z.length == 0)) = true := by rw [ho]; rfl
  refine call_gives F.slot_str_replace (typeIs_str _ _ _) F.entry_str_replace (F.args_str_replace_3 _ _ _) (gives_str_replace t y z tk k1 k2 fun h => absurd (hc.symm.trans h) (by decide)) ?_
  rw [if_pos hc]
  exact ⟨.str t, H, I, ⟨_, rfl⟩, q⟩
/-- how often a text stands in a list of texts -/
theorem mt_count : MtM X "list.count" (fun x vs H Q => ∃ (l : Addr) (ts : List Str) (y : Str), x = .ref l ∧ vs = [.str y] ∧ H l = some (.lst (ts.map V.str)) ∧ Q (.int ((ts.countP fun t => t == y : Nat) : Int)) H) := by
  intro pins s σ H x vs v us Q I rx rv h
  obtain ⟨l, ts, y, rfl, rfl, hH, q⟩ := h
  cases rx
  obtain ⟨u, rfl, t, rfl⟩ := rv.one
  obtain ⟨z, its, n, r, hl, e⟩ := I.lstM hH
  have hv : ∃ f : Value → Bool, (∀ w ∈ its, ∃ a k, w = .str a k ∧ f w = (a == y)) ∧ its.countP f = ts.countP fun t => t == y := by
    refine ⟨fun w => match w with | .str a _ => a == y | _ => false, ?_⟩
    clear hl e z hH q
    generalize ew : ts.map V.str = ws at r
    induction r generalizing ts with
    | nil =>
      cases ts with
      | nil => exact ⟨(fun _ h => nomatch h), rfl⟩
      | cons a b => cases ew
    | cons r1 r2 ih =>
      cases ts with
      | nil => cases ew
      | cons a b =>
        rw [List.map_cons] at ew
        obtain ⟨e1, e2⟩ := List.cons.inj ew
        subst e1
        obtain ⟨k, rfl⟩ := r1
        obtain ⟨h1, h2⟩ := ih b e2
        refine ⟨fun w hw => ?_, ?_⟩
        · rcases List.mem_cons.mp hw with rfl | hw
          · exact ⟨a, k, rfl, rfl⟩
          · exact h1 w hw
        · rw [List.countP_cons, List.countP_cons, h2]
  obtain ⟨f, hf, hc⟩ := hv
  refine call_meets F.slot_list_count ⟨_, e, rfl⟩ F.entry_list_count (F.args_list_count_2 _ _) (PySem.SeqAt.list_countAt l its.toArray n none #[] (.str y t) f) ⟨e, fun w hw => ?_, ?_⟩
  · obtain ⟨a, k, rfl, h2⟩ := hf w (by simpa using hw)
    rw [h2]
    exact PySem.SeqAt.EqAt.str_str a k y t
  · refine ⟨.int _, H, I.tok _, ⟨_, rfl⟩, ?_⟩
    show Q (.int ((its.countP f : Nat) : Int)) H
    rw [hc]
    exact q
end
end L2
/-! Own rules: a def that may refuse, called where it does not; try: f(..) except S as n. -/
namespace L2
open PySem PySem.Spec PyProof.Rows
def EF : XK := fun _ _ _ => False
theorem passX {X : Cx} : Passes (CXE X.prog X.w) X EF := by
  intro pins σ H s x s' I h
  obtain ⟨e, C, a0, B, H', rfl, F, hE⟩ := h
  exact hE.elim
section
variable {X : Cx}
/-- try: f(..) except S as n: suite -/
def tTryE (K : PySem.W.Frag) (S : Addr) (j : Nat) (sp : Sp) (ta : TA) (ts : TS) : TS := fun D σ H => ta σ H fun vs H1 => sp vs H1 (fun _ H2 => D.nx σ H2)
  (fun c _ H2 => ∃ C, c = .ref C ∧ PySem.W.mroIn K C (.ref S) = some true ∧ ∀ e, H2 e = none →
    ts { nx := fun σ3 H3 => D.nx (σ3.set j none) H3, rt := D.rt, bk := fun σ3 H3 => D.bk (σ3.set j none) H3, ct := fun σ3 H3 => D.ct (σ3.set j none) H3 } (σ.set j (some (.ref e))) (upd H2 e (exO e C)))
theorem ps_tryE {k j : Nat} {n f xS : Str} {fA S : Addr} {fd : FuncData} {ps : List Str} {sp : Sp} {ta : TA} {ts : TS} {e0 : Expr} {es : List Expr} {fp cp ap sp0 hp pos : Pos} {b0 : Stmt} {suite : List Stmt}
    (hst : X.stack = X.env :: X.outer) (hfr : X.env.frame = some X.env.locals) (F : FnOk X.prog X.w X.K X.mg X.base (CXE X.prog X.w) k fA fd ps sp) (hr : Room k X.A) (hg : Gl X f) (hm : X.mg f = some (.ref fA)) (hk : PySem.W.keepIn X.K (.ref fA) = true) (hb : Binds X.K fd ps [])
    (hN : X.N.Nodup) (hj : X.N[j]? = some n) (hl : X.env.scope.names.lookup n = some .local) (gS : Gl X xS) (O : ExCls X.K X.mg xS S)
    (ha : PA X.nox (e0 :: es) ta) (hs : ∀ e, PSs (markX X e) (b0 :: suite) ts)
    (he : starEach (e0 :: es) X.env = (false, eval e0 X.env) :: starEach es X.env := by rfl) (hpl : (backTo cp (starEach es X.env)).any (·.1) = false := by rfl) (hdb : (f == ("__debug__" : Str)) = false := by decide) (hdS : (xS == ("__debug__" : Str)) = false := by decide)
    (hsw : swapsWith (.Call (.Name f fp) (e0 :: es) [] cp) none ap.line X.env = pure false := by rfl) :
    PS X (.Try [.Expr (.Call (.Name f fp) (e0 :: es) [] cp) ap] [.ExceptHandler (some (.Name xS sp0)) (some n) (b0 :: suite) hp] [] [] pos) (tTryE X.K S j sp ta ts) := by
  intro pins s σ H D I h
  refine wpAny_Try_except (wpAny_execs_cons ?_)
  refine wpAny_Expr_any (wpAny_Call_Name_kw (ld_glob I hg hm ?_ hdb)) I.quiet hsw
  refine PySem.W.callWith_K (h₀ := X.base) I.ok.mod.kin hk (wpAny_mono (ha cp pins s σ H _ (I.wish _) h) (fun us s1 ⟨vs, H1, I1', r, q⟩ => ⟨I1'.kIn, ?_⟩) fun _ _ z => False.elim z) he hpl
  have I1 : Inv X pins σ H1 s1 := I1'.unwish
  have hlen : us.length = ps.length := by rw [← r.length]; exact F.len _ _ _ _ q
  have bt := hb s1 us I1.kIn (by rw [List.append_nil]; exact hlen)
  rw [List.append_nil] at bt
  refine wpAny_call (codeAny_mono (F.run X.A X.stack s1 H1 ⟨us, []⟩ us vs _ _ hr I1.env0 bt r q) fun res s' hq => ?_)
  cases res with
  | ok fl =>
    cases fl with
    | ret u =>
      obtain ⟨v, H2, I2, rv, q2⟩ := I1.after hq
      exact wpAny_execs_nil (wpAny_execs_nil ⟨_, H2, I2, q2⟩)
    | next => exact False.elim hq
    | brk => exact False.elim hq
    | cont => exact False.elim hq
  | error y =>
    obtain ⟨e, C, a0, B, H', rfl, Fl, C', ec, hmr, hsu⟩ := hq
    cases ec
    have ff := Fl.fly
    rw [hst] at ff
    refine wpAny_looks_onW (by rw [I1.ok.frames, hst]) hfr ff fun h4 held4 up4 => ?_
    refine wpAny_landsW held4 fun h5 fly5 up5 => ?_
    have up := up4.trans up5
    have I5 := Fl.caught I1 (h := h5) (by rw [hst]; exact fly5) up
    refine wpAny_handleBy_cons (codeAny_handlers_test (ld_glob (X := markX X e) (I5.mark e) gS O.g ?_ hdS)) (by intro z; cases z)
    obtain ⟨bm, OS⟩ := exObj I5.kIn O.q
    obtain ⟨oe, vs5, q1, q2, q3, _⟩ := fly5.first
    refine exc_hit OS q1 q2 (PySem.W.looks_mroIn I5.kIn hmr) (codeAny_handlers_suite_as ?_)
    refine lands_againW fly5 fun h6 fly6 up6 => ?_
    have I6 := Fl.caught I1 (h := h6) (by rw [hst]; exact fly6) (up.trans up6)
    refine store_ok (X := markX X e) (I6.mark e) hN hj (.inl hl) (v := .ref e) rfl (fun s7 I7 => ?_) (.inr hl)
    refine wpAny_mono (hs e pins s7 _ _ _ I7 (hsu e Fl.free)) (fun fl s8 q8 => ?_) fun _ _ z => z.elim
    cases fl with
    | next =>
      obtain ⟨σ8, H8, I8, q8⟩ := q8
      exact (I8.unmark I.ok).nameGoes hN hj hl fun s9 I9 => ⟨_, H8, I9, q8⟩
    | brk =>
      obtain ⟨σ8, H8, I8, q8⟩ := q8
      exact (I8.unmark I.ok).nameGoes hN hj hl fun s9 I9 => ⟨_, H8, I9, q8⟩
    | cont =>
      obtain ⟨σ8, H8, I8, q8⟩ := q8
      exact (I8.unmark I.ok).nameGoes hN hj hl fun s9 I9 => ⟨_, H8, I9, q8⟩
    | ret u =>
      obtain ⟨v8, σ8, H8, I8, r8, q8⟩ := q8
      exact (I8.unmark I.ok).nameGoes hN hj hl fun s9 I9 => ⟨v8, _, H8, I9, r8, q8⟩
end
end L2
/-! Own rules: text.split(sep), sep.join(texts); what is joined and split again. -/
namespace L2
open PySem PySem.Spec PyProof.Rows
theorem vals_strs : ∀ l : List (Str × Tok), Vals ((l.map (·.1)).map V.str) (strValues l)
  | [] => .nil
  | p :: r => .cons ⟨p.2, rfl⟩ (vals_strs r)
theorem strs_vals : ∀ {ts : List Str} {its : List Value}, Vals (ts.map V.str) its → StrsAre its ts
  | [], _, .nil => .nil
  | t :: _, _, .cons ⟨k, e⟩ h => by
    subst e
    exact .cons t k (strs_vals h)
section
variable {X : Cx}
def rSplit : V → List V → Hp → VK → Prop := fun x xs H Q => ∃ t y : Str, x = .str t ∧ xs = [.str y] ∧ (y.length == 0) = false ∧ t.length + 2 ≤ sizeLine ∧ ∀ D, H D = none → Q (.ref D) (upd H D (.lst ((Txt.split t y).map V.str)))
open PySem.Builtin PySem.Builtin.Str in
theorem mt_split : MtR X "str.split" rSplit := by
  intro pins s σ H x xs v us Q I rx rv h
  obtain ⟨t, y, rfl, rfl, hy, hsz, q⟩ := h
  obtain ⟨tk, rfl⟩ := rx
  obtain ⟨u, rfl, k, rfl⟩ := rv.one
  have hn : (partsBetween t (occurrences t y 0 t.length (t.length + 1)) y.length).length ≤ sizeLine := by
    have e1 := StrLaws.occ_length_le t y 0 t.length (t.length + 1)
    rw [length_partsBetween]
    omega
  have fin : ∀ (l : List (Str × Tok)) (k' : Nat), l.map (·.1) = Txt.split t y → EP X pins σ Q (.ref s.heap.objs.size) { s with heap := s.heap.push { cls := .type "list", data := .seq (strValues l).toArray }, toks := k' } := fun l k' e => by
    refine ⟨.ref _, _, I.lnew (t' := k') (ys := (Txt.split t y).map V.str) (e ▸ vals_strs l) ?_, rfl, q _ I.fresh⟩
    rw [List.length_map]
    exact Nat.le_trans (split_le t y) hsz
  cases h1 : (decide (t.length < y.length) || decide (strKind t < strKind y)) with
  | false =>
    cases hf : (occurrences t y 0 t.length (t.length + 1)).isEmpty with
    | false =>
      refine call_meets F.slot_str_split (typeIs_str _ _ _) F.entry_str_split (F.args_str_split_2 _ _) (meets_str_split_sep t y tk k h1 hy hf (by omega) hn) ?_
      show wants _ _ _ { s with toks := _, heap := s.heap.push { cls := .type "list", data := .seq (strsFrom s.toks (partsBetween t (occurrences t y 0 t.length (t.length + 1)) y.length)).toArray } }
      rw [strsFrom_eq]
      exact fin (numbered s.toks _) _ ((numbered_texts _ _).trans ((if_neg (ne_true_of_eq_false h1)).trans (if_neg (ne_true_of_eq_false hf))).symm)
    | true =>
      exact call_meets F.slot_str_split (typeIs_str _ _ _) F.entry_str_split (F.args_str_split_2 _ _) (meets_str_split_not_found t y tk k h1 hy hf)
        (fin [(t, tk)] s.toks ((if_neg (ne_true_of_eq_false h1)).trans (if_pos hf)).symm)
  | true =>
    exact call_meets F.slot_str_split (typeIs_str _ _ _) F.entry_str_split (F.args_str_split_2 _ _) (meets_str_split_cannot_occur t y tk k h1)
      (fin [(t, tk)] s.toks (if_pos h1).symm)
def rJoin (K : PySem.W.Frag) : V → List V → Hp → VK → Prop := fun x xs H Q => ∃ (z : Str) (l : Addr) (ts : List Str), x = .str z ∧ xs = [.ref l] ∧ SqL K H l (ts.map V.str) ∧ (ts.map (·.length)).sum + ts.length * z.length ≤ 16777216 ∧ Q (.str (Str.join z ts)) H
theorem mt_join : MtR X "str.join" (rJoin X.K) := by
  intro pins s σ H x xs v us Q I rx rv h
  obtain ⟨z, l, ts, rfl, rfl, hl, hsz, q⟩ := h
  obtain ⟨tk, rfl⟩ := rx
  obtain ⟨u, rfl, r⟩ := rv.one
  cases r
  obtain ⟨its, rv2, p, hz⟩ := I.list hl
  refine join_list (ys := ts) p.isList (by simpa using strs_vals rv2) hsz fun t' k => ⟨.str (Str.join z ts), H, I.tok k, ⟨t', ?_⟩, q⟩
  rw [show Txt.join z ts = Str.join z ts from StrLaws.glued_eq_join z ts]
end
/-! what is joined and split again -/
theorem cut_at {c : Nat} : ∀ {a b r r' : List Nat}, c ∉ a → c ∉ b → a ++ c :: r = b ++ c :: r' → a = b ∧ r = r'
  | [], [], _, _, _, _, e => ⟨rfl, (List.cons.inj e).2⟩
  | [], d :: b, _, _, _, hb, e => by
    have := (List.cons.inj e).1
    subst this
    exact absurd List.mem_cons_self hb
  | d :: a, [], _, _, ha, _, e => by
    have := (List.cons.inj e).1
    subst this
    exact absurd List.mem_cons_self ha
  | d :: a, d' :: b, _, _, ha, hb, e => by
    obtain ⟨e1, e2⟩ := List.cons.inj e
    subst e1
    obtain ⟨h1, h2⟩ := cut_at (fun z => ha (List.mem_cons_of_mem _ z)) (fun z => hb (List.mem_cons_of_mem _ z)) e2
    exact ⟨by rw [h1], h2⟩
theorem str_of {a b : Str} (h : a.cps.toList = b.cps.toList) : a = b := by
  cases a with
  | mk x => cases b with
    | mk y =>
      have : x = y := Array.toList_inj.mp h
      rw [this]
theorem join_codes (c : Nat) (x y : Str) (r : List Str) : (Str.join ⟨#[c]⟩ (x :: y :: r)).cps.toList = x.cps.toList ++ c :: (Str.join ⟨#[c]⟩ (y :: r)).cps.toList := by
  have e : (Str.join ⟨#[c]⟩ (x :: y :: r)).cps = x.cps ++ #[c] ++ (Str.join ⟨#[c]⟩ (y :: r)).cps := rfl
  rw [e, Array.toList_append, Array.toList_append]
  simp
theorem join_inj (c : Nat) : ∀ (L M : List Str), L ≠ [] → M ≠ [] → (∀ p ∈ L, c ∉ p.cps.toList) → (∀ p ∈ M, c ∉ p.cps.toList) → (Str.join ⟨#[c]⟩ L).cps.toList = (Str.join ⟨#[c]⟩ M).cps.toList → L = M
  | [], _, h, _, _, _, _ => absurd rfl h
  | _ :: _, [], _, h, _, _, _ => absurd rfl h
  | [a], [b], _, _, _, _, e => by rw [str_of (show a.cps.toList = b.cps.toList from e)]
  | [a], b :: b' :: r, _, _, hL, _, e => by
    rw [join_codes] at e
    have e' : a.cps.toList = _ := e
    exact absurd (by rw [e']; exact List.mem_append_right _ List.mem_cons_self) (hL a List.mem_cons_self)
  | a :: a' :: r, [b], _, _, _, hM, e => by
    rw [join_codes] at e
    have e' : _ = b.cps.toList := e
    exact absurd (by rw [← e']; exact List.mem_append_right _ List.mem_cons_self) (hM b List.mem_cons_self)
  | a :: a' :: r, b :: b' :: r', _, _, hL, hM, e => by
    rw [join_codes, join_codes] at e
    obtain ⟨h1, h2⟩ := cut_at (hL a List.mem_cons_self) (hM b List.mem_cons_self) e
    rw [str_of h1, join_inj c (a' :: r) (b' :: r') (by simp) (by simp) (fun p hp => hL p (List.mem_cons_of_mem _ hp)) (fun p hp => hM p (List.mem_cons_of_mem _ hp)) h2]
theorem split_join (c : Nat) {ts : List Str} (h0 : ts ≠ []) (hf : ∀ p ∈ ts, c ∉ p.cps.toList) : Txt.split (Str.join ⟨#[c]⟩ ts) ⟨#[c]⟩ = ts := by
  refine join_inj c _ _ (fun z => ?_) h0 (StrLaws.split_free _ c) hf (by rw [StrLaws.join_split])
  have := split_pos (Str.join ⟨#[c]⟩ ts) ⟨#[c]⟩
  rw [z] at this
  exact absurd this (by decide)
end L2
/-! Own: sorting fewer than 64 unlike items puts them in order. -/
namespace L2
open PySem PyProof.Rows PySem.W
section
variable {n : Nat} {lt : Nat → Nat → Bool} {cmp : Nat → Nat → (Bool → Shared → Prop) → Shared → Prop} {s : Shared}
/-- a strict order of the numbers below n -/
structure Ord (n : Nat) (lt : Nat → Nat → Bool) : Prop where
  tot : ∀ i j, i < n → j < n → i ≠ j → lt j i = !lt i j
  tr : ∀ i j k, i < n → j < n → k < n → lt i j = true → lt j k = true → lt i k = true
/-- the places 0 .. n-1 in some order -/
def Mix (n : Nat) (p : Array Nat) : Prop := p.toList.Perm (List.range n)
theorem Mix.size {p : Array Nat} (h : Mix n p) : p.size = n := by
  have := h.length_eq
  rwa [List.length_range, Array.length_toList] at this
theorem getD_at {p : Array Nat} {i : Nat} (h : i < p.size) : p[i]? = some (p.getD i 0) := by
  rw [Array.getElem?_eq_getElem h]
  simp [Array.getD, h]
theorem Mix.below {p : Array Nat} (h : Mix n p) {i : Nat} (hi : i < n) : p.getD i 0 < n := by
  have e := getD_at (p := p) (i := i) (by rw [h.size]; exact hi)
  have m : p.getD i 0 ∈ p.toList := List.mem_of_getElem? (by rw [Array.getElem?_toList]; exact e)
  exact List.mem_range.mp (h.mem_iff.mp m)
theorem Mix.ne {p : Array Nat} (h : Mix n p) {i j : Nat} (hi : i < n) (hj : j < n) (hij : i ≠ j) : p.getD i 0 ≠ p.getD j 0 := by
  intro e
  have nd : p.toList.Nodup := h.nodup_iff.mpr List.nodup_range
  have hz := h.size
  have e1 : p.toList[i]'(by rw [Array.length_toList]; omega) = p.getD i 0 := by
    have := getD_at (p := p) (i := i) (by omega)
    rw [← Array.getElem?_toList, List.getElem?_eq_getElem (by rw [Array.length_toList]; omega)] at this
    exact Option.some.inj this
  have e2 : p.toList[j]'(by rw [Array.length_toList]; omega) = p.getD j 0 := by
    have := getD_at (p := p) (i := j) (by omega)
    rw [← Array.getElem?_toList, List.getElem?_eq_getElem (by rw [Array.length_toList]; omega)] at this
    exact Option.some.inj this
  exact hij ((List.getElem_inj nd).mp (by rw [e1, e2, e]))
/-- the first m places rise -/
def Asc (lt : Nat → Nat → Bool) (p : Array Nat) (m : Nat) : Prop := ∀ i j, i < j → j < m → lt (p.getD i 0) (p.getD j 0) = true
/-- each next one is greater, so all rise -/
theorem asc_of (O : Ord n lt) {p : Array Nat} (M : Mix n p) : ∀ {m : Nat}, m ≤ n → (∀ i, 1 ≤ i → i < m → lt (p.getD (i - 1) 0) (p.getD i 0) = true) → Asc lt p m
  | 0, _, _ => fun _ _ _ h => absurd h (by omega)
  | m + 1, hm, h => by
    have ih := asc_of O M (m := m) (by omega) fun i h1 h2 => h i h1 (by omega)
    intro i j hij hj
    by_cases e : j = m
    · subst e
      by_cases e2 : i = j - 1
      · subst e2
        exact h j (by omega) (by omega)
      · exact O.tr _ _ _ (M.below (by omega)) (M.below (i := j - 1) (by omega)) (M.below (by omega)) (ih i (j - 1) (by omega) (by omega)) (h j (by omega) (by omega))
    · exact ih i j hij (by omega)
/-- a comparison that changes nothing -/
def Says (n : Nat) (lt : Nat → Nat → Bool) (cmp : Nat → Nat → (Bool → Shared → Prop) → Shared → Prop) (s : Shared) : Prop := ∀ i j, i < n → j < n → i ≠ j → ∀ C : Bool → Shared → Prop, C (lt i j) s → cmp i j C s
theorem asc_wp (S : Says n lt cmp s) {p : Array Nat} (M : Mix n p) {G : Nat → Shared → Prop} : ∀ (f m : Nat), 1 ≤ m → m + f ≤ n →
    (∀ k, m ≤ k → k ≤ m + f → (∀ i, m ≤ i → i < k → lt (p.getD i 0) (p.getD (i - 1) 0) = false) → (k < m + f → lt (p.getD k 0) (p.getD (k - 1) 0) = true) → G k s) → (kas_asc p f m).kasWp cmp G s
  | 0, m, _, _, h => h m (Nat.le_refl _) (Nat.le_refl _) (fun i h1 h2 => absurd h2 (by omega)) (fun z => absurd z (by omega))
  | f + 1, m, h1, hm, h => by
    refine S _ _ (M.below (by omega)) (M.below (by omega)) (M.ne (by omega) (by omega) (by omega)) _ ?_
    cases e : lt (p.getD m 0) (p.getD (m - 1) 0) with
    | true => exact h m (Nat.le_refl _) (by omega) (fun i a b => absurd b (by omega)) fun _ => e
    | false =>
      refine asc_wp S M f (m + 1) (by omega) (by omega) fun k a b c d => h k (by omega) (by omega) (fun i x y => ?_) fun z => d (by omega)
      by_cases ei : i = m
      · subst ei
        exact e
      · exact c i (by omega) y
theorem desc_wp (O : Ord n lt) (S : Says n lt cmp s) {p : Array Nat} (M : Mix n p) {G : Array Nat × Nat × Nat → Shared → Prop} : ∀ (f m : Nat), 1 ≤ m → m + f ≤ n →
    (∀ k, m ≤ k → k ≤ m + f → (∀ i, m ≤ i → i < k → lt (p.getD i 0) (p.getD (i - 1) 0) = true) → G (p, k, 0) s) → (kas_desc f p m 0).kasWp cmp G s
  | 0, m, _, _, h => h m (Nat.le_refl _) (Nat.le_refl _) fun i a b => absurd b (by omega)
  | f + 1, m, h1, hm, h => by
    refine S _ _ (M.below (by omega)) (M.below (by omega)) (M.ne (by omega) (by omega) (by omega)) _ ?_
    cases e : lt (p.getD m 0) (p.getD (m - 1) 0) with
    | true =>
      show (if 0 > 0 then kas_desc f (kas_rev p (m - (0 + 1)) m) (m + 1) 0 else kas_desc f p (m + 1) 0).kasWp cmp G s
      rw [if_neg (by decide)]
      refine desc_wp O S M f (m + 1) (by omega) (by omega) fun k a b c => h k (by omega) (by omega) fun i x y => ?_
      by_cases ei : i = m
      · subst ei
        exact e
      · exact c i (by omega) y
    | false =>
      have e2 : lt (p.getD (m - 1) 0) (p.getD m 0) = true := by
        rw [O.tot _ _ (M.below (i := m) (by omega)) (M.below (i := m - 1) (by omega)) (M.ne (by omega) (by omega) (by omega)), e]
        rfl
      refine S _ _ (M.below (i := m - 1) (by omega)) (M.below (by omega)) (M.ne (by omega) (by omega) (by omega)) _ ?_
      rw [e2]
      exact h m (Nat.le_refl _) (by omega) fun i a b => absurd b (by omega)
theorem Mix.rev {p : Array Nat} (M : Mix n p) (i j : Nat) : Mix n (kas_rev p i j) := (Array.perm_iff_toList_perm.mp (mirror_perm p i j _)).trans M
theorem rev_at {p : Array Nat} {m i : Nat} (hm : m ≤ p.size) (hi : i < m) : (kas_rev p 0 m).getD i 0 = p.getD (m - 1 - i) 0 := by
  have e := getElem?_mirror_all (xs := p) (i := 0) (j := m) hm i
  rw [if_pos ⟨Nat.zero_le _, hi⟩, Nat.zero_add, getD_at (p := p) (i := m - 1 - i) (by omega)] at e
  have e2 := getD_at (p := kas_rev p 0 m) (i := i) (by show i < (mirror p 0 m _).size; rw [mirror_size]; omega)
  exact Option.some.inj (e2.symm.trans e)
theorem tail3_wp (O : Ord n lt) (S : Says n lt cmp s) {p : Array Nat} (M : Mix n p) {m : Nat} (h1 : 1 ≤ m) (hm : m ≤ n) (hd : ∀ i, 1 ≤ i → i < m → lt (p.getD i 0) (p.getD (i - 1) 0) = true) {G : Nat × Array Nat → Shared → Prop}
    (h : ∀ k p', 1 ≤ k → k ≤ n → Mix n p' → Asc lt p' k → G (k, p') s) : (kas_tail3 m n p).kasWp cmp G s := by
  have hz := M.size
  have M' := M.rev 0 m
  unfold kas_tail3
  rw [KasT.kasWp_bind]
  refine asc_wp S M' (n - m) m h1 (by omega) fun k a b c _ => h k _ (by omega) (by omega) M' (asc_of O M' (by omega) fun i x y => ?_)
  by_cases ei : i < m
  · rw [rev_at (by omega) (show i - 1 < m by omega), rev_at (by omega) ei]
    have := hd (m - i) (by omega) (by omega)
    rw [show m - 1 - (i - 1) = m - i by omega, show m - 1 - i = m - i - 1 by omega]
    exact this
  · have := c i (by omega) y
    rw [O.tot _ _ (M'.below (i := i) (by omega)) (M'.below (i := i - 1) (by omega)) (M'.ne (by omega) (by omega) (by omega)), this]
    rfl
theorem count_wp (O : Ord n lt) (S : Says n lt cmp s) {p : Array Nat} (M : Mix n p) (h2 : 2 ≤ n) {G : Nat × Array Nat → Shared → Prop} (h : ∀ k p', 1 ≤ k → k ≤ n → Mix n p' → Asc lt p' k → G (k, p') s) : (kas_count n p).kasWp cmp G s := by
  unfold kas_count
  rw [KasT.kasWp_bind]
  refine asc_wp S M (n - 1) 1 (Nat.le_refl _) (by omega) fun k a b c d => ?_
  have hA : Asc lt p k := asc_of O M (by omega) fun i x y => by
    have := c i x y
    rw [O.tot _ _ (M.below (i := i) (by omega)) (M.below (i := i - 1) (by omega)) (M.ne (by omega) (by omega) (by omega)), this]
    rfl
  by_cases e : k = n
  · subst e
    rw [if_pos (by simp)]
    exact h k p a (by omega) M hA
  · rw [if_neg (by simpa using e)]
    by_cases k1 : k > 1
    · rw [if_pos k1]
      refine S _ _ (M.below (by omega)) (M.below (by omega)) (M.ne (by omega) (by omega) (by omega)) _ ?_
      rw [hA 0 (k - 1) (by omega) (by omega)]
      exact h k p a (by omega) M hA
    · rw [if_neg k1]
      have ek : k = 1 := by omega
      subst ek
      unfold kas_descPart
      rw [KasT.kasWp_bind]
      refine desc_wp O S M (n - (1 + 1)) (1 + 1) (by omega) (by omega) fun k a b c => ?_
      show (if 0 > 0 then kas_tail3 k n (kas_rev p (k - (0 + 1)) k) else kas_tail3 k n p).kasWp cmp G s
      rw [if_neg (by decide)]
      refine tail3_wp O S M (by omega) (by omega) (fun i x y => ?_) h
      by_cases ei : i = 1
      · subst ei
        exact d (by omega)
      · exact c i (by omega) y
theorem place_wp (O : Ord n lt) (S : Says n lt cmp s) {p : Array Nat} (M : Mix n p) {k : Nat} (hk : k < n) (hA : Asc lt p k) {G : Nat → Shared → Prop}
    (h : ∀ l, l ≤ k → (∀ i, i < l → lt (p.getD i 0) (p.getD k 0) = true) → (∀ i, l ≤ i → i < k → lt (p.getD k 0) (p.getD i 0) = true) → G l s) :
    ∀ (f l r : Nat), l ≤ r → r ≤ k → r - l ≤ f → (∀ i, i < l → lt (p.getD i 0) (p.getD k 0) = true) → (∀ i, r ≤ i → i < k → lt (p.getD k 0) (p.getD i 0) = true) → (kas_place p k f l r).kasWp cmp G s
  | 0, l, r, hlr, hr, hf, a, b => h l (by omega) a fun i x y => b i (by omega) y
  | f + 1, l, r, hlr, hr, hf, a, b => by
    unfold kas_place
    by_cases c : l ≥ r
    · rw [if_pos c]
      exact h l (by omega) a fun i x y => b i (by omega) y
    · rw [if_neg c]
      refine S _ _ (M.below (by omega)) (M.below (by omega)) (M.ne (by omega) (by omega) (by omega)) _ ?_
      cases e : lt (p.getD k 0) (p.getD ((l + r) / 2) 0) with
      | true =>
        refine place_wp O S M hk hA h f l ((l + r) / 2) (by omega) (by omega) (by omega) a fun i x y => ?_
        by_cases ei : i = (l + r) / 2
        · subst ei
          exact e
        · exact O.tr _ _ _ (M.below (by omega)) (M.below (i := (l + r) / 2) (by omega)) (M.below (by omega)) e (hA _ _ (by omega) y)
      | false =>
        have e2 : lt (p.getD ((l + r) / 2) 0) (p.getD k 0) = true := by
          rw [O.tot _ _ (M.below (i := k) (by omega)) (M.below (i := (l + r) / 2) (by omega)) (M.ne (by omega) (by omega) (by omega)), e]
          rfl
        refine place_wp O S M hk hA h f ((l + r) / 2 + 1) r (by omega) hr (by omega) (fun i x => ?_) b
        by_cases ei : i = (l + r) / 2
        · subst ei
          exact e2
        · exact O.tr _ _ _ (M.below (by omega)) (M.below (i := (l + r) / 2) (by omega)) (M.below (by omega)) (hA _ _ (by omega) (by omega)) e2
theorem bub_at {p : Array Nat} {k l i : Nat} (hk : k < p.size) (hl : l ≤ k) (hi : i < p.size) : (bubble p k (k - l)).getD i 0 = if i = l then p.getD k 0 else if l < i ∧ i ≤ k then p.getD (i - 1) 0 else p.getD i 0 := by
  have e := getElem?_bubble hk (k - l) (by omega) i
  rw [show k - (k - l) = l by omega, getD_at (p := bubble p k (k - l)) (i := i) (by rw [bubble_size]; exact hi), getD_at hk, getD_at hi] at e
  by_cases c1 : i = l
  · rw [if_pos c1] at e ⊢
    exact Option.some.inj e
  · rw [if_neg c1] at e ⊢
    by_cases c2 : l < i ∧ i ≤ k
    · rw [if_pos c2, getD_at (p := p) (i := i - 1) (by omega)] at e
      rw [if_pos c2]
      exact Option.some.inj e
    · rw [if_neg c2] at e ⊢
      exact Option.some.inj e
theorem Mix.bub {p : Array Nat} (M : Mix n p) (k d : Nat) : Mix n (bubble p k d) := (Array.perm_iff_toList_perm.mp (bubble_perm p k d)).trans M
theorem bin_wp (O : Ord n lt) (S : Says n lt cmp s) {G : Array Nat → Shared → Prop} (h : ∀ p', Mix n p' → Asc lt p' n → G p' s) : ∀ (f : Nat) (p : Array Nat) (k : Nat), Mix n p → k + f = n → Asc lt p k → (kas_bin f p k).kasWp cmp G s
  | 0, p, k, M, hk, hA => h p M (by rw [show n = k by omega]; exact hA)
  | f + 1, p, k, M, hk, hA => by
    have hz := M.size
    unfold kas_bin
    rw [KasT.kasWp_bind]
    refine place_wp O S M (by omega) hA (fun l hl a b => ?_) k 0 k (Nat.zero_le _) (Nat.le_refl _) (by omega) (fun i x => absurd x (by omega)) (fun i x y => absurd y (by omega))
    refine bin_wp O S h f _ (k + 1) (M.bub k (k - l)) (by omega) fun i j hij hj => ?_
    rw [bub_at (by omega) hl (by omega), bub_at (by omega) hl (by omega)]
    by_cases ci : i = l
    · rw [if_pos ci, if_neg (by omega), if_pos ⟨by omega, by omega⟩]
      exact b (j - 1) (by omega) (by omega)
    · rw [if_neg ci]
      by_cases cj : j = l
      · rw [if_pos cj, if_neg (by omega)]
        exact a i (by omega)
      · rw [if_neg cj]
        by_cases c2 : l < j ∧ j ≤ k
        · rw [if_pos c2]
          by_cases c3 : l < i ∧ i ≤ k
          · rw [if_pos c3]
            exact hA _ _ (by omega) (by omega)
          · rw [if_neg c3]
            exact hA _ _ (by omega) (by omega)
        · rw [if_neg c2]
          by_cases c3 : l < i ∧ i ≤ k
          · omega
          · rw [if_neg c3]
            exact hA _ _ hij (by omega)
theorem sort_wp (O : Ord n lt) (S : Says n lt cmp s) (h2 : 2 ≤ n) {G : Array Nat → Shared → Prop} (h : ∀ p', Mix n p' → Asc lt p' n → G p' s) : (kas_sort n).kasWp cmp G s := by
  unfold kas_sort
  rw [KasT.kasWp_bind]
  have M0 : Mix n (List.toArray (List.range n)) := by
    show (List.toArray (List.range n)).toList.Perm _
    rw [List.toList_toArray]
  refine count_wp O S M0 h2 fun k p' a b M hA => ?_
  by_cases c : k < n
  · show (if k < n then kas_bin (n - max k 1) p' (max k 1) else KasT.ret p').kasWp cmp G s
    rw [if_pos c]
    rw [show max k 1 = k by omega]
    exact bin_wp O S h _ _ _ M (by omega) hA
  · show (if k < n then kas_bin (n - max k 1) p' (max k 1) else KasT.ret p').kasWp cmp G s
    rw [if_neg c]
    exact h p' M (by rw [show n = k by omega]; exact hA)
end
end L2
/-! Own rule: sorted of fewer than 64 unlike pairs of numbers. -/
namespace L2
open PySem PySem.Spec PyProof.Rows PySem.W
theorem pick_paired {α β : Type} {R : α → β → Prop} (da : α) (db : β) {xs : List α} {ys : List β} (h : Paired R xs ys) : ∀ (q : List Nat), (∀ i ∈ q, i < xs.length) → Paired R (q.map fun i => xs.getD i da) (q.map fun i => ys.getD i db)
  | [], _ => .nil
  | i :: q, hq => by
    refine .cons ?_ (pick_paired da db h q fun j hj => hq j (List.mem_cons_of_mem _ hj))
    have hi := hq i List.mem_cons_self
    clear hq
    induction h generalizing i with
    | nil => exact absurd hi (by simp)
    | cons r t ih =>
      cases i with
      | zero => exact r
      | succ i =>
        have := ih i (by simpa using hi)
        simpa using this
theorem pick_range {α : Type} (d : α) (xs : List α) : ((List.range xs.length).map fun i => xs.getD i d) = xs := by
  refine List.ext_getElem (by simp) fun i h1 h2 => ?_
  simp [h2]
theorem lt2_irr (p : Int × Int) : lt2 p p = false := by
  unfold lt2
  rw [if_pos rfl, decide_eq_false (by omega)]
theorem lt2_tot {p q : Int × Int} (h : p ≠ q) : lt2 q p = !lt2 p q := by
  unfold lt2
  obtain ⟨a, b⟩ := p
  obtain ⟨c, d⟩ := q
  simp only
  by_cases e : a = c
  · subst e
    rw [if_pos rfl, if_pos rfl]
    have hb : b ≠ d := fun z => h (by rw [z])
    by_cases l : b < d
    · rw [decide_eq_true l, decide_eq_false (by omega)]
      rfl
    · rw [decide_eq_false l, decide_eq_true (by omega)]
      rfl
  · rw [if_neg e, if_neg (fun z => e z.symm)]
    by_cases l : a < c
    · rw [decide_eq_true l, decide_eq_false (by omega)]
      rfl
    · rw [decide_eq_false l, decide_eq_true (by omega)]
      rfl
theorem lt2_tr {p q r : Int × Int} (h1 : lt2 p q = true) (h2 : lt2 q r = true) : lt2 p r = true := by
  unfold lt2 at *
  obtain ⟨a, b⟩ := p
  obtain ⟨c, d⟩ := q
  obtain ⟨e, f⟩ := r
  simp only at *
  by_cases e1 : a = c
  · subst e1
    rw [if_pos rfl, decide_eq_true_eq] at h1
    by_cases e2 : a = e
    · subst e2
      rw [if_pos rfl, decide_eq_true_eq] at h2 ⊢
      omega
    · rw [if_neg e2] at h2 ⊢
      exact h2
  · rw [if_neg e1, decide_eq_true_eq] at h1
    by_cases e2 : c = e
    · subst e2
      rw [if_neg e1, decide_eq_true_eq]
      exact h1
    · rw [if_neg e2, decide_eq_true_eq] at h2
      rw [if_neg (by omega), decide_eq_true_eq]
      omega
/-- rising pairs -/
def Up2 (ps : List (Int × Int)) : Prop := ps.Pairwise fun p q => lt2 p q = true
/-- two rising lists of the same pairs are one -/
theorem up2_same : ∀ {a b : List (Int × Int)}, a.Perm b → Up2 a → Up2 b → a = b
  | [], b, h, _, _ => (List.nil_perm.mp h).symm
  | p :: a, [], h, _, _ => absurd h.length_eq (by simp)
  | p :: a, q :: b, h, h1, h2 => by
    have h1' := List.pairwise_cons.mp h1
    have h2' := List.pairwise_cons.mp h2
    have e : p = q := by
      have m1 : p ∈ q :: b := h.mem_iff.mp List.mem_cons_self
      have m2 : q ∈ p :: a := h.mem_iff.mpr List.mem_cons_self
      rcases List.mem_cons.mp m1 with r | m1
      · exact r
      rcases List.mem_cons.mp m2 with r | m2
      · exact r.symm
      have := lt2_tr (h2'.1 p m1) (h1'.1 q m2)
      rw [lt2_irr] at this
      cases this
    subst e
    rw [up2_same (List.perm_cons p |>.mp h) h1'.2 h2'.2]
section
variable {X : Cx}
theorem call_sorted2 : CallR X (.builtin "sorted") (fun xs H Q => ∃ l us ps, xs = [.ref l] ∧ SqL X.K H l us ∧ Tup2 H us ps ∧ ps.Nodup ∧ us.length < 64 ∧
    ∀ d us' ps', H d = none → Tup2 H us' ps' → ps'.Perm ps → Up2 ps' → Q (.ref d) (upd H d (.lst us'))) := by
  intro pins s σ H xs us' Q I r h
  obtain ⟨l, us, ps, rfl, hq, ht, hnd, h64, q⟩ := h
  obtain ⟨u, rfl, ru⟩ := vals1 r
  cases ru
  obtain ⟨its, rv, pl, hz⟩ := I.list hq
  have hl := rv.length
  have hp := Tup2.pairs I ht rv
  have hlp : its.length = ps.length := Paired.length hp
  have at_ : ∀ {i : Nat}, i < its.length → ps[i]? = some (ps.getD i (0, 0)) := fun {i} hi => by
    rw [List.getElem?_eq_getElem (by omega)]
    simp [List.getD, List.getElem?_eq_getElem (show i < ps.length by omega)]
  have O : Ord its.length (fun i j => lt2 (ps.getD i (0, 0)) (ps.getD j (0, 0))) := by
    refine ⟨fun i j hi hj hij => lt2_tot fun e => hij ?_, fun i j k _ _ _ a b => lt2_tr a b⟩
    have e1 := at_ hi
    have e2 := at_ hj
    rw [List.getElem?_eq_getElem (by omega)] at e1 e2
    exact (List.getElem_inj hnd).mp ((Option.some.inj e1).trans (e.trans (Option.some.inj e2).symm))
  refine srt_call (vs := its) pl.isList (by omega) (fun p => Mix its.length p ∧ Asc (fun i j => lt2 (ps.getD i (0, 0)) (ps.getD j (0, 0))) p its.length) (fun h2 => ⟨?_, fun i j hij hj => absurd hij (by omega)⟩) (fun h2 s' kk => ?_) fun p h' c hps hg kk ha => ?_
  · show (List.toArray (List.range its.length)).toList.Perm _
    rw [List.toList_toArray]
  · have hp' := pairs_kept kk hp
    obtain ⟨fs, hk, hfl, hint⟩ := pairs_firsts hp'
    refine kat_kind (T := .type "int") hk (by omega) (fun v hv => ?_) (by decide) ⟨rfl, sort_wp O (fun i j hi hj _ C hC => ?_) h2 fun p' M hA => ⟨rfl, M, hA⟩⟩
    · obtain ⟨x, t, rfl⟩ := hint v hv
      exact Looks.of_pure rfl
    · unfold kas_cmp
      rw [kas_item_eq, kas_item_eq]
      show wpAny _ _ (keyLt' (tuples' true) (its.getD i Value.none) (its.getD j Value.none)) C _ _
      exact pair_lt (pairs_get hp' (at_ hi)) (pairs_get hp' (at_ hj)) hC
  · obtain ⟨M, hA⟩ := hg
    have hm : ∀ i ∈ p.toList, i < its.length := fun i hi => List.mem_range.mp (M.mem_iff.mp hi)
    have hD : H (s.heap.objs.size + 1) = none := I.hok.fresh (Nat.le_succ _)
    have rv' : Vals (p.toList.map fun i => us.getD i V.non) (p.toList.map fun i => its.getD i Value.none) := pick_paired V.non Value.none rv p.toList fun i hi => by rw [hl]; exact hm i hi
    have ht' : Tup2 H (p.toList.map fun i => us.getD i V.non) (p.toList.map fun i => ps.getD i (0, 0)) := pick_paired V.non (0, 0) ht p.toList fun i hi => by rw [hl]; exact hm i hi
    have hperm : (p.toList.map fun i => ps.getD i (0, 0)).Perm ps := by
      have := List.Perm.map (fun i => ps.getD i (0, 0)) M
      rw [hlp, pick_range] at this
      exact this
    have hup : Up2 (p.toList.map fun i => ps.getD i (0, 0)) := by
      unfold Up2
      rw [List.pairwise_iff_getElem]
      intro i j hi hj hij
      rw [List.length_map, Array.length_toList] at hi hj
      have := hA i j hij (by omega)
      simp only [List.getElem_map, Array.getElem_toList]
      simpa [Array.getD, hi, hj] using this
    refine ⟨.ref (s.heap.objs.size + 1), upd H (s.heap.objs.size + 1) (.lst (p.toList.map fun i => us.getD i V.non)), I.laid (t' := s.toks) kk (Nat.le_succ _) ⟨?_, _, c, rv', ha⟩, rfl, q _ _ _ hD ht' hperm hup⟩
    rw [List.length_map, Array.length_toList, hps]
    exact Nat.le_trans (show its.length ≤ 64 by omega) (by decide)
end
end L2
/-! Own rule: if e == c: return x.replace(y, z, 1). -/
namespace L2
open PySem PySem.Spec PyProof.Rows
open PySem.Builtin PySem.Builtin.Str in
theorem gives_rep1 (x y z : Str) (t u v w : Tok) (hu : (u == 0 || v == 0) = false) (huv : (u == v) = false) (hyz : (y == z) = false) (hl : tooLong (x.length + (occurrences x y 0 x.length 1).length * z.length) = false) :
    Gives («str.replace» ⟨[.str x t, .str y u, .str z v, .int 1 w], []⟩) (if ((occurrences x y 0 x.length 1).isEmpty || (y.length == 0 && z.length == 0)) = true then .val (.str x t) else .str (glued z (partsBetween x (occurrences x y 0 x.length 1) y.length))) := by
  show Gives (if ((occurrences x y 0 x.length 1).isEmpty || (y.length == 0 && z.length == 0)) = true then (do rule "str.replace.nothing"; ret (.str x t)) else
          (do let same ← isSame (.str y u) (.str z v)
              if same = true then (do rule "str.replace.old-is-new"; ret (.str x t)) else
              if tooLong (x.length + (occurrences x y 0 x.length 1).length * z.length) = true then unsupported "str.replace:memory" else
              retStr (glued z (partsBetween x (occurrences x y 0 x.length 1) y.length)))) _
  cases hc : ((occurrences x y 0 x.length 1).isEmpty || (y.length == 0 && z.length == 0))
  · rw [isSame_str_other y z u v hu huv hyz, hl]
    exact .of_eq rfl
  · exact .rule (.of_eq rfl)
theorem join_leS (sep : Str) (B : Nat) : ∀ ts : List Str, (∀ t ∈ ts, t.length ≤ B) → (Str.join sep ts).length ≤ (B + sep.length) * ts.length
  | [], _ => Nat.zero_le _
  | [x], h => by
    have := h x List.mem_cons_self
    show x.length ≤ (B + sep.length) * 1
    omega
  | x :: y :: r, h => by
    have ih := join_leS sep B (y :: r) fun t ht => h t (List.mem_cons_of_mem _ ht)
    have hx := h x List.mem_cons_self
    have e : (Str.join sep (x :: y :: r)).length = x.length + sep.length + (Str.join sep (y :: r)).length := by
      have e : (Str.join sep (x :: y :: r)).cps = x.cps ++ sep.cps ++ (Str.join sep (y :: r)).cps := rfl
      show (Str.join sep (x :: y :: r)).cps.size = _
      rw [e, Array.size_append, Array.size_append]
      rfl
    rw [e, List.length_cons, Nat.mul_succ]
    omega
open PySem.Builtin PySem.Builtin.Str in
theorem part_in {x p : Str} {cuts : List Nat} {k : Nat} (h : p ∈ partsBetween x cuts k) : p.length ≤ x.length ∧ ∀ c ∈ p.cps.toList, c ∈ x.cps.toList := by
  unfold partsBetween at h
  rw [List.mem_map] at h
  obtain ⟨⟨i, j⟩, _, rfl⟩ := h
  refine ⟨?_, fun c hc => ?_⟩
  · show (x.cps.extract i j).size ≤ x.cps.size
    rw [Array.size_extract]
    omega
  · have : c ∈ (x.cps.extract i j).toList := hc
    rw [Array.toList_extract] at this
    exact List.mem_of_mem_drop (List.mem_of_mem_take (by simpa [List.extract] using this))
section
variable {X : Cx}
def tRepl1 (i : Nat) (z : Str) : TE := fun σ H Q => ∃ v, σ[i]? = some (some v) ∧ ∃ t : Str, v = .str t ∧ t.length ≤ 1000 ∧ ∀ r : Str, r.length ≤ (t.length + z.length) * 2 → (∀ c ∈ r.cps.toList, c ∈ t.cps.toList ∨ c ∈ z.cps.toList) → Q (.str r) H
open PySem.Builtin PySem.Builtin.Str in
theorem pep_rep1 (i : Nat) {x y z : Str} {p apos cpos p1 p2 p3 : Pos} {j1 j2 j3 : Nat} (hyz : (y == z) = false) (hz : z.length ≤ 14) (hN : X.N[i]? = some x := by rfl) (hv : Vis X.env.scope x := by first | exact Or.inl rfl | exact Or.inr (Or.inl rfl) | exact Or.inr (Or.inr rfl)) (hd : (x == ("__debug__" : Str)) = false := by decide) (hcd : (x == ("__classdict__" : Str)) = false := by decide)
    (hbase : attributeBase (.Name x p) "replace" X.env (eval (.Name x p) X.env) = eval (.Name x p) X.env := by rfl)
    (hfew : ((backTo cpos (starEach [.Constant (.str y) j1 p1, .Constant (.str z) j2 p2, .Constant (.int 1) j3 p3] X.env)).all (fun x => !x.1) && (backToKw cpos (keywordEach [] X.env)).all (fun x => x.1.isSome)
      && decide (([.Constant (.str y) j1 p1, .Constant (.str z) j2 p2, .Constant (.int 1) j3 p3] : List Expr).length + ([] : List Keyword).length + (if ([] : List Keyword).isEmpty then 0 else 1) < 30)) = true := by rfl)
    (hline : (apos.endLine == cpos.line) = true := by rfl) :
    PEp X (.Call (.Attribute (.Name x p) "replace" apos) [.Constant (.str y) j1 p1, .Constant (.str z) j2 p2, .Constant (.int 1) j3 p3] [] cpos) (tRepl1 i z) := by
  intro pins s σ H Q I pos h
  obtain ⟨v, e, t, rfl, ht, q⟩ := h
  refine wpAny_Call_method_late hbase hfew hline rfl (name_keeps hN hv hd hcd I e fun u r => ?_)
  obtain ⟨tk, rfl⟩ := r
  refine ⟨"str", "str.replace", F.plainAttrs_str, F.slot_str_replace, F.type_str_replace, typeIs_str _ _ _, (fun a e => by cases e), ?_⟩
  have hs : starEach [.Constant (.str y) j1 p1, .Constant (.str z) j2 p2, .Constant (.int 1) j3 p3] X.env = [(false, eval (.Constant (.str y) j1 p1) X.env), (false, eval (.Constant (.str z) j2 p2) X.env), (false, eval (.Constant (.int 1) j3 p3) X.env)] := rfl
  rw [hs]
  refine Calls.callWith_builtin rfl (Calls.evalArgs_plain ?_)
  show wpAny _ _ (spliced ((false, eval (.Constant (.str y) j1 p1) X.env) :: backTo cpos [(false, eval (.Constant (.str z) j2 p2) X.env), (false, eval (.Constant (.int 1) j3 p3) X.env)])) _ _ s
  refine Calls.spliced_cons (Calls.Constant_str ?_)
  show wpAny _ _ (spliced ((false, eval (.Constant (.str z) j2 p2) X.env) :: backTo cpos [(false, eval (.Constant (.int 1) j3 p3) X.env)])) _ _ _
  refine Calls.spliced_cons (Calls.Constant_str ?_)
  show wpAny _ _ (spliced ((false, eval (.Constant (.int 1) j3 p3) X.env) :: backTo cpos [])) _ _ _
  refine Calls.spliced_cons (wpAny_Constant_int ?_)
  refine Calls.spliced_nil ?_
  have o1 : (occurrences t y 0 t.length 1).length ≤ 1 := StrLaws.occ_length_le t y 0 t.length 1
  have hl : tooLong (t.length + (occurrences t y 0 t.length 1).length * z.length) = false := by
    unfold tooLong
    refine decide_eq_false ?_
    have : (occurrences t y 0 t.length 1).length * z.length ≤ 1 * 14 := Nat.mul_le_mul o1 hz
    have b : 2000 ≤ sizeLine := by decide
    omega
  refine call_gives F.slot_str_replace (typeIs_str _ _ _) F.entry_str_replace (F.args_str_replace_4 _ _ _ _) (gives_rep1 t y z tk s.toks (s.toks + 1) _ ?_ ?_ hyz hl) ?_
  · rw [Bool.or_eq_false_iff]
    exact ⟨beq_eq_false_iff_ne.mpr (by show s.toks ≠ 0; omega), beq_eq_false_iff_ne.mpr (by show s.toks + 1 ≠ 0; omega)⟩
  · exact beq_eq_false_iff_ne.mpr (by show s.toks ≠ s.toks + 1; omega)
  · split
    · exact ⟨.str t, H, I.tok _, ⟨_, rfl⟩, q t (by omega) fun c hc => .inl hc⟩
    · have hb := join_leS z t.length (partsBetween t (occurrences t y 0 t.length 1) y.length) fun p hp => (part_in hp).1
      have hn : (partsBetween t (occurrences t y 0 t.length 1) y.length).length ≤ 2 := by
        rw [length_partsBetween]
        omega
      have eg := StrLaws.glued_eq_join z (partsBetween t (occurrences t y 0 t.length 1) y.length)
      refine ⟨?_, .str (glued z (partsBetween t (occurrences t y 0 t.length 1) y.length)), H, I.tok _, ⟨_, rfl⟩, q _ ?_ fun c hc => ?_⟩
      · rw [eg]
        exact Nat.le_trans (Nat.le_trans hb (Nat.mul_le_mul_left _ hn)) (Nat.le_trans (show (t.length + z.length) * 2 ≤ 4000 by omega) (by decide))
      · rw [eg]
        exact Nat.le_trans hb (Nat.mul_le_mul_left _ hn)
      · rw [eg] at hc
        rcases (PyProof.Rows.mem_join z c _).mp hc with ⟨p, hp, hc⟩ | ⟨_, hc⟩
        · exact .inl ((part_in hp).2 c hc)
        · exact .inr hc
theorem pssp_ret {e : Expr} {te : TE} {pos : Pos} (he : PEp X e te) : PSsp X [.Return (some e) pos] (tRet te) := by
  intro pins s σ H D I ps h
  exact wpAny_execs_cons (wpAny_Return_some (thn (he pins s σ H _ I ps h) fun v s1 ⟨x, H1, I1, r1, q1⟩ => ⟨x, σ, H1, I1, r1, q1⟩))
/-- if a == c: body, where body begins behind the token of c -/
def tIfC (ta : TE) (c : Int) (tb tu : TS) : TS := fun D σ H => ta σ H fun x H1 => ∃ i : Int, x = .int i ∧ if decide (i = c) = true then tb D σ H1 else tu D σ H1
theorem ps_ifC {a : Expr} {c : Int} {j : Nat} {p1 p2 pos : Pos} {body orelse : List Stmt} {ta : TE} {tb tu : TS} (ha : PE X a ta) (hb : PSsp X body tb) (hu : PSs X orelse tu) :
    PS X (.If (.Compare a [.Eq] [.Constant (.int c) j p1] p2) body orelse pos) (tIfC ta c tb tu) := by
  intro pins s σ H D I h
  refine wpAny_If (wpAny_isTrue_Compare1 (thn (ha pins s σ H _ I h) fun u s1 ⟨x, H1, I1, r1, i, ex, q1⟩ => ?_) (nomark _))
  subst ex
  obtain ⟨t, rfl⟩ := r1
  refine wpAny_Constant_int ?_
  refine PyProof.Rows.eq_int (wpAny_truthy_bool ?_)
  have I2 := I1.tok (s1.toks + 1)
  cases hc : decide (i = c) with
  | true =>
    rw [hc, if_pos rfl] at q1
    have e : (i == c) = true := by simpa using hc
    rw [e]
    exact hb pins _ σ H1 D I2 (Nat.succ_pos _) q1
  | false =>
    rw [hc, if_neg Bool.false_ne_true] at q1
    have e : (i == c) = false := by simpa using hc
    rw [e]
    exact hu pins _ σ H1 D I2 q1
end
end L2
/-! Own rule: sorted of fewer than 64 lists whose first items are unlike pairs. -/
namespace PySem.SeqAt
open L2 AutoSeq1 MeetsSeq MeetsSeq2 MeetsSeq3
def RcLtAt (A : Around) (s : Shared) (y x : Value) (b : Bool) : Prop := ∀ (prog : Program) (w : World) (E : Value → Shared → Prop) (Q : Value → Shared → Prop), Q (.bool b) s → wpAny (model prog w) A (richCompare .Lt y x) Q E s
theorem RcLtAt.int_int {A : Around} {s : Shared} (a : Int) (t : Tok) (b : Int) (u : Tok) : RcLtAt A s (.int a t) (.int b u) (decide (a < b)) := fun prog w E Q h => wpAny_lt_int h
theorem tuple_ltAt (l b : Addr) (x y x2 y2 : Int) (t u t2 u2 : Tok) (n n2 : Nat) (dd dd2 : Option Addr) (sl sl2 : Array (Option Value)) :
    Meets (Builtin.«tuple.__lt__» ⟨[.ref l, .ref b], []⟩)
      (fun _ R s => s.heap.get? l = some { cls := .type "tuple", dict := dd, data := .seq #[.int x t, .int y u] n, slots := sl } ∧ s.heap.get? b = some { cls := .type "tuple", dict := dd2, data := .seq #[.int x2 t2, .int y2 u2] n2, slots := sl2 } ∧
        R (.ok (.ret (.bool (lt2 (x, y) (x2, y2))))) s) :=
  .of_wp fun prog w A R s h => by
    obtain ⟨hp1, g1, d1, tk1, os1⟩ := s
    obtain ⟨hL, hB, h⟩ := h
    have fT := sub_tuple_tuple
    wp_walk using wpAny_loadPart' hL, wpAny_loadPart' hB
    refine EqAt.int_int x t x2 t2 prog w _ _ ?_
    unfold lt2 at h
    by_cases e : x = x2
    · have e' : (x == x2) = true := by simpa using e
      rw [e']
      rw [if_pos e] at h
      wp_walk
      refine EqAt.int_int y u y2 u2 prog w _ _ ?_
      by_cases e2 : y = y2
      · have e2' : (y == y2) = true := by simpa using e2
        rw [e2']
        rw [decide_eq_false (by show ¬ y < y2; omega)] at h
        wp_walk
        exact ⟨_, rfl, h⟩
      · have e2' : (y == y2) = false := by simpa using e2
        rw [e2']
        simp only [Bool.not_false, if_true]
        refine wpAny_bind (wpAny_rule (wpAny_bind (RcLtAt.int_int y u y2 u2 prog w _ _ ?_)))
        wp_walk
        exact ⟨_, rfl, h⟩
    · have e' : (x == x2) = false := by simpa using e
      rw [e']
      rw [if_neg e] at h
      simp only [Bool.not_false, if_true]
      refine wpAny_bind (wpAny_rule (wpAny_bind (RcLtAt.int_int x t x2 t2 prog w _ _ ?_)))
      wp_walk
      exact ⟨_, rfl, h⟩
theorem list_ltAt (l b : Addr) (items items2 : Array Value) (n n2 : Nat) (dd dd2 : Option Addr) (sl sl2 : Array (Option Value)) (x y : Value) (hx : items[0]? = some x) (hy : items2[0]? = some y) (r : Bool) :
    Meets (Builtin.«list.__lt__» ⟨[.ref l, .ref b], []⟩)
      (fun A R s => s.heap.get? l = some { cls := .type "list", dict := dd, data := .seq items n, slots := sl } ∧ s.heap.get? b = some { cls := .type "list", dict := dd2, data := .seq items2 n2, slots := sl2 } ∧
        EqAt A.in1 s x y false ∧ RcLtAt A.in1 s x y r ∧ R (.ok (.ret (.bool r))) s) := by
  intro prog w A R s h
  obtain ⟨hp1, g1, d1, tk1, os1⟩ := s
  obtain ⟨hL, hB, he, hr, h⟩ := h
  have fL := sub_list_list
  wp_walk using wpAny_loadPart' hL, wpAny_loadPart' hB
  refine ⟨plainId_quiet plain_eq_loop _, codeAny_builtin entry_eq_loop ?_⟩
  rw [Around.under_plainId (id := "list.__eq__.loop") plain_eq_loop]
  wp_walk using wpAny_loadPart' hL, wpAny_loadPart' hB
  have h0 : items[Int.toNat 0]? = some x := hx
  have h1 : items2[Int.toNat 0]? = some y := hy
  rw [h0, h1]
  refine wpAny_bind (he prog w _ _ ?_)
  simp only [Bool.false_eq_true, if_false]
  refine wpAny_bind (PyProof.Rows.listItems_at hL rfl (wpAny_bind (PyProof.Rows.listItems_at hB rfl ?_)))
  rw [h0, h1]
  exact wpAny_bind (hr prog w _ _ (wpAny_pure h))
theorem RcLtAt.pairs {A : Around} {s : Shared} {v v' : Value} {p q : Int × Int} (hv : IntPair s.heap v p) (hv' : IntPair s.heap v' q) (hu : A.units < cLine) : RcLtAt A s v v' (lt2 p q) := fun prog w E Q h => by
  obtain ⟨a, ⟨cls, dd, data, sl⟩, n, t, u, rfl, e1, c1, d1⟩ := hv
  obtain ⟨a', ⟨cls2, dd2, data2, sl2⟩, n', t', u', rfl, e1', c1', d1'⟩ := hv'
  simp only at c1 d1 c1' d1'
  subst c1 d1 c1' d1'
  exact richCompare_meets_room (op := .Lt) ⟨_, e1, rfl⟩ ⟨_, e1', rfl⟩ F.slot_tuple_lt F.entry_tuple_lt (F.args_tuple_lt_2 _ _) (tuple_ltAt a a' p.1 p.2 q.1 q.2 t u t' u' n n' dd dd2 sl sl2)
    ⟨e1, e1', show Value.bool (lt2 p q) ≠ Value.notImplemented ∧ Q (.bool (lt2 p q)) s from ⟨(fun x => nomatch x), h⟩⟩ hu
theorem intPair_reads {h : Heap} {v : Value} {p : Int × Int} (hv : IntPair h v p) : ∃ as, Reads h v (.tuple [.int p.1, .int p.2]) as := by
  obtain ⟨a, o, n, t, u, rfl, e1, c1, d1⟩ := hv
  exact ⟨_, .tuple e1 c1 d1 (.cons (.int _ _) (.cons (.int _ _) .nil))⟩
theorem pairs_eqv (p q : Int × Int) : PyData.eqv (.tuple [.int p.1, .int p.2]) (.tuple [.int q.1, .int q.2]) = decide (p = q) := by
  obtain ⟨a, b⟩ := p
  obtain ⟨c, d⟩ := q
  show ((a == c) && ((b == d) && true)) = _
  by_cases h1 : a = c
  · by_cases h2 : b = d
    · subst h1 h2
      simp
    · simp [h2]
  · simp [h1]
/-- a list whose first item is this pair -/
structure FirstPair (h : Heap) (v : Value) (p : Int × Int) : Prop where
  ex : ∃ a o xs n f, v = .ref a ∧ h.get? a = some o ∧ o.cls = .type "list" ∧ o.data = .seq xs n ∧ xs[0]? = some f ∧ IntPair h f p
theorem firsts_lt {prog : Program} {w : World} {A : Around} {E : Value → Shared → Prop} {s : Shared} {v v' : Value} {p q : Int × Int} {C : Bool → Shared → Prop} (hv : FirstPair s.heap v p) (hv' : FirstPair s.heap v' q) (hne : p ≠ q) (hu : A.units + 10 < cLine) (h : C (lt2 p q) s) :
    wpAny (model prog w) A (PyProof.Rows.keyLt' PyProof.Rows.oneType' v v') C E s := by
  obtain ⟨a, ⟨cls, dd, data, sl⟩, xs, n, f, rfl, e1, c1, d1, x1, p1⟩ := hv
  obtain ⟨a', ⟨cls2, dd2, data2, sl2⟩, xs', n', f', rfl, e1', c1', d1', x1', p1'⟩ := hv'
  simp only at c1 d1 c1' d1'
  subst c1 d1 c1' d1'
  rw [PyProof.Rows.keyLt'_oneType, PyProof.Rows.oneLt'_eq]
  simp only [if_true]
  refine wpAny_bind (wpAny_cRoomFor (by omega) ?_)
  refine wpAny_bind (wpAny_callSpecialIfBound?_slot (T := "list") ⟨_, e1, rfl⟩ F.slot_list_lt ?_)
  refine call_meets F.slot_list_lt ⟨_, e1, rfl⟩ F.entry_list_lt (F.args_list_lt_2 _ _) (list_ltAt a a' xs xs' n n' dd dd2 sl sl2 f f' x1 x1' (lt2 p q)) ⟨e1, e1', ?_, RcLtAt.pairs p1 p1' (by show A.units + 1 < cLine; omega), ?_⟩
  · obtain ⟨as, ra⟩ := intPair_reads p1
    obtain ⟨bs, rb⟩ := intPair_reads p1'
    have := eqAt_reads _ _ A.in1 s _ _ as bs ra rb rfl rfl (by show A.units + 1 + min 1 1 < cLine; omega)
    rw [pairs_eqv, decide_eq_false hne] at this
    exact this
  · exact wpAny_truthy_bool h
end PySem.SeqAt
namespace L2
open PySem PySem.Spec PyProof.Rows PySem.W PySem.SeqAt
/-- lists, each with a first pair -/
def Firsts (H : Hp) : List V → List (Int × Int) → Prop := Paired fun v p => ∃ a ws b, v = V.ref a ∧ H a = some (.lst (.ref b :: ws)) ∧ H b = some (.tup [.int p.1, .int p.2])
section
variable {X : Cx} {pins : List (Addr × Obj)} {σ : St} {H : Hp} {s : Shared}
theorem Firsts.pairs (I : Inv X pins σ H s) : ∀ {us : List V} {ps : List (Int × Int)} {its : List Value}, Firsts H us ps → Vals us its → Paired (FirstPair s.heap) its ps
  | _, _, _, .nil, r => by
    cases r
    exact .nil
  | _, _, _, .cons ⟨a, ws, b, e, h, hb⟩ t, r => by
    subst e
    cases r with
    | cons r1 r2 =>
      cases r1
      refine .cons ?_ (Firsts.pairs I t r2)
      obtain ⟨z, its, n, rv, hl, e⟩ := I.lstM h
      cases rv with
      | cons q1 q2 =>
        cases q1
        obtain ⟨items, rv2, tp, _⟩ := I.tuple (SqT.of hb)
        obtain ⟨u1, u2, rfl, ⟨t1, rfl⟩, ⟨t2, rfl⟩⟩ := vals2 rv2
        obtain ⟨ob, e1, c1, n2, d1⟩ := tp
        exact ⟨a, _, _, n, .ref b, rfl, e, rfl, rfl, rfl, ⟨b, ob, n2, t1, t2, rfl, e1, c1, d1⟩⟩
end
theorem firsts_kept {h h' : Heap} (k : ∀ b o, h.get? b = some o → h'.get? b = some o) : ∀ {its : List Value} {ps : List (Int × Int)}, Paired (FirstPair h) its ps → Paired (FirstPair h') its ps
  | _, _, .nil => .nil
  | _, _, .cons ⟨a, o, xs, n, f, e, e1, c, d, x, ⟨b, ob, m, t, u, eb, e2, r⟩⟩ tl => .cons ⟨a, o, xs, n, f, e, k _ _ e1, c, d, x, ⟨b, ob, m, t, u, eb, k _ _ e2, r⟩⟩ (firsts_kept k tl)
theorem firsts_get {h : Heap} : ∀ {its : List Value} {ps : List (Int × Int)} {i : Nat} {p : Int × Int}, Paired (FirstPair h) its ps → ps[i]? = some p → FirstPair h (its.getD i Value.none) p
  | _, _, _, _, .nil, e => by simp at e
  | _, _, 0, _, .cons r _, e => by
    simp at e
    subst e
    exact r
  | _, _, i + 1, p, .cons _ t, e => by
    have := firsts_get (i := i) (p := p) t (by simpa using e)
    simpa using this
theorem firsts_list {h : Heap} : ∀ {its : List Value} {ps : List (Int × Int)}, Paired (FirstPair h) its ps → ∀ v ∈ its, ∃ a o, v = Value.ref a ∧ h.get? a = some o ∧ o.cls = .type "list"
  | _, _, .nil, _, hv => nomatch hv
  | _, _, .cons ⟨a, o, xs, n, f, e, e1, c, d, _⟩ tl, v, hv => by
    rcases List.mem_cons.mp hv with rfl | hv
    · exact ⟨a, o, e, e1, c⟩
    · exact firsts_list tl v hv
section
variable {X : Cx}
/-- sorted of fewer than 64 lists whose first items are unlike pairs -/
theorem call_sortedL (hu : X.A.units + 64 < cLine) : CallR X (.builtin "sorted") (fun xs H Q => ∃ l us ps, xs = [.ref l] ∧ SqL X.K H l us ∧ Firsts H us ps ∧ ps.Nodup ∧ us.length < 64 ∧
    ∀ d (is : List Nat), H d = none → is.Perm (List.range us.length) → Up2 (is.map fun i => ps.getD i (0, 0)) → Q (.ref d) (upd H d (.lst (is.map fun i => us.getD i .non)))) := by
  intro pins s σ H xs us' Q I r h
  obtain ⟨l, us, ps, rfl, hq, ht, hnd, h64, q⟩ := h
  obtain ⟨u, rfl, ru⟩ := vals1 r
  cases ru
  obtain ⟨its, rv, pl, hz⟩ := I.list hq
  have hl := rv.length
  have hp := Firsts.pairs I ht rv
  have hlp : its.length = ps.length := Paired.length hp
  have at_ : ∀ {i : Nat}, i < its.length → ps[i]? = some (ps.getD i (0, 0)) := fun {i} hi => by
    rw [List.getElem?_eq_getElem (by omega)]
    simp [List.getD, List.getElem?_eq_getElem (show i < ps.length by omega)]
  have inj : ∀ i j, i < its.length → j < its.length → i ≠ j → ps.getD i (0, 0) ≠ ps.getD j (0, 0) := fun i j hi hj hij e => hij (by
    have e1 := at_ hi
    have e2 := at_ hj
    rw [List.getElem?_eq_getElem (by omega)] at e1 e2
    exact (List.getElem_inj hnd).mp ((Option.some.inj e1).trans (e.trans (Option.some.inj e2).symm)))
  have O : Ord its.length (fun i j => lt2 (ps.getD i (0, 0)) (ps.getD j (0, 0))) := ⟨fun i j hi hj hij => lt2_tot (inj i j hi hj hij), fun i j k _ _ _ a b => lt2_tr a b⟩
  refine srt_call (vs := its) pl.isList (by omega) (fun p => Mix its.length p ∧ Asc (fun i j => lt2 (ps.getD i (0, 0)) (ps.getD j (0, 0))) p its.length) (fun h2 => ⟨?_, fun i j hij hj => absurd hij (by omega)⟩) (fun h2 s' kk => ?_) fun p h' c hps hg kk ha => ?_
  · show (List.toArray (List.range its.length)).toList.Perm _
    rw [List.toList_toArray]
  · have hp' := firsts_kept kk hp
    refine kas_kind (T := .type "list") h2 (fun v hv => ?_) (by decide) (by decide) ⟨rfl, sort_wp O (fun i j hi hj hij C hC => ?_) h2 fun p' M hA => ⟨rfl, M, hA⟩⟩
    · obtain ⟨a, o, rfl, e1, c1⟩ := firsts_list hp' v hv
      exact c1 ▸ (Looks.ld e1).andThen .now
    · unfold kas_cmp
      rw [kas_item_eq, kas_item_eq]
      show wpAny _ _ (keyLt' oneType' (its.getD i Value.none) (its.getD j Value.none)) C _ _
      exact firsts_lt (firsts_get hp' (at_ hi)) (firsts_get hp' (at_ hj)) (inj i j hi hj hij) (by show X.A.units + 1 + 1 + 10 < cLine; omega) hC
  · obtain ⟨M, hA⟩ := hg
    have hm : ∀ i ∈ p.toList, i < its.length := fun i hi => List.mem_range.mp (M.mem_iff.mp hi)
    have hD : H (s.heap.objs.size + 1) = none := I.hok.fresh (Nat.le_succ _)
    have rv' : Vals (p.toList.map fun i => us.getD i V.non) (p.toList.map fun i => its.getD i Value.none) := pick_paired V.non Value.none rv p.toList fun i hi => by rw [hl]; exact hm i hi
    have hup : Up2 (p.toList.map fun i => ps.getD i (0, 0)) := by
      unfold Up2
      rw [List.pairwise_iff_getElem]
      intro i j hi hj hij
      rw [List.length_map, Array.length_toList] at hi hj
      have := hA i j hij (by omega)
      simp only [List.getElem_map, Array.getElem_toList]
      simpa [Array.getD, hi, hj] using this
    refine ⟨.ref (s.heap.objs.size + 1), upd H (s.heap.objs.size + 1) (.lst (p.toList.map fun i => us.getD i V.non)), I.laid (t' := s.toks) kk (Nat.le_succ _) ⟨?_, _, c, rv', ha⟩, rfl, q _ p.toList hD (by rw [hl]; exact M) hup⟩
    rw [List.length_map, Array.length_toList, hps]
    exact Nat.le_trans (show its.length ≤ 64 by omega) (by decide)
end
end L2
namespace L2
open PySem PySem.Spec PyProof.Rows

/-! ### lists of pairs as tables -/
section
variable {κ : Type} [DecidableEq κ]
def valV (kvs : List (κ × V)) (k : κ) : Option V := (kvs.find? fun kv => decide (kv.1 = k)).map (·.2)
/-- in its place, or at the end -/
def putK (kvs : List (κ × V)) (k : κ) (v : V) : List (κ × V) :=
  if (kvs.any fun kv => decide (kv.1 = k)) = true then kvs.map (fun kv => if kv.1 = k then (kv.1, v) else kv) else kvs ++ [(k, v)]
def dropK (kvs : List (κ × V)) (k : κ) : List (κ × V) := kvs.filter fun kv => decide (kv.1 ≠ k)

theorem valV_nil {k : κ} : valV ([] : List (κ × V)) k = none := rfl
theorem valV_pos {p : κ × V} {r : List (κ × V)} {k : κ} (e : p.1 = k) : valV (p :: r) k = some p.2 := by simp [valV, List.find?_cons, e]
theorem valV_neg {p : κ × V} {r : List (κ × V)} {k : κ} (e : ¬ p.1 = k) : valV (p :: r) k = valV r k := by simp [valV, List.find?_cons, e]
theorem valV_any (k : κ) : ∀ kvs : List (κ × V), (kvs.any fun kv => decide (kv.1 = k)) = (valV kvs k).isSome
  | [] => rfl
  | p :: r => by
    rw [List.any_cons]
    by_cases e : p.1 = k
    · simp only [valV_pos e, decide_eq_true e, Bool.true_or, Option.isSome_some]
    · rw [valV_neg e, decide_eq_false e, Bool.false_or]; exact valV_any k r
theorem valV_map (k j : κ) (y : V) : ∀ kvs : List (κ × V), valV (kvs.map fun kv => if kv.1 = k then (kv.1, y) else kv) j = (valV kvs j).map fun x => if j = k then y else x
  | [] => rfl
  | p :: r => by
    have ih := valV_map k j y r
    rw [List.map_cons]
    by_cases h : p.1 = k
    · rw [if_pos h]
      by_cases e : p.1 = j
      · rw [valV_pos (p := (p.1, y)) e, valV_pos e, Option.map_some, if_pos (e.symm.trans h)]
      · rw [valV_neg (p := (p.1, y)) e, valV_neg e, ih]
    · rw [if_neg h]
      by_cases e : p.1 = j
      · rw [valV_pos (p := p) e, valV_pos e, Option.map_some, if_neg (fun z => h (e.trans z))]
      · rw [valV_neg (p := p) e, valV_neg e, ih]
theorem valV_snoc (k j : κ) (y : V) : ∀ kvs : List (κ × V), valV kvs k = none → valV (kvs ++ [(k, y)]) j = if j = k then some y else valV kvs j
  | [], _ => by
    by_cases e : k = j
    · rw [if_pos e.symm]; exact valV_pos (p := (k, y)) e
    · rw [if_neg (fun z => e z.symm)]; exact valV_neg (p := (k, y)) e
  | p :: r, hn => by
    rw [List.cons_append]
    have hk : ¬ p.1 = k := fun z => by rw [valV_pos z] at hn; cases hn
    rw [valV_neg hk] at hn
    have ih := valV_snoc k j y r hn
    by_cases e : p.1 = j
    · rw [valV_pos e, valV_pos e, if_neg (fun z => hk (e.trans z))]
    · rw [valV_neg e, valV_neg e, ih]
theorem valV_put (kvs : List (κ × V)) (k j : κ) (y : V) : valV (putK kvs k y) j = if j = k then some y else valV kvs j := by
  unfold putK
  by_cases a : (kvs.any fun kv => decide (kv.1 = k)) = true
  · rw [if_pos a, valV_map]
    rw [valV_any] at a
    by_cases e : j = k
    · obtain ⟨x, hx⟩ := Option.isSome_iff_exists.mp a
      rw [if_pos e, e, hx, Option.map_some, if_pos rfl]
    · rw [if_neg e]
      cases valV kvs j with
      | none => rfl
      | some x => rw [Option.map_some, if_neg e]
  · rw [if_neg a]
    refine valV_snoc k j y kvs ?_
    rw [valV_any] at a
    cases q : valV kvs k with
    | none => rfl
    | some x => rw [q] at a; exact (a rfl).elim
theorem length_putK (kvs : List (κ × V)) (k : κ) (v : V) : (putK kvs k v).length ≤ kvs.length + 1 := by
  unfold putK
  split
  · rw [List.length_map]; omega
  · rw [List.length_append, List.length_cons, List.length_nil]; omega
theorem putK_new {kvs : List (κ × V)} {k : κ} (v : V) (h : valV kvs k = none) : putK kvs k v = kvs ++ [(k, v)] := by
  unfold putK
  rw [valV_any, h]
  exact if_neg (by decide)

theorem RelO.isSome_eq {o : Option V} {u : Option Value} (r : RelO o u) : o.isSome = u.isSome := by
  cases o with
  | none => cases u with
    | none => rfl
    | some _ => exact (show False from r).elim
  | some _ => cases u with
    | none => exact (show False from r).elim
    | some _ => rfl
theorem RelO.getD {o : Option V} {u : Option Value} {d : V} {d' : Value} (r : RelO o u) (rd : RelV d d') : RelV (o.getD d) (u.getD d') := by
  cases o with
  | none => cases u with
    | none => exact rd
    | some _ => exact (show False from r).elim
  | some _ => cases u with
    | none => exact (show False from r).elim
    | some _ => exact r

/-- raw tables of the same keys -/
theorem KV.val {kvs : List (κ × V)} {vs : List (κ × Value)} (r : KV kvs vs) (k : κ) : RelO (valV kvs k) (valueAt vs k) := by
  unfold KV at r
  induction r with
  | nil => exact True.intro
  | @cons p q ps qs h t ih =>
    obtain ⟨h1, h2⟩ := h
    by_cases e : p.1 = k
    · have e' : q.1 = k := h1.symm.trans e
      have b : valueAt (q :: qs) k = some q.2 := by simp [valueAt, List.find?_cons, e']
      rw [valV_pos e, b]; exact h2
    · have e' : ¬ q.1 = k := fun z => e (h1.trans z)
      have b : valueAt (q :: qs) k = valueAt qs k := by simp [valueAt, List.find?_cons, e']
      rw [valV_neg e, b]; exact ih
theorem KV.any {kvs : List (κ × V)} {vs : List (κ × Value)} (r : KV kvs vs) (k : κ) : (kvs.any fun kv => decide (kv.1 = k)) = vs.any fun kv => decide (kv.1 = k) := by
  unfold KV at r
  induction r with
  | nil => rfl
  | cons h t ih => rw [List.any_cons, List.any_cons, ih, h.1]
theorem KV.repl {kvs : List (κ × V)} {vs : List (κ × Value)} (r : KV kvs vs) (k : κ) {y : V} {u : Value} (ry : RelV y u) :
    KV (kvs.map fun kv => if kv.1 = k then (kv.1, y) else kv) (vs.map fun kv => if kv.1 = k then (kv.1, u) else kv) := by
  unfold KV at r ⊢
  induction r with
  | nil => exact .nil
  | @cons p q ps qs h t ih =>
    rw [List.map_cons, List.map_cons]
    refine .cons ?_ ih
    obtain ⟨h1, h2⟩ := h
    by_cases e : p.1 = k
    · rw [if_pos e, if_pos (h1.symm.trans e)]; exact ⟨h1, ry⟩
    · rw [if_neg e, if_neg (fun z => e (h1.trans z))]; exact ⟨h1, h2⟩
theorem KV.put {kvs : List (κ × V)} {vs : List (κ × Value)} (r : KV kvs vs) (k : κ) {y : V} {u : Value} (ry : RelV y u) : KV (putK kvs k y) (stored vs k u) := by
  unfold putK stored
  rw [r.any k]
  by_cases e : (vs.any fun kv => decide (kv.1 = k)) = true
  · rw [if_pos e, if_pos e]; exact r.repl k ry
  · rw [if_neg e, if_neg e]; exact Paired.snoc r ⟨rfl, ry⟩
theorem KV.drop {kvs : List (κ × V)} {vs : List (κ × Value)} (r : KV kvs vs) (k : κ) : KV (dropK kvs k) (without vs k) := by
  unfold KV at r ⊢
  unfold dropK without
  induction r with
  | nil => exact .nil
  | @cons p q ps qs h t ih =>
    obtain ⟨h1, h2⟩ := h
    rw [List.filter_cons, List.filter_cons]
    by_cases e : p.1 = k
    · have a : ¬ decide (p.1 ≠ k) = true := by simp [e]
      have b : ¬ decide (q.1 ≠ k) = true := by simp [h1.symm.trans e]
      rw [if_neg a, if_neg b]; exact ih
    · have e' : ¬ q.1 = k := fun z => e (h1.trans z)
      have a : decide (p.1 ≠ k) = true := by simp [e]
      have b : decide (q.1 ≠ k) = true := by simp [e']
      rw [if_pos a, if_pos b]; exact .cons ⟨h1, h2⟩ ih
theorem KV.keys {kvs : List (κ × V)} {vs : List (κ × Value)} (r : KV kvs vs) : kvs.map (·.1) = vs.map (·.1) := by
  unfold KV at r
  induction r with
  | nil => rfl
  | cons h t ih => rw [List.map_cons, List.map_cons, ih, h.1]
theorem KV.length {kvs : List (κ × V)} {vs : List (κ × Value)} (r : KV kvs vs) : kvs.length = vs.length := Paired.length r
theorem dropK_le (kvs : List (κ × V)) (k : κ) : (dropK kvs k).length ≤ kvs.length := List.length_filter_le _ _
end


/-! ### a tracked dict, its keys ints and texts or tuples of these -/
theorem kV_is {P : Program} {w : World} {k : Key} {u : Value} (r : RelV (kV k) u) : (mixKind P w).is k u = true := by
  cases k with
  | inl i => obtain ⟨t, e⟩ := (show ∃ t, u = Value.int i t from r); subst e; exact mixKind_int P w i t
  | inr x => obtain ⟨t, e⟩ := (show ∃ t, u = Value.str x t from r); subst e; exact mixKind_str P w x t
theorem kV_inj {a b : Key} (e : kV a = kV b) : a = b := by
  cases a with
  | inl i => cases b with
    | inl j => have e' : V.int i = V.int j := e; injection e' with e'; rw [e']
    | inr y => exact nomatch (show V.int i = V.str y from e)
  | inr x => cases b with
    | inl j => exact nomatch (show V.str x = V.int j from e)
    | inr y => have e' : V.str x = V.str y := e; injection e' with e'; rw [e']
theorem kVs_inj : ∀ {a b : List Key}, a.map kV = b.map kV → a = b
  | [], [], _ => rfl
  | [], _ :: _, e => by simp at e
  | _ :: _, [], e => by simp at e
  | x :: xs, y :: ys, e => by
    rw [List.map_cons, List.map_cons] at e
    injection e with e1 e2
    rw [kV_inj e1, kVs_inj e2]
theorem items_are {P : Program} {w : World} : ∀ {ks : List Key} {us : List Value}, Vals (ks.map kV) us → ItemsAre (mixKind P w) ks us
  | [], _, r => by rw [List.map_nil] at r; cases r; exact .nil
  | k :: ks, _, r => by
    rw [List.map_cons] at r
    cases r with
    | cons h t => exact .cons (kV_is h) (items_are t)

/-- raw entries of a dict with tuple keys -/
abbrev KT (H : Hp) : List (List Key × V) → List (List Key × Addr × Value) → Prop := Paired fun p q => p.1 = q.1 ∧ H q.2.1 = some (.tup (p.1.map kV)) ∧ RelV p.2 q.2.2
theorem KT.val {H : Hp} {kvs : List (List Key × V)} {xs : List (List Key × Addr × Value)} (r : KT H kvs xs) (k : List Key) : RelO (valV kvs k) ((atKey xs k).map (·.2)) := by
  induction r with
  | nil => exact True.intro
  | @cons p q ps qs h t ih =>
    obtain ⟨h1, _, h2⟩ := h
    by_cases e : p.1 = k
    · have e' : q.1 = k := h1.symm.trans e
      have b : atKey (q :: qs) k = some q.2 := by simp [atKey, List.find?_cons, e']
      rw [valV_pos e, b]; exact h2
    · have e' : ¬ q.1 = k := fun z => e (h1.trans z)
      have b : atKey (q :: qs) k = atKey qs k := by simp [atKey, List.find?_cons, e']
      rw [valV_neg e, b]; exact ih
theorem KT.repl {H : Hp} {kvs : List (List Key × V)} {xs : List (List Key × Addr × Value)} (r : KT H kvs xs) (k : List Key) {y : V} {u : Value} (ry : RelV y u) :
    KT H (kvs.map fun kv => if kv.1 = k then (kv.1, y) else kv) (xs.map (putAt k u)) := by
  induction r with
  | nil => exact .nil
  | @cons p q ps qs h t ih =>
    rw [List.map_cons, List.map_cons]
    refine .cons ?_ ih
    obtain ⟨h1, h2, h3⟩ := h
    unfold putAt
    by_cases e : p.1 = k
    · rw [if_pos e, if_pos (h1.symm.trans e)]; exact ⟨h1, h2, ry⟩
    · rw [if_neg e, if_neg (fun z => e (h1.trans z))]; exact ⟨h1, h2, h3⟩
theorem KT.put {H : Hp} {kvs : List (List Key × V)} {xs : List (List Key × Addr × Value)} (r : KT H kvs xs) (k : List Key) {b : Addr} {y : V} {u : Value} (hb : H b = some (.tup (k.map kV))) (ry : RelV y u) :
    KT H (putK kvs k y) (storedH xs k b u) := by
  have e : (kvs.any fun kv => decide (kv.1 = k)) = (atKey xs k).isSome := by
    rw [valV_any, (r.val k).isSome_eq, Option.isSome_map]
  unfold putK storedH
  rw [e]
  by_cases q : (atKey xs k).isSome = true
  · rw [if_pos q, if_pos q]; exact r.repl k ry
  · rw [if_neg q, if_neg q]; exact Paired.snoc r ⟨rfl, hb, ry⟩
theorem KT.keeps {H H' : Hp} {kvs : List (List Key × V)} {xs : List (List Key × Addr × Value)} (r : KT H kvs xs) (ht : ∀ b ys, H b = some (.tup ys) → H' b = some (.tup ys)) : KT H' kvs xs :=
  Paired.mapP r fun _ _ z => ⟨z.1, ht _ _ z.2.1, z.2.2⟩

section
variable {P : Program} {w : World} {H : Hp} {h : Heap} {a : Addr}
theorem rd_of {u : HO} (ok : HOk P w H h) (e : Rd H a u) : ObjOk P w H h a u := e.ok ok
theorem dk_rd {kvs : List (Key × V)} (ok : HOk P w H h) (e : Rd H a (.dK kvs)) : kvs.length ≤ sizeLine ∧ (a == sysModules) = false ∧ ∃ vs, KV kvs vs ∧ h.DictOf (mixKind P w) a vs :=
  show ObjOk P w H h a (.dK kvs) from rd_of ok e
theorem dk_of {kvs : List (Key × V)} (ok : HOk P w H h) (e : H a = some (.dK kvs)) : kvs.length ≤ sizeLine ∧ (a == sysModules) = false ∧ ∃ vs, KV kvs vs ∧ h.DictOf (mixKind P w) a vs := dk_rd ok (.inl e)
/-- a tracked tuple of ints and texts is a key -/
theorem key_of {ks : List Key} (ok : HOk P w H h) (e : H a = some (.tup (ks.map kV))) : (tupleKind (mixKind P w)).is h ks a := by
  obtain ⟨_, its, r, o, h1, h2, n, h3⟩ := (show ObjOk P w H h a (.tup (ks.map kV)) from ok a _ e)
  exact ⟨o, its.toArray, n, h1, h2, h3, by simpa using items_are r⟩
theorem dt_rd {kvs : List (List Key × V)} (ok : HOk P w H h) (e : Rd H a (.dT kvs)) : kvs.length ≤ sizeLine ∧ (a == sysModules) = false ∧
    ∃ xs, KT H kvs xs ∧ h.DictOfH (tupleKind (mixKind P w)) a xs := by
  obtain ⟨z, y, xs, r, o, es, ep, h1, h2, h3, h4, h5⟩ := (show ObjOk P w H h a (.dT kvs) from rd_of ok e)
  refine ⟨z, y, xs, r, o, es, ep, h1, h2, h3, h4, fun x hx => ?_, h5⟩
  have all : ∀ {l : List (List Key × V)} {m : List (List Key × Addr × Value)}, KT H l m → ∀ x ∈ m, (tupleKind (mixKind P w)).is h x.1 x.2.1 := by
    intro l m q
    induction q with
    | nil => intro x hx; exact nomatch hx
    | @cons p q ps qs hq t ih =>
      intro x hx
      rcases List.mem_cons.mp hx with e | hx
      · subst e
        exact key_of ok (by rw [← hq.1]; exact hq.2.1)
      · exact ih x hx
  exact all r x hx
theorem dt_of {kvs : List (List Key × V)} (ok : HOk P w H h) (e : H a = some (.dT kvs)) : kvs.length ≤ sizeLine ∧ (a == sysModules) = false ∧
    ∃ xs, KT H kvs xs ∧ h.DictOfH (tupleKind (mixKind P w)) a xs := dt_rd ok (.inl e)
end

/-- what the dict at a holds at the key y -/
def DGet (H : Hp) (a : Addr) (y : V) (r : Option V) : Prop :=
  (∃ kvs k, Rd H a (.dK kvs) ∧ y = kV k ∧ r = valV kvs k) ∨ ∃ kvs k b, Rd H a (.dT kvs) ∧ y = .ref b ∧ H b = some (.tup (k.map kV)) ∧ r = valV kvs k
/-- the heap behind a[y] = v -/
def DPut (H : Hp) (a : Addr) (y v : V) (H' : Hp) : Prop :=
  (∃ kvs k, H a = some (.dK kvs) ∧ y = kV k ∧ kvs.length < sizeLine ∧ H' = upd H a (.dK (putK kvs k v))) ∨
  ∃ kvs k b, H a = some (.dT kvs) ∧ y = .ref b ∧ H b = some (.tup (k.map kV)) ∧ kvs.length < sizeLine ∧ H' = upd H a (.dT (putK kvs k v))
theorem DGet.k {H : Hp} {a : Addr} {kvs : List (Key × V)} {k : Key} (e : H a = some (.dK kvs)) : DGet H a (kV k) (valV kvs k) := .inl ⟨kvs, k, .inl e, rfl, rfl⟩
theorem DGet.t {H : Hp} {a b : Addr} {kvs : List (List Key × V)} {k : List Key} (e : H a = some (.dT kvs)) (eb : H b = some (.tup (k.map kV))) : DGet H a (.ref b) (valV kvs k) := .inr ⟨kvs, k, b, .inl e, rfl, eb, rfl⟩
theorem DPut.k {H : Hp} {a : Addr} {kvs : List (Key × V)} {k : Key} {v : V} (e : H a = some (.dK kvs)) (hl : kvs.length < sizeLine) : DPut H a (kV k) v (upd H a (.dK (putK kvs k v))) := .inl ⟨kvs, k, e, rfl, hl, rfl⟩
theorem DPut.t {H : Hp} {a b : Addr} {kvs : List (List Key × V)} {k : List Key} {v : V} (e : H a = some (.dT kvs)) (eb : H b = some (.tup (k.map kV))) (hl : kvs.length < sizeLine) :
    DPut H a (.ref b) v (upd H a (.dT (putK kvs k v))) := .inr ⟨kvs, k, b, e, rfl, eb, hl, rfl⟩


section
variable {X : Cx} {pins : List (Addr × Obj)} {σ : St} {H : Hp} {s : Shared} {a : Addr} {y v : V} {u r : Value} {o : Option V} {A : Around} {E : Value → Shared → Prop}

theorem Inv.big (I : Inv X pins σ H s) : sysModules < s.heap.objs.size := by
  have h : mainGlobals < s.heap.objs.size := (I.mod.glob.keeps I.bk).lt
  exact Nat.lt_trans (by decide) h

/-- d[y], there -/
theorem d_getItem {Q : Value → Shared → Prop} (hu : A.units + 1 < cLine) (I : Inv X pins σ H s) (g : DGet H a y (some v)) (ry : RelV y u) (h : ∀ w' s', Inv X pins σ H s' → RelV v w' → Q w' s') :
    wpAny (model X.prog X.w) A (getItem (.ref a) u) Q E s := by
  rcases g with ⟨kvs, k, e, ey, l⟩ | ⟨kvs, k, b, e, ey, eb, l⟩
  · subst ey
    obtain ⟨z, hd, vs, rel, dd⟩ := dk_rd I.hok e
    obtain ⟨w', hw, rw'⟩ := RelO.some_of (v := v) (o := valueAt vs k) (by rw [l]; exact rel.val k)
    exact wpAny_getItem_of (kV_is ry) dd.mapOf hw (h w' _ (I.tok _) rw')
  · subst ey
    cases (show u = Value.ref b from ry)
    obtain ⟨z, hd, xs, rel, dd⟩ := dt_rd I.hok e
    obtain ⟨w', hw, rw'⟩ := RelO.some_of (v := v) (o := (atKey xs k).map (·.2)) (by rw [l]; exact rel.val k)
    obtain ⟨p, hp, hp2⟩ := Option.map_eq_some_iff.mp hw
    refine wpAny_getItem_heap (tupleKind_room_in1 hu) (key_of I.hok eb) dd hp ?_
    rw [hp2]
    exact h w' _ (I.tok _) rw'
/-- y in d -/
theorem d_in {Q : Value → Shared → Prop} (hu : A.units + 1 < cLine) (I : Inv X pins σ H s) (g : DGet H a y o) (ry : RelV y u) (h : ∀ s', Inv X pins σ H s' → Q (.bool o.isSome) s') :
    wpAny (model X.prog X.w) A (compareOp .In u (.ref a)) Q E s := by
  rcases g with ⟨kvs, k, e, ey, l⟩ | ⟨kvs, k, b, e, ey, eb, l⟩
  · subst ey
    obtain ⟨z, hd, vs, rel, dd⟩ := dk_rd I.hok e
    refine wpAny_in_of (kV_is ry) hd dd.mapOf ?_
    rw [← (rel.val k).isSome_eq, ← l]
    exact h _ (I.tok _)
  · subst ey
    cases (show u = Value.ref b from ry)
    obtain ⟨z, hd, xs, rel, dd⟩ := dt_rd I.hok e
    refine wpAny_in_heap (tupleKind_room_in1 hu) (key_of I.hok eb) hd dd ?_
    have q := (rel.val k).isSome_eq
    rw [Option.isSome_map] at q
    rw [← q, ← l]
    exact h _ (I.tok _)
theorem d_notIn {Q : Value → Shared → Prop} (hu : A.units + 1 < cLine) (I : Inv X pins σ H s) (g : DGet H a y o) (ry : RelV y u) (h : ∀ s', Inv X pins σ H s' → Q (.bool (!o.isSome)) s') :
    wpAny (model X.prog X.w) A (compareOp .NotIn u (.ref a)) Q E s := by
  rcases g with ⟨kvs, k, e, ey, l⟩ | ⟨kvs, k, b, e, ey, eb, l⟩
  · subst ey
    obtain ⟨z, hd, vs, rel, dd⟩ := dk_rd I.hok e
    refine wpAny_notIn_of (kV_is ry) hd dd.mapOf ?_
    rw [← (rel.val k).isSome_eq, ← l]
    exact h _ (I.tok _)
  · subst ey
    cases (show u = Value.ref b from ry)
    obtain ⟨z, hd, xs, rel, dd⟩ := dt_rd I.hok e
    refine wpAny_notIn_heap (tupleKind_room_in1 hu) (key_of I.hok eb) hd dd ?_
    have q := (rel.val k).isSome_eq
    rw [Option.isSome_map] at q
    rw [← q, ← l]
    exact h _ (I.tok _)
/-- a dict's object is replaced -/
theorem d_write {h' : Heap} {t' : Nat} {ob : HO} (I : Inv X pins σ H s) (mu : Mut (H a)) (hs : Heap.SameBut a s.heap h') (he : ∃ q, h'.get? a = some q) (new : ObjOk X.prog X.w (upd H a ob) h' a ob) :
    Inv X pins σ (upd H a ob) { s with heap := h', toks := t' } :=
  I.write (x := a) (e := a) mu (.inl rfl) (fun b q hb z => (hs.2 b hb).trans z) he new
theorem dk_new {P : Program} {w : World} {H' : Hp} {h' : Heap} {kvs : List (Key × V)} {vs : List (Key × Value)} (z : kvs.length ≤ sizeLine) (hd : (a == sysModules) = false) (rel : KV kvs vs) (dd : h'.DictOf (mixKind P w) a vs) :
    ObjOk P w H' h' a (.dK kvs) := ⟨z, hd, vs, rel, dd⟩
/-- d[y] = v -/
theorem d_setItem {H' : Hp} {Q : Unit → Shared → Prop} (hu : A.units + 1 < cLine) (I : Inv X pins σ H s) (g : DPut H a y v H') (ry : RelV y u) (rv : RelV v r) (h : ∀ s', Inv X pins σ H' s' → Q () s') :
    wpAny (model X.prog X.w) A (setItem (.ref a) u r) Q E s := by
  rcases g with ⟨kvs, k, e, ey, l, eH⟩ | ⟨kvs, k, b, e, ey, eb, l, eH⟩
  · subst ey eH
    obtain ⟨z, hd, vs, rel, dd⟩ := dk_of I.hok e
    have hz : vs.length ≤ sizeLine := by rw [← rel.length]; exact z
    have hl : (putK kvs k v).length ≤ sizeLine := by have := length_putK kvs k v; omega
    refine wpAny_setItem_pairs (hsz := hz) (kV_is ry) dd fun h' dd' hs => h _ ?_
    have he : ∃ q, h'.get? a = some q := let ⟨q, _, _, hq, _⟩ := dd'; ⟨q, hq⟩
    exact d_write I (by rw [e]; exact True.intro) hs he (dk_new hl hd (rel.put k rv) dd')
  · subst ey eH
    cases (show u = Value.ref b from ry)
    obtain ⟨z, hd, xs, rel, dd⟩ := dt_of I.hok e
    have hz : xs.length ≤ sizeLine := by rw [← Paired.length rel]; exact z
    have hl : (putK kvs k v).length ≤ sizeLine := by have := length_putK kvs k v; omega
    refine wpAny_setItem_heap (hsz := hz) (tupleKind_room_in1 hu) (key_of I.hok eb) dd fun h' dd' hs => h _ ?_
    obtain ⟨q, es, ep, hq, h2, h3, h4, _, h5⟩ := dd'
    refine d_write I (by rw [e]; exact True.intro) hs ⟨q, hq⟩ ⟨hl, hd, _, (rel.put k eb rv).keeps fun c ys ec => ?_, q, es, ep, hq, h2, h3, h4, h5⟩
    rw [upd_ne (ne_of ec e (fun z => nomatch z))]
    exact ec
end

section
variable {X : Cx} {pins : List (Addr × Obj)} {σ : St} {H : Hp} {s : Shared} {a : Addr} {kvs : List (Key × V)} {k : Key} {u : Value} {A : Around} {E : Value → Shared → Prop}
/-- del d[k] -/
theorem d_delItem {Q : Unit → Shared → Prop} (I : Inv X pins σ H s) (e : H a = some (.dK kvs)) (ry : RelV (kV k) u) (l : (valV kvs k).isSome = true) (h : ∀ s', Inv X pins σ (upd H a (.dK (dropK kvs k))) s' → Q () s') :
    wpAny (model X.prog X.w) A (delItem (.ref a) u) Q E s := by
  obtain ⟨z, hd, vs, rel, dd⟩ := dk_of I.hok e
  refine wpAny_delItem_slot dd.typeIs (by decide) PySem.F.slot_dict_delitem
    (call_meetsIn PySem.F.slot_dict_delitem dd.typeIs PySem.F.entry_dict_delitem (PySem.F.args_dict_delitem_2 _ _) (meets_dict_delitem_pairs (mixKind X.prog X.w) a (kV_is ry)) ⟨vs, dd, by rw [← rel.length]; exact z, by rw [← (rel.val k).isSome_eq]; exact l, fun h' dd' hs => h _ ?_⟩)
  have he : ∃ q, h'.get? a = some q := let ⟨q, _, _, hq, _⟩ := dd'; ⟨q, hq⟩
  exact d_write I (by rw [e]; exact True.intro) hs he (dk_new (Nat.le_trans (dropK_le kvs k) z) hd (rel.drop k) dd')
/-- d.pop(k[, x]), there -/
theorem d_pop {v : V} {more : List Value} {Q : Value → Shared → Prop} (I : Inv X pins σ H s) (e : H a = some (.dK kvs)) (ry : RelV (kV k) u) (l : valV kvs k = some v) (hm : more = [] ∨ ∃ x, more = [x])
    (h : ∀ w' s', Inv X pins σ (upd H a (.dK (dropK kvs k))) s' → RelV v w' → Q w' s') : wpAny (model X.prog X.w) A (call (.builtin "dict.pop") (.ref a :: u :: more)) Q E s := by
  obtain ⟨z, hd, vs, rel, dd⟩ := dk_of I.hok e
  obtain ⟨w', hw, rw'⟩ := RelO.some_of (v := v) (o := valueAt vs k) (by rw [← l]; exact rel.val k)
  have hp : (keyPart u).isSome = true := by
    cases k with
    | inl i => obtain ⟨t, q⟩ := (show ∃ t, u = Value.int i t from ry); subst q; rfl
    | inr x => obtain ⟨t, q⟩ := (show ∃ t, u = Value.str x t from ry); subst q; rfl
  have ha : argsOk "dict.pop" ⟨.ref a :: u :: more, []⟩ := by
    rcases hm with q | ⟨x, q⟩
    · subst q; exact PySem.F.args_dict_pop_2 _ _
    · subst q; exact PySem.F.args_dict_pop_3 _ _ _
  refine call_meetsIn PySem.F.slot_dict_pop dd.typeIs PySem.F.entry_dict_pop ha (meets_dict_pop_there (mixKind X.prog X.w) a (kV_is ry) more hm hp)
    ⟨vs, w', dd, by rw [← rel.length]; exact z, hw, fun h' dd' hs => h w' _ ?_ rw'⟩
  have he : ∃ q, h'.get? a = some q := let ⟨q, _, _, hq, _⟩ := dd'; ⟨q, hq⟩
  exact d_write I (by rw [e]; exact True.intro) hs he (dk_new (Nat.le_trans (dropK_le kvs k) z) hd (rel.drop k) dd')
/-- d.pop(k, x), not there -/
theorem d_popD {r : Value} {Q : Value → Shared → Prop} (I : Inv X pins σ H s) (e : H a = some (.dK kvs)) (ry : RelV (kV k) u) (l : valV kvs k = none) (h : ∀ s', Inv X pins σ H s' → Q r s') :
    wpAny (model X.prog X.w) A (call (.builtin "dict.pop") [.ref a, u, r]) Q E s := by
  obtain ⟨z, hd, vs, rel, dd⟩ := dk_of I.hok e
  have hn : valueAt vs k = none := RelO.none_of (by rw [← l]; exact rel.val k)
  have hp : (keyPart u).isSome = true := by
    cases k with
    | inl i => obtain ⟨t, q⟩ := (show ∃ t, u = Value.int i t from ry); subst q; rfl
    | inr x => obtain ⟨t, q⟩ := (show ∃ t, u = Value.str x t from ry); subst q; rfl
  exact call_meetsIn PySem.F.slot_dict_pop dd.typeIs PySem.F.entry_dict_pop (PySem.F.args_dict_pop_3 _ _ _) (meets_dict_pop_default (mixKind X.prog X.w) a (kV_is ry) hd hp r) ⟨vs, dd, hn, h _ (I.tok _)⟩
/-- d.clear() -/
theorem d_clear {Q : Value → Shared → Prop} (I : Inv X pins σ H s) (e : H a = some (.dK kvs)) (h : ∀ s', Inv X pins σ (upd H a (.dK [])) s' → Q .none s') : wpAny (model X.prog X.w) A (call (.builtin "dict.clear") [.ref a]) Q E s := by
  obtain ⟨z, hd, vs, rel, dd⟩ := dk_of I.hok e
  refine call_meetsIn PySem.F.slot_dict_clear dd.typeIs PySem.F.entry_dict_clear (PySem.F.args_dict_clear_1 _) (meets_dict_clear (mixKind X.prog X.w) a) ⟨vs, dd, by rw [← rel.length]; exact z, fun h' dd' hs => h _ ?_⟩
  have he : ∃ q, h'.get? a = some q := let ⟨q, _, _, hq, _⟩ := dd'; ⟨q, hq⟩
  exact d_write (t' := s.toks) I (by rw [e]; exact True.intro) hs he (dk_new (Nat.zero_le _) hd .nil dd')
/-- len(d) -/
theorem d_len {Q : Value → Shared → Prop} (I : Inv X pins σ H s) (e : Rd H a (.dK kvs)) (h : ∀ t s', Inv X pins σ H s' → Q (.int kvs.length t) s') : wpAny (model X.prog X.w) A (call (.builtin "len") [.ref a]) Q E s := by
  obtain ⟨z, hd, vs, rel, dd⟩ := dk_rd I.hok e
  refine call_len_dict hd dd (by rw [← rel.length]; rw [sizeLine_eq] at z; omega) ?_
  rw [← rel.length]
  exact h _ _ (I.tok _)
/-- if d -/
theorem d_truth {Q : Bool → Shared → Prop} (I : Inv X pins σ H s) (e : Rd H a (.dK kvs)) (h : ∀ s', Inv X pins σ H s' → Q (!kvs.isEmpty) s') : wpAny (model X.prog X.w) A (truthy (.ref a)) Q E s := by
  obtain ⟨z, hd, vs, rel, dd⟩ := dk_rd I.hok e
  refine wpAny_truthy_dict hd dd (by rw [← rel.length]; rw [sizeLine_eq] at z; omega) ?_
  have q : kvs.isEmpty = vs.isEmpty := by cases rel <;> rfl
  rw [← q]
  exact h _ (I.tok _)
end


/-! ### readings and rules -/
/-- the element of a subscription, not a slice -/
def NoSl (i : Expr) : Prop := ∀ ov iv, subscripted i false ov iv = operate [ov, iv] (getItem ov iv)
theorem subD_of {prog : Program} {w : World} {A : Around} {E : Value → Shared → Prop} {s : Shared} {env : Env} {value slice : Expr} {pos : Pos} {T id : String} {Q : Value → Shared → Prop}
    (hl : typeLookup (.type T) "__getitem__" = pure (some (.builtin id))) (hs : NoSl slice)
    (h : wpAny (model prog w) A (eval value env) (fun o s₁ => wpAny (model prog w) A (eval slice env) (fun i s₂ => s₂.TypeIs o T ∧ wpAny (model prog w) A (getItem o i) Q E s₂) E s₁) E s) :
    wpAny (model prog w) A (eval (.Subscript value slice pos) env) Q E s := by
  refine Subscript_ (wpAny_mono h (fun o s₁ h₁ => wpAny_mono h₁ (fun i s₂ h₂ => ?_) fun _ _ x => x) fun _ _ x => x)
  obtain ⟨hT, h₂⟩ := h₂
  unfold subscriptTail
  refine wpAny_bind ?_
  rw [getitemInPython_of_ne hT.not_modules]
  refine wpAny_bind (wpAny_specialOf hT hl ?_)
  have fin : wpAny (model prog w) A (subscripted slice false o i) (fun r s₃ => wpAny (model prog w) A (letTemporaryGo value o r >>= fun _ => pure r) Q E s₃) E s₂ := by
    rw [hs o i]
    exact wpAny_operating (wpAny_mono h₂ (fun r s₃ h₃ => wpAny_bind (wpAny_letTemporaryGo (wpAny_pure h₃))) fun _ _ x => x)
  first
    | exact wpAny_pure (wpAny_bind fin)
    | exact wpAny_bind (wpAny_pure (wpAny_bind fin))
    | exact wpAny_bind fin

theorem dict_typeIs {X : Cx} {pins : List (Addr × Obj)} {σ : St} {H : Hp} {s : Shared} {a : Addr} {y : V} {o : Option V} (I : Inv X pins σ H s) (g : DGet H a y o) : s.TypeIs (.ref a) "dict" := by
  rcases g with ⟨kvs, k, e, _, _⟩ | ⟨kvs, k, b, e, _, _, _⟩
  · obtain ⟨_, _, vs, _, dd⟩ := dk_rd I.hok e
    exact dd.typeIs
  · obtain ⟨_, _, xs, _, dd⟩ := dt_rd I.hok e
    exact dd.typeIs
theorem dict_noDict {X : Cx} {pins : List (Addr × Obj)} {σ : St} {H : Hp} {s : Shared} {a : Addr} {y : V} {o : Option V} (I : Inv X pins σ H s) (g : DGet H a y o) :
    ∀ b, Value.ref a = .ref b → ∃ ob, s.heap.get? b = some ob ∧ ob.dict = none := fun b q => by
  cases q
  rcases g with ⟨kvs, k, e, _, _⟩ | ⟨kvs, k, b, e, _, _, _⟩
  · obtain ⟨_, _, vs, _, ob, _, _, h1, h2, _⟩ := dk_rd I.hok e
    exact ⟨ob, h1, h2.2.1⟩
  · obtain ⟨_, _, xs, _, ob, _, _, h1, h2, _⟩ := dt_rd I.hok e
    exact ⟨ob, h1, h2.2.1⟩

/-- d[y] -/
def tDGet (td ty : TE) : TE := fun σ H Q => td σ H fun x H1 => ty σ H1 fun y H2 => ∃ a v, x = .ref a ∧ DGet H2 a y (some v) ∧ Q v H2
/-- y in d, y not in d -/
def tDIn (ty td : TE) : TE := fun σ H Q => ty σ H fun y H1 => td σ H1 fun x H2 => ∃ a o, x = .ref a ∧ DGet H2 a y o ∧ Q (.bl o.isSome) H2
def tDNotIn (ty td : TE) : TE := fun σ H Q => ty σ H fun y H1 => td σ H1 fun x H2 => ∃ a o, x = .ref a ∧ DGet H2 a y o ∧ Q (.bl (!o.isSome)) H2
/-- d[y] = v -/
def sDPut (td ty tv : TE) : TS := fun D σ H => tv σ H fun v H1 => td σ H1 fun x H2 => ty σ H2 fun y H3 => ∃ a H4, x = .ref a ∧ DPut H3 a y v H4 ∧ D.nx σ H4
/-- d[y] op= v -/
def sDAug (td ty tv : TE) (rd : V → V → Hp → VK → Prop) : TS := fun D σ H => td σ H fun x H1 => ty σ H1 fun y H2 => ∃ a v, x = .ref a ∧ DGet H2 a y (some v) ∧
  tv σ H2 fun y2 H3 => rd v y2 H3 fun z H4 => ∃ H5, DPut H4 a y z H5 ∧ D.nx σ H5
/-- del d[y] -/
def sDDel (td ty : TE) : TS := fun D σ H => td σ H fun x H1 => ty σ H1 fun y H2 => ∃ a kvs k, x = .ref a ∧ H2 a = some (.dK kvs) ∧ y = kV k ∧ (valV kvs k).isSome = true ∧ D.nx σ (upd H2 a (.dK (dropK kvs k)))

section
variable {X : Cx} {o i e value : Expr} {pos pos' tpos : Pos} {td ty tv : TE}
theorem pe_dget (hu : X.A.units + 1 < cLine) (ho : PE X o td) (hi : PE X i ty) (hs : NoSl i) : PE X (.Subscript o i pos) (tDGet td ty) := by
  intro pins s σ H Q I h
  refine subD_of PySem.F.slot_dict_getitem.lookup hs (thn (ho pins s σ H _ I h) fun u s1 ⟨x, H1, I1, rx, q1⟩ => thn (hi pins s1 σ H1 _ I1 q1) fun iv s2 ⟨y, H2, I2, ry, a, v, ex, g, q2⟩ => ?_)
  subst ex
  obtain rfl : u = Value.ref a := rx
  exact ⟨dict_typeIs I2 g, d_getItem hu I2 g ry fun w' s3 I3 rw' => ⟨v, H2, I3, rw', q2⟩⟩
theorem pc_din (hu : X.A.units + 1 < cLine) (hi : PE X i ty) (ho : PE X o td) : PC X .In i o (tDIn ty td) := by
  intro pins s σ H Q I h
  refine thn (hi pins s σ H _ I h) fun iv s1 ⟨y, H1, I1, ry, q1⟩ => thn (ho pins s1 σ H1 _ I1 q1) fun u s2 ⟨x, H2, I2, rx, a, ov, ex, g, q2⟩ => ?_
  subst ex
  obtain rfl : u = Value.ref a := rx
  exact d_in hu I2 g ry fun s3 I3 => ⟨.bl ov.isSome, H2, I3, rfl, q2⟩
theorem pc_dnotin (hu : X.A.units + 1 < cLine) (hi : PE X i ty) (ho : PE X o td) : PC X .NotIn i o (tDNotIn ty td) := by
  intro pins s σ H Q I h
  refine thn (hi pins s σ H _ I h) fun iv s1 ⟨y, H1, I1, ry, q1⟩ => thn (ho pins s1 σ H1 _ I1 q1) fun u s2 ⟨x, H2, I2, rx, a, ov, ex, g, q2⟩ => ?_
  subst ex
  obtain rfl : u = Value.ref a := rx
  exact d_notIn hu I2 g ry fun s3 I3 => ⟨.bl (!ov.isSome), H2, I3, rfl, q2⟩
theorem ps_dput (hu : X.A.units + 1 < cLine) (ho : PE X o td) (hi : PE X i ty) (hv : PE X value tv) (hs : swapsWith value (some (.Subscript o i pos')) pos.line X.env = pure false) :
    PS X (.Assign [.Subscript o i pos'] value pos) (sDPut td ty tv) := by
  intro pins s σ H D I h
  refine wpAny_Assign_Subscript (thn (hv pins s σ H _ I h) fun r s1 ⟨v, H1, I1, rv, q1⟩ => thn (ho pins s1 σ H1 _ I1 q1) fun u s2 ⟨x, H2, I2, rx, q2⟩ => thn (hi pins s2 σ H2 _ I2 q2) fun iv s3 ⟨y, H3, I3, ry, a, H4, ex, g, q3⟩ => ?_) hs
  subst ex
  obtain rfl : u = Value.ref a := rx
  exact d_setItem hu I3 g ry rv fun s4 I4 => ⟨σ, H4, I4, q3⟩
theorem ps_daug {op : Operator} {rd : V → V → Hp → VK → Prop} (hu : X.A.units + 1 < cLine) (ho : PE X o td) (hi : PE X i ty) (hv : PE X value tv) (hop : InOp X op rd)
    (ha : ∀ ov iv new, augStore i ov iv new = (do holding [new, ov, iv] (setItem ov iv new); release [new, ov, iv] []; pure .next)) : PS X (.AugAssign (.Subscript o i tpos) op value pos) (sDAug td ty tv rd) := by
  intro pins s σ H D I h
  refine wpAny_AugAssign_SubscriptAny (thn (ho pins s σ H _ I h) fun u s1 ⟨x, H1, I1, rx, q1⟩ => thn (hi pins s1 σ H1 _ I1 q1) fun iv s2 ⟨y, H2, I2, ry, a, v, ex, g, q2⟩ => ?_) ha
  subst ex
  obtain rfl : u = Value.ref a := rx
  refine d_getItem hu I2 g ry fun w' s3 I3 rw' => thn (hv pins s3 σ H2 _ I3 q2) fun w2 s4 ⟨y2, H3, I4, ry2, q3⟩ => thn (hop pins s4 σ H3 v y2 w' w2 _ I4 rw' ry2 q3) fun w3 s5 ⟨z, H4, I5, rz, H5, g5, q4⟩ => ?_
  exact d_setItem hu I5 g5 ry rz fun s6 I6 => ⟨σ, H5, I6, q4⟩
theorem ps_ddel (ho : PE X o td) (hi : PE X i ty) : PS X (.Delete [.Subscript o i tpos] pos) (sDDel td ty) := by
  intro pins s σ H D I h
  refine wpAny_Delete (wpAny_deleteEach_cons (wpAny_delete_Subscript (thn (ho pins s σ H _ I h) fun u s1 ⟨x, H1, I1, rx, q1⟩ => thn (hi pins s1 σ H1 _ I1 q1) fun iv s2 ⟨y, H2, I2, ry, a, kvs, k, ex, e, ey, l, q2⟩ => ?_)))
  subst ex ey
  obtain rfl : u = Value.ref a := rx
  exact d_delItem I2 e ry l fun s3 I3 => wpAny_deleteEach_nil ⟨σ, _, I3, q2⟩
end


/-! ### displays -/
theorem dk_empty {P : Program} {w : World} {H : Hp} (h : Heap) (hb : sysModules < h.objs.size) : ObjOk P w H (h.push { cls := .type "dict", data := .dict #[] }) h.objs.size (.dK []) :=
  ⟨Nat.zero_le _, beq_eq_false_iff_ne.mpr (Ne.symm (Nat.ne_of_lt hb)), [], .nil, Heap.DictOf.new h⟩
theorem dt_empty {P : Program} {w : World} {H : Hp} (h : Heap) (hb : sysModules < h.objs.size) : ObjOk P w H (h.push { cls := .type "dict", data := .dict #[] }) h.objs.size (.dT []) :=
  ⟨Nat.zero_le _, beq_eq_false_iff_ne.mpr (Ne.symm (Nat.ne_of_lt hb)), [], .nil, _, #[], 0, Heap.get?_push_size _ rfl, ⟨rfl, rfl, rfl⟩, rfl, rfl, List.nodup_nil⟩
/-- {}, to be a dict of the kind that is wanted -/
def tDNewK : TE := fun _ H Q => ∀ p, H p = none → Q (.ref p) (upd H p (.dK []))
def tDNewT : TE := fun _ H Q => ∀ p, H p = none → Q (.ref p) (upd H p (.dT []))
section
variable {X : Cx} {pos : Pos}
theorem pe_dnewK : PE X (.Dict [] [] pos) tDNewK := fun pins s σ H Q I h =>
  wpAny_Dict_empty ⟨.ref s.heap.objs.size, _, I.laid (a := s.heap.objs.size) (o := .dK []) (t' := s.toks) (fun _ _ q => Heap.get?_push_of_some _ q) (Nat.le_refl _) (dk_empty s.heap I.big), rfl, h _ (I.hok.fresh (Nat.le_refl _))⟩
theorem pe_dnewT : PE X (.Dict [] [] pos) tDNewT := fun pins s σ H Q I h =>
  wpAny_Dict_empty ⟨.ref s.heap.objs.size, _, I.laid (a := s.heap.objs.size) (o := .dT []) (t' := s.toks) (fun _ _ q => Heap.get?_push_of_some _ q) (Nat.le_refl _) (dt_empty s.heap I.big), rfl, h _ (I.hok.fresh (Nat.le_refl _))⟩
end

/-- the pairs of a display, from the left -/
def tPairs : List (TE × TE) → St → Hp → (List (V × V) → Hp → Prop) → Prop
  | [], _, H, Q => Q [] H
  | (tk, tv) :: r, σ, H, Q => tk σ H fun x H1 => tv σ H1 fun y H2 => tPairs r σ H2 fun ps H3 => Q ((x, y) :: ps) H3
abbrev VV : List (V × V) → List (Value × Value) → Prop := Paired fun p q => RelV p.1 q.1 ∧ RelV p.2 q.2
def PPs (X : Cx) (pos : Pos) (keys : List (Option Expr)) (values : List Expr) (trs : List (TE × TE)) : Prop :=
  ∀ (pins : List (Addr × Obj)) (s : Shared) (σ : St) (H : Hp) (Q : List (V × V) → Hp → Prop), Inv X pins σ H s → tPairs trs σ H Q →
    wpAny (model X.prog X.w) X.A (evalPairs (pairTrees keys values X.env pos)) (fun vs s' => ∃ ps H', Inv X pins σ H' s' ∧ VV ps vs ∧ Q ps H') X.xe s
theorem pps_nil {X : Cx} {pos : Pos} : PPs X pos [] [] [] := fun pins s σ H Q I h => pairTrees_nil_walk ⟨[], H, I, .nil, h⟩
theorem pps_cons {X : Cx} {pos : Pos} {k v : Expr} {ks : List (Option Expr)} {vs : List Expr} {tk tv : TE} {trs : List (TE × TE)} (hk : PE X k tk) (hv : PE X v tv) (hr : PPs X pos ks vs trs) :
    PPs X pos (some k :: ks) (v :: vs) ((tk, tv) :: trs) := fun pins s σ H Q I h =>
  pairTrees_cons_walk (thn (hk pins s σ H _ I h) fun u s1 ⟨x, H1, I1, rx, q1⟩ => thn (hv pins s1 σ H1 _ I1 q1) fun w2 s2 ⟨y, H2, I2, ry, q2⟩ =>
    thn (hr pins s2 σ H2 _ I2 q2) fun ws s3 ⟨ps, H3, I3, rel, q3⟩ => ⟨(x, y) :: ps, H3, I3, .cons ⟨rx, ry⟩ rel, q3⟩)

def mergeK (kvs more : List (Key × V)) : List (Key × V) := more.foldl (fun acc kv => putK acc kv.1 kv.2) kvs
theorem KV.merge : ∀ {more : List (Key × V)} {rs : List (Key × Value)} {kvs : List (Key × V)} {vs : List (Key × Value)}, KV more rs → KV kvs vs → KV (mergeK kvs more) (merged vs rs) := by
  intro more rs kvs vs r
  unfold KV at r
  induction r generalizing kvs vs with
  | nil => intro q; exact q
  | @cons p q ps qs h t ih =>
    intro r0
    have e : KV (putK kvs p.1 p.2) (stored vs q.1 q.2) := by
      have := r0.put p.1 h.2
      rw [← h.1]; exact this
    exact ih e
theorem length_mergeK : ∀ (more kvs : List (Key × V)), (mergeK kvs more).length ≤ kvs.length + more.length
  | [], kvs => by show kvs.length ≤ kvs.length + 0; omega
  | p :: r, kvs => by
    have h1 := length_mergeK r (putK kvs p.1 p.2)
    have h2 := length_putK kvs p.1 p.2
    show (mergeK (putK kvs p.1 p.2) r).length ≤ _
    rw [List.length_cons]; omega
theorem carries_of {P : Program} {w : World} : ∀ {kvs : List (Key × V)} {ws : List (Value × Value)}, VV (kvs.map fun kv => (kV kv.1, kv.2)) ws → ∃ rs, Carries (mixKind P w) ws rs ∧ KV kvs rs
  | [], _, r => by rw [List.map_nil] at r; cases r; exact ⟨[], True.intro, .nil⟩
  | p :: kvs, _, r => by
    rw [List.map_cons] at r
    cases r with
    | @cons a b as bs h t =>
      obtain ⟨rs, c, q⟩ := carries_of (P := P) (w := w) t
      obtain ⟨b1, b2⟩ := b
      exact ⟨(p.1, b2) :: rs, ⟨kV_is h.1, rfl, c⟩, .cons ⟨rfl, h.2⟩ q⟩
/-- {k: v, ..} with keys ints and texts; the new dict stands empty while the pairs are made -/
def tDisp (trs : List (TE × TE)) : TE := fun σ H Q => ∀ p, H p = none → tPairs trs σ (upd H p (.dK [])) fun ps H2 => H2 p = some (.dK []) ∧ ∃ kvs : List (Key × V), ps = kvs.map (fun kv => (kV kv.1, kv.2)) ∧ kvs.length ≤ 15 ∧ Q (.ref p) (upd H2 p (.dK (mergeK [] kvs)))
theorem pe_disp {X : Cx} {pos : Pos} {keys : List (Option Expr)} {values : List Expr} {trs : List (TE × TE)} (h : PPs X pos keys values trs) (hall : keys.all (·.isSome) = true) (hl : keys.length = values.length) (h0 : keys ≠ [])
    (h15 : keys.length ≤ 15) : PE X (.Dict keys values pos) (tDisp trs) := by
  intro pins s σ H Q I q
  have hn := I.hok.fresh (Nat.le_refl s.heap.objs.size)
  have I1 := I.laid (a := s.heap.objs.size) (o := .dK []) (h' := s.heap.push { cls := .type "dict", data := .dict #[] }) (t' := s.toks) (fun _ _ q => Heap.get?_push_of_some _ q) (Nat.le_refl _) (dk_empty s.heap I.big)
  refine wpAny_Dict_walk (knd := mixKind X.prog X.w) hall hl h0 h15 (thn (h pins _ σ _ _ I1 (q _ hn)) fun ws s2 ⟨ps, H2, I2, rel, e, kvs, ep, lk, q2⟩ => ?_)
  subst ep
  obtain ⟨rs, c, rk⟩ := carries_of (P := X.prog) (w := X.w) rel
  obtain ⟨z, hd, vs0, r0, dd⟩ := dk_of I2.hok e
  cases r0
  refine ⟨rs, c, dd, fun h' dd' hs => ⟨.ref s.heap.objs.size, _, ?_, rfl, q2⟩⟩
  have hz : (mergeK [] kvs).length ≤ sizeLine := by
    have h1 := length_mergeK kvs []
    rw [List.length_nil] at h1
    rw [sizeLine_eq]; omega
  have he : ∃ q, h'.get? s.heap.objs.size = some q := let ⟨q, _, _, hq, _⟩ := dd'; ⟨q, hq⟩
  exact d_write I2 (by rw [e]; exact True.intro) hs he (dk_new hz hd (rk.merge .nil) dd')


/-! ### methods -/
/-- a method call o.m(e) of a built-in, with one argument: what must be seen of the text -/
structure M1 (X : Cx) (o : Expr) (m : Str) (apos : Pos) (e : Expr) (cpos : Pos) : Prop where
  base : attributeBase o m X.env (eval o X.env) = eval o X.env
  few : ((backTo cpos (starEach [e] X.env)).all (fun x => !x.1) && (backToKw cpos (keywordEach [] X.env)).all (fun x => x.1.isSome)
    && decide (([e] : List Expr).length + ([] : List Keyword).length + (if ([] : List Keyword).isEmpty then 0 else 1) < 30)) = true
  line : (apos.endLine == cpos.line) = true
  trees : backTo cpos (starEach [e] X.env) = [(false, eval e X.env)]
structure M2 (X : Cx) (o : Expr) (m : Str) (apos : Pos) (e f : Expr) (cpos : Pos) : Prop where
  base : attributeBase o m X.env (eval o X.env) = eval o X.env
  few : ((backTo cpos (starEach [e, f] X.env)).all (fun x => !x.1) && (backToKw cpos (keywordEach [] X.env)).all (fun x => x.1.isSome)
    && decide (([e, f] : List Expr).length + ([] : List Keyword).length + (if ([] : List Keyword).isEmpty then 0 else 1) < 30)) = true
  line : (apos.endLine == cpos.line) = true
  trees : backTo cpos (starEach [e, f] X.env) = [(false, eval e X.env), (false, eval f X.env)]

/-- a is a dict, whatever its keys -/
def IsD (H : Hp) (a : Addr) : Prop := (∃ kvs, Rd H a (.dK kvs)) ∨ ∃ kvs, Rd H a (.dT kvs)
theorem isD_at {X : Cx} {pins : List (Addr × Obj)} {σ : St} {H : Hp} {s : Shared} {a : Addr} (I : Inv X pins σ H s) (d : IsD H a) :
    s.TypeIs (.ref a) "dict" ∧ (∀ b, Value.ref a = .ref b → ∃ ob, s.heap.get? b = some ob ∧ ob.dict = none) ∧ (a == sysModules) = false := by
  rcases d with ⟨kvs, e⟩ | ⟨kvs, e⟩
  · obtain ⟨_, hd, vs, _, dd⟩ := dk_rd I.hok e
    refine ⟨dd.typeIs, fun b q => ?_, hd⟩
    cases q
    obtain ⟨ob, _, _, h1, h2, _⟩ := dd
    exact ⟨ob, h1, h2.2.1⟩
  · obtain ⟨_, hd, xs, _, dd⟩ := dt_rd I.hok e
    refine ⟨dd.typeIs, fun b q => ?_, hd⟩
    cases q
    obtain ⟨ob, _, _, h1, h2, _⟩ := dd
    exact ⟨ob, h1, h2.2.1⟩

section
variable {X : Cx} {pins : List (Addr × Obj)} {σ : St} {H : Hp} {s : Shared} {a : Addr} {y d : V} {u r : Value} {o : Option V} {A : Around} {E : Value → Shared → Prop}
/-- d.get(y) -/
theorem d_get1 {Q : Value → Shared → Prop} (hu : A.units + 1 < cLine) (I : Inv X pins σ H s) (g : DGet H a y o) (ry : RelV y u) (h : ∀ w' s', Inv X pins σ H s' → RelV (o.getD .non) w' → Q w' s') :
    wpAny (model X.prog X.w) A (call (.builtin "dict.get") [.ref a, u]) Q E s := by
  rcases g with ⟨kvs, k, e, ey, l⟩ | ⟨kvs, k, b, e, ey, eb, l⟩
  · subst ey
    obtain ⟨z, hd, vs, rel, dd⟩ := dk_rd I.hok e
    refine call_meetsIn PySem.F.slot_dict_get dd.typeIs PySem.F.entry_dict_get (PySem.F.args_dict_get_2 _ _) (meets_dict_get (mixKind X.prog X.w) a (kV_is ry) hd) ⟨_, dd.mapOf, h _ _ (I.tok _) ?_⟩
    rw [l]
    exact (rel.val k).getD rfl
  · subst ey
    cases (show u = Value.ref b from ry)
    obtain ⟨z, hd, xs, rel, dd⟩ := dt_rd I.hok e
    refine call_meetsIn PySem.F.slot_dict_get dd.typeIs PySem.F.entry_dict_get (PySem.F.args_dict_get_2 _ _) (meetsH_dict_get (tupleKind (mixKind X.prog X.w)) a b hd) ⟨tupleKind_room_in1 hu, k, xs, key_of I.hok eb, dd, h _ _ (I.tok _) ?_⟩
    rw [l]
    exact (rel.val k).getD rfl
/-- d.get(y, x) -/
theorem d_get2 {Q : Value → Shared → Prop} (hu : A.units + 1 < cLine) (I : Inv X pins σ H s) (g : DGet H a y o) (ry : RelV y u) (rd : RelV d r) (h : ∀ w' s', Inv X pins σ H s' → RelV (o.getD d) w' → Q w' s') :
    wpAny (model X.prog X.w) A (call (.builtin "dict.get") [.ref a, u, r]) Q E s := by
  rcases g with ⟨kvs, k, e, ey, l⟩ | ⟨kvs, k, b, e, ey, eb, l⟩
  · subst ey
    obtain ⟨z, hd, vs, rel, dd⟩ := dk_rd I.hok e
    refine call_meetsIn PySem.F.slot_dict_get dd.typeIs PySem.F.entry_dict_get (PySem.F.args_dict_get_3 _ _ _) (meets_dict_get_default (mixKind X.prog X.w) a (kV_is ry) hd r) ⟨_, dd.mapOf, h _ _ (I.tok _) ?_⟩
    rw [l]
    exact (rel.val k).getD rd
  · subst ey
    cases (show u = Value.ref b from ry)
    obtain ⟨z, hd, xs, rel, dd⟩ := dt_rd I.hok e
    refine call_meetsIn PySem.F.slot_dict_get dd.typeIs PySem.F.entry_dict_get (PySem.F.args_dict_get_3 _ _ _) (meetsH_dict_get_default (tupleKind (mixKind X.prog X.w)) a b hd r) ⟨tupleKind_room_in1 hu, k, xs, key_of I.hok eb, dd, h _ _ (I.tok _) ?_⟩
    rw [l]
    exact (rel.val k).getD rd
end

def tDGet1 (td ty : TE) : TE := fun σ H Q => td σ H fun x H1 => ∃ a, x = .ref a ∧ IsD H1 a ∧ ty σ H1 fun y H2 => ∃ o, DGet H2 a y o ∧ Q (o.getD .non) H2
def tDGet2 (td ty tx : TE) : TE := fun σ H Q => td σ H fun x H1 => ∃ a, x = .ref a ∧ IsD H1 a ∧ ty σ H1 fun y H2 => tx σ H2 fun z H3 => ∃ o, DGet H3 a y o ∧ Q (o.getD z) H3
/-- d.pop(k): there; d.pop(k, x): there or not -/
def tDPop1 (td ty : TE) : TE := fun σ H Q => td σ H fun x H1 => ∃ a, x = .ref a ∧ IsD H1 a ∧ ty σ H1 fun y H2 => ∃ kvs k v, H2 a = some (.dK kvs) ∧ y = kV k ∧ valV kvs k = some v ∧ Q v (upd H2 a (.dK (dropK kvs k)))
def tDPop2 (td ty tx : TE) : TE := fun σ H Q => td σ H fun x H1 => ∃ a, x = .ref a ∧ IsD H1 a ∧ ty σ H1 fun y H2 => tx σ H2 fun z H3 => ∃ kvs k, H3 a = some (.dK kvs) ∧ y = kV k ∧
  (∀ v, valV kvs k = some v → Q v (upd H3 a (.dK (dropK kvs k)))) ∧ (valV kvs k = none → Q z H3)
section
variable {X : Cx} {o e f : Expr} {apos cpos : Pos} {td ty tx : TE}
theorem pe_dget1 (hu : X.A.units + 1 < cLine) (ho : PE X o td) (he : PE X e ty) (m : M1 X o "get" apos e cpos) : PE X (.Call (.Attribute o "get" apos) [e] [] cpos) (tDGet1 td ty) := by
  intro pins s σ H Q I h
  refine wpAny_Call_method m.base m.few m.line PySem.F.plainAttrs_dict PySem.F.slot_dict_get PySem.F.type_dict_get (thn (ho pins s σ H _ I h) fun u s1 ⟨x, H1, I1, rx, a, ex, d, q1⟩ => ?_)
  subst ex
  obtain rfl : u = Value.ref a := rx
  obtain ⟨t1, t2, _⟩ := isD_at I1 d
  refine ⟨t1, t2, ?_⟩
  rw [m.trees]
  refine Calls.callWith_builtin rfl (Calls.evalArgs_plain (Calls.spliced_cons (thn (he pins s1 σ H1 _ I1 q1) fun iv s2 ⟨y, H2, I2, ry, ov, g, q2⟩ => Calls.spliced_nil ?_)))
  exact d_get1 hu I2 g ry fun w' s3 I3 rw' => ⟨_, H2, I3, rw', q2⟩
theorem pe_dget2 (hu : X.A.units + 1 < cLine) (ho : PE X o td) (he : PE X e ty) (hf : PE X f tx) (m : M2 X o "get" apos e f cpos) : PE X (.Call (.Attribute o "get" apos) [e, f] [] cpos) (tDGet2 td ty tx) := by
  intro pins s σ H Q I h
  refine wpAny_Call_method m.base m.few m.line PySem.F.plainAttrs_dict PySem.F.slot_dict_get PySem.F.type_dict_get (thn (ho pins s σ H _ I h) fun u s1 ⟨x, H1, I1, rx, a, ex, d, q1⟩ => ?_)
  subst ex
  obtain rfl : u = Value.ref a := rx
  obtain ⟨t1, t2, _⟩ := isD_at I1 d
  refine ⟨t1, t2, ?_⟩
  rw [m.trees]
  refine Calls.callWith_builtin rfl (Calls.evalArgs_plain (Calls.spliced_cons (thn (he pins s1 σ H1 _ I1 q1) fun iv s2 ⟨y, H2, I2, ry, q2⟩ =>
    Calls.spliced_cons (thn (hf pins s2 σ H2 _ I2 q2) fun fv s3 ⟨z, H3, I3, rz, ov, g, q3⟩ => Calls.spliced_nil ?_))))
  exact d_get2 hu I3 g ry rz fun w' s4 I4 rw' => ⟨_, H3, I4, rw', q3⟩
theorem pe_dpop1 (ho : PE X o td) (he : PE X e ty) (m : M1 X o "pop" apos e cpos) : PE X (.Call (.Attribute o "pop" apos) [e] [] cpos) (tDPop1 td ty) := by
  intro pins s σ H Q I h
  refine wpAny_Call_method m.base m.few m.line PySem.F.plainAttrs_dict PySem.F.slot_dict_pop PySem.F.type_dict_pop (thn (ho pins s σ H _ I h) fun u s1 ⟨x, H1, I1, rx, a, ex, d, q1⟩ => ?_)
  subst ex
  obtain rfl : u = Value.ref a := rx
  obtain ⟨t1, t2, _⟩ := isD_at I1 d
  refine ⟨t1, t2, ?_⟩
  rw [m.trees]
  refine Calls.callWith_builtin rfl (Calls.evalArgs_plain (Calls.spliced_cons (thn (he pins s1 σ H1 _ I1 q1) fun iv s2 ⟨y, H2, I2, ry, kvs, k, v, ea, ey, l, q2⟩ => Calls.spliced_nil ?_)))
  subst ey
  exact d_pop I2 ea ry l (.inl rfl) fun w' s3 I3 rw' => ⟨v, _, I3, rw', q2⟩
theorem pe_dpop2 (ho : PE X o td) (he : PE X e ty) (hf : PE X f tx) (m : M2 X o "pop" apos e f cpos) : PE X (.Call (.Attribute o "pop" apos) [e, f] [] cpos) (tDPop2 td ty tx) := by
  intro pins s σ H Q I h
  refine wpAny_Call_method m.base m.few m.line PySem.F.plainAttrs_dict PySem.F.slot_dict_pop PySem.F.type_dict_pop (thn (ho pins s σ H _ I h) fun u s1 ⟨x, H1, I1, rx, a, ex, d, q1⟩ => ?_)
  subst ex
  obtain rfl : u = Value.ref a := rx
  obtain ⟨t1, t2, _⟩ := isD_at I1 d
  refine ⟨t1, t2, ?_⟩
  rw [m.trees]
  refine Calls.callWith_builtin rfl (Calls.evalArgs_plain (Calls.spliced_cons (thn (he pins s1 σ H1 _ I1 q1) fun iv s2 ⟨y, H2, I2, ry, q2⟩ =>
    Calls.spliced_cons (thn (hf pins s2 σ H2 _ I2 q2) fun fv s3 ⟨z, H3, I3, rz, kvs, k, ea, ey, q3, q4⟩ => Calls.spliced_nil ?_))))
  subst ey
  cases l : valV kvs k with
  | some v => exact d_pop I3 ea ry l (.inr ⟨fv, rfl⟩) fun w' s4 I4 rw' => ⟨v, _, I4, rw', q3 v l⟩
  | none => exact d_popD I3 ea ry l fun s4 I4 => ⟨z, H3, I4, rz, q4 l⟩
end

/-! ### dict(d): a copy -/
section
variable {X : Cx} {pins : List (Addr × Obj)} {σ : St} {H : Hp} {s : Shared} {a : Addr} {kvs : List (Key × V)} {A : Around} {E : Value → Shared → Prop}
theorem d_copyOf {Q : Value → Shared → Prop} (I : Inv X pins σ H s) (e : Rd H a (.dK kvs)) (h : ∀ p s', H p = none → Inv X pins σ (upd H p (.dK kvs)) s' → Q (.ref p) s') : wpAny (model X.prog X.w) A (call (.type "dict") [.ref a]) Q E s := by
  obtain ⟨z, hd, vs, rel, dd⟩ := dk_rd I.hok e
  refine kt_call_dict hd dd (by rw [← rel.length]; exact z) fun h' dd' hs => ?_
  refine h _ _ (I.hok.fresh (Nat.le_refl _)) (I.laid (a := s.heap.objs.size) (o := .dK kvs) (t' := s.toks) (fun b q hq => ?_) (Nat.le_refl _) (dk_new z (beq_eq_false_iff_ne.mpr (Ne.symm (Nat.ne_of_lt I.big))) rel dd'))
  exact (hs.2 b (Nat.ne_of_lt (Heap.lt_size hq))).trans (Heap.get?_push_of_some _ hq)
end


section
variable {X : Cx} {pins : List (Addr × Obj)} {σ : St} {H : Hp} {s : Shared} {a : Addr} {y : V} {u : Value} {A : Around} {E : Value → Shared → Prop}
/-- d[y], not there: a KeyError -/
theorem d_missing {Q : Value → Shared → Prop} (hu : A.units + 1 < cLine) (hh : A.handled = none) (I : Inv X pins σ H s) (g : DGet H a y none) (ry : RelV y u)
    (h : ∀ h' e t', Heap.NewExc s.heap h' e "KeyError" → E (.ref e) { s with heap := h', toks := t' }) : wpAny (model X.prog X.w) A (getItem (.ref a) u) Q E s := by
  rcases g with ⟨kvs, k, e, ey, l⟩ | ⟨kvs, k, b, e, ey, eb, l⟩
  · subst ey
    obtain ⟨z, hd, vs, rel, dd⟩ := dk_rd I.hok e
    have hn : valueAt vs k = none := RelO.none_of (by rw [l]; exact rel.val k)
    exact wpAny_getItem_missing_of (kV_is ry) hd hh dd.mapOf hn fun h' ex ne => h h' ex _ ne
  · subst ey
    cases (show u = Value.ref b from ry)
    obtain ⟨z, hd, xs, rel, dd⟩ := dt_rd I.hok e
    have hn : (atKey xs k).map (·.2) = none := RelO.none_of (by rw [l]; exact rel.val k)
    exact wpAny_getItem_missing_heap (tupleKind_room_in1 hu) (key_of I.hok eb) hd hh dd (Option.map_eq_none_iff.mp hn) fun h' ex ne => h h' ex _ ne
end
end L2
namespace L2
open PySem PySem.Spec PyProof.Rows
theorem f_lk_keys : typeLookup (.type "list") "keys" = pure none := by rw [typeLookup_type, builtinLookup_eq_fast]; kernel_rfl
theorem f_lk_hook : typeLookup (.type "list") "__getattr__" = pure none := by rw [typeLookup_type, builtinLookup_eq_fast]; kernel_rfl
theorem f_sub_ae : isSubtype (.type "AttributeError") (.type "AttributeError") = pure true := by rw [isSubtype_type]; kernel_rfl
theorem f_ae_own (args : List Value) : ownMembersOf (.type "AttributeError") args = #[unsetMember, unsetMember] := rfl
theorem f_ae_first : ((Manifest.find? "AttributeError").elim false fun t => t.mro.contains "StopIteration" || t.mro.contains "SystemExit") = false := by decide +kernel
section
variable {prog : Program} {w : World} {A : Around} {E : Value → Shared → Prop} {h : Heap} {g : Array GenState} {d : Drawn} {t : Nat} {os : OsState} {a : Addr} {its : Array Value} {n : Nat}
/-- a list has no keys -/
theorem nk_entry {tk : Tok} {Q : Fin → Shared → Prop} (hx : h.get? a = some { cls := .type "list", dict := none, data := .seq its n, slots := #[] }) (hh : A.handled = none)
    (he : ∀ h' t' e, (∀ b o', h.get? b = some o' → h'.get? b = some o') → (⟨h', g, d, t', os⟩ : Shared).TypeIs (.ref e) "AttributeError" → E (.ref e) ⟨h', g, d, t', os⟩) :
    wpAny (model prog w) A (Builtin.«object.__getattribute__» ⟨[.ref a, .str "keys" tk], []⟩) Q E ⟨h, g, d, t, os⟩ := by
  have hT : (⟨h, g, d, t, os⟩ : Shared).TypeIs (.ref a) "list" := ⟨_, hx, rfl⟩
  have f4 := f_lk_keys
  have f5 := f_sub_ae
  repeat (any_goals (first | assumption | wp_step))
  unfold raiseAttrError
  refine wpAny_bind (wpAny_mkStr (wpAny_bind ?_) (by decide +kernel))
  unfold newExc newTuple
  refine wpAny_bind (wpAny_newObj_type ?_)
  refine wpAny_bind (m := firstArgMember _ _) (wpAny_of_eq (a := Value.none) (by simp only [firstArgMember, f_ae_first]; rfl) ?_)
  rw [f_ae_own]
  refine wpAny_newObj_type ?_
  refine wpAny_bind (wpAny_mkText ?_)
  refine wpAny_bind ?_
  unfold noteAttr lacksNameAndObj
  repeat (any_goals (first | assumption | wp_step))
  unfold raiseNew
  refine wpAny_bind (wpAny_handled ?_)
  rw [hh]
  refine wpAny_bind (wpAny_pure (wpAny_throw ?_))
  dsimp only
  refine he _ _ _ (fun b o' hb => ?_) ?_
  · rw [(Heap.SameBut.update ..).2 b (Nat.ne_of_lt ?_)]
    · exact Heap.get?_push_of_some _ (Heap.get?_push_of_some _ hb)
    · rw [Heap.size_push]
      exact Nat.lt_succ_of_lt (Heap.lt_size hb)
  · refine ⟨_, Heap.get?_update_self _ (Heap.get?_push_size _ rfl) rfl, rfl⟩
theorem nk_call {tk : Tok} {R : Result → Shared → Prop} (hx : h.get? a = some { cls := .type "list", dict := none, data := .seq its n, slots := #[] }) (hh : A.handled = none)
    (he : ∀ h' t' e, (∀ b o', h.get? b = some o' → h'.get? b = some o') → (⟨h', g, d, t', os⟩ : Shared).TypeIs (.ref e) "AttributeError" → R (.error (.ref e)) ⟨h', g, d, t', os⟩) :
    codeAny (model prog w) A (.call (.builtin "list.__getattribute__") ⟨[.ref a, .str "keys" tk], []⟩) R ⟨h, g, d, t, os⟩ :=
  codeAny_call_builtin PySem.F.slot_list_getattribute.plain PySem.F.entry_list_ga (PySem.F.slot_list_getattribute.check _ _ _ _ _ _ _ _ (show (⟨h, g, d, t, os⟩ : Shared).TypeIs (.ref a) "list" from ⟨_, hx, rfl⟩) (PySem.F.args_list_getattribute_2 _ _) (nk_entry hx (by simp [hh]) he))
theorem nk_by {tk : Tok} {Q : Value → Shared → Prop} (hx : h.get? a = some { cls := .type "list", dict := none, data := .seq its n, slots := #[] }) (hh : A.handled = none)
    (he : ∀ h' t' e, (∀ b o', h.get? b = some o' → h'.get? b = some o') → (⟨h', g, d, t', os⟩ : Shared).TypeIs (.ref e) "AttributeError" → E (.ref e) ⟨h', g, d, t', os⟩) :
    wpAny (model prog w) A (getAttrBy (.ref a) (.str "keys" tk) false) Q E ⟨h, g, d, t, os⟩ := by
  have hT : (⟨h, g, d, t, os⟩ : Shared).TypeIs (.ref a) "list" := ⟨_, hx, rfl⟩
  have f2 := PySem.F.slot_list_getattribute.lookup
  have f3 := PySem.F.slot_list_getattribute.bind (.ref a)
  have f4 := f_lk_hook
  have f5 := f_sub_ae
  repeat (any_goals (first | assumption | wp_step))
  refine nk_call hx (by simp [hh]) fun h' t' e kp hE => ?_
  repeat (any_goals (first | assumption | wp_step))
  exact he _ _ _ kp hE
theorem nk_none {Q : Option Value → Shared → Prop} (hx : h.get? a = some { cls := .type "list", dict := none, data := .seq its n, slots := #[] }) (hh : A.handled = none)
    (hq : ∀ h' t', (∀ b o', h.get? b = some o' → h'.get? b = some o') → Q none ⟨h', g, d, t', os⟩) :
    wpAny (model prog w) A (getAttr? (.ref a) "keys") Q E ⟨h, g, d, t, os⟩ := by
  have f5 := f_sub_ae
  unfold getAttr? getAttrBy?
  refine wpAny_bind (wpAny_mkText (wpAny_bind (wpAny_attempt ?_)))
  refine nk_by (t := t + 1) hx hh fun h' t' e kp hE => ?_
  repeat (any_goals (first | assumption | wp_step))
  exact hq _ _ kp
theorem f_entry_loop : entryFor table "dict.update.loop" = some Builtin.«dict.update.loop» := entryFor_of_tree (by kernel_rfl)
theorem f_plain_loop : plainId "dict.update.loop" = true := by decide +kernel
end
section
variable {prog : Program} {w : World} {A : Around} {R : Result → Shared → Prop} {I : Addr} {fp wr : List Addr} {G : Array GenState → Array GenState → Prop} {n : Nat} {P : Nat → Value → Prop} {St : Nat → Shared → Prop}
abbrev KQ := List Key × Addr × Value
def putAll (ks : List KQ) : List KQ := ks.foldl (fun acc q => storedH acc q.1 q.2.1 q.2.2) []
theorem putAll_snoc (ks : List KQ) (q : KQ) : putAll (ks ++ [q]) = storedH (putAll ks) q.1 q.2.1 q.2.2 := by
  unfold putAll
  rw [List.foldl_append]
  rfl
theorem storedH_len (xs : List KQ) (k : List Key) (a : Addr) (v : Value) : (storedH xs k a v).length ≤ xs.length + 1 := by
  unfold storedH
  split
  · rw [List.length_map]
    omega
  · rw [List.length_append]
    exact Nat.le_refl _
theorem putAll_len (ks : List KQ) : (putAll ks).length ≤ ks.length := by
  suffices h : ∀ (ks acc : List KQ), (ks.foldl (fun acc q => storedH acc q.1 q.2.1 q.2.2) acc).length ≤ acc.length + ks.length by
    have := h ks []
    simpa [putAll] using this
  intro ks
  induction ks with
  | nil => intro acc; exact Nat.le_refl _
  | cons q r ih =>
    intro acc
    have h1 := ih (storedH acc q.1 q.2.1 q.2.2)
    have h2 := storedH_len acc q.1 q.2.1 q.2.2
    rw [List.foldl_cons, List.length_cons]
    omega
theorem f_pair_items {A : Around} {E : Value → Shared → Prop} {s : Shared} {ta : Addr} {x y : Value} {Q : List Value → Shared → Prop} (h : IsTup s.heap ta #[x, y]) (q : Q [x, y] s) : wpAny (model prog w) A (Builtin.Dict.pairItems (.ref ta)) Q E s := by
  obtain ⟨o, h1, h2, n, h3⟩ := h
  have hT : s.TypeIs (.ref ta) "tuple" := ⟨o, h1, h2⟩
  unfold Builtin.Dict.pairItems
  repeat (any_goals (first | assumption | wp_step))
  rw [h3]
  exact wpAny_pure (wpAny_pure q)
end
end L2
namespace L2
open PySem PySem.Spec PyProof.Rows
section
variable {prog : Program} {w : World} {A : Around} {R : Result → Shared → Prop} {I : Addr} {fp wr : List Addr} {G : Array GenState → Array GenState → Prop} {n : Nat} {P : Nat → Value → Prop} {St : Nat → Shared → Prop}
theorem putAll_keys (T : List Key → Addr → Prop) : ∀ (js acc : List KQ), (∀ x ∈ acc, T x.1 x.2.1) → (∀ x ∈ js, T x.1 x.2.1) → ∀ x ∈ js.foldl (fun acc q => storedH acc q.1 q.2.1 q.2.2) acc, T x.1 x.2.1
  | [], _, ha, _ => ha
  | q :: r, acc, ha, hj => by
    rw [List.foldl_cons]
    refine putAll_keys T r _ (fun x hx => ?_) fun x hx => hj x (List.mem_cons_of_mem _ hx)
    unfold storedH at hx
    split at hx
    · obtain ⟨y, hy, rfl⟩ := List.mem_map.mp hx
      have := ha y hy
      unfold putAt
      split
      · exact this
      · exact this
    · rcases List.mem_append.mp hx with hx | hx
      · exact ha x hx
      · have e : x = (q.1, q.2.1, q.2.2) := by simpa using hx
        subst e
        exact hj q List.mem_cons_self
/-- the pairs of a list put into a dict, one after another -/
theorem pairs_loop {h0 : Heap} (W : WalksS prog w A.in1 I fp wr G n P St) (D : Addr) (hDf : D ∉ fp) (hD0 : h0.get? D = none) (hw0 : ∀ b ∈ wr, h0.get? b = none) (ks : List KQ) (hlen : ks.length = n) (hb : n ≤ sizeLine) (hu : A.units + 1 < cLine)
    (hks : ∀ q ∈ ks, (tupleKind (mixKind prog w)).is h0 q.1 q.2.1) (hP : ∀ i v, P i v → ∃ ta q, v = .ref ta ∧ ks[i]? = some q ∧ IsTup h0 ta #[.ref q.2.1, q.2.2]) :
    ∀ (k i : Nat) (s : Shared), n - i = k → i ≤ n → St i s → (∀ b o, h0.get? b = some o → s.heap.get? b = some o) → s.heap.DictOfH (tupleKind (mixKind prog w)) D (putAll (ks.take i)) →
      (∀ s', Moved (D :: wr) G s s' → s'.heap.DictOfH (tupleKind (mixKind prog w)) D (putAll ks) → R (.ok (.ret .none)) s') →
      codeAny (model prog w) A (.builtin "dict.update.loop" ⟨[.ref D, .ref I, rawInt (i : Int), .none], []⟩) R s := by
  have hDw : D ∉ wr := fun h => hDf (W.sub _ h)
  have more : ∀ b ∈ wr, b ∈ D :: wr := fun b hb => List.mem_cons_of_mem _ hb
  have tup_up : ∀ {h : Heap} {ta : Addr} {xs : Array Value}, (∀ b o, h0.get? b = some o → h.get? b = some o) → IsTup h0 ta xs → IsTup h ta xs := fun kp ⟨o, h1, h2, m, h3⟩ => ⟨o, kp _ _ h1, h2, m, h3⟩
  have key_up : ∀ {h : Heap} {ka : Addr} {q : List Key}, (∀ b o, h0.get? b = some o → h.get? b = some o) → (tupleKind (mixKind prog w)).is h0 q ka → (tupleKind (mixKind prog w)).is h q ka := fun kp ⟨o, xs, m, h1, h2⟩ => ⟨o, xs, m, kp _ _ h1, h2⟩
  have dict_to : ∀ {s s' : Shared} {xs : List KQ}, Moved wr G s s' → (∀ b o, h0.get? b = some o → s'.heap.get? b = some o) → (∀ x ∈ xs, (tupleKind (mixKind prog w)).is h0 x.1 x.2.1) → s.heap.DictOfH (tupleKind (mixKind prog w)) D xs → s'.heap.DictOfH (tupleKind (mixKind prog w)) D xs :=
    fun hm kp hk ⟨o, es, ep, e1, e2, e3, e4, _, e6⟩ => ⟨o, es, ep, hm.heap D _ hDw e1, e2, e3, e4, fun x hx => key_up kp (hk x hx), e6⟩
  have keep_to : ∀ {s s' : Shared}, Moved wr G s s' → (∀ b o, h0.get? b = some o → s.heap.get? b = some o) → ∀ b o, h0.get? b = some o → s'.heap.get? b = some o := fun hm kp b o e =>
    hm.heap b o (fun hb => by
      rw [hw0 b hb] at e
      cases e) (kp b o e)
  have keys0 : ∀ i, ∀ x ∈ putAll (ks.take i), (tupleKind (mixKind prog w)).is h0 x.1 x.2.1 := fun i => putAll_keys (fun a b => (tupleKind (mixKind prog w)).is h0 a b) _ [] (fun x hx => nomatch hx) fun x hx => hks x (List.mem_of_mem_take hx)
  intro k
  induction k with
  | zero =>
    intro i s hk hi hst kp hS hR
    have hin : i = n := by omega
    subst hin
    refine codeAny_builtin f_entry_loop ?_
    rw [Around.under_plainId f_plain_loop _]
    show wpAny _ A.in1 (pyNext (.ref I) >>= _) _ _ s
    refine wpAny_bind (W.done s _ _ hst fun s' hm => ?_)
    show wpAny _ A.in1 (Builtin.Dict.addKeywords D [] >>= fun _ => ret Value.none) _ _ s'
    refine wpAny_bind (wpAny_pure (wpAny_pure (hR s' (hm.mono more) ?_)))
    have := dict_to hm (keep_to hm kp) (keys0 _) hS
    rw [← hlen, List.take_length] at this
    exact this
  | succ k ih =>
    intro i s hk hi hst kp hS hR
    have hlt : i < n := by omega
    refine codeAny_builtin f_entry_loop ?_
    rw [Around.under_plainId f_plain_loop _]
    show wpAny _ A.in1 (pyNext (.ref I) >>= _) _ _ s
    refine wpAny_bind (W.item i s _ _ hlt hst fun v s' hPv hst' hm => ?_)
    obtain ⟨ta, q, rfl, hq, ht⟩ := hP i v hPv
    have kp' := keep_to hm kp
    have hS' := dict_to hm kp' (keys0 _) hS
    have l1 := putAll_len (ks.take i)
    have l2 : (ks.take i).length ≤ n := by
      rw [List.length_take]
      omega
    have tk : ks.take (i + 1) = ks.take i ++ [q] := by
      rw [List.take_add_one, hq]
      rfl
    refine wpAny_bind (wpAny_holding (wpAny_bind (wpAny_tryCatch (f_pair_items (tup_up kp' ht) ?_))))
    refine wpAny_holding (wpAny_dictSet_heap (show A.in1.units < cLine from hu) (key_up kp' (hks q (List.mem_of_getElem? hq))) hS' (fun h' hd' hs' => ?_) (by omega))
    have kp2 : ∀ b o, h0.get? b = some o → h'.get? b = some o := fun b o e => by
      rw [hs'.2 b (fun z => by
        rw [z, hD0] at e
        cases e)]
      exact kp' b o e
    have d2 : h'.DictOfH (tupleKind (mixKind prog w)) D (putAll (ks.take (i + 1))) := by
      rw [tk, putAll_snoc]
      exact hd'
    refine wpAny_pure ⟨plainId_quiet f_plain_loop _, ?_⟩
    show codeAny _ A (.builtin "dict.update.loop" ⟨[.ref D, .ref I, rawInt ((i : Int) + 1), .none], []⟩) R _
    rw [show ((i : Int) + 1) = ((i + 1 : Nat) : Int) by omega]
    refine ih (i + 1) _ (by omega) hlt (W.frame _ s' _ _ hst' (Nat.le_add_right _ _) fun b hb o e => ?_) kp2 d2 fun s'' hm'' hS'' => ?_
    · rw [hs'.2 b (fun z => hDf (by rw [← z]; exact hb))]
      exact e
    · refine hR s'' (Moved.trans W.gtrans ((hm.mono more).then_heap (Nat.le_add_right _ _) fun b o hb e => ?_) hm'') hS''
      rw [hs'.2 b (fun z => hb (by rw [z]; exact List.mem_cons_self))]
      exact e
end
end L2
namespace L2
open PySem PySem.Spec PyProof.Rows
/-- pairs of a key tuple and a value, as they lie -/
def PrAt (H : Hp) (v : V) (kv : List Key × V) : Prop := ∃ a b, v = V.ref a ∧ H a = some (.tup [.ref b, kv.2]) ∧ H b = some (.tup (kv.1.map kV))
def PrsAt (H : Hp) : List V → List (List Key × V) → Prop := Paired (PrAt H)
theorem PrsAt.mono {H H' : Hp} (s : Same H H') : ∀ {vs : List V} {kvs : List (List Key × V)}, PrsAt H vs kvs → PrsAt H' vs kvs
  | _, _, .nil => .nil
  | _, _, .cons ⟨a, b, e, h1, h2⟩ t => .cons ⟨a, b, e, s _ _ h1, s _ _ h2⟩ (PrsAt.mono s t)
/-- the dict of pairs, the later over the earlier -/
def putsT (kvs : List (List Key × V)) : List (List Key × V) := kvs.foldl (fun acc kv => putK acc kv.1 kv.2) []
theorem KT.puts {H : Hp} : ∀ {kvs : List (List Key × V)} {ks : List KQ} {acc : List (List Key × V)} {xs : List KQ}, KT H kvs ks → KT H acc xs → KT H (kvs.foldl (fun acc kv => putK acc kv.1 kv.2) acc) (ks.foldl (fun acc q => storedH acc q.1 q.2.1 q.2.2) xs)
  | _, _, _, _, .nil, r => r
  | _, _, _, _, .cons (a := kv) (b := q) ⟨h1, h2, h3⟩ t, r => by
    rw [List.foldl_cons, List.foldl_cons]
    refine KT.puts t ?_
    rw [← h1]
    exact r.put kv.1 h2 h3
theorem kt_keys {P : Program} {w : World} {H : Hp} {h : Heap} (ok : HOk P w H h) : ∀ {kvs : List (List Key × V)} {ks : List KQ}, KT H kvs ks → ∀ x ∈ ks, (tupleKind (mixKind P w)).is h x.1 x.2.1
  | _, _, .nil, x, hx => nomatch hx
  | _, _, .cons (b := q) ⟨h1, h2, _⟩ t, x, hx => by
    rcases List.mem_cons.mp hx with e | hx
    · subst e
      exact key_of ok (by rw [← h1]; exact h2)
    · exact kt_keys ok t x hx
theorem prs_raw {P : Program} {w : World} {H : Hp} {h : Heap} (ok : HOk P w H h) : ∀ {vs : List V} {kvs : List (List Key × V)} {its : List Value}, PrsAt H vs kvs → Vals vs its → ∃ ks : List KQ, KT H kvs ks ∧ ks.length = its.length ∧ (∀ (i : Nat) (v : Value), its[i]? = some v → ∃ (ta : Addr) (q : KQ), v = Value.ref ta ∧ ks[i]? = some q ∧ IsTup h ta #[.ref q.2.1, q.2.2])
  | _, _, _, .nil, .nil => ⟨[], .nil, rfl, fun i v e => by simp at e⟩
  | _, _, _, .cons (b := kv) ⟨a, b, e, h1, h2⟩ t, .cons rv rs => by
    obtain ⟨ks, k1, k2, k3⟩ := prs_raw ok t rs
    subst e
    cases rv
    obtain ⟨_, xs, r, tp⟩ := (show ObjOk P w H h a (.tup [.ref b, kv.2]) from ok a _ h1)
    obtain ⟨u, u2, rfl, ru, ru2⟩ := vals2 r
    cases ru
    refine ⟨(kv.1, b, u2) :: ks, .cons ⟨rfl, h2, ru2⟩ k1, by rw [List.length_cons, List.length_cons, k2], fun i v e => ?_⟩
    cases i with
    | zero =>
      have e' : Value.ref a = v := by simpa using e
      exact ⟨a, _, e'.symm, rfl, tp⟩
    | succ i =>
      obtain ⟨ta, q, h1, h2, h3⟩ := k3 i v (by simpa using e)
      exact ⟨ta, q, h1, by simpa using h2, h3⟩
section
variable {X : Cx}
set_option maxHeartbeats 8000000 in
theorem call_dict_pairs (hu : X.A.units + 64 < cLine) (hh : X.A.handled = none) : CallR X (.type "dict") (fun xs H Q => ∃ l us kvs, xs = [.ref l] ∧ H l = some (.lst us) ∧ PrsAt H us kvs ∧ ∀ d, H d = none → Q (.ref d) (upd H d (.dT (putsT kvs)))) := by
  intro pins s σ H xs us' Q I r h
  obtain ⟨l, us, kvs, rfl, hl, hp, q⟩ := h
  obtain ⟨u, rfl, ru⟩ := vals1 r
  cases ru
  obtain ⟨hz, its, n, rv, e⟩ := (show ObjOk X.prog X.w H s.heap l (.lst us) from I.hok l _ hl)
  obtain ⟨ks, hkt, hkl, hraw⟩ := prs_raw I.hok hp rv
  have big := I.big
  have hil : its.length ≤ sizeLine := by
    rw [← rv.length]
    exact hz
  have hks := kt_keys I.hok hkt
  refine callType_codes (Q₁ := fun obj s₁ => obj = .ref s.heap.objs.size ∧ s₁ = { s with heap := s.heap.push { cls := .type "dict", data := .dict #[] } }) PySem.F.kt_called_dict (PySem.F.kt_typeCall_dict_1 _) PySem.F.entry_dict_init (kt_code_dict_new _ ⟨rfl, rfl⟩) ?_
  rintro obj s₁ ⟨rfl, rfl⟩
  have hnew : (s.heap.push { cls := .type "dict", data := .dict #[] }).DictOfH (tupleKind (mixKind X.prog X.w)) s.heap.objs.size [] := Heap.DictOfH.new s.heap
  have e1 : (s.heap.push { cls := .type "dict", data := .dict #[] }).get? l = some { cls := .type "list", dict := none, data := .seq its.toArray n, slots := #[] } := Heap.get?_push_of_some _ e
  refine ⟨hnew.typeIs, PySem.F.args_dict_init_2 _ _, ?_⟩
  unfold Builtin.«dict.__init__»
  refine wpAny_bind ?_
  unfold Builtin.Dict.selfAndRest
  refine wpAny_bind (wpAny_notOrdered_dict hnew.typeIs ?_)
  show wpAny _ _ (pure (s.heap.objs.size, [Value.ref l])) _ _ _
  refine wpAny_pure ?_
  show wpAny _ _ (Builtin.Dict.updateFrom "dict.__init__" s.heap.objs.size (.ref l) [] .none) _ _ _
  unfold Builtin.Dict.updateFrom
  have hT : Shared.TypeIs { s with heap := s.heap.push { cls := .type "dict", data := .dict #[] } } (.ref l) "list" := ⟨_, e1, rfl⟩
  refine wpAny_bind (wpAny_typeOf hT ?_)
  rw [if_pos (by decide)]
  refine wpAny_bind (nk_none e1 (by simp [hh]) fun h2 t2 kp => ?_)
  rw [if_pos (show (none : Option Value).isNone = true from rfl)]
  have kp0 : ∀ b o', s.heap.get? b = some o' → h2.get? b = some o' := fun b o' z => kp b o' (Heap.get?_push_of_some _ z)
  have hl2 : h2.IsList l its.toArray := ⟨_, kp _ _ e1, rfl, n, rfl⟩
  refine wpAny_bind (wpAny_rule (wpAny_bind (wpAny_pyIter_list hl2 ?_)))
  have hls : l < s.heap.objs.size := Heap.lt_size e
  have hDl : s.heap.objs.size < h2.objs.size := by
    obtain ⟨o, _, _, ho, _⟩ := hnew
    exact Heap.lt_size (kp _ _ ho)
  have hneI : l ≠ h2.objs.size := Nat.ne_of_lt (Nat.lt_trans hls hDl)
  have hDf : s.heap.objs.size ∉ [h2.objs.size, l] := by
    simp only [List.mem_cons, List.not_mem_nil, or_false, not_or]
    exact ⟨Nat.ne_of_lt hDl, Nat.ne_of_gt hls⟩
  refine wpAny_pure ⟨plainId_quiet f_plain_loop _, ?_⟩
  have hd2 : (h2.push { cls := .type "list_iterator", data := .fields #[.ref l, .int 0 0] }).DictOfH (tupleKind (mixKind X.prog X.w)) s.heap.objs.size [] := by
    obtain ⟨o, es, ep, ho, h3, h4, h5, _, h6⟩ := hnew
    exact ⟨o, es, ep, Heap.get?_push_of_some _ (kp _ _ ho), h3, h4, h5, (fun x hx => nomatch hx), h6⟩
  refine pairs_loop (h0 := s.heap) ((Walks.list (by simp [hh]) h2.objs.size l hneI its.toArray).toS) s.heap.objs.size hDf (Heap.get?_none_of_le (Nat.le_refl _)) (fun b hb => ?_) ks (by rw [hkl]; simp) (by simpa using hil) (by show X.A.units + 1 + 1 < cLine; omega) hks (fun i v hv => hraw i v (by rw [← hv]; simp)) _ 0 _ rfl (Nat.zero_le _)
    ⟨⟨_, Heap.get?_push_size _ rfl, rfl, rfl⟩, hl2.push _⟩ (fun b o z => Heap.get?_push_of_some _ (kp0 b o z)) hd2 ?_
  · have e : b = h2.objs.size := by simpa using hb
    rw [e]
    exact Heap.get?_none_of_le (Nat.le_of_lt hDl)
  · intro s' hm hS'
    obtain ⟨h', g', d', tk', os'⟩ := s'
    have eg : g' = s.gens := hm.gens
    have ed : d' = s.drawn := hm.drawn
    have eo : os' = s.os := hm.os
    subst eg
    subst ed
    subst eo
    have kp3 : ∀ b o', s.heap.get? b = some o' → h'.get? b = some o' := fun b o' z => by
      have lt := Heap.lt_size z
      refine hm.heap b o' (fun hb => ?_) (Heap.get?_push_of_some _ (kp0 b o' z))
      rcases List.mem_cons.mp hb with e | hb
      · exact Nat.lt_irrefl _ (e ▸ lt)
      · have e : b = h2.objs.size := by simpa using hb
        rw [e] at lt
        exact Nat.lt_irrefl _ (Nat.lt_trans lt hDl)
    obtain ⟨o, es, ep, ho, h3, h4, h5, _, h6⟩ := hS'
    have hkk : KT H (putsT kvs) (putAll ks) := KT.puts hkt .nil
    have hfresh : H s.heap.objs.size = none := I.hok.fresh (Nat.le_refl _)
    refine ⟨rfl, .ref s.heap.objs.size, _, I.laid (a := s.heap.objs.size) (o := .dT (putsT kvs)) (t' := tk') kp3 (Nat.le_refl _) ⟨?_, beq_eq_false_iff_ne.mpr (Ne.symm (Nat.ne_of_lt big)), _, KT.keeps hkk fun b ys hb => ?_, o, es, ep, ho, h3, h4, h5, h6⟩, rfl, q _ hfresh⟩
    · rw [Paired.length hkk]
      exact Nat.le_trans (putAll_len ks) (by rw [hkl]; exact hil)
    · rw [upd_ne (ne_of_none hb hfresh)]
      exact hb
end
end L2
namespace L2
theorem u1 {A : PySem.Around} (h : A.units + 64 < PySem.cLine) : A.units + 1 < PySem.cLine := by omega
end L2
/-! Own rules: comprehensions over zip of two lists; pairs that stay; what a dict of pairs holds. -/
namespace L2
open PySem PySem.Spec PyProof.Rows
section
variable {K : PySem.W.Frag} {g : TG} {tc : TT} {te : TE} {Q : VK} {σ0 : St} {D : Addr}
theorem comp_zip {l1 l2 : Addr} {xs ys : List V} (Pv : Nat → St → Hp → Prop) {H : Hp} (he : xs.length = ys.length) (h0 : Pv 0 σ0 H) (hl : ∀ i σ H, i ≤ xs.length → Pv i σ H → SqL K H l1 xs ∧ SqL K H l2 ys)
    (hs : ∀ i x y T σ H, xs[i]? = some x → ys[i]? = some y → H T = none → Pv i σ H → g (.ref T) σ (upd H T (.tup [x, y])) fun σ2 H3 => tc σ2 H3 fun b H4 => if b = true then te σ2 H4 fun y H5 => ∃ zs, H5 D = some (.lst zs) ∧ zs.length < sizeLine ∧ Pv (i + 1) σ2 (upd H5 D (.lst (zs ++ [y]))) else Pv (i + 1) σ2 H4)
    (hd : ∀ σ H, Pv xs.length σ H → Q (.ref D) H) : CompGoes (Itz K l1 l2) g tc te Q D σ0 H := by
  refine ⟨fun i m σ H => m = xs.length - i ∧ i ≤ xs.length ∧ Pv i σ H, ⟨xs.length, by simp, Nat.zero_le _, h0⟩, ?_⟩
  rintro i m σ H ⟨rfl, hi, p⟩
  obtain ⟨q1, q2⟩ := hl i σ H hi p
  by_cases hlt : i < xs.length
  · refine .inr ⟨⟨xs, ys, q1, q2, hlt, by omega⟩, Pv (i + 1), fun σ' H' p' => ⟨xs.length - (i + 1), by omega, rfl, hlt, p'⟩, fun x H' y => ?_⟩
    obtain ⟨T, rfl, hT, y⟩ := y
    obtain ⟨v, v', hv, hv', rfl⟩ := y xs ys q1 q2
    exact hs i v v' T σ H hv hv' hT p
  · have e : i = xs.length := by omega
    subst e
    exact .inl ⟨⟨xs, ys, q1, q2, by omega⟩, hd σ H p⟩
end
theorem PrsAt.into {H : Hp} (z : Addr) (o : HO) {old : List V} (hz : H z = some (.lst old)) : ∀ {vs : List V} {kvs : List (List Key × V)}, PrsAt H vs kvs → PrsAt (upd H z o) vs kvs
  | _, _, .nil => .nil
  | _, _, .cons ⟨a, b, e, h1, h2⟩ t => .cons ⟨a, b, e, by rw [upd_ne (ne_of h1 hz (by intro y; cases y))]; exact h1, by rw [upd_ne (ne_of h2 hz (by intro y; cases y))]; exact h2⟩ (PrsAt.into z o hz t)
theorem PrsAt.snoc {H : Hp} {vs : List V} {kvs : List (List Key × V)} {v : V} {kv : List Key × V} (h : PrsAt H vs kvs) (x : PrAt H v kv) : PrsAt H (vs ++ [v]) (kvs ++ [kv]) := Paired.snoc h x
theorem PrsAt.length {H : Hp} {vs : List V} {kvs : List (List Key × V)} (h : PrsAt H vs kvs) : vs.length = kvs.length := Paired.length h
/-- a dict whose keys all hold the same -/
theorem puts_same {v : V} {k : List Key} : ∀ (ks : List (List Key)) (acc : List (List Key × V)), (k ∈ ks ∨ valV acc k = some v) → valV ((ks.map fun x => (x, v)).foldl (fun acc kv => putK acc kv.1 kv.2) acc) k = some v
  | [], acc, h => by
    rcases h with h | h
    · cases h
    · exact h
  | x :: r, acc, h => by
    rw [List.map_cons, List.foldl_cons]
    refine puts_same r _ ?_
    rw [valV_put]
    by_cases e : k = x
    · rw [if_pos e]
      exact .inr rfl
    · rw [if_neg e]
      rcases h with h | h
      · rcases List.mem_cons.mp h with h | h
        · exact absurd h e
        · exact .inl h
      · exact .inr h
end L2
namespace L2
open PySem PySem.Spec PyProof.Rows
section
variable {prog : Program} {w : World} {A : Around} {E : Value → Shared → Prop} {s : Shared} {d o a : Addr} {xs ys : List KQ} {k : List Key} {v : Value}
abbrev tk2 (prog : Program) (w : World) : HeapKind prog w (List Key) := tupleKind (mixKind prog w)
theorem set_hashed {Q : Unit → Shared → Prop} (hu : A.units < cLine) (hkey : (tk2 prog w).is s.heap k a) (hm : s.heap.DictOfH (tk2 prog w) d xs) (hsz : xs.length ≤ sizeLine)
    (hQ : ∀ h', h'.DictOfH (tk2 prog w) d (storedH xs k a v) → Heap.SameBut d s.heap h' → Q () { s with heap := h' }) : wpAny (model prog w) A (dictSetHashed d (.ref a) ((tk2 prog w).hash k) v) Q E s := by
  obtain ⟨ob, es, ep, ho, hc, hd, he, his, hn⟩ := hm
  unfold dictSetHashed
  refine wpAny_holding (wpAny_bind (wpAny_dictFind_heap (knd := tk2 prog w) hu hkey ho hd he his hn (fun hno => ?_) fun j p hj => ?_))
  · have hnot := not_mem_keys_of_get hno
    have en := atKey_none_of_get hno
    refine wpAny_bind (wpAny_rule (wpAny_updateDictKeys (hz := by have e := size_of_entries he; omega) ho hd (hQ _ ⟨_, _, ep + 1, Heap.get?_update_self _ ho (Obj.isFreed_of_dict (Obj.data_mapDictKeys hd _)), hc.mapDictKeys _, Obj.data_mapDictKeys hd _, ?_, ?_, ?_⟩ (Heap.SameBut.update ..))))
    · rw [storedH_new en]
      simp [he, entryOfKey]
    · rw [storedH_new en]
      intro x hx
      rcases List.mem_append.mp hx with hx | hx
      · exact (tk2 prog w).keeps (his x hx) ho hd (Heap.SameBut.update ..)
      · have e : x = (k, a, v) := by simpa using hx
        subst e
        exact (tk2 prog w).keeps hkey ho hd (Heap.SameBut.update ..)
    · rw [storedH_new en, List.map_append, List.nodup_append]
      refine ⟨hn, by simp, fun x hx y hy e => hnot ?_⟩
      have e2 : y = k := by simpa using hy
      rw [← e2, ← e]
      exact hx
  · have es1 := storedH_old (atKey_of_get hn hj) a v
    refine wpAny_bind (wpAny_rule (wpAny_bind (wpAny_updateDict ho hd (wpAny_point (hQ _ ⟨_, _, ep, Heap.get?_update_self _ ho (Obj.isFreed_of_dict (Obj.data_mapDict hd _)), hc.mapDict _, Obj.data_mapDict hd _, ?_, ?_, ?_⟩ (Heap.SameBut.update ..))))))
    · rw [es1]
      have z := modify_map_putAt (entryOfKey (tk2 prog w)) (fun e : DictEntry => { e with val := v }) k v (fun _ _ => rfl) hn hj
      rw [← he] at z
      obtain ⟨l⟩ := es
      simpa using z
    · rw [es1]
      intro x hx
      obtain ⟨y, hy, rfl⟩ := List.mem_map.mp hx
      unfold putAt
      split <;> exact (tk2 prog w).keeps (his y hy) ho hd (Heap.SameBut.update ..)
    · rw [es1, keys_map_putAt]
      exact hn
/-- the hashes of its keys are unlike -/
def HN (prog : Program) (w : World) (ys : List KQ) : Prop := (ys.map fun q => (tk2 prog w).hash q.1).Nodup
theorem f_eq_tuple : typeLookup (.type "tuple") "__eq__" = pure (some (.builtin "tuple.__eq__")) := by rw [typeLookup_type, builtinLookup_eq_fast]; kernel_rfl
theorem quiet_tuple {Q : Bool → Shared → Prop} (hkey : (tk2 prog w).is s.heap k a) (q : Q false s) : wpAny (model prog w) A (Builtin.Dict.quietEq (.ref a)) Q E s := by
  obtain ⟨ob, its, n, h1, h2, _⟩ := hkey
  have hT : s.TypeIs (.ref a) "tuple" := ⟨ob, h1, h2⟩
  unfold Builtin.Dict.quietEq
  refine wpAny_bind (wpAny_specialOf hT f_eq_tuple (wpAny_pure ?_))
  rw [show (some (Value.builtin "tuple.__eq__") == some (Value.builtin "object.__eq__")) = false by decide +kernel]
  exact q
theorem count_one {ys : List KQ} {es : Array DictEntry} (he : es.toList = ys.map (entryOfKey (tk2 prog w))) (hN : HN prog w ys) (x : Int) : ¬ (es.filter (fun e => e.hash == x)).size > 1 := by
  have h1 : (es.filter (fun e => e.hash == x)).size = (es.toList.filter (fun e => e.hash == x)).length := by
    rw [← Array.toList_filter, Array.length_toList]
  rw [h1, he]
  unfold HN at hN
  clear h1 he
  induction ys with
  | nil => simp
  | cons q r ih =>
    rw [List.map_cons, List.nodup_cons] at hN
    rw [List.map_cons, List.filter_cons]
    split
    · rename_i hq
      have e1 : (tk2 prog w).hash q.1 = x := by simpa [entryOfKey] using hq
      have : (r.map (entryOfKey (tk2 prog w))).filter (fun e => e.hash == x) = [] := by
        rw [List.filter_eq_nil_iff]
        intro e hm hx
        obtain ⟨y, hy, rfl⟩ := List.mem_map.mp hm
        have e2 : (tk2 prog w).hash y.1 = x := by simpa [entryOfKey] using hx
        exact hN.1 (List.mem_map.mpr ⟨y, hy, by rw [e1, e2]⟩)
      rw [this]
      simp
    · exact ih hN.2
theorem for_empty {id : String} {ob : Obj} {es : Array DictEntry} {ep : Nat} {Q : Array DictEntry → Shared → Prop} (ho : s.heap.get? d = some ob) (hd : ob.data = .dict es ep) (he : es.toList = ys.map (entryOfKey (tk2 prog w))) (hk : ∀ x ∈ ys, (tk2 prog w).is s.heap x.1 x.2.1) (hN : HN prog w ys) (h : Q es s) :
    wpAny (model prog w) A (Builtin.Dict.entriesForEmpty id d) Q E s := by
  unfold Builtin.Dict.entriesForEmpty
  refine wpAny_bind (wpAny_dictEntries ho hd (wpAny_bind ?_))
  rw [← Array.forIn_toList]
  refine wpAny_forIn_list _ (fun rest _ s' => s' = s ∧ ∀ e ∈ rest, e ∈ es.toList) _ ?_ ?_ _ _ ⟨rfl, fun e he => he⟩
  · rintro x rest b s' ⟨rfl, hr⟩
    have hx := hr x List.mem_cons_self
    rw [he] at hx
    obtain ⟨y, hy, rfl⟩ := List.mem_map.mp hx
    refine wpAny_bind (quiet_tuple (hk y hy) ?_)
    rw [if_pos (show (!false) = true from rfl), if_neg (count_one he hN _)]
    exact wpAny_pure ⟨rfl, fun e he => hr e (List.mem_cons_of_mem _ he)⟩
  · rintro b s' ⟨rfl, _⟩
    exact wpAny_pure h
/-- the second dict's pairs put into the first -/
def mergeH (xs ys : List KQ) : List KQ := ys.foldl (fun acc q => storedH acc q.1 q.2.1 q.2.2) xs
theorem mergeH_snoc (xs ys : List KQ) (q : KQ) : mergeH xs (ys ++ [q]) = storedH (mergeH xs ys) q.1 q.2.1 q.2.2 := by
  unfold mergeH
  rw [List.foldl_append]
  rfl
theorem mergeH_len (xs : List KQ) : ∀ ys : List KQ, ∀ acc : List KQ, (mergeH acc ys).length ≤ acc.length + ys.length
  | [], acc => Nat.le_refl _
  | q :: r, acc => by
    have h1 := mergeH_len xs r (storedH acc q.1 q.2.1 q.2.2)
    have h2 := storedH_len acc q.1 q.2.1 q.2.2
    rw [List.length_cons]
    show (mergeH (storedH acc q.1 q.2.1 q.2.2) r).length ≤ _
    omega
theorem mergeH_fresh : ∀ (ys acc : List KQ), ((acc ++ ys).map (·.1)).Nodup → mergeH acc ys = acc ++ ys
  | [], acc, _ => (List.append_nil acc).symm
  | q :: r, acc, h => by
    have hno : atKey acc q.1 = none := by
      unfold atKey
      rw [List.find?_eq_none.mpr]
      · rfl
      · intro x hx hk
        rw [List.map_append, List.map_cons, List.nodup_append] at h
        exact h.2.2 x.1 (List.mem_map.mpr ⟨x, hx, rfl⟩) q.1 List.mem_cons_self (of_decide_eq_true hk)
    show mergeH (storedH acc q.1 q.2.1 q.2.2) r = _
    rw [storedH_new hno, show ((q.1, q.2.1, q.2.2) : KQ) = q from rfl, mergeH_fresh r (acc ++ [q]) (by simpa using h)]
    simp
theorem merge_h {nm : String} {Q : Unit → Shared → Prop} (hu : A.units < cLine) (hdo : d ≠ o) (hoS : (o == sysModules) = false) (hd : s.heap.DictOfH (tk2 prog w) d xs) (ho : s.heap.DictOfH (tk2 prog w) o ys) (hN : HN prog w ys) (hsz : xs.length + ys.length ≤ sizeLine)
    (hQ : ∀ h', h'.DictOfH (tk2 prog w) d (mergeH xs ys) → Heap.SameBut d s.heap h' → Q () { s with heap := h' }) : wpAny (model prog w) A (Builtin.Dict.mergeDict nm d o) Q E s := by
  obtain ⟨od, esd, epd, hod, hcd, hdd, hed, hkd, hnd⟩ := id hd
  obtain ⟨oo, eso, epo, hoo, hco, hdo', heo, hko, hno⟩ := id ho
  have hlen : ys.length = eso.size := (size_of_entries heo).symm
  unfold Builtin.Dict.mergeDict
  rw [if_neg (show ¬ (d == o) = true by simpa using hdo)]
  unfold Builtin.Dict.showsAll
  rw [if_neg (show ¬ (o == sysModules) = true by rw [hoS]; exact Bool.false_ne_true)]
  refine wpAny_bind (wpAny_pure (wpAny_bind (wpAny_dictEntries hoo hdo' ?_)))
  have loop : wpAny (model prog w) A (do
      let epoch ← dictEpoch o
      let l ← dictEntries o
      forIn [:l.size] PUnit.unit fun i (_ : PUnit) => (do
          let l' ← dictEntries o
          match l'[i]? with
            | some e => do
              holding [e.key, e.val] (dictSetHashed d e.key e.hash e.val)
              let ep' ← dictEpoch o
              if (ep' != epoch) = true then do
                  (unsupported (toString nm ++ toString ":source-changed-during-callback") : Sem PUnit)
                  pure (ForInStep.yield PUnit.unit)
                else pure (ForInStep.yield PUnit.unit)
            | _ => do
              (unsupported "internal:dict-merge" : Sem PUnit)
              pure (ForInStep.yield PUnit.unit) : Sem (ForInStep PUnit))
      pure ()) Q E s := by
    refine wpAny_bind (wpAny_dictEpoch hoo hdo' (wpAny_bind (wpAny_dictEntries hoo hdo' (wpAny_bind ?_))))
    rw [Std.Legacy.Range.forIn_eq_forIn_range']
    simp only [Std.Legacy.Range.size, Nat.sub_zero, Nat.add_sub_cancel, Nat.div_one]
    refine wpAny_forIn_list _ (fun rest _ s' => ∃ h' i, s' = { s with heap := h' } ∧ rest = List.range' i (eso.size - i) ∧ i ≤ eso.size ∧ h'.DictOfH (tk2 prog w) d (mergeH xs (ys.take i)) ∧ Heap.SameBut d s.heap h') _ ?_ ?_ _ _ ⟨s.heap, 0, rfl, by simp, Nat.zero_le _, hd, Heap.SameBut.refl _ _⟩
    · rintro x rest b s' ⟨h', i, rfl, hr, hi, hd', hs'⟩
      have hlt : i < eso.size := by
        rcases Nat.lt_or_ge i eso.size with h | h
        · exact h
        · rw [Nat.sub_eq_zero_of_le h] at hr
          simp at hr
      obtain ⟨rfl, hrest⟩ : x = i ∧ rest = List.range' (i + 1) (eso.size - (i + 1)) := by
        rw [show eso.size - i = (eso.size - (i + 1)) + 1 by omega, List.range'_succ] at hr
        injection hr with h1 h2
        exact ⟨h1, h2⟩
      have hoo' : h'.get? o = some oo := (hs'.2 o (Ne.symm hdo)).trans hoo
      obtain ⟨q, hq⟩ : ∃ q, ys[x]? = some q := ⟨_, List.getElem?_eq_getElem (by omega)⟩
      refine wpAny_bind (wpAny_dictEntries hoo' hdo' ?_)
      rw [entry_at heo x, hq]
      have hkq := hko q (List.mem_of_getElem? hq)
      have hkq' : (tk2 prog w).is h' q.1 q.2.1 := (tk2 prog w).keeps hkq hod hdd hs'
      have l1 := mergeH_len xs (ys.take x) xs
      have l2 : (ys.take x).length ≤ ys.length := by
        rw [List.length_take]
        omega
      refine wpAny_bind (wpAny_holding (set_hashed (s := { s with heap := h' }) hu hkq' hd' (by omega) fun h'' hd'' hs'' => ?_))
      have hoo'' : h''.get? o = some oo := (hs''.2 o (Ne.symm hdo)).trans hoo'
      refine wpAny_bind (wpAny_dictEpoch hoo'' hdo' ?_)
      rw [if_neg (by simp)]
      refine wpAny_pure ⟨h'', x + 1, rfl, hrest, hlt, ?_, hs'.trans hs''⟩
      rw [List.take_add_one, hq]
      show h''.DictOfH (tk2 prog w) d (mergeH xs (ys.take x ++ [q]))
      rw [mergeH_snoc]
      exact hd''
    · rintro b s' ⟨h', i, rfl, hr, hi, hd', hs'⟩
      have hin : i = eso.size := by
        rcases Nat.lt_or_ge i eso.size with h | h
        · rw [show eso.size - i = (eso.size - (i + 1)) + 1 by omega, List.range'_succ] at hr
          exact nomatch hr
        · exact Nat.le_antisymm hi h
      rw [hin, ← hlen, List.take_length] at hd'
      exact wpAny_pure (hQ h' hd' hs')
  dsimp only
  split
  · refine wpAny_bind (wpAny_dictEntries hod hdd ?_)
    split
    · rename_i hemp
      have hx0 : xs = [] := by
        have h0 : esd = #[] := Array.isEmpty_iff.mp hemp
        rw [h0] at hed
        exact List.map_eq_nil_iff.mp hed.symm
      subst hx0
      rw [mergeH_fresh ys [] (by simpa using hno)] at hQ
      refine wpAny_bind (for_empty hoo hdo' heo hko hN ?_)
      split
      · refine wpAny_bind (wpAny_updateDictKeysTo hod hdd (wpAny_pure (hQ _ ⟨_, _, epd + 1, Heap.get?_update_self _ hod (Obj.isFreed_of_dict (Obj.data_mapDictKeys hdd _)), hcd.mapDictKeys _, Obj.data_mapDictKeys hdd _, heo, fun x hx => (tk2 prog w).keeps (hko x hx) hod hdd (Heap.SameBut.update ..), hno⟩ (Heap.SameBut.update ..))) (by
          simp only [List.length_nil, Nat.zero_add] at hsz
          omega))
      · rename_i hne
        have h0 : eso = #[] := Array.isEmpty_iff.mp (by simpa using hne)
        have hy0 : ys = [] := by
          rw [h0] at heo
          exact List.map_eq_nil_iff.mp heo.symm
        subst hy0
        exact wpAny_pure (hQ _ hd (Heap.SameBut.refl _ _))
    · exact loop
  · exact loop
end
end L2
namespace L2
open PySem PySem.Spec PyProof.Rows
def HH (i j : Nat) : Int := reduceHash (Builtin.Tuple.tupleHashOf [hashInt (i : Int), hashInt (j : Int)])
theorem hash_is (prog : Program) (w : World) (i j : Nat) : (tk2 prog w).hash [.inl ((i : Nat) : Int), .inl ((j : Nat) : Int)] = HH i j := by
  show tupleKeyHash (mixKind prog w) [.inl ((i : Nat) : Int), .inl ((j : Nat) : Int)] = HH i j
  unfold tupleKeyHash HH
  rw [List.map_cons, List.map_cons, List.map_nil]
  have e : ∀ n : Nat, (mixKind prog w).hash (.inl ((n : Nat) : Int)) = hashInt ((n : Nat) : Int) := fun n => by
    show keyH w (.inl ((n : Nat) : Int)) = _
    unfold keyH
    with_reducible rfl
  rw [e, e]
theorem hh_all : (List.range 64).all fun n => (List.range 64).all fun m => decide (HH (n / 8) (n % 8) = HH (m / 8) (m % 8)) == decide (n = m) := by decide +kernel
theorem hh_apart {i j i' j' : Nat} (h1 : i < 8) (h2 : j < 8) (h3 : i' < 8) (h4 : j' < 8) (e : HH i j = HH i' j') : i = i' ∧ j = j' := by
  have h := hh_all
  rw [List.all_eq_true] at h
  have a := h (8 * i + j) (List.mem_range.mpr (by omega))
  rw [List.all_eq_true] at a
  have b := a (8 * i' + j') (List.mem_range.mpr (by omega))
  rw [show (8 * i + j) / 8 = i by omega, show (8 * i + j) % 8 = j by omega, show (8 * i' + j') / 8 = i' by omega, show (8 * i' + j') % 8 = j' by omega, decide_eq_true e] at b
  have c : decide (8 * i + j = 8 * i' + j') = true := by simpa using b
  have d := of_decide_eq_true c
  omega
/-- keys that are pairs of numbers below 8 -/
def Small (ks : List (List Key)) : Prop := ∀ k ∈ ks, ∃ i j : Nat, i < 8 ∧ j < 8 ∧ k = [.inl ((i : Nat) : Int), .inl ((j : Nat) : Int)]
theorem hn_of {prog : Program} {w : World} : ∀ {ys : List KQ}, Small (ys.map (·.1)) → (ys.map (·.1)).Nodup → HN prog w ys
  | [], _, _ => List.nodup_nil
  | q :: r, hs, hn => by
    rw [List.map_cons, List.nodup_cons] at hn
    unfold HN
    rw [List.map_cons, List.nodup_cons]
    refine ⟨fun hm => ?_, hn_of (fun k hk => hs k (List.mem_cons_of_mem _ hk)) hn.2⟩
    obtain ⟨y, hy, e⟩ := List.mem_map.mp hm
    obtain ⟨i, j, h1, h2, e1⟩ := hs q.1 List.mem_cons_self
    obtain ⟨i', j', h3, h4, e2⟩ := hs y.1 (List.mem_cons_of_mem _ (List.mem_map.mpr ⟨y, hy, rfl⟩))
    rw [e1, e2, hash_is, hash_is] at e
    obtain ⟨a, b⟩ := hh_apart h3 h4 h1 h2 e
    refine hn.1 (List.mem_map.mpr ⟨y, hy, ?_⟩)
    rw [e1, e2, a, b]
end L2
namespace L2
open PySem PySem.Spec PyProof.Rows
theorem KT.keys {H : Hp} : ∀ {kvs : List (List Key × V)} {xs : List KQ}, KT H kvs xs → xs.map (·.1) = kvs.map (·.1)
  | _, _, .nil => rfl
  | _, _, .cons ⟨h1, _, _⟩ t => by rw [List.map_cons, List.map_cons, KT.keys t, h1]
theorem dt_small {P : Program} {w : World} {H : Hp} {kvs : List (List Key × V)} {xs : List KQ} (r : KT H kvs xs) (hs : Small (kvs.map (·.1))) (hn : (xs.map (·.1)).Nodup) : HN P w xs := hn_of (by rw [r.keys]; exact hs) hn
/-- dicts merged -/
def mergeT (kvs more : List (List Key × V)) : List (List Key × V) := more.foldl (fun acc kv => putK acc kv.1 kv.2) kvs
theorem mergeT_len : ∀ (more kvs : List (List Key × V)), (mergeT kvs more).length ≤ kvs.length + more.length
  | [], kvs => Nat.le_refl _
  | kv :: r, kvs => by
    have h1 := mergeT_len r (putK kvs kv.1 kv.2)
    have h2 := length_putK kvs kv.1 kv.2
    show (mergeT (putK kvs kv.1 kv.2) r).length ≤ _
    rw [List.length_cons]
    omega
section
variable {X : Cx}
theorem call_dict_copy (hu : X.A.units + 64 < cLine) : CallR X (.type "dict") (fun xs H Q => ∃ p kvs, xs = [.ref p] ∧ H p = some (.dT kvs) ∧ Small (kvs.map (·.1)) ∧ ∀ d, H d = none → Q (.ref d) (upd H d (.dT kvs))) := by
  intro pins s σ H xs us' Q I r h
  obtain ⟨p, kvs, rfl, hp, hsm, q⟩ := h
  obtain ⟨u, rfl, ru⟩ := vals1 r
  cases ru
  obtain ⟨hz, hS, ks, hkt, hd⟩ := dt_of I.hok hp
  have big := I.big
  have hkl : ks.length = kvs.length := (Paired.length hkt).symm
  have hN : HN X.prog X.w ks := by
    obtain ⟨_, _, _, _, _, _, _, _, hn⟩ := hd
    exact dt_small hkt hsm hn
  refine callType_codes (Q₁ := fun obj s₁ => obj = .ref s.heap.objs.size ∧ s₁ = { s with heap := s.heap.push { cls := .type "dict", data := .dict #[] } }) PySem.F.kt_called_dict (PySem.F.kt_typeCall_dict_1 _) PySem.F.entry_dict_init (kt_code_dict_new _ ⟨rfl, rfl⟩) ?_
  rintro obj s₁ ⟨rfl, rfl⟩
  have hnew : (s.heap.push { cls := .type "dict", data := .dict #[] }).DictOfH (tk2 X.prog X.w) s.heap.objs.size [] := Heap.DictOfH.new s.heap
  have hps : p < s.heap.objs.size := by
    obtain ⟨o, _, _, ho, _⟩ := hd
    exact Heap.lt_size ho
  have hd1 : (s.heap.push { cls := .type "dict", data := .dict #[] }).DictOfH (tk2 X.prog X.w) p ks := by
    obtain ⟨o, es, ep, ho, h3, h4, h5, h6, h7⟩ := hd
    exact ⟨o, es, ep, Heap.get?_push_of_some _ ho, h3, h4, h5, fun x hx => let ⟨ob, a, b, c, d⟩ := h6 x hx; ⟨ob, a, b, Heap.get?_push_of_some _ c, d⟩, h7⟩
  refine ⟨hnew.typeIs, PySem.F.args_dict_init_2 _ _, ?_⟩
  unfold Builtin.«dict.__init__»
  refine wpAny_bind ?_
  unfold Builtin.Dict.selfAndRest
  refine wpAny_bind (wpAny_notOrdered_dict hnew.typeIs ?_)
  show wpAny _ _ (pure (s.heap.objs.size, [Value.ref p])) _ _ _
  refine wpAny_pure ?_
  show wpAny _ _ (Builtin.Dict.updateFrom "dict.__init__" s.heap.objs.size (.ref p) [] .none) _ _ _
  unfold Builtin.Dict.updateFrom
  refine wpAny_bind (wpAny_typeOf hd1.typeIs ?_)
  rw [if_neg (by decide)]
  refine wpAny_bind ?_
  unfold Builtin.Dict.merge
  refine wpAny_bind ?_
  unfold Builtin.Dict.readDirectly
  refine wpAny_bind (wpAny_isInstance hd1.typeIs isSubtype_dict_dict ?_)
  simp only [Bool.not_true, Bool.false_eq_true, if_false]
  refine wpAny_bind (wpAny_specialOf hd1.typeIs PySem.F.slot_dict_iter.lookup (wpAny_pure ?_))
  simp only [beq_self_eq_true, if_true]
  refine wpAny_bind (wpAny_pure ?_)
  refine merge_h (by show X.A.units + 1 + 1 < cLine; omega) (Nat.ne_of_gt hps) hS hnew hd1 hN (by rw [hkl]; simpa using hz) fun h' hd' hs' => ?_
  show wpAny _ _ (Builtin.Dict.addKeywords s.heap.objs.size [] >>= _) _ _ _
  refine wpAny_bind (wpAny_pure (wpAny_pure ⟨rfl, ?_⟩))
  obtain ⟨o, es, ep, ho, h3, h4, h5, _, h6⟩ := hd'
  have hfresh : H s.heap.objs.size = none := I.hok.fresh (Nat.le_refl _)
  obtain ⟨_, _, _, _, _, _, _, _, hn⟩ := hd
  rw [mergeH_fresh ks [] (by simpa using hn)] at h5 h6
  refine ⟨.ref s.heap.objs.size, _, I.laid (a := s.heap.objs.size) (o := .dT kvs) (t' := s.toks) (fun b u z => ?_) (Nat.le_refl _) ⟨hz, beq_eq_false_iff_ne.mpr (Ne.symm (Nat.ne_of_lt big)), _, KT.keeps hkt fun b ys hb => ?_, o, es, ep, ho, h3, h4, h5, h6⟩, rfl, q _ hfresh⟩
  · rw [hs'.2 b (Nat.ne_of_lt (Heap.lt_size z))]
    exact Heap.get?_push_of_some _ z
  · rw [upd_ne (ne_of_none hb hfresh)]
    exact hb
end
end L2
namespace L2
open PySem PySem.Spec PyProof.Rows
section
variable {X : Cx}
theorem mt_dupdate (hu : X.A.units + 64 < cLine) : MtR X "dict.update" (fun x vs H Q => ∃ d o kvs more, x = .ref d ∧ vs = [.ref o] ∧ d ≠ o ∧ H d = some (.dT kvs) ∧ H o = some (.dT more) ∧ Small (more.map (·.1)) ∧ kvs.length + more.length ≤ sizeLine ∧ Q .non (upd H d (.dT (mergeT kvs more)))) := by
  intro pins s σ H x vs v us Q I rx rv h
  obtain ⟨d, o, kvs, more, rfl, rfl, hdo, hd, ho, hsm, hsz, q⟩ := h
  cases rx
  obtain ⟨u, rfl, ru⟩ := vals1 rv
  cases ru
  obtain ⟨hz, hS, ks, hkt, dd⟩ := dt_of I.hok hd
  obtain ⟨hz2, hS2, ks2, hkt2, dd2⟩ := dt_of I.hok ho
  have hN : HN X.prog X.w ks2 := by
    obtain ⟨_, _, _, _, _, _, _, _, hn⟩ := dd2
    exact dt_small hkt2 hsm hn
  refine wpAny_call_entry PySem.F.slot_dict_update dd.typeIs PySem.F.entry_dict_update ?_ (PySem.F.args_dict_update_2 _ _)
  unfold Builtin.«dict.update»
  refine wpAny_bind ?_
  unfold Builtin.Dict.selfAndRest
  refine wpAny_bind (wpAny_notOrdered_dict dd.typeIs ?_)
  show wpAny _ _ (pure (d, [Value.ref o])) _ _ s
  refine wpAny_pure ?_
  show wpAny _ _ (Builtin.Dict.updateFrom "dict.update" d (.ref o) [] .none) _ _ s
  unfold Builtin.Dict.updateFrom
  refine wpAny_bind (wpAny_typeOf dd2.typeIs ?_)
  rw [if_neg (by decide)]
  refine wpAny_bind ?_
  unfold Builtin.Dict.merge
  refine wpAny_bind ?_
  unfold Builtin.Dict.readDirectly
  refine wpAny_bind (wpAny_isInstance dd2.typeIs isSubtype_dict_dict ?_)
  simp only [Bool.not_true, Bool.false_eq_true, if_false]
  refine wpAny_bind (wpAny_specialOf dd2.typeIs PySem.F.slot_dict_iter.lookup (wpAny_pure ?_))
  simp only [beq_self_eq_true, if_true]
  refine wpAny_bind (wpAny_pure ?_)
  have l1 : ks.length = kvs.length := (Paired.length hkt).symm
  have l2 : ks2.length = more.length := (Paired.length hkt2).symm
  refine merge_h (by show X.A.units + 1 < cLine; omega) hdo hS2 dd dd2 hN (by omega) fun h' hd' hs' => ?_
  show wpAny _ _ (Builtin.Dict.addKeywords d [] >>= _) _ _ _
  refine wpAny_bind (wpAny_pure (wpAny_pure ⟨_, rfl, ?_⟩))
  obtain ⟨ob, es, ep, hob, h3, h4, h5, _, h6⟩ := hd'
  have hkk : KT H (mergeT kvs more) (mergeH ks ks2) := KT.puts hkt2 hkt
  have hl := mergeT_len more kvs
  refine ⟨.non, _, d_write (t' := s.toks) (ob := .dT (mergeT kvs more)) I (by rw [hd]; exact True.intro) hs' ⟨ob, hob⟩ ⟨by omega, hS, _, hkk.keeps fun c ys ec => ?_, ob, es, ep, hob, h3, h4, h5, h6⟩, rfl, q⟩
  rw [upd_ne (ne_of ec hd (fun z => nomatch z))]
  exact ec
theorem mt_dclear : MtR X "dict.clear" (fun x vs H Q => ∃ d kvs, x = .ref d ∧ vs = [] ∧ H d = some (.dT kvs) ∧ Q .non (upd H d (.dT []))) := by
  intro pins s σ H x vs v us Q I rx rv h
  obtain ⟨d, kvs, rfl, rfl, hd, q⟩ := h
  cases rx
  have hus : us = [] := by
    cases rv
    rfl
  subst hus
  obtain ⟨hz, hS, ks, hkt, dd⟩ := dt_of I.hok hd
  obtain ⟨ob, es, ep, hob, h3, h4, h5, h6, h7⟩ := id dd
  refine wpAny_call_entry PySem.F.slot_dict_clear dd.typeIs PySem.F.entry_dict_clear ?_ (PySem.F.args_dict_clear_1 _)
  unfold Builtin.«dict.clear»
  refine wpAny_bind ?_
  unfold Builtin.Dict.noArgs
  refine wpAny_bind (wpAny_notOrdered_dict dd.typeIs ?_)
  have hmark : (ob.cls == Value.type "dict" && !ob.slots.isEmpty) = false := by rw [h3.2.2]; simp
  show wpAny _ _ (pure d) _ _ s
  refine wpAny_pure ?_
  refine wpAny_bind (wpAny_dictEntries hob h4 ?_)
  unfold bearsInstanceDictMark
  refine wpAny_bind (wpAny_bind (wpAny_load hob (wpAny_pure ?_)))
  refine wpAny_bind (wpAny_updateDictKeysTo hob h4 ?_ (by simp))
  rw [hmark]
  refine wpAny_bind (wpAny_letGo (wpAny_pure ⟨_, rfl, ?_⟩))
  refine ⟨.non, _, d_write (t' := s.toks) (ob := .dT []) I (by rw [hd]; exact True.intro) (Heap.SameBut.update ..) ⟨_, Heap.get?_update_self _ hob (Obj.isFreed_of_dict (Obj.data_mapDictKeys h4 _))⟩ ⟨Nat.zero_le _, hS, [], .nil, _, _, _, Heap.get?_update_self _ hob (Obj.isFreed_of_dict (Obj.data_mapDictKeys h4 _)), h3.mapDictKeys _, Obj.data_mapDictKeys h4 _, rfl, List.nodup_nil⟩, rfl, q⟩
end
end L2
namespace L2
open PySem PySem.Spec PyProof.Rows
def IntVals (kvs : List (List Key × V)) : Prop := ∀ kv ∈ kvs, ∃ i : Int, kv.2 = V.int i
theorem kt_at {H : Hp} : ∀ {kvs : List (List Key × V)} {xs : List KQ} {i : Nat} {q : KQ}, KT H kvs xs → xs[i]? = some q → ∃ kv, kvs[i]? = some kv ∧ kv.1 = q.1 ∧ RelV kv.2 q.2.2
  | _, _, _, _, .nil, e => by simp at e
  | _, _, 0, _, .cons ⟨h1, _, h3⟩ _, e => by
    simp at e
    subst e
    exact ⟨_, rfl, h1, h3⟩
  | _, _, i + 1, q, .cons _ t, e => by
    obtain ⟨kv, h1, h2⟩ := kt_at (i := i) (q := q) t (by simpa using e)
    exact ⟨kv, by simpa using h1, h2⟩
section
variable {prog : Program} {w : World} {A : Around} {E : Value → Shared → Prop} {s : Shared} {a b : Addr} {H : Hp} {kvs : List (List Key × V)} {ka kb : List KQ}
theorem same_h {nm : String} {Q : Bool → Shared → Prop} (hu : A.units < cLine) (ha : (a == sysModules) = false) (hb : (b == sysModules) = false) (da : s.heap.DictOfH (tk2 prog w) a ka) (db : s.heap.DictOfH (tk2 prog w) b kb) (hka : KT H kvs ka) (hkb : KT H kvs kb) (hi : IntVals kvs) (h : Q true s) :
    wpAny (model prog w) A (Builtin.Dict.samePairs nm a b) Q E s := by
  obtain ⟨oa, es, ep, hoa, _, hda, hea, hia, hna⟩ := da
  obtain ⟨ob, es', ep', hob, _, hdb, heb, hib, hnb⟩ := db
  have la : es.size = ka.length := size_of_entries hea
  have lb : es'.size = kb.length := size_of_entries heb
  have l1 : kvs.length = ka.length := Paired.length hka
  have l2 : kvs.length = kb.length := Paired.length hkb
  have hsz : es.size = es'.size := by omega
  unfold Builtin.Dict.samePairs Builtin.Dict.showsAll
  rw [if_neg (show ¬ (a == sysModules) = true by rw [ha]; exact Bool.false_ne_true), if_neg (show ¬ (b == sysModules) = true by rw [hb]; exact Bool.false_ne_true)]
  refine wpAny_bind (wpAny_pure (wpAny_bind (wpAny_pure (wpAny_bind (wpAny_dictEntries hoa hda ?_)))))
  dsimp only
  refine wpAny_bind (wpAny_dictEntries hob hdb ?_)
  rw [if_neg (by rw [hsz]; simp)]
  refine wpAny_bind (wpAny_dictEpoch hoa hda (wpAny_bind ?_))
  rw [Std.Legacy.Range.forIn_eq_forIn_range']
  simp only [Std.Legacy.Range.size, Nat.sub_zero, Nat.add_sub_cancel, Nat.div_one]
  refine wpAny_forIn_list _ (fun rest q s' => s' = s ∧ q = (none, ()) ∧ ∃ i, rest = List.range' i (es.size - i) ∧ i ≤ es.size) _ ?_ ?_ _ _ ⟨rfl, rfl, 0, by simp, Nat.zero_le _⟩
  · rintro x rest q s' ⟨rfl, rfl, i, hr, hi'⟩
    have hlt : i < es.size := by
      rcases Nat.lt_or_ge i es.size with h | h
      · exact h
      · rw [Nat.sub_eq_zero_of_le h] at hr
        simp at hr
    obtain ⟨rfl, hrest⟩ : x = i ∧ rest = List.range' (i + 1) (es.size - (i + 1)) := by
      rw [show es.size - i = (es.size - (i + 1)) + 1 by omega, List.range'_succ] at hr
      injection hr with h1 h2
      exact ⟨h1, h2⟩
    refine wpAny_bind (wpAny_dictEntries hoa hda ?_)
    obtain ⟨q, hq⟩ : ∃ q, ka[x]? = some q := ⟨_, List.getElem?_eq_getElem (by omega)⟩
    obtain ⟨q2, hq2⟩ : ∃ q, kb[x]? = some q := ⟨_, List.getElem?_eq_getElem (by omega)⟩
    obtain ⟨kv, hkv, k1, r1⟩ := kt_at hka hq
    obtain ⟨kv2, hkv2, k2, r2⟩ := kt_at hkb hq2
    have ekv : kv2 = kv := Option.some.inj (hkv2.symm.trans hkv)
    subst ekv
    obtain ⟨n, hn⟩ := hi kv2 (List.mem_of_getElem? hkv)
    rw [entry_at hea x, hq]
    show wpAny _ _ (holding [Value.ref q.2.1, q.2.2] _ >>= _) _ _ _
    refine wpAny_bind (wpAny_holding (wpAny_bind (wpAny_dictFind_heap (knd := tk2 prog w) hu (hia q (List.mem_of_getElem? hq)) hob hdb heb hib hnb (fun hno => ?_) fun j p hj => ?_)))
    · exact absurd (show kb[x]? = some (q.1, q2.2) by rw [hq2, ← k1, k2]) (hno x q2.2)
    · have ej : j = x := by
        have e1 : (kb.map (·.1))[j]? = some q.1 := by rw [List.getElem?_map, hj]; rfl
        have e2 : (kb.map (·.1))[x]? = some q.1 := by rw [List.getElem?_map, hq2, ← k1, k2]; rfl
        obtain ⟨lj, gj⟩ := List.getElem?_eq_some_iff.mp e1
        obtain ⟨lx, gx⟩ := List.getElem?_eq_some_iff.mp e2
        exact (List.getElem_inj hnb).mp (gj.trans gx.symm)
      subst ej
      refine wpAny_bind (wpAny_dictEntries hob hdb ?_)
      rw [entry_at heb j, hq2]
      rw [hn] at r1 r2
      obtain ⟨t1, e1⟩ := r1
      obtain ⟨t2, e2⟩ := r2
      show wpAny _ _ (holding [q2.2.2] (eqBool q.2.2 q2.2.2)) _ _ _
      rw [e1, e2]
      refine wpAny_holding (wpAny_eqBool_int ?_)
      rw [beq_self_eq_true]
      show wpAny _ _ (if (!true) = true then _ else _) _ _ _
      rw [if_neg (by decide)]
      refine wpAny_bind (wpAny_dictEpoch hoa hda ?_)
      rw [if_neg (by simp)]
      exact wpAny_pure ⟨rfl, rfl, j + 1, hrest, hlt⟩
  · rintro q s' ⟨rfl, rfl, _⟩
    exact wpAny_pure h
end
section
variable {X : Cx}
theorem op_ne_dict (hu : X.A.units + 64 < cLine) : OpR X (compareOp .NotEq) (fun x y H Q => ∃ a b kvs, x = .ref a ∧ y = .ref b ∧ H a = some (.dT kvs) ∧ H b = some (.dT kvs) ∧ IntVals kvs ∧ Q (.bl false) H) := by
  intro pins s σ H x y v u Q I rx ry h
  obtain ⟨a, b, kvs, rfl, rfl, ha, hb, hi, q⟩ := h
  cases rx
  cases ry
  obtain ⟨_, hS, ka, hka, da⟩ := dt_of I.hok ha
  obtain ⟨_, hS2, kb, hkb, db⟩ := dt_of I.hok hb
  refine wpAny_richCompare_same_room (op := .NotEq) da.typeIs db.typeIs PySem.F.slot_dict_ne (wpAny_call_entry PySem.F.slot_dict_ne da.typeIs PySem.F.entry_dict_ne ?_ (PySem.F.args_dict_ne_2 _ _)) (by omega)
  show wpAny _ _ (Builtin.Dict.dictSlotArgs "__ne__" ⟨[.ref a, .ref b], []⟩ >>= _) _ _ s
  refine wpAny_bind ?_
  unfold Builtin.Dict.dictSlotArgs
  refine wpAny_bind (wpAny_notOrdered_dict da.typeIs ?_)
  show wpAny _ _ (pure (Value.ref a, Value.ref b)) _ _ s
  refine wpAny_pure (wpAny_bind (wpAny_isInstance (T := "dict") db.typeIs PySem.F.sub_dict_dict ?_))
  simp only [Bool.not_true, Bool.false_eq_true, if_false]
  refine wpAny_bind (wpAny_pure (wpAny_bind (wpAny_pure (wpAny_bind (same_h (by show X.A.units + 1 < cLine; omega) hS hS2 da db hka hkb hi ?_)))))
  refine wpAny_pure ⟨_, rfl, (fun x => nomatch x), ?_⟩
  exact ⟨.bl false, H, I, rfl, q⟩
end
end L2
namespace L2
open PySem PySem.Spec PyProof.Rows
section
variable {prog : Program} {w : World} {A : Around} {E : Value → Shared → Prop} {s : Shared} {d it : Addr} {od : Obj} {es : Array DictEntry} {ep i : Nat}
theorem iter_dh {Q : Value → Shared → Prop} (hS : (d == sysModules) = false) (hod : s.heap.get? d = some od) (hc : od.ExactDict) (hdd : od.data = .dict es ep)
    (hQ : Q (.ref s.heap.objs.size) { s with heap := s.heap.push { cls := .type "dict_keyiterator", data := .fields #[.ref d, .int 0 0, .int es.size 0, .int ep 0] } }) : wpAny (model prog w) A (pyIter (.ref d)) Q E s := by
  have hT : s.TypeIs (.ref d) "dict" := ⟨od, hod, hc.1⟩
  refine wpAny_pyIter_slot hT PySem.F.slot_dict_iter (wpAny_call_entry PySem.F.slot_dict_iter hT PySem.F.entry_dict_iter ?_ (PySem.F.args_dict_iter_1 _))
  unfold Builtin.«dict.__iter__»
  refine wpAny_bind ?_
  unfold Builtin.Dict.dictSlotNone
  refine wpAny_bind (wpAny_notOrdered_dict hT ?_)
  show wpAny _ _ (pure (Value.ref d)) _ _ s
  refine wpAny_pure ?_
  show wpAny _ _ (Builtin.Dict.showsAll d >>= _) _ _ s
  unfold Builtin.Dict.showsAll
  rw [if_neg (show ¬ (d == sysModules) = true by rw [hS]; exact Bool.false_ne_true)]
  refine wpAny_bind (wpAny_pure (wpAny_bind (wpAny_dictEntries hod hdd (wpAny_bind (wpAny_dictEpoch hod hdd ?_)))))
  refine wpAny_bind (wpAny_newObj_type (wpAny_pure ⟨_, rfl, "dict_keyiterator", _, ⟨_, Heap.get?_push_size _ rfl, rfl⟩, PySem.F.slot_dict_keyiterator_next.lookup, ?_⟩))
  simpa [rawInt] using hQ
theorem next_dh {e : DictEntry} {Q : Option Value → Shared → Prop} (hit : s.heap.IsKeyIter it d i es.size ep) (hod : s.heap.get? d = some od) (hdd : od.data = .dict es ep) (hx : es[i]? = some e)
    (hQ : ∀ h', h'.IsKeyIter it d (i + 1) es.size ep → Heap.SameBut it s.heap h' → Q (some e.key) { s with heap := h' }) : wpAny (model prog w) A (pyNext (.ref it)) Q E s := by
  obtain ⟨o, ho, hc, hd⟩ := id hit
  unfold pyNext
  refine wpAny_bind (wpAny_attempt (wpAny_callSpecial?_slot (name := Str.ofString "__next__") hit.typeIs PySem.F.slot_dict_keyiterator_next (wpAny_call_entry PySem.F.slot_dict_keyiterator_next hit.typeIs PySem.F.entry_dict_keyiterator_next ?_ (PySem.F.args_dict_keyiterator_next_1 _))))
  refine wpAny_bind (wpAny_pure (wpAny_bind (wpAny_bind ?_)))
  first | refine wpAny_bind (wpAny_typeNameOfWhole_keyiter hit.typeIs (wpAny_pure ?_)) | refine wpAny_bind (wpAny_typeNameOf_keyiter hit.typeIs (wpAny_pure ?_))
  refine wpAny_bind (wpAny_fieldsOf ho hd ?_)
  have hown : Builtin.Dict_items.ownsTuple "dict_keyiterator" = false := by decide
  simp only [hown, Bool.false_eq_true, if_false]
  show wpAny _ _ (if (Value.ref d == Value.none) = true then _ else _) _ _ s
  rw [if_neg (show ¬ ((Value.ref d == Value.none) = true) from Bool.false_ne_true)]
  refine wpAny_bind (wpAny_pure (wpAny_bind (wpAny_dictEntries hod hdd ?_)))
  rw [if_neg (by simp)]
  refine wpAny_bind (wpAny_pure (wpAny_bind (wpAny_dictEpoch hod hdd ?_)))
  rw [if_neg (by simp)]
  refine wpAny_pure ?_
  simp only [show ¬ ((i : Int) < 0) from by omega, if_false, Int.toNat_natCast, hx]
  refine wpAny_bind ?_
  first | refine wpAny_bind (wpAny_typeNameOfWhole_keyiter hit.typeIs (wpAny_pure ?_)) | refine wpAny_bind (wpAny_typeNameOf_keyiter hit.typeIs (wpAny_pure ?_))
  refine wpAny_bind (wpAny_isOneOf_keyiter hit.typeIs ?_)
  show wpAny _ _ (setField (.ref it) 1 (rawInt ((i : Int) + 1)) >>= _) _ _ s
  refine wpAny_bind (wpAny_setField ho hd (by simp) ?_)
  have hit' : (s.heap.update it (Obj.mapFields (·.setIfInBounds 1 (rawInt ((i : Int) + 1))))).IsKeyIter it d (i + 1) es.size ep :=
    ⟨_, Heap.get?_update_self _ ho (Obj.isFreed_of_fields (Obj.data_mapFields hd _)), (Obj.cls_mapFields ..).trans hc, by rw [Obj.data_mapFields hd]; simp [rawInt]⟩
  refine wpAny_bind (wpAny_holding ?_)
  refine wpAny_bind (wpAny_isOneOf_keyiter (s := { s with heap := s.heap.update it (Obj.mapFields (·.setIfInBounds 1 (rawInt ((i : Int) + 1)))) }) hit'.typeIs ?_)
  show wpAny _ _ (pure e.key) _ _ _
  exact wpAny_pure (wpAny_pure ⟨_, rfl, wpAny_pure (hQ _ hit' (Heap.SameBut.update ..))⟩)
theorem end_dh {Q : Option Value → Shared → Prop} (hh : A.handled = none) (hit : s.heap.IsKeyIter it d i es.size ep) (hod : s.heap.get? d = some od) (hdd : od.data = .dict es ep) (hge : es.size ≤ i)
    (hQ : ∀ h', Heap.ExtBut it s.heap h' → Q none { s with heap := h' }) : wpAny (model prog w) A (pyNext (.ref it)) Q E s := by
  obtain ⟨o, ho, hc, hd⟩ := id hit
  unfold pyNext
  refine wpAny_bind (wpAny_attempt (wpAny_callSpecial?_slot (name := Str.ofString "__next__") hit.typeIs PySem.F.slot_dict_keyiterator_next (wpAny_call_entry PySem.F.slot_dict_keyiterator_next hit.typeIs PySem.F.entry_dict_keyiterator_next ?_ (PySem.F.args_dict_keyiterator_next_1 _))))
  refine wpAny_bind (wpAny_pure (wpAny_bind (wpAny_bind ?_)))
  first | refine wpAny_bind (wpAny_typeNameOfWhole_keyiter hit.typeIs (wpAny_pure ?_)) | refine wpAny_bind (wpAny_typeNameOf_keyiter hit.typeIs (wpAny_pure ?_))
  refine wpAny_bind (wpAny_fieldsOf ho hd ?_)
  have hown : Builtin.Dict_items.ownsTuple "dict_keyiterator" = false := by decide
  simp only [hown, Bool.false_eq_true, if_false]
  show wpAny _ _ (if (Value.ref d == Value.none) = true then _ else _) _ _ s
  rw [if_neg (show ¬ ((Value.ref d == Value.none) = true) from Bool.false_ne_true)]
  refine wpAny_bind (wpAny_pure (wpAny_bind (wpAny_dictEntries hod hdd ?_)))
  rw [if_neg (by simp)]
  refine wpAny_bind (wpAny_pure (wpAny_bind (wpAny_dictEpoch hod hdd ?_)))
  rw [if_neg (by simp)]
  refine wpAny_pure ?_
  simp only [show ¬ ((i : Int) < 0) from by omega, if_false, Int.toNat_natCast, Array.getElem?_eq_none hge]
  refine wpAny_bind ?_
  first | refine wpAny_bind (wpAny_typeNameOfWhole_keyiter hit.typeIs (wpAny_pure ?_)) | refine wpAny_bind (wpAny_typeNameOf_keyiter hit.typeIs (wpAny_pure ?_))
  show wpAny _ _ (setField (.ref it) 0 .none >>= _) _ _ s
  refine wpAny_bind (wpAny_setField ho hd (by simp) ?_)
  show wpAny _ _ (newExc (.type "StopIteration") [] >>= _) _ _ _
  refine wpAny_bind ?_
  simp only [newExc, newTuple]
  refine wpAny_bind (wpAny_newObj_type ?_ (by size_fits))
  refine wpAny_bind (m := firstArgMember _ _) (wpAny_of_eq (a := Value.none) (by first | rfl | (simp only [firstArgMember]; rfl)) ?_)
  refine wpAny_newObj_type ?_ (by size_fits)
  simp only [raiseNew]
  refine wpAny_bind (wpAny_handled ?_)
  rw [show A.in1.handled = none from hh]
  refine wpAny_bind (wpAny_pure (wpAny_throw ?_))
  refine wpAny_bind (wpAny_isInstance (T := "StopIteration") (b := true) ⟨_, Heap.get?_push_size _ rfl, rfl⟩ isSubtype_stop ?_)
  exact wpAny_pure (hQ _ (((Heap.SameBut.update ..).extBut.push _).push _))
end
end L2
namespace L2
open PySem PySem.Spec PyProof.Rows
/-- the keys of a dict that no one changes in the meantime -/
def Itd (d : Addr) (o : Obj) (kvs : List (List Key × V)) : It :=
  ⟨fun i H => H d = some (.frz o (.dT kvs)) ∧ i < kvs.length, fun i H x H' => H' = H ∧ ∃ kv b, kvs[i]? = some kv ∧ x = V.ref b ∧ H b = some (.tup (kv.1.map kV)), fun i H => H d = some (.frz o (.dT kvs)) ∧ kvs.length ≤ i⟩
theorem kt_at2 {H : Hp} : ∀ {kvs : List (List Key × V)} {xs : List KQ} {i : Nat} {q : KQ}, KT H kvs xs → xs[i]? = some q → ∃ kv, kvs[i]? = some kv ∧ H q.2.1 = some (.tup (kv.1.map kV))
  | _, _, _, _, .nil, e => by simp at e
  | _, _, 0, _, .cons ⟨_, h2, _⟩ _, e => by
    simp at e
    subst e
    exact ⟨_, rfl, h2⟩
  | _, _, i + 1, q, .cons _ t, e => by
    obtain ⟨kv, h1, h2⟩ := kt_at2 (i := i) (q := q) t (by simpa using e)
    exact ⟨kv, by simpa using h1, h2⟩
theorem turn_dict {P : Program} {w : World} {K : PySem.W.Frag} {tg : Expr} (d it : Addr) (o : Obj) (kvs : List (List Key × V)) (es : Array DictEntry) (ep : Nat) (hdd : o.data = .dict es ep) (hl : es.size = kvs.length) : Turn P w K tg (Itd d o kvs) [it] it (fun i h => h.IsKeyIter it d i es.size ep) where
  mem := by simp
  obj := fun i h st b hb => by
    have e : b = it := by simpa using hb
    subst e
    obtain ⟨ob, e, c, dt⟩ := st
    exact ⟨ob, e, fun v z => by rw [dt] at z; cases z⟩
  keep := fun i h h' ⟨ob, e, r⟩ k => ⟨ob, k it (by simp) ob e, r⟩
  item := by
    intro X hP hw hK hc i pins s σ H E I hf st hg
    subst hP hw hK
    obtain ⟨hd, hi⟩ := hg
    obtain ⟨ho, _, _, xs, hkt, o', es', ep', ho', _, hd', he', _⟩ := (show ObjOk X.prog X.w H s.heap d (.frz o (.dT kvs)) from I.hok d _ hd)
    have eo : o' = o := Option.some.inj (ho'.symm.trans ho)
    subst eo
    rw [hdd] at hd'
    injection hd' with e1 e2
    subst e1
    obtain ⟨q, hq⟩ : ∃ q, xs[i]? = some q := ⟨_, List.getElem?_eq_getElem (by rw [← Paired.length hkt]; exact hi)⟩
    obtain ⟨kv, hkv, hb⟩ := kt_at2 hkt hq
    obtain ⟨f0, f1, f2, f3, f4, f5⟩ := hf it (by simp)
    have hx : es[i]? = some (entryOfKey (tk2 X.prog X.w) q) := by rw [entry_at he' i, hq]; rfl
    refine next_dh st ho hdd hx fun h' st' sb => ?_
    have I1 : Inv X pins σ H { s with heap := h' } := I.turned (t' := s.toks) (fun b ob hb e => (sb.2 b hb).trans e) f0 f1 f3 f4 f5
    obtain ⟨oi, e, c, dt⟩ := id st'
    exact ⟨.ref q.2.1, rfl, go_of (s := { s with heap := h' }) e c dt (by decide) ⟨.ref q.2.1, H, I1, rfl, ⟨rfl, kv, q.2.1, hkv, rfl, hb⟩, st', fun b hb => (hf b hb).1⟩⟩
  done := by
    intro X hP hw hK hc i pins s σ H E I hf st hg
    subst hP hw hK
    obtain ⟨hd, hi⟩ := hg
    obtain ⟨ho, _⟩ := (show ObjOk X.prog X.w H s.heap d (.frz o (.dT kvs)) from I.hok d _ hd)
    obtain ⟨f0, f1, f2, f3, f4, f5⟩ := hf it (by simp)
    exact end_dh (I.ok.hd hc) st ho hdd (by omega) fun h' eb => ⟨rfl, I.turned (t' := s.toks) (fun b ob hb e => eb b ob hb e) f0 f1 f3 f4 f5⟩
  self := fun _ _ _ _ _ st h => wpAny_pyIter_keyiter st h
section
variable {X : Cx} {tg : Expr}
def iDict (tl : TE) : TI := fun σ H R => tl σ H fun x H1 => ∃ a kvs, x = .ref a ∧ H1 a = some (.dT kvs) ∧ ∀ o, R (Itd a o kvs) (upd H1 a (.frz o (.dT kvs)))
theorem pi_dict {l : Expr} {tl : TE} (hl : PE X l tl) : PI X tg l (iDict tl) := by
  intro pins s σ H R I h
  refine thn (hl pins s σ H _ I h) fun v s1 ⟨x, H1, I1, r1, q1⟩ => ?_
  obtain ⟨a, kvs, e, hd, q⟩ := q1
  subst e
  cases r1
  obtain ⟨hz, hS, xs, hkt, o, es, ep, ho, hc, hdd, he, hn⟩ := (show ObjOk X.prog X.w H1 s1.heap a (.dT kvs) from I1.hok a _ hd)
  have hes : es.size = kvs.length := by rw [size_of_entries he, Paired.length hkt]
  refine iter_dh hS ho hc hdd ?_
  have ha : a < s1.heap.objs.size := Heap.lt_size ho
  have hfr : H1 s1.heap.objs.size = none := I1.hok.fresh (Nat.le_refl _)
  refine ⟨s1.heap.objs.size, [s1.heap.objs.size], _, Itd a o kvs, upd H1 a (.frz o (.dT kvs)), rfl, ?_, turn_dict a _ o kvs es ep hdd hes, ⟨_, Heap.get?_push_size _ rfl, rfl, rfl⟩, fun b hb => ?_, q o⟩
  · refine I1.write (x := a) (e := a) (t' := s1.toks) (by rw [hd]; exact True.intro) (.inl rfl) (fun b u _ z => Heap.get?_push_of_some _ z) ⟨o, Heap.get?_push_of_some _ ho⟩ ⟨Heap.get?_push_of_some _ ho, hz, hS, xs, KT.keeps hkt fun b ys hb => ?_, o, es, ep, Heap.get?_push_of_some _ ho, hc, hdd, he, hn⟩
    rw [upd_ne (ne_of hb hd (fun z => nomatch z))]
    exact hb
  · have e : b = s1.heap.objs.size := by simpa using hb
    subst e
    refine I1.fpOk (Nat.le_refl _) ?_
    rw [upd_ne (Nat.ne_of_gt ha)]
    exact hfr
end
theorem for_dict {d : Addr} {o : Obj} {kvs : List (List Key × V)} {g : TG} {tb : TS} {D : Ends} {σ : St} {H : Hp} (Pv : Nat → St → Hp → Prop) (h0 : Pv 0 σ H) (hl : ∀ i σ H, i ≤ kvs.length → Pv i σ H → H d = some (.frz o (.dT kvs)))
    (hs : ∀ i kv b σ H, kvs[i]? = some kv → H b = some (.tup (kv.1.map kV)) → Pv i σ H → g (.ref b) σ H fun σ2 H2 => tb { D with nx := Pv (i + 1), ct := Pv (i + 1), bk := D.nx } σ2 H2) (hd : ∀ σ H, Pv kvs.length σ H → D.nx σ H) :
    ∃ W : Nat → Nat → St → Hp → Prop, (∃ m, W 0 m σ H) ∧ ∀ i m σ H, W i m σ H →
      ((Itd d o kvs).stop i H ∧ D.nx σ H) ∨ ((Itd d o kvs).go i H ∧ ∃ N : St → Hp → Prop, (∀ σ' H', N σ' H' → ∃ m', m' < m ∧ W (i + 1) m' σ' H') ∧ ∀ x H', (Itd d o kvs).yld i H x H' → g x σ H' fun σ2 H2 => tb { D with nx := N, ct := N, bk := D.nx } σ2 H2) := by
  refine ⟨fun i m σ H => m = kvs.length - i ∧ i ≤ kvs.length ∧ Pv i σ H, ⟨kvs.length, by simp, Nat.zero_le _, h0⟩, ?_⟩
  rintro i m σ H ⟨rfl, hi, p⟩
  have q := hl i σ H hi p
  by_cases hlt : i < kvs.length
  · refine .inr ⟨⟨q, hlt⟩, Pv (i + 1), fun σ' H' p' => ⟨kvs.length - (i + 1), by omega, rfl, hlt, p'⟩, fun x H' y => ?_⟩
    obtain ⟨rfl, kv, b, hk, rfl, hb⟩ := y
    exact hs i kv b σ H' hk hb p
  · have e : i = kvs.length := by omega
    subst e
    exact .inl ⟨⟨q, Nat.le_refl _⟩, hd σ H p⟩
end L2
/-! Own rules: str of a number or of a text. -/
namespace L2
open PySem PySem.Spec PyProof.Rows
section
variable {X : Cx}
theorem call_str_is : CallR X (.type "str") (fun xs H Q => ∃ v z, xs = [v] ∧ (v = V.str z ∨ ∃ i : Int, v = V.int i ∧ i.natAbs.log2 < 1920 ∧ z = toString i) ∧ Q (.str z) H) := by
  intro pins s σ H xs us Q I r h
  obtain ⟨v, z, rfl, h, q⟩ := h
  rcases h with rfl | ⟨i, rfl, hz, rfl⟩
  · exact call_str_str pins s σ H _ us Q I r ⟨z, rfl, q⟩
  · exact call_str_int pins s σ H _ us Q I r ⟨i, rfl, hz, q⟩
end
end L2
namespace Cells
/-- the cells of a row from column j on, of the signs that p takes -/
def rowCs (p : Nat → Bool) (i : Nat) : Nat → List Nat → List (Nat × Nat)
  | _, [] => []
  | j, c :: r => (if p c = true then [(i, j)] else []) ++ rowCs p i (j + 1) r
def allCs (p : Nat → Bool) : Nat → List (List Nat) → List (Nat × Nat)
  | _, [] => []
  | i, t :: r => rowCs p i 0 t ++ allCs p (i + 1) r
theorem rowCs_append (p : Nat → Bool) (i : Nat) : ∀ (j : Nat) (a b : List Nat), rowCs p i j (a ++ b) = rowCs p i j a ++ rowCs p i (j + a.length) b
  | j, [], b => by simp [rowCs]
  | j, c :: a, b => by
    simp only [List.cons_append, rowCs, rowCs_append p i (j + 1) a b, List.length_cons, List.append_assoc]
    rw [show j + 1 + a.length = j + (a.length + 1) by omega]
theorem allCs_append (p : Nat → Bool) : ∀ (i : Nat) (a b : List (List Nat)), allCs p i (a ++ b) = allCs p i a ++ allCs p (i + a.length) b
  | i, [], b => by simp [allCs]
  | i, t :: a, b => by
    simp only [List.cons_append, allCs, allCs_append p (i + 1) a b, List.length_cons, List.append_assoc]
    rw [show i + 1 + a.length = i + (a.length + 1) by omega]
theorem rowCs_step {p : Nat → Bool} {i j c : Nat} {t : List Nat} (h : t[j]? = some c) : rowCs p i 0 (t.take (j + 1)) = rowCs p i 0 (t.take j) ++ (if p c = true then [(i, j)] else []) := by
  rw [List.take_add_one, h, rowCs_append]
  have hl : (t.take j).length = j := by
    have := (List.getElem?_eq_some_iff.mp h).1
    rw [List.length_take]; omega
  simp [rowCs, hl]
theorem allCs_step {p : Nat → Bool} {i : Nat} {t : List Nat} {rs : List (List Nat)} (h : rs[i]? = some t) : allCs p 0 (rs.take (i + 1)) = allCs p 0 (rs.take i) ++ rowCs p i 0 t := by
  rw [List.take_add_one, h, allCs_append]
  have hl : (rs.take i).length = i := by
    have := (List.getElem?_eq_some_iff.mp h).1
    rw [List.length_take]; omega
  simp [allCs, hl]
theorem rowCs_length (p : Nat → Bool) (i : Nat) : ∀ (j : Nat) (t : List Nat), (rowCs p i j t).length ≤ t.length
  | j, [] => by simp [rowCs]
  | j, c :: r => by
    have := rowCs_length p i (j + 1) r
    simp only [rowCs, List.length_append, List.length_cons]
    split <;> simp <;> omega
theorem allCs_length (p : Nat → Bool) : ∀ (i : Nat) (rs : List (List Nat)), (∀ t ∈ rs, t.length ≤ 8) → (allCs p i rs).length ≤ 8 * rs.length
  | i, [], _ => by simp [allCs]
  | i, t :: r, h => by
    have h1 := rowCs_length p i 0 t
    have h2 := allCs_length p (i + 1) r fun u hu => h u (List.mem_cons_of_mem _ hu)
    have h3 := h t List.mem_cons_self
    simp only [allCs, List.length_append, List.length_cons]
    omega
theorem mem_rowCs {p : Nat → Bool} {i : Nat} : ∀ {j : Nat} {t : List Nat} {x : Nat × Nat}, x ∈ rowCs p i j t → ∃ m c, x = (i, j + m) ∧ t[m]? = some c ∧ p c = true
  | j, [], x, h => by simp [rowCs] at h
  | j, c :: r, x, h => by
    simp only [rowCs, List.mem_append] at h
    rcases h with h | h
    · split at h
      · rename_i hp
        have : x = (i, j) := by simpa using h
        exact ⟨0, c, this, rfl, hp⟩
      · cases h
    · obtain ⟨m, c', e, h1, h2⟩ := mem_rowCs h
      exact ⟨m + 1, c', by rw [e, show j + 1 + m = j + (m + 1) by omega], by simpa using h1, h2⟩
theorem mem_allCs {p : Nat → Bool} : ∀ {i : Nat} {rs : List (List Nat)} {x : Nat × Nat}, x ∈ allCs p i rs → ∃ k j t c, x = (i + k, j) ∧ rs[k]? = some t ∧ t[j]? = some c ∧ p c = true
  | i, [], x, h => by simp [allCs] at h
  | i, t :: r, x, h => by
    simp only [allCs, List.mem_append] at h
    rcases h with h | h
    · obtain ⟨m, c, e, h1, h2⟩ := mem_rowCs h
      exact ⟨0, m, t, c, by simpa using e, rfl, h1, h2⟩
    · obtain ⟨k, j, u, c, e, h1, h2, h3⟩ := mem_allCs h
      exact ⟨k + 1, j, u, c, by rw [e, show i + 1 + k = i + (k + 1) by omega], by simpa using h1, h2, h3⟩
/-- the sign at a place -/
def sgn (rs : List (List Nat)) (x : Nat × Nat) : Nat := (rs.getD x.1 []).getD x.2 0
theorem rowCs_filter {p q : Nat → Bool} {i : Nat} (f : Nat × Nat → Bool) : ∀ (j : Nat) (t : List Nat), (∀ m c, t[m]? = some c → f (i, j + m) = q c) → (rowCs p i j t).filter f = rowCs (fun c => p c && q c) i j t
  | j, [], _ => by simp [rowCs]
  | j, c :: r, h => by
    have ih := rowCs_filter (p := p) (q := q) (i := i) f (j + 1) r fun m c' hm => by
      have := h (m + 1) c' (by simpa using hm)
      rw [show j + 1 + m = j + (m + 1) by omega]; exact this
    have h0 := h 0 c rfl
    simp only [rowCs, List.filter_append, ih]
    congr 1
    simp only [Nat.add_zero] at h0
    by_cases hp : p c = true
    · by_cases hq : q c = true
      · simp [hp, hq, h0]
      · simp [hp, hq, h0]
    · simp [hp]
theorem allCs_filter {p q : Nat → Bool} (f : Nat × Nat → Bool) : ∀ (i : Nat) (rs : List (List Nat)), (∀ k t m c, rs[k]? = some t → t[m]? = some c → f (i + k, m) = q c) → (allCs p i rs).filter f = allCs (fun c => p c && q c) i rs
  | i, [], _ => by simp [allCs]
  | i, t :: r, h => by
    have ih := allCs_filter (p := p) (q := q) f (i + 1) r fun k u m c hk hm => by
      have := h (k + 1) u m c (by simpa using hk) hm
      rw [show i + 1 + k = i + (k + 1) by omega]; exact this
    simp only [allCs, List.filter_append, ih]
    rw [rowCs_filter (p := p) (q := q) f 0 t fun m c hm => by simpa using h 0 t m c rfl hm]
theorem sgn_at {rs : List (List Nat)} {i j : Nat} {t : List Nat} {c : Nat} (h : rs[i]? = some t) (h2 : t[j]? = some c) : sgn rs (i, j) = c := by
  unfold sgn
  simp [List.getD, h, h2]
theorem all_filter {p q : Nat → Bool} (rs : List (List Nat)) : (allCs p 0 rs).filter (fun x => q (sgn rs x)) = allCs (fun c => p c && q c) 0 rs :=
  allCs_filter _ 0 rs fun k t m c hk hm => by rw [show 0 + k = k by omega, sgn_at hk hm]
theorem allCs_congr {p q : Nat → Bool} (h : ∀ c, p c = q c) (i : Nat) (rs : List (List Nat)) : allCs p i rs = allCs q i rs := by
  rw [show p = q from funext h]
end Cells
namespace K06
open PySem L2
def top (i : Nat) : Stmt := PySem.Challenge.pw_stonelay_k06_whole_boards_opened.main.body.getD i (.Pass ⟨0, 0, 0, 0⟩)
abbrev s_board_of : Stmt := top 10
abbrev s_checked_rows : Stmt := top 11
abbrev s_check_row : Stmt := top 12
abbrev s_closed : Stmt := top 13
abbrev s_open_cells : Stmt := top 14
abbrev s_number_at : Stmt := top 15
abbrev s_opened : Stmt := top 16
abbrev s_cells_of : Stmt := top 17
abbrev s_sign_at : Stmt := top 18
abbrev s_law_cell_at : Stmt := top 20
abbrev s_law_mixed : Stmt := top 21
abbrev s_law_rows : Stmt := top 22
abbrev s_law_put : Stmt := top 23
abbrev s_law_dicts : Stmt := top 24
abbrev s_law : Stmt := top 25
structure Txt (mg : Str → Option Value) : Prop where
  b_dict : mg "dict" = none
  b_enumerate : mg "enumerate" = none
  b_int : mg "int" = none
  b_isinstance : mg "isinstance" = none
  b_len : mg "len" = none
  b_list : mg "list" = none
  b_range : mg "range" = none
  b_str : mg "str" = none
  b_tuple : mg "tuple" = none
  v_BOARD_SIGNS : ∃ t, mg "BOARD_SIGNS" = some (.str "?012345678#" t)
  v_CLOSED_SIGN : ∃ t, mg "CLOSED_SIGN" = some (.str "?" t)
  v_LONGEST_SIDE : ∃ t, mg "LONGEST_SIDE" = some (.int 8 t)
  v_MOST_STONES : ∃ t, mg "MOST_STONES" = some (.int 64 t)
  v_NO_CELL_SIGN : ∃ t, mg "NO_CELL_SIGN" = some (.str "#" t)
/-! Boards: the script's numbers, the rows that a law makes of them, what board_of gives for such rows. -/
def spCell (K : PySem.W.Frag) : Sp := fun vs H Q _ => ∃ (a : Addr) (ns : List Int) (k : Int), vs = [.ref a, .int k] ∧ SqL K H a (ns.map V.int) ∧ 0 ≤ k ∧ ∀ z : Int, Q (.int z) H
def spMixed : Sp := fun vs H Q _ => ∃ (c k : Int), vs = [.int c, .int k] ∧ 0 ≤ k ∧ k ≤ 1000000 ∧ ∀ z : Int, Q (.int z) H
/-- a row of n signs out of these -/
structure Row (signs : List Nat) (n : Nat) (t : Str) : Prop where
  len : t.cps.size = n
  mem : ∀ c ∈ t.cps.toList, c ∈ signs
/-- rows of a board -/
structure Rows (signs : List Nat) (rs : List Str) : Prop where
  lo : 1 ≤ rs.length
  hi : rs.length ≤ 8
  ex : ∃ n, 1 ≤ n ∧ n ≤ 8 ∧ ∀ t ∈ rs, Row signs n t
def spRows (K : PySem.W.Frag) : Sp := fun vs H Q _ => ∃ (a : Addr) (ns : List Int) (z : Str), vs = [.ref a, .str z] ∧ SqL K H a (ns.map V.int) ∧ 1 ≤ z.cps.size ∧ z.cps.size ≤ 20 ∧
  ∀ (l : Addr) (rs : List Str) (H' : Hp), H l = none → H' l = some (.lst (rs.map V.str)) → Same H H' → Rows z.cps.toList rs → Q (.ref l) H'
def bd : Str := "?012345678#"
def spCheckRow : Sp := fun vs H Q _ => ∃ (t : Str) (n : Nat), vs = [.str t, .int n, .str bd] ∧ 1 ≤ n ∧ n ≤ 8 ∧ Row bd.cps.toList n t ∧ Q .non H
def spChecked : Sp := fun vs H Q _ => ∃ (a : Addr) (rs : List Str), vs = [.ref a, .str bd] ∧ H a = some (.lst (rs.map V.str)) ∧ Rows bd.cps.toList rs ∧ ∀ l, H l = none → Q (.ref l) (upd H l (.lst (rs.map V.str)))
def spBoard : Sp := fun vs H Q _ => ∃ (a : Addr) (rs : List Str) (n : Int), vs = [.ref a, .int n] ∧ H a = some (.lst (rs.map V.str)) ∧ Rows bd.cps.toList rs ∧ 0 ≤ n ∧ n ≤ 64 ∧
  ∀ l p, H l = none → H p = none → p ≠ l → Q (.ref p) (upd (upd H l (.lst (rs.map V.str))) p (.tup [.ref l, .int n]))
theorem notIn_bd {c : Nat} (h : c ∈ bd.cps.toList) : (!(!(Builtin.Str.occurrences bd ⟨#[c]⟩ 0 bd.length 1).isEmpty)) = false := by
  have : ∀ c ∈ bd.cps.toList, (!(!(Builtin.Str.occurrences bd ⟨#[c]⟩ 0 bd.length 1).isEmpty)) = false := by decide +kernel
  exact this c h
theorem Row.more {signs : List Nat} {n : Nat} {t : Str} {c : Nat} (r : Row signs n t) (h : c ∈ signs) : Row signs (n + 1) (t ++ ⟨#[c]⟩) := by
  have e : (t ++ (⟨#[c]⟩ : Str)).cps = t.cps ++ #[c] := rfl
  refine ⟨?_, fun d hd => ?_⟩
  · rw [e, Array.size_append, r.len]
    rfl
  · rw [e, Array.toList_append] at hd
    rcases List.mem_append.mp hd with hd | hd
    · exact r.mem d hd
    · have z : d = c := by simpa using hd
      rw [z]
      exact h
section
variable {P : Program} {w : World} {K : PySem.W.Frag} {mg : Str → Option Value} {base : Heap} {f : Addr} {fd : FuncData}
theorem sc_law_cell_at : FnScope ["_law_script", "_law_k"] ["_law_script", "_law_k"] (defScope s_law_cell_at) := ⟨rfl, rfl, rfl, by decide +kernel, rfl, by decide +kernel, by decide +kernel⟩
theorem ok_law_cell_at (T : Txt mg) (D : DefAt K mg "_law_cell_at" s_law_cell_at ["_law_script", "_law_k"] f fd) : FnOk P w K mg base CX0 1 f fd ["_law_script", "_law_k"] (spCell K) := by
  refine D.F.ok sc_law_cell_at (fun vs H Q E h => ?_) (fun cdv A outer s H vs Q E hr h => ?_)
  · obtain ⟨a, ns, i, rfl, _⟩ := h
    rfl
  · obtain ⟨a, ns, i, rfl, hS, hi, k⟩ := h
    refine ⟨_, (pss_cons (ps_if (pt_cmpR op_lt (pv 1) (pe_callB call_len_seq (by rfl) T.b_len PySem.boot_len (pa_cons (pv 0) pa_nil)) (nomark _)) (pss_one (ps_ret (pe_ix ix_list (pv 0) (pv 1) (fun _ _ => rfl)))) pss_nil)
      (pss_one (ps_ret pe_int))), ?_⟩
    refine ⟨_, rfl, _, rfl, a, _, rfl, .inl hS, _, _, rfl, rfl, _, rfl, ?_⟩
    refine ite2 (fun c => ?_) (fun c => ?_)
    · have c' : i < ((ns.map V.int).length : Nat) := of_decide_eq_true c
      rw [List.length_map] at c'
      have hl : i.toNat < ns.length := by omega
      refine ⟨_, rfl, _, rfl, a, _, i, .int ns[i.toNat], rfl, rfl, hS, atI_lt hi (by rw [List.getElem?_map, List.getElem?_eq_getElem hl]; rfl), ?_⟩
      exact k _
    · exact k 0
theorem sc_law_mixed : FnScope ["_law_cell", "_law_k", "_law_drawn"] ["_law_cell", "_law_k"] (defScope s_law_mixed) := ⟨rfl, rfl, rfl, by decide +kernel, rfl, by decide +kernel, by decide +kernel⟩
theorem ok_law_mixed (D : DefAt K mg "_law_mixed" s_law_mixed ["_law_cell", "_law_k"] f fd) : FnOk P w K mg base CX0 1 f fd ["_law_cell", "_law_k"] spMixed := by
  refine D.F.ok sc_law_mixed (fun vs H Q E h => ?_) (fun cdv A outer s H vs Q E hr h => ?_)
  · obtain ⟨c, i, rfl, _⟩ := h
    rfl
  · obtain ⟨c, i, rfl, h0, h1, k⟩ := h
    refine ⟨_, (pss_cons (ps_set (i := 2) sc_law_mixed.nd rfl (Or.inl rfl) (pe_op op_mod (pe_op op_add (pe_op op_add (pe_op op_mod (pv 0) pe_int) (pe_op op_mulG pe_int (pv 1))) pe_int) pe_int))
      (pss_cons (ps_set (i := 2) sc_law_mixed.nd rfl (Or.inl rfl) (pe_op op_mod (pe_op op_mulG (pe_op op_mod (pe_op op_mulG (pv 2) (pv 2)) pe_int) pe_int) pe_int))
      (pss_one (ps_ret (pe_op op_fdivG (pe_op op_mod (pe_op op_mulG (pv 2) (pe_op op_add (pv 2) pe_int)) pe_int) pe_int))))), ?_⟩
    refine ⟨_, rfl, _, _, rfl, rfl, (by show (0 : Int) < 2147483629; decide), _, rfl, _, _, rfl, rfl, mulL (by decide) (by decide), _, _, rfl, rfl, _, _, rfl, rfl, _, _, rfl, rfl, (by show (0 : Int) < 2147483647; decide), ?_⟩
    have a0 := Int.emod_nonneg (c % 2147483629 + 7919 * i + 11) (show (2147483647 : Int) ≠ 0 by decide)
    have a1 := Int.emod_lt_of_pos (c % 2147483629 + 7919 * i + 11) (show (0 : Int) < 2147483647 by decide)
    generalize (c % 2147483629 + 7919 * i + 11) % 2147483647 = d at *
    refine ⟨_, rfl, _, rfl, _, _, rfl, rfl, mulL (by omega) (by omega), _, _, rfl, rfl, (by show (0 : Int) < 2147483647; decide), _, _, rfl, rfl, mulS (by decide) (by decide), _, _, rfl, rfl, (by show (0 : Int) < 2147483587; decide), ?_⟩
    have b0 := Int.emod_nonneg (d * d % 2147483647 * 48271) (show (2147483587 : Int) ≠ 0 by decide)
    have b1 := Int.emod_lt_of_pos (d * d % 2147483647 * 48271) (show (0 : Int) < 2147483587 by decide)
    generalize d * d % 2147483647 * 48271 % 2147483587 = e at *
    exact ⟨_, rfl, _, rfl, _, _, rfl, rfl, _, _, rfl, rfl, mulL (by omega) (by omega), _, _, rfl, rfl, (by show (0 : Int) < 2147483563; decide), _, _, rfl, rfl, CDivG.small (by decide) (by decide), k _⟩
theorem sc_law_rows : FnScope ["_law_script", "_law_signs", "_law_high", "_law_wide", "_law_rows_here", "_law_row", "_law_own", "_law_text", "_law_column", "_law_place", "_law_drawn"] ["_law_script", "_law_signs"] (defScope s_law_rows) := ⟨rfl, rfl, rfl, by decide +kernel, rfl, by decide +kernel, by decide +kernel⟩
theorem ok_law_rows {f1 f2 : Addr} {fd1 fd2 : FuncData} (T : Txt mg) (D : DefAt K mg "_law_rows" s_law_rows ["_law_script", "_law_signs"] f fd) (D_law_cell_at : DefAt K mg "_law_cell_at" s_law_cell_at ["_law_script", "_law_k"] f1 fd1) (D_law_mixed : DefAt K mg "_law_mixed" s_law_mixed ["_law_cell", "_law_k"] f2 fd2) :
    FnOk P w K mg base CX0 2 f fd ["_law_script", "_law_signs"] (spRows K) := by
  have G_law_cell_at : FnOk P w K mg base CX0 1 f1 fd1 ["_law_script", "_law_k"] (spCell K) := ok_law_cell_at T D_law_cell_at
  have G_law_mixed : FnOk P w K mg base CX0 1 f2 fd2 ["_law_cell", "_law_k"] spMixed := ok_law_mixed D_law_mixed
  refine D.F.ok sc_law_rows (fun vs H Q E h => ?_) (fun cdv A outer s H vs Q E hr h => ?_)
  · obtain ⟨a, ns, z, rfl, _⟩ := h
    rfl
  · obtain ⟨a, ns, z, rfl, hS, z1, z2, k⟩ := h
    refine ⟨_, (pss_cons (ps_set (i := 2) sc_law_rows.nd rfl (Or.inl rfl) (pe_op op_add pe_int (pe_op op_mod (pe_call G_law_cell_at (hr.mono (by decide)) (by rfl) D_law_cell_at.g D_law_cell_at.F.kp D_law_cell_at.b .nil pass0 (pa_cons (pv 0) (pa_cons pe_int pa_nil))) pe_int)))
      (pss_cons (ps_set (i := 3) sc_law_rows.nd rfl (Or.inl rfl) (pe_op op_add pe_int (pe_op op_mod (pe_call G_law_cell_at (hr.mono (by decide)) (by rfl) D_law_cell_at.g D_law_cell_at.F.kp D_law_cell_at.b .nil pass0 (pa_cons (pv 0) (pa_cons pe_int pa_nil))) pe_int)))
      (pss_cons (ps_set (i := 4) sc_law_rows.nd rfl (Or.inl rfl) (pe_lst pa_nil))
      (pss_cons (ps_for PassesOwn.never rfl (pi_range1 (by rfl) T.b_range (pa_cons (pv 2) pa_nil)) (pg_name (i := 5) sc_law_rows.nd rfl (Or.inl rfl)) (pss_cons (ps_set (i := 6) sc_law_rows.nd rfl (Or.inl rfl) (pe_call G_law_cell_at (hr.mono (by decide)) (by rfl) D_law_cell_at.g D_law_cell_at.F.kp D_law_cell_at.b .nil pass0 (pa_cons (pv 0) (pa_cons (pe_op op_add pe_int (pv 5)) pa_nil))))
      (pss_cons (ps_set (i := 7) sc_law_rows.nd rfl (Or.inl rfl) pe_str)
      (pss_cons (ps_for PassesOwn.never rfl (pi_range1 (by rfl) T.b_range (pa_cons (pv 3) pa_nil)) (pg_name (i := 8) sc_law_rows.nd rfl (Or.inl rfl)) (pss_cons (ps_set (i := 9) sc_law_rows.nd rfl (Or.inl rfl) (pe_op op_add (pe_op op_mulG pe_int (pv 5)) (pv 8)))
      (pss_cons (ps_set (i := 10) sc_law_rows.nd rfl (Or.inl rfl) (pe_call G_law_mixed (hr.mono (by decide)) (by rfl) D_law_mixed.g D_law_mixed.F.kp D_law_mixed.b .nil pass0 (pa_cons (pe_call G_law_cell_at (hr.mono (by decide)) (by rfl) D_law_cell_at.g D_law_cell_at.F.kp D_law_cell_at.b .nil pass0 (pa_cons (pv 0) (pa_cons (pe_op op_add pe_int (pe_op op_mod (pv 9) pe_int)) pa_nil))) (pa_cons (pv 9) pa_nil))))
      (pss_mid (ps_if (pt_cmpR op_eq (pe_op op_mod (pe_op op_fdivG (pe_call G_law_cell_at (hr.mono (by decide)) (by rfl) D_law_cell_at.g D_law_cell_at.F.kp D_law_cell_at.b .nil pass0 (pa_cons (pv 0) (pa_cons pe_int pa_nil))) pe_int) pe_int) pe_int (nomark _)) (pss_cons (ps_set (i := 10) sc_law_rows.nd rfl (Or.inl rfl) (pv 6))
      (pss_one (ps_set (i := 6) sc_law_rows.nd rfl (Or.inl rfl) (pe_op op_fdivG (pv 6) (pe_callB call_len_str (by rfl) T.b_len PySem.boot_len (pa_cons (pv 1) pa_nil)))))) pss_nil)
      (pss_one (ps_set (i := 7) sc_law_rows.nd rfl (Or.inl rfl) (pe_op op_add_str (pv 7) (pe_ix ix_str (pv 1) (pe_op op_mod (pv 10) (pe_callB call_len_str (by rfl) T.b_len PySem.boot_len (pa_cons (pv 1) pa_nil))) (fun _ _ => rfl)))))))))
      (pss_one (ps_expr (pe_bm PySem.F.plainAttrs_list PySem.F.slot_list_append PySem.F.type_list_append mt_append (pv 4) (pa_cons (pv 7) pa_nil))))))))
      (pss_one (ps_ret (pv 4))))))), ?_⟩
    -- high, wide, rows_here
    refine ⟨_, rfl, a, ns, _, rfl, hS, by decide, fun h0 => ⟨_, _, rfl, rfl, (by show (0 : Int) < 8; decide), _, _, rfl, rfl, ?_⟩⟩
    refine ⟨_, rfl, a, ns, _, rfl, hS, by decide, fun w0 => ⟨_, _, rfl, rfl, (by show (0 : Int) < 8; decide), _, _, rfl, rfl, ?_⟩⟩
    refine ⟨(by show 0 ≤ sizeLine; decide), fun l hl => ?_⟩
    have e1 := Int.emod_nonneg h0 (show (8 : Int) ≠ 0 by decide)
    have e2 := Int.emod_lt_of_pos h0 (show (0 : Int) < 8 by decide)
    have e3 := Int.emod_nonneg w0 (show (8 : Int) ≠ 0 by decide)
    have e4 := Int.emod_lt_of_pos w0 (show (0 : Int) < 8 by decide)
    have s0 : Same H (upd H l (.lst [])) := same_new hl
    refine ⟨_, rfl, 1 + h0 % 8, rfl, by omega, by omega, ?_⟩
    refine for_range (lo := 0) (n := (1 + h0 % 8).toNat) (fun i σ H' => ∃ (v5 v6 v7 v8 v9 v10 : Option V) (rs : List Str), σ = [some (.ref a), some (.str z), some (.int (1 + h0 % 8)), some (.int (1 + w0 % 8)), some (.ref l), v5, v6, v7, v8, v9, v10] ∧ Same H H' ∧ H' l = some (.lst (rs.map V.str)) ∧ rs.length = i ∧ ∀ t ∈ rs, Row z.cps.toList (1 + w0 % 8).toNat t)
      ⟨_, _, _, _, _, _, [], rfl, s0, upd_same, rfl, fun _ h => nomatch h⟩ ?_ ?_
    · rintro i σ H1 hi ⟨v5, v6, v7, v8, v9, v10, rs, rfl, s1, hl1, hlen, hrow⟩
      -- own, text
      refine ⟨_, rfl, _, rfl, _, _, rfl, rfl, a, ns, _, rfl, s1.seq hS, by omega, fun own => ?_⟩
      refine ⟨_, rfl, 1 + w0 % 8, rfl, by omega, by omega, ?_⟩
      refine for_range (lo := 0) (n := (1 + w0 % 8).toNat) (fun j σ H' => ∃ (v8 v9 v10 : Option V) (o : Int) (t : Str), σ = [some (.ref a), some (.str z), some (.int (1 + h0 % 8)), some (.int (1 + w0 % 8)), some (.ref l), some (.int (0 + i)), some (.int o), some (.str t), v8, v9, v10] ∧ H' = H1 ∧ Row z.cps.toList j t)
        ⟨_, _, _, own, _, rfl, rfl, ⟨rfl, fun _ h => nomatch h⟩⟩ ?_ ?_
      · rintro j σ H2 hj ⟨v8, v9, v10, o, t, rfl, rfl, hr1⟩
        -- place, drawn
        refine ⟨_, rfl, _, _, rfl, rfl, mulL (by decide) (by decide), _, rfl, _, _, rfl, rfl, ?_⟩
        have hp0 : (0 : Int) ≤ 8 * (0 + i) + (0 + j) := by omega
        have hp1 : 8 * (0 + (i : Int)) + (0 + j) ≤ 1000 := by omega
        have q0 := Int.emod_nonneg (8 * (0 + (i : Int)) + (0 + j)) (show (60 : Int) ≠ 0 by decide)
        refine ⟨_, rfl, _, rfl, _, _, rfl, rfl, (by show (0 : Int) < 60; decide), _, _, rfl, rfl, a, ns, _, rfl, s1.seq hS, by omega, fun c => ⟨_, rfl, _, _, rfl, hp0, by omega, fun d => ?_⟩⟩
        -- if ..
        refine ⟨fun σ' H' => ∃ (o d : Int), σ' = [some (.ref a), some (.str z), some (.int (1 + h0 % 8)), some (.int (1 + w0 % 8)), some (.ref l), some (.int (0 + i)), some (.int o), some (.str t), some (.int (0 + j)), some (.int (8 * (0 + i) + (0 + j))), some (.int d)] ∧ H' = H2, ?_, ?_⟩
        · refine ⟨_, rfl, a, ns, _, rfl, s1.seq hS, by decide, fun c0 => ⟨_, _, rfl, rfl, CDivG.small (by decide) (by decide), _, _, rfl, rfl, (by show (0 : Int) < 2; decide), rfl, _, rfl, ite2 (fun _ => ?_) (fun _ => ?_)⟩⟩
          · refine ⟨_, rfl, _, rfl, _, rfl, z, rfl, ?_, _, _, rfl, rfl, ?_, ?_⟩
            · exact Nat.le_trans z2 (by decide)
            · exact CDivG.small (by show (0 : Int) < (z.cps.size : Nat); omega) (by show ((z.cps.size : Nat) : Int) < 1073741824; omega)
            · exact ⟨_, _, rfl, rfl⟩
          · exact ⟨_, _, rfl, rfl⟩
        rintro σ' H3 ⟨o', d', rfl, rfl⟩
        -- text + signs[drawn % len(signs)]
        have m0 := Int.emod_nonneg d' (show ((z.cps.size : Nat) : Int) ≠ 0 by omega)
        have m1 := Int.emod_lt_of_pos d' (show (0 : Int) < ((z.cps.size : Nat) : Int) by omega)
        have hlt : (d' % ((z.cps.size : Nat) : Int)).toNat < z.cps.toList.length := by
          rw [Array.length_toList]
          omega
        refine ⟨_, rfl, _, rfl, _, rfl, _, rfl, z, rfl, Nat.le_trans z2 (by decide), _, _, rfl, rfl, (by show (0 : Int) < (z.cps.size : Nat); omega), z, _, z.cps.toList[(d' % ((z.cps.size : Nat) : Int)).toNat], rfl, rfl, Nat.le_trans z2 (by decide), atI_lt m0 (List.getElem?_eq_getElem hlt), t, _, rfl, rfl, ?_, ?_⟩
        · have e5 : t.length = j := hr1.len
          rw [e5]
          show j + 1 ≤ sizeLine
          exact Nat.le_trans (show j + 1 ≤ 8 by omega) (by decide)
        · exact ⟨_, _, _, o', _, rfl, rfl, hr1.more (List.getElem_mem hlt)⟩
      · rintro σ H2 ⟨v8, v9, v10, o, t, rfl, rfl, hr1⟩
        -- rows_here.append(text)
        refine ⟨_, rfl, .inl ⟨rfl, _, SqL.of hl1⟩, _, rfl, l, _, _, rfl, rfl, hl1, ?_, ?_⟩
        · rw [List.length_map, hlen]
          exact Nat.lt_of_lt_of_le (show i < 9 by omega) (by decide)
        · refine ⟨_, _, _, _, _, _, rs ++ [t], rfl, fun b o e => ?_, ?_, ?_, ?_⟩
          · rw [upd_ne (ne_of_none e hl)]
            exact s1 b o e
          · rw [upd_same, List.map_append]
            rfl
          · rw [List.length_append, hlen]
            rfl
          · intro u hu
            rcases List.mem_append.mp hu with hu | hu
            · exact hrow u hu
            · have e6 : u = t := by simpa using hu
              rw [e6]
              exact hr1
    · rintro σ H1 ⟨v5, v6, v7, v8, v9, v10, rs, rfl, s1, hl1, hlen, hrow⟩
      exact ⟨_, rfl, k l rs H1 hl hl1 s1 ⟨by omega, by omega, (1 + w0 % 8).toNat, by omega, by omega, hrow⟩⟩
theorem sc_check_row : FnScope ["row", "length", "signs", "sign"] ["row", "length", "signs"] (defScope s_check_row) := ⟨rfl, rfl, rfl, by decide +kernel, rfl, by decide +kernel, by decide +kernel⟩
theorem ok_check_row (T : Txt mg) (D : DefAt K mg "check_row" s_check_row ["row", "length", "signs"] f fd) : FnOk P w K mg base CX0 1 f fd ["row", "length", "signs"] spCheckRow := by
  refine D.F.ok sc_check_row (fun vs H Q E h => ?_) (fun cdv A outer s H vs Q E hr h => ?_)
  · obtain ⟨t, n, rfl, _⟩ := h
    rfl
  · obtain ⟨t, n, rfl, n1, n8, hrow, k⟩ := h
    refine ⟨_, (pss_cons (ps_if (pt_not (pt_chain op_le op_le pe_int (pe_callB call_len_str (by rfl) T.b_len PySem.boot_len (pa_cons (pv 0) pa_nil)) (pe_glob (v := .int 8) (by rfl) T.v_LONGEST_SIDE.choose_spec (by exact ⟨_, rfl⟩)))) (pss_one ps_never) pss_nil)
      (pss_cons (ps_if (pt_cmpR op_ne (pe_callB call_len_str (by rfl) T.b_len PySem.boot_len (pa_cons (pv 0) pa_nil)) (pv 1) (nomark _)) (pss_one ps_never) pss_nil)
      (pss_one (ps_for PassesOwn.never rfl (pi_str (pv 0)) (pg_name (i := 3) sc_check_row.nd rfl (Or.inl rfl)) (pss_one (ps_if (pt_cmpR op_notIn_str (pv 3) (pv 2) (by rfl)) (pss_one ps_never) pss_nil)))))), ?_⟩
    have hsz : t.length ≤ sizeLine := by
      have e : t.length = n := hrow.len
      rw [e]
      exact Nat.le_trans n8 (by decide)
    refine ⟨_, rfl, t, rfl, hsz, _, _, rfl, rfl, _, rfl, ?_⟩
    have e : t.length = n := hrow.len
    refine ite2 (fun c => ?_) (fun c => absurd (decide_eq_true (show (1 : Int) ≤ (t.length : Nat) by omega)) c)
    refine ⟨_, _, rfl, rfl, _, rfl, ?_⟩
    have c8 : decide (((t.length : Nat) : Int) ≤ 8) = true := decide_eq_true (by omega)
    rw [c8]
    refine iteF ?_
    refine ⟨_, rfl, t, rfl, hsz, _, rfl, rfl, _, rfl, iteNS (by rw [e]) ?_⟩
    refine ⟨_, rfl, t, rfl, ?_⟩
    refine for_str (x := t) (fun _ σ H' => ∃ v, σ = [some (.str t), some (.int n), some (.str bd), v] ∧ H' = H) ⟨_, rfl, rfl⟩ ?_ ?_
    · rintro i c σ H' hc ⟨v, rfl, rfl⟩
      refine ⟨_, rfl, _, rfl, _, _, rfl, rfl, _, rfl, ?_⟩
      have hm : c ∈ bd.cps.toList := hrow.mem c (List.mem_of_getElem? (by rw [Array.getElem?_toList]; exact hc))
      rw [notIn_bd hm]
      exact iteF ⟨_, rfl, rfl⟩
    · rintro σ H' ⟨v, rfl, rfl⟩
      exact k
theorem sc_checked_rows : FnScope ["rows", "signs", "row"] ["rows", "signs"] (defScope s_checked_rows) := ⟨rfl, rfl, rfl, by decide +kernel, rfl, by decide +kernel, by decide +kernel⟩
theorem ok_checked_rows {f1 : Addr} {fd1 : FuncData} (T : Txt mg) (D : DefAt K mg "checked_rows" s_checked_rows ["rows", "signs"] f fd) (D_check_row : DefAt K mg "check_row" s_check_row ["row", "length", "signs"] f1 fd1) : FnOk P w K mg base CX0 2 f fd ["rows", "signs"] spChecked := by
  have G_check_row : FnOk P w K mg base CX0 1 f1 fd1 ["row", "length", "signs"] spCheckRow := ok_check_row T D_check_row
  refine D.F.ok sc_checked_rows (fun vs H Q E h => ?_) (fun cdv A outer s H vs Q E hr h => ?_)
  · obtain ⟨a, rs, rfl, _⟩ := h
    rfl
  · obtain ⟨a, rs, rfl, ha, R, k⟩ := h
    refine ⟨_, (pss_cons (ps_if (pt_not (pt_chain op_le op_le pe_int (pe_callB call_len_seq (by rfl) T.b_len PySem.boot_len (pa_cons (pv 0) pa_nil)) (pe_glob (v := .int 8) (by rfl) T.v_LONGEST_SIDE.choose_spec (by exact ⟨_, rfl⟩)))) (pss_one ps_never) pss_nil)
      (pss_cons (ps_for PassesOwn.never rfl (pi_list (pv 0)) (pg_name (i := 2) sc_checked_rows.nd rfl (Or.inl rfl)) (pss_one (ps_expr (pe_call G_check_row (hr.mono (by decide)) (by rfl) D_check_row.g D_check_row.F.kp D_check_row.b .nil pass0 (pa_cons (pv 2) (pa_cons (pe_callB call_len_str (by rfl) T.b_len PySem.boot_len (pa_cons (pe_ix ix_list (pv 0) pe_int (fun _ _ => rfl)) pa_nil)) (pa_cons (pv 1) pa_nil)))))))
      (pss_one (ps_ret (pe_callTy call_list_of (by rfl) T.b_list PyProof.Rows.boot_list (pa_cons (pv 0) pa_nil)))))), ?_⟩
    obtain ⟨r1, r8, n, n1, n8, hrow⟩ := R
    refine ⟨_, rfl, a, _, rfl, .inl (SqL.of ha), _, _, rfl, rfl, _, rfl, ?_⟩
    rw [List.length_map]
    refine ite2 (fun c => ?_) (fun c => absurd (decide_eq_true (show (1 : Int) ≤ (rs.length : Nat) by omega)) c)
    refine ⟨_, _, rfl, rfl, _, rfl, ?_⟩
    have c8 : decide (((rs.length : Nat) : Int) ≤ 8) = true := decide_eq_true (by omega)
    rw [c8]
    refine iteF ?_
    refine ⟨_, rfl, a, rfl, ⟨_, SqL.of ha⟩, ?_⟩
    refine for_list (K := K) (a := a) (xs := rs.map V.str) (fun _ σ H' => ∃ v, σ = [some (.ref a), some (.str bd), v] ∧ H' = H) ⟨_, rfl, rfl⟩ (fun i σ H' _ ⟨_, _, e⟩ => by rw [e]; exact SqL.of ha) ?_ ?_
    · rintro i x σ H' hx ⟨v, rfl, rfl⟩
      rw [List.getElem?_map] at hx
      cases e : rs[i]? with
      | none =>
        rw [e] at hx
        cases hx
      | some t =>
        rw [e] at hx
        cases hx
        obtain ⟨t0, rest, rfl⟩ : ∃ t0 rest, rs = t0 :: rest := by
          cases rs with
          | nil => exact absurd r1 (by decide)
          | cons t0 rest => exact ⟨t0, rest, rfl⟩
        have h0 : t0.length = n := (hrow t0 List.mem_cons_self).len
        refine ⟨_, rfl, _, rfl, a, _, 0, _, rfl, rfl, SqL.of ha, atI_lt (by decide) rfl, t0, rfl, ?_, _, rfl, t, n, ?_, n1, n8, hrow t (List.mem_of_getElem? e), ?_⟩
        · rw [h0]
          exact Nat.le_trans n8 (by decide)
        · rw [h0]
          rfl
        · exact ⟨_, rfl, rfl⟩
    · rintro σ H' ⟨v, rfl, rfl⟩
      exact ⟨_, rfl, a, _, rfl, .inl (SqL.of ha), k⟩
theorem sc_board_of : FnScope ["rows", "stones", "own_rows"] ["rows", "stones"] (defScope s_board_of) := ⟨rfl, rfl, rfl, by decide +kernel, rfl, by decide +kernel, by decide +kernel⟩
theorem ok_board_of {f1 f2 : Addr} {fd1 fd2 : FuncData} (T : Txt mg) (D : DefAt K mg "board_of" s_board_of ["rows", "stones"] f fd) (D_checked_rows : DefAt K mg "checked_rows" s_checked_rows ["rows", "signs"] f1 fd1) (D_check_row : DefAt K mg "check_row" s_check_row ["row", "length", "signs"] f2 fd2) :
    FnOk P w K mg base CX0 3 f fd ["rows", "stones"] spBoard := by
  have G_checked_rows : FnOk P w K mg base CX0 2 f1 fd1 ["rows", "signs"] spChecked := ok_checked_rows T D_checked_rows D_check_row
  refine D.F.ok sc_board_of (fun vs H Q E h => ?_) (fun cdv A outer s H vs Q E hr h => ?_)
  · obtain ⟨a, rs, n, rfl, _⟩ := h
    rfl
  · obtain ⟨a, rs, n, rfl, ha, R, n0, n1, k⟩ := h
    refine ⟨_, (pss_cons (ps_set (i := 2) sc_board_of.nd rfl (Or.inl rfl) (pe_call G_checked_rows (hr.mono (by decide)) (by rfl) D_checked_rows.g D_checked_rows.F.kp D_checked_rows.b .nil pass0 (pa_cons (pv 0) (pa_cons (pe_glob (v := .str "?012345678#") (by rfl) T.v_BOARD_SIGNS.choose_spec (by exact ⟨_, rfl⟩)) pa_nil))))
      (pss_cons (ps_if (pt_not (pt_chain op_le op_le pe_int (pv 1) (pe_glob (v := .int 64) (by rfl) T.v_MOST_STONES.choose_spec (by exact ⟨_, rfl⟩)))) (pss_one ps_never) pss_nil)
      (pss_one (ps_ret (pe_tup (pa_cons (pv 2) (pa_cons (pv 1) pa_nil))))))), ?_⟩
    refine ⟨_, rfl, a, rs, rfl, ha, R, fun l hl => ?_⟩
    refine ⟨_, rfl, _, _, rfl, rfl, _, rfl, ?_⟩
    refine ite2 (fun c => ?_) (fun c => absurd (decide_eq_true n0) c)
    refine ⟨_, _, rfl, rfl, _, rfl, ?_⟩
    rw [decide_eq_true n1]
    refine iteF ?_
    refine ⟨_, rfl, _, rfl, (by show 2 ≤ sizeLine; decide), fun p hp => ?_⟩
    have hpl : p ≠ l := fun z => by rw [z, upd_same] at hp; cases hp
    rw [upd_ne hpl] at hp
    exact k l p hl hp hpl
end

/-- a board stands at p, its rows at l -/
structure BoardAt (H : Hp) (p l : Addr) (rs : List Str) (n : Int) : Prop where
  tp : H p = some (.tup [.ref l, .int n])
  rw : H l = some (.lst (rs.map V.str))
theorem bd_small : ∀ c ∈ bd.cps.toList, c < 1114112 := by decide +kernel
theorem lay_str {n : Nat} {t : Str} (r : Row bd.cps.toList n t) : PyData.canLay0 (.str t) = true := by
  show t.cps.all (· < 0x110000) = true
  rw [Array.all_eq_true']
  intro c hc
  exact decide_eq_true (bd_small c (r.mem c (Array.mem_toList_iff.mpr hc)))
theorem lay_strs {rs : List Str} {n : Nat} (h : ∀ t ∈ rs, Row bd.cps.toList n t) : PyData.canLayAll0 (rs.map PyData.str) = true := by
  induction rs with
  | nil => rfl
  | cons t r ih =>
    show (PyData.canLay0 (.str t) && PyData.canLayAll0 (r.map PyData.str)) = true
    rw [lay_str (h t List.mem_cons_self), ih fun u hu => h u (List.mem_cons_of_mem _ hu)]
    rfl
theorem depth_strs (rs : List Str) : PyData.depthAll (rs.map PyData.str) = 0 := by
  induction rs with
  | nil => rfl
  | cons t r ih =>
    show max (PyData.depth (.str t)) (PyData.depthAll (r.map PyData.str)) = 0
    rw [ih]
    rfl
theorem Rows.cmp {rs : List Str} (R : Rows bd.cps.toList rs) : CmpD (.list (rs.map PyData.str)) (.list (rs.map PyData.str)) := by
  obtain ⟨n, _, _, h⟩ := R.ex
  refine ⟨lay_strs h, lay_strs h, ?_⟩
  show PyData.depthAll (rs.map PyData.str) + 1 ≤ 64
  rw [depth_strs]
  decide
/-- a whole board as data -/
def bData (rs : List Str) (n : Int) : PyData := .tuple [.list (rs.map PyData.str), .int n]
theorem Rows.cmpB {rs : List Str} (R : Rows bd.cps.toList rs) (n : Int) : CmpD (bData rs n) (bData rs n) := by
  have c := R.cmp
  have h1 : PyData.canLay0 (bData rs n) = true := by
    show (PyData.canLay0 (.list (rs.map PyData.str)) && (PyData.canLay0 (.int n) && true)) = true
    rw [c.l1]
    rfl
  refine ⟨h1, h1, ?_⟩
  show max (PyData.depthAll (rs.map PyData.str) + 1) (max 0 0) + 1 ≤ 64
  rw [depth_strs]
  decide
theorem BoardAt.rdv {K : PySem.W.Frag} {H : Hp} {p l : Addr} {rs : List Str} {n : Int} (b : BoardAt H p l rs n) : Rdv K H (.ref p) (bData rs n) := .tup (SqT.of b.tp) (.cons (.lst (SqL.of b.rw) (rdv_strs rs)) (.cons (.int n) .nil))
theorem Rows.mono {s s' : List Nat} {rs : List Str} (R : Rows s rs) (h : ∀ c ∈ s, c ∈ s') : Rows s' rs :=
  ⟨R.lo, R.hi, let ⟨n, a, b, q⟩ := R.ex; ⟨n, a, b, fun t ht => ⟨(q t ht).len, fun c hc => h c ((q t ht).mem c hc)⟩⟩⟩
theorem BoardAt.mono {H H' : Hp} {p l : Addr} {rs : List Str} {n : Int} (b : BoardAt H p l rs n) (s : Same H H') : BoardAt H' p l rs n := ⟨s _ _ b.tp, s _ _ b.rw⟩
/-- the rows as lists of signs -/
def codes (rs : List Str) : List (List Nat) := rs.map fun t => t.cps.toList
theorem codes_get {rs : List Str} {i : Nat} {t : Str} (h : rs[i]? = some t) : (codes rs)[i]? = some t.cps.toList := by
  unfold codes
  rw [List.getElem?_map, h]
  rfl
theorem codes_inv {rs : List Str} {i : Nat} {u : List Nat} (h : (codes rs)[i]? = some u) : ∃ t, rs[i]? = some t ∧ u = t.cps.toList := by
  unfold codes at h
  rw [List.getElem?_map] at h
  cases e : rs[i]? with
  | none =>
    rw [e] at h
    cases h
  | some t =>
    rw [e] at h
    cases h
    exact ⟨t, rfl, rfl⟩
theorem codes_len (rs : List Str) : (codes rs).length = rs.length := by
  unfold codes
  rw [List.length_map]
theorem Rows.short {s : List Nat} {rs : List Str} (R : Rows s rs) : ∀ u ∈ codes rs, u.length ≤ 8 := fun u hu => by
  obtain ⟨t, ht, rfl⟩ := List.mem_map.mp hu
  obtain ⟨n, _, h8, q⟩ := R.ex
  have := (q t ht).len
  rw [Array.length_toList]
  omega
theorem Rows.tlen {s : List Nat} {rs : List Str} {i : Nat} {t : Str} (R : Rows s rs) (h : rs[i]? = some t) : t.length ≤ sizeLine := by
  obtain ⟨n, _, h8, q⟩ := R.ex
  have e : t.length = n := (q t (List.mem_of_getElem? h)).len
  rw [e]
  exact Nat.le_trans h8 (by decide)
/-- cells as they lie: tuples of two numbers -/
def CelR (H : Hp) (v : V) (c : Nat × Nat) : Prop := ∃ a, v = V.ref a ∧ H a = some (.tup [.int (c.1 : Nat), .int (c.2 : Nat)])
def Cel (H : Hp) : List V → List (Nat × Nat) → Prop := Paired (CelR H)
theorem Cel.mono {H H' : Hp} (s : Same H H') : ∀ {vs : List V} {cs : List (Nat × Nat)}, Cel H vs cs → Cel H' vs cs
  | _, _, .nil => .nil
  | _, _, .cons ⟨a, e, h⟩ t => .cons ⟨a, e, s _ _ h⟩ (Cel.mono s t)
theorem Cel.snoc {H : Hp} {vs : List V} {cs : List (Nat × Nat)} {v : V} {c : Nat × Nat} (h : Cel H vs cs) (x : CelR H v c) : Cel H (vs ++ [v]) (cs ++ [c]) := Paired.snoc h x
theorem Cel.append {H : Hp} : ∀ {vs ws : List V} {cs ds : List (Nat × Nat)}, Cel H vs cs → Cel H ws ds → Cel H (vs ++ ws) (cs ++ ds)
  | _, _, _, _, .nil, h => h
  | _, _, _, _, .cons x t, h => .cons x (Cel.append t h)
/-- a list is rewritten at an address that bears none of these cells -/
theorem Cel.into {H : Hp} (z : Addr) (o : HO) {old : List V} (hz : H z = some (.lst old)) : ∀ {vs : List V} {cs : List (Nat × Nat)}, Cel H vs cs → Cel (upd H z o) vs cs
  | _, _, .nil => .nil
  | _, _, .cons ⟨a, e, h⟩ t => .cons ⟨a, e, by rw [upd_ne (ne_of h hz (by intro y; cases y))]; exact h⟩ (Cel.into z o hz t)
theorem Cel.length {H : Hp} {vs : List V} {cs : List (Nat × Nat)} (h : Cel H vs cs) : vs.length = cs.length := Paired.length h
theorem Cel.get {H : Hp} : ∀ {vs : List V} {cs : List (Nat × Nat)} {i : Nat} {v : V}, Cel H vs cs → vs[i]? = some v → ∃ c, cs[i]? = some c ∧ CelR H v c
  | _, _, _, _, .nil, e => by simp at e
  | _, _, 0, _, .cons r _, e => by
    simp at e
    subst e
    exact ⟨_, rfl, r⟩
  | _, _, i + 1, v, .cons _ t, e => by
    obtain ⟨c, h1, h2⟩ := Cel.get (i := i) (v := v) t (by simpa using e)
    exact ⟨c, by simpa using h1, h2⟩
def cData (c : Nat × Nat) : PyData := .tuple [.int (c.1 : Nat), .int (c.2 : Nat)]
theorem CelR.rdv {K : PySem.W.Frag} {H : Hp} {v : V} {c : Nat × Nat} (h : CelR H v c) : Rdv K H v (cData c) := by
  obtain ⟨a, rfl, h⟩ := h
  exact .tup (SqT.of h) (.cons (.int _) (.cons (.int _) .nil))
theorem cData_lay (c : Nat × Nat) : (cData c).canLay0 = true := rfl
theorem cData_cmp (c d : Nat × Nat) : CmpD (cData c) (cData d) := ⟨rfl, rfl, by show max 0 (max 0 0) + 1 ≤ 64; decide⟩
theorem cData_eqv (c d : Nat × Nat) : PyData.eqv (cData c) (cData d) = decide (c = d) := by
  obtain ⟨a, b⟩ := c
  obtain ⟨x, y⟩ := d
  show ((((a : Nat) : Int) == ((x : Nat) : Int)) && ((((b : Nat) : Int) == ((y : Nat) : Int)) && true)) = decide ((a, b) = (x, y))
  by_cases h1 : a = x
  · by_cases h2 : b = y
    · subst h1 h2
      simp
    · have : ¬ ((b : Int) = (y : Int)) := by omega
      simp [h2, this]
  · have : ¬ ((a : Int) = (x : Int)) := by omega
    simp [h1, this]
theorem one_eq (c k : Nat) : (V.str ⟨#[c]⟩ = V.str ⟨#[k]⟩) = (c = k) := by
  apply propext
  constructor
  · intro h
    have h2 : (⟨#[c]⟩ : Str) = ⟨#[k]⟩ := V.str.inj h
    have h3 : (#[c] : Array Nat) = #[k] := congrArg Str.cps h2
    simpa using h3
  · rintro rfl
    rfl
theorem hash_is : ("#" : Str) = ⟨#[35]⟩ := by decide +kernel
theorem ask_is : ("?" : Str) = ⟨#[63]⟩ := by decide +kernel

def pCell (c : Nat) : Bool := !decide (c = 35)
def pShut (c : Nat) : Bool := decide (c = 63)
def pOpen (c : Nat) : Bool := pCell c && !decide (c = 63)
def spSign : Sp := fun vs H Q _ => ∃ (p l c : Addr) (rs : List Str) (n : Int) (i j : Nat) (t : Str) (k : Nat), vs = [.ref p, .ref c] ∧ BoardAt H p l rs n ∧ H c = some (.tup [.int (i : Nat), .int (j : Nat)]) ∧ rs[i]? = some t ∧ t.cps.toList[j]? = some k ∧ t.length ≤ sizeLine ∧ Q (.str ⟨#[k]⟩) H
def spList (p : Nat → Bool) : Sp := fun vs H Q _ => ∃ (a l : Addr) (rs : List Str) (n : Int), vs = [.ref a] ∧ BoardAt H a l rs n ∧ Rows bd.cps.toList rs ∧
  ∀ (d : Addr) (ws : List V) (H' : Hp), H d = none → H' d = some (.lst ws) → Cel H' ws (Cells.allCs p 0 (codes rs)) → Same H H' → Q (.ref d) H'
def spNumber : Sp := fun vs H Q _ => ∃ (p l c : Addr) (rs : List Str) (n : Int) (i j : Nat) (t : Str) (k : Nat), vs = [.ref p, .ref c] ∧ BoardAt H p l rs n ∧ H c = some (.tup [.int (i : Nat), .int (j : Nat)]) ∧ rs[i]? = some t ∧ t.cps.toList[j]? = some k ∧ t.length ≤ sizeLine ∧ 48 ≤ k ∧ k ≤ 56 ∧ Q (.int ((k : Int) - 48)) H
theorem int_sign {k : Nat} (h1 : 48 ≤ k) (h2 : k ≤ 56) : PySem.intText? ⟨#[k]⟩ = some ((k : Int) - 48) := by
  have : ∀ k ∈ List.range 57, 48 ≤ k → PySem.intText? ⟨#[k]⟩ = some ((k : Int) - 48) := by decide +kernel
  exact this k (List.mem_range.mpr (by omega)) h1
section
variable {P : Program} {w : World} {K : PySem.W.Frag} {mg : Str → Option Value} {base : Heap} {f : Addr} {fd : FuncData}
theorem sc_sign_at : FnScope ["board", "cell"] ["board", "cell"] (defScope s_sign_at) := ⟨rfl, rfl, rfl, by decide +kernel, rfl, by decide +kernel, by decide +kernel⟩
theorem ok_sign_at (D : DefAt K mg "sign_at" s_sign_at ["board", "cell"] f fd) : FnOk P w K mg base CX0 1 f fd ["board", "cell"] spSign := by
  refine D.F.ok sc_sign_at (fun vs H Q E h => ?_) (fun cdv A outer s H vs Q E hr h => ?_)
  · obtain ⟨p, l, c, rs, n, i, j, t, k, rfl, _⟩ := h
    rfl
  · obtain ⟨p, l, c, rs, n, i, j, t, k, rfl, b, hc, hi, hj, hl, q⟩ := h
    refine ⟨_, (pss_one (ps_ret (pe_ix ix_str (pe_ix ix_list (pe_ix ix_tup (pv 0) pe_int (fun _ _ => rfl)) (pe_ix ix_tup (pv 1) pe_int (fun _ _ => rfl)) (fun _ _ => rfl)) (pe_ix ix_tup (pv 1) pe_int (fun _ _ => rfl)) (fun _ _ => rfl)))), ?_⟩
    exact ⟨_, rfl, p, _, 0, _, rfl, rfl, SqT.of b.tp, rfl, _, rfl, c, _, 0, _, rfl, rfl, SqT.of hc, rfl, l, _, _, _, rfl, rfl, SqL.of b.rw, atI_nat (v := V.str t) (by rw [List.getElem?_map, hi]; rfl), _, rfl, c, _, 1, _, rfl, rfl, SqT.of hc, rfl, t, _, k, rfl, rfl, hl, atI_nat hj, q⟩
theorem sc_cells_of : FnScope ["board", "found", "row", "text"] ["board"] (defScope s_cells_of) := ⟨rfl, rfl, rfl, by decide +kernel, rfl, by decide +kernel, by decide +kernel⟩
theorem ok_cells_of (T : Txt mg) (D : DefAt K mg "cells_of" s_cells_of ["board"] f fd) : FnOk P w K mg base CX0 1 f fd ["board"] (spList pCell) := by
  refine D.F.ok sc_cells_of (fun vs H Q E h => ?_) (fun cdv A outer s H vs Q E hr h => ?_)
  · obtain ⟨a, l, rs, n, rfl, _⟩ := h
    rfl
  · obtain ⟨a, l, rs, n, rfl, b, R, q⟩ := h
    refine ⟨_, (pss_cons (ps_set (i := 1) sc_cells_of.nd rfl (Or.inl rfl) (pe_lst pa_nil))
      (pss_cons (ps_for PassesOwn.never rfl (pi_enumL (by rfl) T.b_enumerate (pa_cons (pe_ix ix_tup (pv 0) pe_int (fun _ _ => rfl)) pa_nil)) (pg_tup rfl (pgs_cons (pg_name (i := 2) sc_cells_of.nd rfl (Or.inr rfl)) (pgs_cons (pg_name (i := 3) sc_cells_of.nd rfl (Or.inl rfl)) pgs_nil))) (pss_one (ps_expr (pe_bm PySem.F.plainAttrs_list PySem.F.slot_list_extend PySem.F.type_list_extend mt_extend (pv 1) (pa_cons (pe_comp (N := ["column", "sign", "row"]) (src := [none, none, some 2]) (CompOk.free (O := (defScope s_cells_of).names) (XN := ["board", "found", "row", "text"]) rfl rfl ⟨_, rfl⟩ rfl rfl (by decide +kernel) (by decide +kernel) (by decide +kernel) rfl (by decide +kernel)) rfl (pi_enumS (by rfl) T.b_enumerate (pa_cons (pv 3) pa_nil)) (fun _ _ _ _ _ => (pg_tupK (n := 2) (K := K) (by rfl) rfl (pgs_cons (pg_name (i := 0) (by show List.Nodup (["column", "sign", "row"] : List Str); decide +kernel) rfl (Or.inl rfl)) (pgs_cons (pg_name (i := 1) (by show List.Nodup (["column", "sign", "row"] : List Str); decide +kernel) rfl (Or.inl rfl)) pgs_nil)))) (fun _ _ _ _ _ => (pifs_one (pt_cmpR op_ne (pv 1) (pe_glob (v := .str "#") (by rfl) T.v_NO_CELL_SIGN.choose_spec (by exact ⟨_, rfl⟩)) (nomark _)))) (fun _ _ _ _ _ => (pe_tup (pa_cons (pv 2) (pa_cons (pv 0) pa_nil))))) pa_nil)))))
      (pss_one (ps_ret (pv 1))))), ?_⟩
    refine ⟨(by show 0 ≤ sizeLine; decide), fun d hd => ?_⟩
    have s0 : Same H (upd H d (.lst [])) := same_new hd
    refine ⟨_, rfl, a, _, 0, _, rfl, rfl, SqT.of (b.mono s0).tp, rfl, l, rfl, ⟨_, SqL.of (b.mono s0).rw⟩, ?_⟩
    refine for_enumL (K := K) (l := l) (xs := rs.map V.str) (fun i σ H' => ∃ (v2 v3 : Option V) (ws : List V), σ = [some (.ref a), some (.ref d), v2, v3] ∧ Same H H' ∧ H' d = some (.lst ws) ∧ Cel H' ws (Cells.allCs pCell 0 ((codes rs).take i)))
      ⟨_, _, [], rfl, s0, upd_same, .nil⟩ (fun i σ H' _ ⟨_, _, _, _, s1, _⟩ => SqL.of (b.mono s1).rw) ?_ ?_
    · rintro i x tt σ H1 hx htt ⟨v2, v3, ws, rfl, s1, hd1, hc1⟩
      rw [List.getElem?_map] at hx
      cases e : rs[i]? with
      | none =>
        rw [e] at hx
        cases hx
      | some t =>
        rw [e] at hx
        cases hx
        have hil : i < rs.length := (List.getElem?_eq_some_iff.mp e).1
        have st : Same H1 (upd H1 tt (.tup [.int (i : Nat), .str t])) := same_new htt
        refine ⟨tt, _, rfl, SqT.of upd_same, rfl, _, _, rfl, _, _, rfl, rfl, ?_⟩
        -- found.extend([..])
        have hd2 : upd H1 tt (.tup [.int (i : Nat), .str t]) d = some (.lst ws) := st _ _ hd1
        refine ⟨_, rfl, .inl ⟨rfl, _, SqL.of hd2⟩, _, rfl, t, rfl, fun z hz => ?_⟩
        refine comp_enumS (x := t) (fun j σ H' => ∃ (u0 u1 : Option V) (ys : List V), σ = [u0, u1, some (.int (i : Nat))] ∧ Same (upd H1 tt (.tup [.int (i : Nat), .str t])) H' ∧ H' z = some (.lst ys) ∧ Cel H' ys (Cells.rowCs pCell i 0 (t.cps.toList.take j)))
          ⟨_, _, [], rfl, same_new hz, upd_same, .nil⟩ ?_ ?_
        · rintro j c t2 σ H2 hc ht2 ⟨u0, u1, ys, rfl, s2, hz2, hc2⟩
          refine ⟨t2, _, rfl, SqT.of upd_same, rfl, _, _, rfl, _, _, rfl, rfl, ?_⟩
          refine ⟨_, rfl, rfl, _, rfl, ?_⟩
          have hc' : t.cps.toList[j]? = some c := by rw [Array.getElem?_toList]; exact hc
          have s3 : Same H2 (upd H2 t2 (.tup [.int (j : Nat), .str ⟨#[c]⟩])) := same_new ht2
          have step := Cells.rowCs_step (p := pCell) (i := i) hc'
          have ed : (!decide (V.str ⟨#[c]⟩ = V.str "#")) = pCell c := by
            rw [hash_is]
            simp only [one_eq]
            rfl
          rw [ed]
          by_cases hp : pCell c = true
          · rw [hp] at step
            refine iteP hp ?_
            refine ⟨_, rfl, _, rfl, (by show 2 ≤ sizeLine; decide), fun t3 ht3 => ?_⟩
            have nz3 : z ≠ t3 := ne_of_none (s3 _ _ hz2) ht3
            have s4 : Same (upd H2 t2 (.tup [.int (j : Nat), .str ⟨#[c]⟩])) (upd (upd H2 t2 (.tup [.int (j : Nat), .str ⟨#[c]⟩])) t3 (.tup [.int (i : Nat), .int (j : Nat)])) := same_new ht3
            have hlen : ys.length ≤ 8 := by
              rw [hc2.length]
              refine Nat.le_trans (Cells.rowCs_length _ _ _ _) ?_
              have := R.short _ (List.mem_of_getElem? (codes_get e))
              rw [List.length_take]
              omega
            refine ⟨ys, s4 _ _ (s3 _ _ hz2), Nat.lt_of_le_of_lt hlen (by decide), some (.int (j : Nat)), some (.str ⟨#[c]⟩), ys ++ [.ref t3], rfl, fun b' o e' => ?_, upd_same, ?_⟩
            · have hb : b' ≠ z := fun y => by
                subst y
                rw [hz] at e'
                cases e'
              rw [upd_ne hb]
              exact s4 _ _ (s3 _ _ (s2 _ _ e'))
            · rw [step]
              have keep : ∀ x o, x ≠ z → upd (upd H2 t2 (.tup [.int (j : Nat), .str ⟨#[c]⟩])) t3 (.tup [.int (i : Nat), .int (j : Nat)]) x = some o → upd (upd (upd H2 t2 (.tup [.int (j : Nat), .str ⟨#[c]⟩])) t3 (.tup [.int (i : Nat), .int (j : Nat)])) z (.lst (ys ++ [.ref t3])) x = some o := fun x o hx e' => by
                rw [upd_ne hx]
                exact e'
              refine Cel.snoc ?_ ⟨t3, rfl, keep _ _ nz3.symm upd_same⟩
              exact Cel.into z (.lst (ys ++ [.ref t3])) (s4 _ _ (s3 _ _ hz2)) (Cel.mono s4 (Cel.mono s3 hc2))
          · have hp' : pCell c = false := by simpa using hp
            rw [hp'] at step
            refine iteN hp' ?_
            refine ⟨some (.int (j : Nat)), some (.str ⟨#[c]⟩), ys, rfl, s2.trans s3, s3 _ _ hz2, ?_⟩
            rw [step]
            simpa using Cel.mono s3 hc2
        · rintro σ H2 ⟨u0, u1, ys, rfl, s2, hz2, hc2⟩
          have hne : d ≠ z := ne_of_none hd2 hz
          have hd3 : H2 d = some (.lst ws) := s2 _ _ hd2
          have full : t.cps.toList.take t.cps.size = t.cps.toList := by
            rw [← Array.length_toList, List.take_length]
          rw [full] at hc2
          have step := Cells.allCs_step (p := pCell) (codes_get e)
          have l1 : ws.length ≤ 64 := by
            rw [hc1.length]
            refine Nat.le_trans (Cells.allCs_length _ _ _ fun u hu => R.short u (List.mem_of_mem_take hu)) ?_
            have := R.hi
            rw [List.length_take, codes_len]
            omega
          have l2 : ys.length ≤ 8 := by
            rw [hc2.length]
            exact Nat.le_trans (Cells.rowCs_length _ _ _ _) (R.short _ (List.mem_of_getElem? (codes_get e)))
          refine ⟨d, z, ws, ys, rfl, rfl, hd3, hz2, Nat.le_trans (Nat.add_le_add l1 l2) (by decide), ?_⟩
          refine ⟨_, _, ws ++ ys, rfl, fun b' o e' => ?_, upd_same, ?_⟩
          · have hb : b' ≠ d := fun y => by
              subst y
              rw [hd] at e'
              cases e'
            rw [upd_ne hb]
            exact s2 _ _ (st _ _ (s1 _ _ e'))
          · rw [step]
            exact Cel.into d _ hd3 (Cel.append (Cel.mono s2 (Cel.mono st hc1)) hc2)
    · rintro σ H1 ⟨v2, v3, ws, rfl, s1, hd1, hc1⟩
      rw [List.length_map, ← codes_len, List.take_length] at hc1
      exact ⟨_, rfl, q d ws H1 hd hd1 hc1 s1⟩
end

theorem shut_is (c : Nat) : (pCell c && decide (c = 63)) = pShut c := by
  unfold pCell pShut
  by_cases h : c = 63
  · subst h
    rfl
  · simp [h]
section
variable {P : Program} {w : World} {K : PySem.W.Frag} {mg : Str → Option Value} {base : Heap} {f : Addr} {fd : FuncData}
theorem sc_closed : FnScope ["board"] ["board"] (defScope s_closed) := ⟨rfl, rfl, rfl, by decide +kernel, rfl, by decide +kernel, by decide +kernel⟩
theorem ok_closed {f1 f2 : Addr} {fd1 fd2 : FuncData} (T : Txt mg) (D : DefAt K mg "closed" s_closed ["board"] f fd) (D_cells_of : DefAt K mg "cells_of" s_cells_of ["board"] f1 fd1) (D_sign_at : DefAt K mg "sign_at" s_sign_at ["board", "cell"] f2 fd2) :
    FnOk P w K mg base CX0 2 f fd ["board"] (spList pShut) := by
  have G_cells_of : FnOk P w K mg base CX0 1 f1 fd1 ["board"] (spList pCell) := ok_cells_of T D_cells_of
  have G_sign_at : FnOk P w K mg base CX0 1 f2 fd2 ["board", "cell"] spSign := ok_sign_at D_sign_at
  refine D.F.ok sc_closed (fun vs H Q E h => ?_) (fun cdv A outer s H vs Q E hr h => ?_)
  · obtain ⟨a, l, rs, n, rfl, _⟩ := h
    rfl
  · obtain ⟨a, l, rs, n, rfl, b, R, q⟩ := h
    refine ⟨_, (pss_one (ps_ret (pe_comp (N := ["cell", "board"]) (src := [none, some 0]) (CompOk.free (O := (defScope s_closed).names) (XN := ["board"]) rfl rfl ⟨_, rfl⟩ rfl rfl (by decide +kernel) (by decide +kernel) (by decide +kernel) rfl (by decide +kernel)) rfl (pi_list (pe_call G_cells_of (hr.mono (by decide)) (by rfl) D_cells_of.g D_cells_of.F.kp D_cells_of.b .nil pass0 (pa_cons (pv 0) pa_nil))) (fun _ _ _ _ _ => (pg_name (i := 0) (by show List.Nodup (["cell", "board"] : List Str); decide +kernel) rfl (Or.inl rfl))) (fun _ _ _ _ _ => (pifs_one (pt_cmpR op_eq (pe_call G_sign_at (hr.mono (by decide)) (by rfl) D_sign_at.g D_sign_at.F.kp D_sign_at.b .nil pass0 (pa_cons (pv 1) (pa_cons (pv 0) pa_nil))) (pe_glob (v := .str "?") (by rfl) T.v_CLOSED_SIGN.choose_spec (by exact ⟨_, rfl⟩)) (nomark _)))) (fun _ _ _ _ _ => (pv 0))))), ?_⟩
    refine ⟨_, rfl, a, l, rs, n, rfl, b, R, fun d ws H1 hd hd1 hc1 s1 => ⟨d, rfl, ⟨_, SqL.of hd1⟩, fun z hz => ?_⟩⟩
    have nz : d ≠ z := ne_of_none hd1 hz
    refine comp_list (K := K) (a := d) (xs := ws) (fun i σ H' => ∃ (u0 : Option V) (ys : List V), σ = [u0, some (.ref a)] ∧ Same H1 H' ∧ H' z = some (.lst ys) ∧ Cel H' ys (((Cells.allCs pCell 0 (codes rs)).take i).filter fun x => decide (Cells.sgn (codes rs) x = 63)))
      ⟨_, [], rfl, same_new hz, upd_same, .nil⟩ (fun i σ H' _ ⟨_, _, _, s2, _⟩ => SqL.of (s2 _ _ hd1)) ?_ ?_
    · rintro i x σ H2 hx ⟨u0, ys, rfl, s2, hz2, hc2⟩
      obtain ⟨c, hci, ca, rfl, hca⟩ := Cel.get (Cel.mono s2 hc1) hx
      obtain ⟨k0, j, u, k, ec, hk0, hj, hpc⟩ := Cells.mem_allCs (List.mem_of_getElem? hci)
      obtain ⟨t, ht, rfl⟩ := codes_inv hk0
      rw [Nat.zero_add] at ec
      subst ec
      refine ⟨_, rfl, _, rfl, a, l, ca, rs, n, k0, j, t, k, rfl, (b.mono s1).mono s2, hca, ht, hj, R.tlen ht, rfl, _, rfl, ?_⟩
      have es : Cells.sgn (codes rs) (k0, j) = k := Cells.sgn_at hk0 hj
      have step : ((Cells.allCs pCell 0 (codes rs)).take (i + 1)).filter (fun x => decide (Cells.sgn (codes rs) x = 63)) = ((Cells.allCs pCell 0 (codes rs)).take i).filter (fun x => decide (Cells.sgn (codes rs) x = 63)) ++ (if decide (k = 63) = true then [(k0, j)] else []) := by
        rw [List.take_add_one, hci, List.filter_append]
        congr 1
        show List.filter _ [(k0, j)] = _
        rw [List.filter_cons]
        try dsimp only
        rw [es]
        split <;> rfl
      have ed : decide (V.str ⟨#[k]⟩ = V.str "?") = decide (k = 63) := by
        rw [ask_is]
        simp only [one_eq]
      rw [ed]
      by_cases hp : decide (k = 63) = true
      · rw [if_pos hp] at step
        refine iteP hp ?_
        have hlen : ys.length ≤ 64 := by
          rw [hc2.length]
          refine Nat.le_trans (List.length_filter_le _ _) ?_
          rw [List.length_take]
          have h1 := Cells.allCs_length pCell 0 (codes rs) R.short
          have h2 := R.hi
          rw [codes_len] at h1
          omega
        refine ⟨_, rfl, ys, hz2, Nat.lt_of_le_of_lt hlen (by decide), _, ys ++ [.ref ca], rfl, fun b' o e' => ?_, upd_same, ?_⟩
        · have hb : b' ≠ z := fun y => by
            subst y
            rw [hz] at e'
            cases e'
          rw [upd_ne hb]
          exact s2 _ _ e'
        · rw [step]
          exact Cel.into z _ hz2 (Cel.snoc hc2 ⟨ca, rfl, hca⟩)
      · rw [if_neg hp] at step
        refine iteN (by simpa using hp) ?_
        refine ⟨_, ys, rfl, s2, hz2, ?_⟩
        rw [step]
        simpa using hc2
    · rintro σ H2 ⟨u0, ys, rfl, s2, hz2, hc2⟩
      rw [hc1.length, List.take_length, Cells.all_filter (p := pCell) (q := fun k => decide (k = 63)) (codes rs)] at hc2
      have hz0 : H z = none := s1.free hz
      exact q z ys H2 hz0 hz2 (by rw [Cells.allCs_congr (q := pShut) shut_is] at hc2; exact hc2) (s1.trans s2)
end

section
variable {P : Program} {w : World} {K : PySem.W.Frag} {mg : Str → Option Value} {base : Heap} {f : Addr} {fd : FuncData}
theorem sc_open_cells : FnScope ["board"] ["board"] (defScope s_open_cells) := ⟨rfl, rfl, rfl, by decide +kernel, rfl, by decide +kernel, by decide +kernel⟩
theorem ok_open_cells {f1 f2 : Addr} {fd1 fd2 : FuncData} (T : Txt mg) (D : DefAt K mg "open_cells" s_open_cells ["board"] f fd) (D_cells_of : DefAt K mg "cells_of" s_cells_of ["board"] f1 fd1) (D_sign_at : DefAt K mg "sign_at" s_sign_at ["board", "cell"] f2 fd2) :
    FnOk P w K mg base CX0 2 f fd ["board"] (spList pOpen) := by
  have G_cells_of : FnOk P w K mg base CX0 1 f1 fd1 ["board"] (spList pCell) := ok_cells_of T D_cells_of
  have G_sign_at : FnOk P w K mg base CX0 1 f2 fd2 ["board", "cell"] spSign := ok_sign_at D_sign_at
  refine D.F.ok sc_open_cells (fun vs H Q E h => ?_) (fun cdv A outer s H vs Q E hr h => ?_)
  · obtain ⟨a, l, rs, n, rfl, _⟩ := h
    rfl
  · obtain ⟨a, l, rs, n, rfl, b, R, q⟩ := h
    refine ⟨_, (pss_one (ps_ret (pe_comp (N := ["cell", "board"]) (src := [none, some 0]) (CompOk.free (O := (defScope s_open_cells).names) (XN := ["board"]) rfl rfl ⟨_, rfl⟩ rfl rfl (by decide +kernel) (by decide +kernel) (by decide +kernel) rfl (by decide +kernel)) rfl (pi_list (pe_call G_cells_of (hr.mono (by decide)) (by rfl) D_cells_of.g D_cells_of.F.kp D_cells_of.b .nil pass0 (pa_cons (pv 0) pa_nil))) (fun _ _ _ _ _ => (pg_name (i := 0) (by show List.Nodup (["cell", "board"] : List Str); decide +kernel) rfl (Or.inl rfl))) (fun _ _ _ _ _ => (pifs_one (pt_cmpR op_ne (pe_call G_sign_at (hr.mono (by decide)) (by rfl) D_sign_at.g D_sign_at.F.kp D_sign_at.b .nil pass0 (pa_cons (pv 1) (pa_cons (pv 0) pa_nil))) (pe_glob (v := .str "?") (by rfl) T.v_CLOSED_SIGN.choose_spec (by exact ⟨_, rfl⟩)) (nomark _)))) (fun _ _ _ _ _ => (pv 0))))), ?_⟩
    refine ⟨_, rfl, a, l, rs, n, rfl, b, R, fun d ws H1 hd hd1 hc1 s1 => ⟨d, rfl, ⟨_, SqL.of hd1⟩, fun z hz => ?_⟩⟩
    have nz : d ≠ z := ne_of_none hd1 hz
    refine comp_list (K := K) (a := d) (xs := ws) (fun i σ H' => ∃ (u0 : Option V) (ys : List V), σ = [u0, some (.ref a)] ∧ Same H1 H' ∧ H' z = some (.lst ys) ∧ Cel H' ys (((Cells.allCs pCell 0 (codes rs)).take i).filter fun x => !decide (Cells.sgn (codes rs) x = 63)))
      ⟨_, [], rfl, same_new hz, upd_same, .nil⟩ (fun i σ H' _ ⟨_, _, _, s2, _⟩ => SqL.of (s2 _ _ hd1)) ?_ ?_
    · rintro i x σ H2 hx ⟨u0, ys, rfl, s2, hz2, hc2⟩
      obtain ⟨c, hci, ca, rfl, hca⟩ := Cel.get (Cel.mono s2 hc1) hx
      obtain ⟨k0, j, u, k, ec, hk0, hj, hpc⟩ := Cells.mem_allCs (List.mem_of_getElem? hci)
      obtain ⟨t, ht, rfl⟩ := codes_inv hk0
      rw [Nat.zero_add] at ec
      subst ec
      refine ⟨_, rfl, _, rfl, a, l, ca, rs, n, k0, j, t, k, rfl, (b.mono s1).mono s2, hca, ht, hj, R.tlen ht, rfl, _, rfl, ?_⟩
      have es : Cells.sgn (codes rs) (k0, j) = k := Cells.sgn_at hk0 hj
      have step : ((Cells.allCs pCell 0 (codes rs)).take (i + 1)).filter (fun x => !decide (Cells.sgn (codes rs) x = 63)) = ((Cells.allCs pCell 0 (codes rs)).take i).filter (fun x => !decide (Cells.sgn (codes rs) x = 63)) ++ (if (!decide (k = 63)) = true then [(k0, j)] else []) := by
        rw [List.take_add_one, hci, List.filter_append]
        congr 1
        show List.filter _ [(k0, j)] = _
        rw [List.filter_cons]
        try dsimp only
        rw [es]
        split <;> rfl
      have ed : (!decide (V.str ⟨#[k]⟩ = V.str "?")) = (!decide (k = 63)) := by
        rw [ask_is]
        simp only [one_eq]
      rw [ed]
      by_cases hp : (!decide (k = 63)) = true
      · rw [if_pos hp] at step
        refine iteP hp ?_
        have hlen : ys.length ≤ 64 := by
          rw [hc2.length]
          refine Nat.le_trans (List.length_filter_le _ _) ?_
          rw [List.length_take]
          have h1 := Cells.allCs_length pCell 0 (codes rs) R.short
          have h2 := R.hi
          rw [codes_len] at h1
          omega
        refine ⟨_, rfl, ys, hz2, Nat.lt_of_le_of_lt hlen (by decide), _, ys ++ [.ref ca], rfl, fun b' o e' => ?_, upd_same, ?_⟩
        · have hb : b' ≠ z := fun y => by
            subst y
            rw [hz] at e'
            cases e'
          rw [upd_ne hb]
          exact s2 _ _ e'
        · rw [step]
          exact Cel.into z _ hz2 (Cel.snoc hc2 ⟨ca, rfl, hca⟩)
      · rw [if_neg hp] at step
        refine iteN (by simpa using hp) ?_
        refine ⟨_, ys, rfl, s2, hz2, ?_⟩
        rw [step]
        simpa using hc2
    · rintro σ H2 ⟨u0, ys, rfl, s2, hz2, hc2⟩
      rw [hc1.length, List.take_length, Cells.all_filter (p := pCell) (q := fun k => (!decide (k = 63))) (codes rs)] at hc2
      have hz0 : H z = none := s1.free hz
      exact q z ys H2 hz0 hz2 hc2 (s1.trans s2)
end

section
variable {P : Program} {w : World} {K : PySem.W.Frag} {mg : Str → Option Value} {base : Heap} {f : Addr} {fd : FuncData}
theorem sc_number_at : FnScope ["board", "cell"] ["board", "cell"] (defScope s_number_at) := ⟨rfl, rfl, rfl, by decide +kernel, rfl, by decide +kernel, by decide +kernel⟩
theorem ok_number_at {f1 : Addr} {fd1 : FuncData} (T : Txt mg) (D : DefAt K mg "number_at" s_number_at ["board", "cell"] f fd) (D_sign_at : DefAt K mg "sign_at" s_sign_at ["board", "cell"] f1 fd1) : FnOk P w K mg base CX0 2 f fd ["board", "cell"] spNumber := by
  have G_sign_at : FnOk P w K mg base CX0 1 f1 fd1 ["board", "cell"] spSign := ok_sign_at D_sign_at
  refine D.F.ok sc_number_at (fun vs H Q E h => ?_) (fun cdv A outer s H vs Q E hr h => ?_)
  · obtain ⟨p, l, c, rs, n, i, j, t, k, rfl, _⟩ := h
    rfl
  · obtain ⟨p, l, c, rs, n, i, j, t, k, rfl, b, hc, hi, hj, hl, k1, k2, q⟩ := h
    refine ⟨_, (pss_one (ps_ret (pe_callTy call_int_str (by rfl) T.b_int PyProof.Rows.boot_int (pa_cons (pe_call G_sign_at (hr.mono (by decide)) (by rfl) D_sign_at.g D_sign_at.F.kp D_sign_at.b .nil pass0 (pa_cons (pv 0) (pa_cons (pv 1) pa_nil))) pa_nil)))), ?_⟩
    exact ⟨_, rfl, _, rfl, p, l, c, rs, n, i, j, t, k, rfl, b, hc, hi, hj, hl, ⟨#[k]⟩, _, rfl, int_sign k1 k2, (by show 1 ≤ 640; decide), q⟩
end
theorem str_sign {k : Nat} (h1 : 48 ≤ k) (h2 : k ≤ 56) : V.str (toString ((k : Int) - 48)) = V.str ⟨#[k]⟩ := by
  have : ∀ k ∈ List.range 57, 48 ≤ k → ((toString ((k : Int) - 48) : String) : Str) = ⟨#[k]⟩ := by decide +kernel
  exact congrArg V.str (this k (List.mem_range.mpr (by omega)) h1)
theorem open_sign {k : Nat} (h : k ∈ bd.cps.toList) (hp : pOpen k = true) : 48 ≤ k ∧ k ≤ 56 := by
  have : ∀ k ∈ bd.cps.toList, pOpen k = true → 48 ≤ k ∧ k ≤ 56 := by decide +kernel
  exact this k h hp
/-- what an open cell of the rows is -/
theorem Rows.openAt {rs : List Str} (R : Rows bd.cps.toList rs) {p : Nat → Bool} {c : Nat × Nat} (h : c ∈ Cells.allCs p 0 (codes rs)) : ∃ t k, rs[c.1]? = some t ∧ t.cps.toList[c.2]? = some k ∧ p k = true ∧ k ∈ bd.cps.toList ∧ t.length ≤ sizeLine := by
  obtain ⟨k0, j, u, k, ec, hk0, hj, hpc⟩ := Cells.mem_allCs h
  obtain ⟨t, ht, rfl⟩ := codes_inv hk0
  rw [Nat.zero_add] at ec
  subst ec
  obtain ⟨n, _, _, q⟩ := R.ex
  exact ⟨t, k, ht, hj, hpc, (q t (List.mem_of_getElem? ht)).mem k (List.mem_of_getElem? hj), R.tlen ht⟩

/-! What a dict of numbers makes of rows. -/
abbrev KV1 := List (List Key × V)
def keyC (c : Nat × Nat) : List Key := [.inl ((c.1 : Nat) : Int), .inl ((c.2 : Nat) : Int)]
theorem keyC_inj {c d : Nat × Nat} (h : keyC c = keyC d) : c = d := by
  unfold keyC at h
  obtain ⟨a, b⟩ := c
  obtain ⟨x, y⟩ := d
  simp only [List.cons.injEq, Sum.inl.injEq, and_true] at h
  obtain ⟨h1, h2⟩ := h
  have e1 : a = x := by omega
  have e2 : b = y := by omega
  rw [e1, e2]
theorem keyC_map (c : Nat × Nat) : (keyC c).map kV = [.int (c.1 : Nat), .int (c.2 : Nat)] := rfl
def dig (kvs : KV1) (c : Nat × Nat) (k : Nat) : Nat := match valV kvs (keyC c) with
  | some (.int v) => 48 + v.toNat
  | _ => k
structure Nums (cs : List (Nat × Nat)) (N : Nat) (kvs : KV1) : Prop where
  vals : ∀ kv ∈ kvs, ∃ c ∈ cs, ∃ v : Nat, v ≤ 8 ∧ kv.1 = keyC c ∧ kv.2 = V.int (v : Nat)
  nd : (kvs.map (·.1)).Nodup
  len : kvs.length ≤ N
theorem valV_mem {kvs : KV1} {k : List Key} {v : V} (h : valV kvs k = some v) : (k, v) ∈ kvs := by
  unfold valV at h
  cases e : kvs.find? (fun kv => decide (kv.1 = k)) with
  | none =>
    rw [e] at h
    cases h
  | some kv =>
    rw [e] at h
    have h1 : kv.2 = v := by simpa using h
    have h2 : kv.1 = k := of_decide_eq_true (show decide (kv.1 = k) = true from List.find?_some (p := fun (kv : List Key × V) => decide (kv.1 = k)) e)
    have h3 := List.mem_of_find?_eq_some e
    rw [← h1, ← h2]
    exact h3
theorem Nums.at {cs : List (Nat × Nat)} {N : Nat} {kvs : KV1} (h : Nums cs N kvs) (c : Nat × Nat) : valV kvs (keyC c) = none ∨ ∃ v : Nat, v ≤ 8 ∧ c ∈ cs ∧ valV kvs (keyC c) = some (V.int (v : Nat)) := by
  cases e : valV kvs (keyC c) with
  | none => exact .inl rfl
  | some v =>
    obtain ⟨c', hc, n, hn, e1, e2⟩ := h.vals _ (valV_mem e)
    have ec := keyC_inj e1
    subst ec
    have e2' : v = V.int (n : Nat) := e2
    subst e2'
    exact .inr ⟨n, hn, hc, rfl⟩
theorem Nums.ints {cs : List (Nat × Nat)} {N : Nat} {kvs : KV1} (h : Nums cs N kvs) : IntVals kvs := fun kv hkv => by
  obtain ⟨_, _, v, _, _, e⟩ := h.vals kv hkv
  exact ⟨_, e⟩
theorem Nums.small {cs : List (Nat × Nat)} {N : Nat} {kvs : KV1} (h : Nums cs N kvs) (hc : ∀ c ∈ cs, c.1 < 8 ∧ c.2 < 8) : Small (kvs.map (·.1)) := fun k hk => by
  obtain ⟨kv, hkv, rfl⟩ := List.mem_map.mp hk
  obtain ⟨c, hcs, _, _, e, _⟩ := h.vals kv hkv
  exact ⟨c.1, c.2, (hc c hcs).1, (hc c hcs).2, e⟩
theorem Nums.nil (cs : List (Nat × Nat)) (N : Nat) : Nums cs N [] := ⟨(fun _ h => nomatch h), List.nodup_nil, Nat.zero_le _⟩
theorem Nums.le {cs : List (Nat × Nat)} {N M : Nat} {kvs : KV1} (h : Nums cs N kvs) (hl : N ≤ M) : Nums cs M kvs := ⟨h.vals, h.nd, Nat.le_trans h.len hl⟩
theorem put_keys (kvs : KV1) (k : List Key) (v : V) : (k ∈ kvs.map (·.1) ∧ (putK kvs k v).map (·.1) = kvs.map (·.1)) ∨ (¬ k ∈ kvs.map (·.1) ∧ (putK kvs k v).map (·.1) = kvs.map (·.1) ++ [k]) := by
  unfold putK
  by_cases h : (kvs.any fun kv => decide (kv.1 = k)) = true
  · refine .inl ⟨?_, ?_⟩
    · obtain ⟨kv, h1, h2⟩ := List.any_eq_true.mp h
      exact List.mem_map.mpr ⟨kv, h1, of_decide_eq_true h2⟩
    · rw [if_pos h, List.map_map]
      refine List.map_congr_left fun kv _ => ?_
      show (if kv.1 = k then (kv.1, v) else kv).1 = kv.1
      split <;> rfl
  · refine .inr ⟨fun hm => ?_, ?_⟩
    · obtain ⟨kv, h1, h2⟩ := List.mem_map.mp hm
      exact h (List.any_eq_true.mpr ⟨kv, h1, decide_eq_true h2⟩)
    · rw [if_neg h, List.map_append]
      rfl
theorem put_mem {kvs : KV1} {k : List Key} {v : V} {kv : List Key × V} (h : kv ∈ putK kvs k v) : kv ∈ kvs ∨ kv = (k, v) := by
  unfold putK at h
  split at h
  · obtain ⟨x, hx, e⟩ := List.mem_map.mp h
    by_cases hk : x.1 = k
    · rw [if_pos hk] at e
      exact .inr (by rw [← e, hk])
    · rw [if_neg hk] at e
      exact .inl (by rw [← e]; exact hx)
  · rcases List.mem_append.mp h with h | h
    · exact .inl h
    · exact .inr (by simpa using h)
theorem Nums.put {cs : List (Nat × Nat)} {N : Nat} {kvs : KV1} (h : Nums cs N kvs) {k : List Key} {w : V} (hk : ∃ c ∈ cs, ∃ v : Nat, v ≤ 8 ∧ k = keyC c ∧ w = V.int (v : Nat)) : Nums cs (N + 1) (putK kvs k w) := by
  refine ⟨fun kv hkv => ?_, ?_, ?_⟩
  · rcases put_mem hkv with h1 | h1
    · exact h.vals kv h1
    · subst h1
      exact hk
  · rcases put_keys kvs k w with ⟨_, e⟩ | ⟨hn, e⟩
    · rw [e]
      exact h.nd
    · rw [e, List.nodup_append]
      refine ⟨h.nd, by simp, fun a ha b hb e => hn ?_⟩
      have eb : b = k := by simpa using hb
      rw [← eb, ← e]
      exact ha
  · have := length_putK kvs k w
    have := h.len
    omega
theorem Nums.merge {cs : List (Nat × Nat)} : ∀ {b : KV1} {N M : Nat} {a : KV1}, Nums cs N a → (∀ kv ∈ b, ∃ c ∈ cs, ∃ v : Nat, v ≤ 8 ∧ kv.1 = keyC c ∧ kv.2 = V.int (v : Nat)) → b.length ≤ M → Nums cs (N + M) (mergeT a b)
  | [], N, M, a, h, _, _ => h.le (Nat.le_add_right _ _)
  | kv :: r, N, M, a, h, hb, hl => by
    rw [List.length_cons] at hl
    have := Nums.merge (M := M - 1) (h.put (hb kv List.mem_cons_self)) (fun x hx => hb x (List.mem_cons_of_mem _ hx)) (by omega)
    show Nums cs (N + M) (mergeT (putK a kv.1 kv.2) r)
    exact this.le (by omega)
theorem val_merge : ∀ (b a : KV1) (k : List Key), (b.map (·.1)).Nodup → valV (mergeT a b) k = (valV b k).or (valV a k)
  | [], a, k, _ => rfl
  | kv :: r, a, k, hn => by
    rw [List.map_cons, List.nodup_cons] at hn
    show valV (mergeT (putK a kv.1 kv.2) r) k = _
    rw [val_merge r _ k hn.2, valV_put]
    by_cases e : kv.1 = k
    · rw [valV_pos e, if_pos e.symm]
      have : valV r k = none := by
        cases hr : valV r k with
        | none => rfl
        | some v => exact absurd (List.mem_map.mpr ⟨(k, v), valV_mem hr, by rw [e]⟩) hn.1
      rw [this]
      rfl
    · rw [valV_neg e, if_neg (fun z => e z.symm)]
theorem dig_merge {cs : List (Nat × Nat)} {M : Nat} {a b : KV1} (hb : Nums cs M b) (c : Nat × Nat) (k : Nat) : dig (mergeT a b) c k = dig b c (dig a c k) := by
  unfold dig
  rw [val_merge b a _ hb.nd]
  rcases hb.at c with e | ⟨v, _, _, e⟩
  · rw [e]
    rfl
  · rw [e]
    rfl
def putRow (kvs : KV1) (i : Nat) (t : List Nat) : List Nat := t.mapIdx fun j c => dig kvs (i, j) c
def putT (kvs : KV1) (i : Nat) (t : Str) : Str := ⟨(putRow kvs i t.cps.toList).toArray⟩
def putRs (kvs : KV1) (rs : List Str) : List Str := rs.mapIdx fun i t => putT kvs i t
theorem putT_list (kvs : KV1) (i : Nat) (t : Str) : (putT kvs i t).cps.toList = putRow kvs i t.cps.toList := by
  show (putRow kvs i t.cps.toList).toArray.toList = _
  rw [List.toList_toArray]
theorem str_ext {a b : Str} (h : a.cps.toList = b.cps.toList) : a = b := by
  obtain ⟨⟨x⟩⟩ := a
  obtain ⟨⟨y⟩⟩ := b
  have : x = y := h
  rw [this]
theorem putRs_at {kvs : KV1} {rs : List Str} {i : Nat} {t : Str} (h : rs[i]? = some t) : (putRs kvs rs)[i]? = some (putT kvs i t) := by
  unfold putRs
  rw [List.getElem?_mapIdx, h]
  rfl
theorem putRs_len (kvs : KV1) (rs : List Str) : (putRs kvs rs).length = rs.length := by
  unfold putRs
  rw [List.length_mapIdx]
theorem putRow_at {kvs : KV1} {i j c : Nat} {t : List Nat} (h : t[j]? = some c) : (putRow kvs i t)[j]? = some (dig kvs (i, j) c) := by
  unfold putRow
  rw [List.getElem?_mapIdx, h]
  rfl
theorem putRs_merge {cs : List (Nat × Nat)} {M : Nat} {a b : KV1} (hb : Nums cs M b) (rs : List Str) : putRs b (putRs a rs) = putRs (mergeT a b) rs := by
  refine List.ext_getElem? fun i => ?_
  cases e : rs[i]? with
  | none =>
    have h0 : rs.length ≤ i := List.getElem?_eq_none_iff.mp e
    rw [List.getElem?_eq_none_iff.mpr (by rw [putRs_len, putRs_len]; exact h0), List.getElem?_eq_none_iff.mpr (by rw [putRs_len]; exact h0)]
  | some t =>
    rw [putRs_at (putRs_at e), putRs_at e]
    congr 1
    refine str_ext ?_
    rw [putT_list, putT_list, putT_list]
    refine List.ext_getElem? fun j => ?_
    cases e2 : t.cps.toList[j]? with
    | none =>
      have h0 := List.getElem?_eq_none_iff.mp e2
      rw [List.getElem?_eq_none_iff.mpr (by unfold putRow; rw [List.length_mapIdx, List.length_mapIdx]; exact h0), List.getElem?_eq_none_iff.mpr (by unfold putRow; rw [List.length_mapIdx]; exact h0)]
    | some c => rw [putRow_at (putRow_at e2), putRow_at e2, dig_merge hb]
theorem putRs_nil (rs : List Str) : putRs [] rs = rs := by
  refine List.ext_getElem? fun i => ?_
  cases e : rs[i]? with
  | none => rw [List.getElem?_eq_none_iff.mpr (by rw [putRs_len]; exact List.getElem?_eq_none_iff.mp e)]
  | some t =>
    rw [putRs_at e]
    congr 1
    refine str_ext ?_
    rw [putT_list]
    refine List.ext_getElem? fun j => ?_
    cases e2 : t.cps.toList[j]? with
    | none => rw [List.getElem?_eq_none_iff.mpr (by unfold putRow; rw [List.length_mapIdx]; exact List.getElem?_eq_none_iff.mp e2)]
    | some c => rw [putRow_at e2]; rfl
theorem dig_in : ∀ v : Nat, v ≤ 8 → 48 + v ∈ bd.cps.toList := by decide +kernel
theorem Rows.put {cs : List (Nat × Nat)} {N : Nat} {kvs : KV1} (h : Nums cs N kvs) {rs : List Str} (R : Rows bd.cps.toList rs) : Rows bd.cps.toList (putRs kvs rs) := by
  obtain ⟨n, n1, n8, hr⟩ := R.ex
  refine ⟨by rw [putRs_len]; exact R.lo, by rw [putRs_len]; exact R.hi, n, n1, n8, fun t ht => ?_⟩
  obtain ⟨i, hi⟩ := List.getElem?_of_mem ht
  cases e : rs[i]? with
  | none =>
    have h0 := List.getElem?_eq_none_iff.mp e
    rw [List.getElem?_eq_none_iff.mpr (by rw [putRs_len]; exact h0)] at hi
    cases hi
  | some u =>
    rw [putRs_at e] at hi
    have eu := Option.some.inj hi
    subst eu
    have ru := hr u (List.mem_of_getElem? e)
    refine ⟨?_, fun c hc => ?_⟩
    · rw [← Array.length_toList, putT_list]
      unfold putRow
      rw [List.length_mapIdx, Array.length_toList]
      exact ru.len
    · rw [putT_list] at hc
      obtain ⟨j, hj⟩ := List.getElem?_of_mem hc
      cases e2 : u.cps.toList[j]? with
      | none =>
        have h0 := List.getElem?_eq_none_iff.mp e2
        rw [List.getElem?_eq_none_iff.mpr (by unfold putRow; rw [List.length_mapIdx]; exact h0)] at hj
        cases hj
      | some k =>
        rw [putRow_at e2] at hj
        have ec := Option.some.inj hj
        subst ec
        unfold dig
        rcases h.at (i, j) with e3 | ⟨v, hv, _, e3⟩
        · rw [e3]
          exact ru.mem k (List.mem_of_getElem? e2)
        · rw [e3]
          exact dig_in v hv

/-! opened, _law_put: the same rows. -/
def spOpened : Sp := fun vs H Q _ => ∃ (p l d : Addr) (rs : List Str) (n : Int) (cs : List (Nat × Nat)) (N : Nat) (kvs : KV1), vs = [.ref p, .ref d] ∧ BoardAt H p l rs n ∧ Rows bd.cps.toList rs ∧ H d = some (.dT kvs) ∧ Nums cs N kvs ∧
  ∀ (q l2 : Addr) (H' : Hp), H q = none → H l2 = none → BoardAt H' q l2 (putRs kvs rs) n → Same H H' → Q (.ref q) H'
def spPut : Sp := fun vs H Q _ => ∃ (l d : Addr) (rs : List Str) (cs : List (Nat × Nat)) (N : Nat) (kvs : KV1), vs = [.ref l, .ref d] ∧ H l = some (.lst (rs.map V.str)) ∧ Rows bd.cps.toList rs ∧ H d = some (.dT kvs) ∧ Nums cs N kvs ∧
  ∀ (l2 : Addr) (H' : Hp), H l2 = none → H' l2 = some (.lst ((putRs kvs rs).map V.str)) → Same H H' → Q (.ref l2) H'
theorem join_ones : ∀ cs : List Nat, (Str.join "" (cs.map fun c => (⟨#[c]⟩ : Str))).cps.toList = cs
  | [] => rfl
  | [c] => rfl
  | c :: e :: r => by
    have h : (Str.join "" ((c :: e :: r).map fun c => (⟨#[c]⟩ : Str))).cps = #[c] ++ ("" : Str).cps ++ (Str.join "" ((e :: r).map fun c => (⟨#[c]⟩ : Str))).cps := rfl
    rw [h, Array.toList_append, Array.toList_append, join_ones (e :: r)]
    rfl
theorem putT_join (kvs : KV1) (i : Nat) (t : Str) : Str.join "" ((putRow kvs i t.cps.toList).map fun c => (⟨#[c]⟩ : Str)) = putT kvs i t := str_ext (by rw [join_ones, putT_list])
theorem digit6 : ∀ d : Nat, d ≤ 8 → ((toString (d : Int) : String) : Str) = ⟨#[48 + d]⟩ := by decide +kernel
theorem sum_ones : ∀ cs : List Nat, ((cs.map fun c => (⟨#[c]⟩ : Str)).map (·.length)).sum = cs.length
  | [] => rfl
  | c :: r => by
    rw [List.map_cons, List.map_cons, List.sum_cons, sum_ones r, List.length_cons]
    show 1 + r.length = _
    omega
theorem take_snoc {α : Type} {xs : List α} {i : Nat} {x : α} (h : xs[i]? = some x) : xs.take (i + 1) = xs.take i ++ [x] := by
  rw [List.take_add_one, h]
  rfl
section
variable {P : Program} {w : World} {K : PySem.W.Frag} {mg : Str → Option Value} {base : Heap} {f : Addr} {fd : FuncData}
theorem sc_opened : FnScope ["board", "numbers", "rows", "row", "text", "signs"] ["board", "numbers"] (defScope s_opened) := ⟨rfl, rfl, rfl, by decide +kernel, rfl, by decide +kernel, by decide +kernel⟩
theorem ok_opened (T : Txt mg) (D : DefAt K mg "opened" s_opened ["board", "numbers"] f fd) : FnOk P w K mg base CX0 1 f fd ["board", "numbers"] spOpened := by
  refine D.F.ok sc_opened (fun vs H Q E h => ?_) (fun cdv A outer s H vs Q E hr h => ?_)
  · obtain ⟨p, l, d, rs, n, cs, N, kvs, rfl, _⟩ := h
    rfl
  · obtain ⟨p, l, d, rs, n, cs, N, kvs, rfl, b, R, hd, hN, q⟩ := h
    refine ⟨_, (pss_cons (ps_set (i := 2) sc_opened.nd rfl (Or.inl rfl) (pe_lst pa_nil))
      (pss_cons (ps_for PassesOwn.never rfl (pi_enumL (by rfl) T.b_enumerate (pa_cons (pe_ix ix_tup (pv 0) pe_int (fun _ _ => rfl)) pa_nil)) (pg_tup rfl (pgs_cons (pg_name (i := 3) sc_opened.nd rfl (Or.inr rfl)) (pgs_cons (pg_name (i := 4) sc_opened.nd rfl (Or.inl rfl)) pgs_nil))) (pss_cons (ps_setC (i := 5) sc_opened.nd rfl rfl (N := ["column", "sign", "numbers", "row"]) (src := [none, none, some 1, some 3]) (CompOk.free (O := (defScope s_opened).names) (XN := ["board", "numbers", "rows", "row", "text", "signs"]) rfl rfl ⟨_, rfl⟩ rfl rfl (by decide +kernel) (by decide +kernel) (by decide +kernel) rfl (by decide +kernel)) rfl (pi_enumS (by rfl) T.b_enumerate (pa_cons (pv 4) pa_nil)) (fun _ _ _ _ _ => (pg_tupK (n := 2) (K := K) (by rfl) rfl (pgs_cons (pg_name (i := 0) (by show List.Nodup (["column", "sign", "numbers", "row"] : List Str); decide +kernel) rfl (Or.inl rfl)) (pgs_cons (pg_name (i := 1) (by show List.Nodup (["column", "sign", "numbers", "row"] : List Str); decide +kernel) rfl (Or.inl rfl)) pgs_nil)))) (fun _ _ _ _ _ => pifs_nil) (fun _ _ _ _ _ => (pe_callTy call_str_is (by rfl) T.b_str PyProof.Rows.boot_str (pa_cons (pe_dget2 (u1 hr.units) (pv 2) (pe_tup (pa_cons (pv 3) (pa_cons (pv 0) pa_nil))) (pv 1) ⟨rfl, rfl, rfl, rfl⟩) pa_nil))))
      (pss_one (ps_expr (pe_bm PySem.F.plainAttrs_list PySem.F.slot_list_append PySem.F.type_list_append mt_append (pv 2) (pa_cons (pe_bm PySem.F.plainAttrs_str PySem.F.slot_str_join PySem.F.type_str_join mt_join pe_str (pa_cons (pv 5) pa_nil)) pa_nil))))))
      (pss_one (ps_ret (pe_tup (pa_cons (pv 2) (pa_cons (pe_ix ix_tup (pv 0) pe_int (fun _ _ => rfl)) pa_nil))))))), ?_⟩
    refine ⟨(by show 0 ≤ sizeLine; decide), fun d0 hd0 => ?_⟩
    have s0 : Same H (upd H d0 (.lst [])) := same_new hd0
    have rhi := R.hi
    refine ⟨_, rfl, p, _, 0, _, rfl, rfl, SqT.of (b.mono s0).tp, rfl, l, rfl, ⟨_, SqL.of (b.mono s0).rw⟩, ?_⟩
    refine for_enumL (K := K) (l := l) (xs := rs.map V.str) (fun i σ H' => ∃ (v3 v4 v5 : Option V), σ = [some (.ref p), some (.ref d), some (.ref d0), v3, v4, v5] ∧ Same H H' ∧ H' d0 = some (.lst (((putRs kvs rs).take i).map V.str)))
      ⟨_, _, _, rfl, s0, upd_same⟩ (fun i σ H' _ ⟨_, _, _, _, s1, _⟩ => SqL.of (b.mono s1).rw) ?_ ?_
    · rintro i x tt σ H1 hx htt ⟨v3, v4, v5, rfl, s1, hd1⟩
      rw [List.getElem?_map] at hx
      cases e : rs[i]? with
      | none =>
        rw [e] at hx
        cases hx
      | some t =>
        rw [e] at hx
        cases hx
        have tl8 : t.cps.toList.length ≤ 8 := R.short _ (List.mem_of_getElem? (codes_get e))
        have hil : i < rs.length := (List.getElem?_eq_some_iff.mp e).1
        have st : Same H1 (upd H1 tt (.tup [.int (i : Nat), .str t])) := same_new htt
        refine ⟨tt, _, rfl, SqT.of upd_same, rfl, _, _, rfl, _, _, rfl, rfl, ?_⟩
        have s2 := s1.trans st
        have hd2 := st _ _ hd1
        generalize upd H1 tt (.tup [.int (i : Nat), .str t]) = H2 at *
        refine ⟨_, rfl, t, rfl, fun z hz => ?_⟩
        refine comp_enumS (x := t) (fun j σ H' => ∃ (u0 u1 : Option V), σ = [u0, u1, some (.ref d), some (.int (i : Nat))] ∧ Same H2 H' ∧ H' z = some (.lst (((putRow kvs i t.cps.toList).take j).map fun c => V.str ⟨#[c]⟩))) ⟨_, _, rfl, same_new hz, upd_same⟩ ?_ ?_
        · rintro j c t2 σ H3 hc ht2 ⟨u0, u1, rfl, s3, hz3⟩
          have hc' : t.cps.toList[j]? = some c := by rw [Array.getElem?_toList]; exact hc
          refine ⟨t2, _, rfl, SqT.of upd_same, rfl, _, _, rfl, _, _, rfl, rfl, ?_⟩
          have s4 : Same H3 (upd H3 t2 (.tup [.int (j : Nat), .str ⟨#[c]⟩])) := same_new ht2
          have hd4 := s4 _ _ (s3 _ _ (s2 _ _ hd))
          have hz4 := s4 _ _ hz3
          have s34 := s3.trans s4
          generalize upd H3 t2 (.tup [.int (j : Nat), .str ⟨#[c]⟩]) = H4 at *
          unfold tYes
          refine iteT ⟨_, rfl, d, rfl, .inr ⟨kvs, .inl hd4⟩, _, rfl, _, rfl, (by show 2 ≤ sizeLine; decide), fun tp htp => ⟨_, rfl, valV kvs (keyC (i, j)), ?_, ?_⟩⟩
          · exact DGet.t (k := keyC (i, j)) (same_new htp _ _ hd4) upd_same
          have s5 := same_new (o := .tup [.int (i : Nat), .int (j : Nat)]) htp
          have fin : ∀ k : Nat, k = dig kvs (i, j) c → ∃ ys, upd H4 tp (.tup [.int (i : Nat), .int (j : Nat)]) z = some (.lst ys) ∧ ys.length < sizeLine ∧ ∃ (u0 u1 : Option V), [some (V.int (j : Nat)), some (V.str ⟨#[c]⟩), some (.ref d), some (.int (i : Nat))] = [u0, u1, some (.ref d), some (.int (i : Nat))] ∧ Same H2 (upd (upd H4 tp (.tup [.int (i : Nat), .int (j : Nat)])) z (.lst (ys ++ [V.str ⟨#[k]⟩]))) ∧ upd (upd H4 tp (.tup [.int (i : Nat), .int (j : Nat)])) z (.lst (ys ++ [V.str ⟨#[k]⟩])) z = some (.lst (((putRow kvs i t.cps.toList).take (j + 1)).map fun c => V.str ⟨#[c]⟩)) := fun k hk => by
            refine ⟨_, s5 _ _ hz4, ?_, _, _, rfl, fun b' o e' => ?_, ?_⟩
            · rw [List.length_map, List.length_take]
              unfold putRow
              rw [List.length_mapIdx]
              exact Nat.lt_of_le_of_lt (show _ ≤ 8 by omega) (by decide)
            · rw [upd_ne (ne_of_none e' hz)]
              exact s5 _ _ (s34 _ _ e')
            · rw [upd_same, take_snoc (putRow_at hc'), List.map_append, hk]
              rfl
          rcases hN.at (i, j) with e3 | ⟨v, hv, _, e3⟩
          · rw [e3]
            exact ⟨_, _, rfl, .inl rfl, fin c (by unfold dig; rw [e3])⟩
          · rw [e3]
            refine ⟨_, ⟨#[48 + v]⟩, rfl, .inr ⟨(v : Nat), rfl, ?_, (digit6 v hv).symm⟩, fin (48 + v) (by unfold dig; rw [e3]; rfl)⟩
            have : ∀ v : Nat, v ≤ 8 → ((v : Nat) : Int).natAbs.log2 < 1920 := by decide +kernel
            exact this v hv
        · rintro σ H3 ⟨u0, u1, rfl, s3, hz3⟩
          have ez : (putRow kvs i t.cps.toList).take t.cps.size = putRow kvs i t.cps.toList := List.take_of_length_le (by unfold putRow; rw [List.length_mapIdx, Array.length_toList]; exact Nat.le_refl _)
          rw [ez] at hz3
          have hz3' : H3 z = some (.lst (((putRow kvs i t.cps.toList).map fun c => (⟨#[c]⟩ : Str)).map V.str)) := by
            rw [hz3, List.map_map]
            rfl
          have pl : (putRow kvs i t.cps.toList).length ≤ 8 := by
            unfold putRow
            rw [List.length_mapIdx]
            exact tl8
          refine ⟨_, rfl, .inl ⟨rfl, _, SqL.of (s3 _ _ hd2)⟩, rfl, _, rfl, "", z, _, rfl, rfl, SqL.of hz3', ?_, d0, _, _, rfl, rfl, s3 _ _ hd2, ?_, ?_⟩
          · rw [sum_ones, List.length_map]
            have : ("" : Str).length = 0 := rfl
            rw [this]
            omega
          · rw [List.length_map, List.length_take, putRs_len]
            exact Nat.lt_of_le_of_lt (show _ ≤ 8 by omega) (by decide)
          · rw [putT_join]
            refine ⟨_, _, _, rfl, fun b' o e' => ?_, ?_⟩
            · rw [upd_ne (ne_of_none e' hd0)]
              exact s3 _ _ (s2 _ _ e')
            · rw [upd_same, take_snoc (putRs_at e), List.map_append]
              rfl
    · rintro σ H1 ⟨v3, v4, v5, rfl, s1, hd1⟩
      rw [List.length_map, ← putRs_len kvs rs, List.take_length] at hd1
      refine ⟨_, rfl, _, rfl, p, _, 1, _, rfl, rfl, SqT.of (b.mono s1).tp, rfl, (by show 2 ≤ sizeLine; decide), fun q2 hq2 => ?_⟩
      have s2 := same_new (o := .tup [.ref d0, .int n]) hq2
      exact q q2 d0 _ (s1.free hq2) hd0 ⟨upd_same, s2 _ _ hd1⟩ (s1.trans s2)
theorem sc_law_put : FnScope ["_law_rows_here", "_law_numbers", "_law_found", "_law_row", "_law_text", "_law_column", "_law_sign"] ["_law_rows_here", "_law_numbers"] (defScope s_law_put) := ⟨rfl, rfl, rfl, by decide +kernel, rfl, by decide +kernel, by decide +kernel⟩
theorem ok_law_put (T : Txt mg) (D : DefAt K mg "_law_put" s_law_put ["_law_rows_here", "_law_numbers"] f fd) : FnOk P w K mg base CX0 1 f fd ["_law_rows_here", "_law_numbers"] spPut := by
  refine D.F.ok sc_law_put (fun vs H Q E h => ?_) (fun cdv A outer s H vs Q E hr h => ?_)
  · obtain ⟨l, d, rs, cs, N, kvs, rfl, _⟩ := h
    rfl
  · obtain ⟨l, d, rs, cs, N, kvs, rfl, hl, R, hd, hN, q⟩ := h
    obtain ⟨n, n1, n8, hrow⟩ := R.ex
    have rlo := R.lo
    have rhi := R.hi
    obtain ⟨t0, ht0⟩ : ∃ t0, rs[0]? = some t0 := ⟨_, List.getElem?_eq_getElem (by omega)⟩
    have e0 : t0.length = n := (hrow t0 (List.mem_of_getElem? ht0)).len
    have hat : ∀ {i : Nat} {t : Str}, rs[i]? = some t → (rs.map V.str)[i]? = some (V.str t) := fun h => by rw [List.getElem?_map, h]; rfl
    refine ⟨_, (pss_cons (ps_set (i := 2) sc_law_put.nd rfl (Or.inl rfl) (pe_lst pa_nil))
      (pss_cons (ps_for PassesOwn.never rfl (pi_range1 (by rfl) T.b_range (pa_cons (pe_callB call_len_seq (by rfl) T.b_len PySem.boot_len (pa_cons (pv 0) pa_nil)) pa_nil)) (pg_name (i := 3) sc_law_put.nd rfl (Or.inl rfl)) (pss_cons (ps_set (i := 4) sc_law_put.nd rfl (Or.inl rfl) pe_str)
      (pss_cons (ps_for PassesOwn.never rfl (pi_range1 (by rfl) T.b_range (pa_cons (pe_callB call_len_str (by rfl) T.b_len PySem.boot_len (pa_cons (pe_ix ix_list (pv 0) pe_int (fun _ _ => rfl)) pa_nil)) pa_nil)) (pg_name (i := 5) sc_law_put.nd rfl (Or.inl rfl)) (pss_cons (ps_set (i := 6) sc_law_put.nd rfl (Or.inl rfl) (pe_ix ix_str (pe_ix ix_list (pv 0) (pv 3) (fun _ _ => rfl)) (pv 5) (fun _ _ => rfl)))
      (pss_mid (ps_if (pt_cmp (pc_din (u1 hr.units) (pe_tup (pa_cons (pv 3) (pa_cons (pv 5) pa_nil))) (pv 1))) (pss_one (ps_set (i := 6) sc_law_put.nd rfl (Or.inl rfl) (pe_callTy call_str_int (by rfl) T.b_str PyProof.Rows.boot_str (pa_cons (pe_dget (u1 hr.units) (pv 1) (pe_tup (pa_cons (pv 3) (pa_cons (pv 5) pa_nil))) (fun _ _ => rfl)) pa_nil)))) pss_nil)
      (pss_one (ps_set (i := 4) sc_law_put.nd rfl (Or.inl rfl) (pe_op op_add_str (pv 4) (pv 6)))))))
      (pss_one (ps_expr (pe_bm PySem.F.plainAttrs_list PySem.F.slot_list_append PySem.F.type_list_append mt_append (pv 2) (pa_cons (pv 4) pa_nil)))))))
      (pss_one (ps_ret (pv 2))))), ?_⟩
    refine ⟨(by show 0 ≤ sizeLine; decide), fun d0 hd0 => ?_⟩
    have s0 : Same H (upd H d0 (.lst [])) := same_new hd0
    have rl : (rs.map V.str).length = rs.length := List.length_map _
    refine ⟨_, rfl, l, _, rfl, .inl (SqL.of (s0 _ _ hl)), _, rfl, by omega, by omega, ?_⟩
    rw [Int.toNat_natCast, rl]
    refine for_range (lo := 0) (n := rs.length) (fun i σ H' => ∃ (v3 v4 v5 v6 : Option V), σ = [some (.ref l), some (.ref d), some (.ref d0), v3, v4, v5, v6] ∧ Same H H' ∧ H' d0 = some (.lst (((putRs kvs rs).take i).map V.str))) ⟨_, _, _, _, rfl, s0, upd_same⟩ ?_ ?_
    · rintro i σ H1 hi ⟨v3, v4, v5, v6, rfl, s1, hd1⟩
      obtain ⟨t, ht⟩ : ∃ t, rs[i]? = some t := ⟨_, List.getElem?_eq_getElem hi⟩
      have tl : t.cps.toList.length = n := by
        rw [Array.length_toList]
        exact (hrow t (List.mem_of_getElem? ht)).len
      refine ⟨_, rfl, l, _, _, .str t0, rfl, rfl, SqL.of (s1 _ _ hl), atI_nat (hat ht0), t0, rfl, R.tlen ht0, _, rfl, ?_, ?_, ?_⟩
      · show -(2 ^ 62) ≤ ((t0.length : Nat) : Int)
        omega
      · show ((t0.length : Nat) : Int) < 2 ^ 62
        omega
      rw [Int.toNat_natCast, e0]
      refine for_range (lo := 0) (n := n) (fun j σ H' => ∃ (v5 v6 : Option V), σ = [some (.ref l), some (.ref d), some (.ref d0), some (.int (0 + (i : Int))), some (.str ⟨((putRow kvs i t.cps.toList).take j).toArray⟩), v5, v6] ∧ Same H1 H') ⟨_, _, rfl, Same.refl _⟩ ?_ ?_
      · rintro j σ H2 hj ⟨v5, v6, rfl, s2⟩
        obtain ⟨c, hc⟩ : ∃ c, t.cps.toList[j]? = some c := ⟨_, List.getElem?_eq_getElem (by omega)⟩
        have s12 := s1.trans s2
        refine ⟨_, rfl, _, rfl, l, _, _, .str t, rfl, rfl, SqL.of (s12 _ _ hl), atI_lt (by omega) (by rw [show ((0 : Int) + (i : Int)).toNat = i by omega]; exact hat ht), _, rfl, t, _, c, rfl, rfl, R.tlen ht, atI_lt (by omega) (by rw [show ((0 : Int) + (j : Int)).toNat = j by omega]; exact hc), ?_⟩
        refine ⟨fun σ' H' => ∃ k : Nat, k = dig kvs (i, j) c ∧ σ' = [some (.ref l), some (.ref d), some (.ref d0), some (.int (0 + (i : Int))), some (.str ⟨((putRow kvs i t.cps.toList).take j).toArray⟩), some (.int (0 + (j : Int))), some (.str ⟨#[k]⟩)] ∧ Same H2 H', ?_, ?_⟩
        · refine ⟨_, rfl, _, rfl, (by show 2 ≤ sizeLine; decide), fun tp htp => ?_⟩
          have s3 := same_new (o := .tup [.int (0 + (i : Int)), .int (0 + (j : Int))]) htp
          have ek : (keyC (i, j)).map kV = [.int (0 + (i : Int)), .int (0 + (j : Int))] := by rw [keyC_map, Int.zero_add, Int.zero_add]
          refine ⟨_, rfl, d, valV kvs (keyC (i, j)), rfl, DGet.t (k := keyC (i, j)) (s3 _ _ (s12 _ _ hd)) (by rw [ek]; exact upd_same), _, rfl, ?_⟩
          rcases hN.at (i, j) with e3 | ⟨v, hv, _, e3⟩
          · rw [e3]
            exact iteF ⟨c, by unfold dig; rw [e3], rfl, s3⟩
          · rw [e3]
            refine iteT ⟨_, rfl, _, rfl, _, rfl, (by show 2 ≤ sizeLine; decide), fun tq htq => ?_⟩
            have s4 := same_new (o := .tup [.int (0 + (i : Int)), .int (0 + (j : Int))]) htq
            refine ⟨d, V.int (v : Nat), rfl, ?_, (v : Nat), rfl, ?_, ?_⟩
            · have g := DGet.t (k := keyC (i, j)) (s4 _ _ (s3 _ _ (s12 _ _ hd))) (show upd (upd H2 tp (.tup [.int (0 + (i : Int)), .int (0 + (j : Int))])) tq (.tup [.int (0 + (i : Int)), .int (0 + (j : Int))]) tq = some (.tup ((keyC (i, j)).map kV)) by rw [ek]; exact upd_same)
              rw [e3] at g
              exact g
            · have : ∀ v : Nat, v ≤ 8 → ((v : Nat) : Int).natAbs.log2 < 1920 := by decide +kernel
              exact this v hv
            · rw [digit6 v hv]
              exact ⟨48 + v, by unfold dig; rw [e3]; rfl, rfl, s3.trans s4⟩
        · rintro σ' H3 ⟨k, hk, rfl, s3⟩
          have pl : (putRow kvs i t.cps.toList).length = n := by
            unfold putRow
            rw [List.length_mapIdx]
            exact tl
          refine ⟨_, rfl, _, rfl, _, _, rfl, rfl, ?_, ?_⟩
          · have h1 : (⟨((putRow kvs i t.cps.toList).take j).toArray⟩ : Str).length ≤ 8 := by
              show ((putRow kvs i t.cps.toList).take j).toArray.size ≤ 8
              rw [List.size_toArray, List.length_take]
              omega
            have h2 : (⟨#[k]⟩ : Str).length = 1 := rfl
            exact Nat.le_trans (show _ ≤ 9 by rw [h2]; omega) (by decide)
          · refine ⟨some (.int (0 + (j : Int))), some (.str ⟨#[k]⟩), ?_, s2.trans s3⟩
            have e4 : (⟨((putRow kvs i t.cps.toList).take j).toArray⟩ : Str) ++ ⟨#[k]⟩ = ⟨((putRow kvs i t.cps.toList).take (j + 1)).toArray⟩ := by
              refine str_ext ?_
              rw [show ((⟨((putRow kvs i t.cps.toList).take j).toArray⟩ : Str) ++ (⟨#[k]⟩ : Str)).cps = ((putRow kvs i t.cps.toList).take j).toArray ++ #[k] from rfl, Array.toList_append, take_snoc (putRow_at hc), hk]
            show [_, _, _, _, some (V.str ((⟨((putRow kvs i t.cps.toList).take j).toArray⟩ : Str) ++ ⟨#[k]⟩)), _, _] = _
            rw [e4]
      · rintro σ H2 ⟨v5, v6, rfl, s2⟩
        have ez : (putRow kvs i t.cps.toList).take n = putRow kvs i t.cps.toList := List.take_of_length_le (by unfold putRow; rw [List.length_mapIdx]; omega)
        rw [ez]
        refine ⟨_, rfl, .inl ⟨rfl, _, SqL.of (s2 _ _ hd1)⟩, _, rfl, d0, _, _, rfl, rfl, s2 _ _ hd1, ?_, ?_⟩
        · rw [List.length_map, List.length_take, putRs_len]
          exact Nat.lt_of_le_of_lt (show _ ≤ 8 by omega) (by decide)
        · refine ⟨_, _, _, _, rfl, fun b' o e' => ?_, ?_⟩
          · rw [upd_ne (ne_of_none e' hd0)]
            exact s2 _ _ (s1 _ _ e')
          · rw [upd_same, take_snoc (putRs_at ht), List.map_append]
            rfl
    · rintro σ H1 ⟨v3, v4, v5, v6, rfl, s1, hd1⟩
      rw [← putRs_len kvs rs, List.take_length] at hd1
      exact ⟨_, rfl, q d0 H1 hd0 hd1 s1⟩
end

/-! _law_dicts: three dicts of numbers for cells. -/
structure Three (cs : List (Nat × Nat)) (N : Nat) (H : Hp) (d0 e1 e2 e3 : Addr) (k1 k2 k3 : KV1) : Prop where
  ls : H d0 = some (.lst [.ref e1, .ref e2, .ref e3])
  h1 : H e1 = some (.dT k1)
  h2 : H e2 = some (.dT k2)
  h3 : H e3 = some (.dT k3)
  n12 : e1 ≠ e2
  n13 : e1 ≠ e3
  n23 : e2 ≠ e3
  m1 : Nums cs N k1
  m2 : Nums cs N k2
  m3 : Nums cs N k3
theorem Three.mono {cs : List (Nat × Nat)} {N : Nat} {H H' : Hp} {d0 e1 e2 e3 : Addr} {k1 k2 k3 : KV1} (t : Three cs N H d0 e1 e2 e3 k1 k2 k3) (s : Same H H') : Three cs N H' d0 e1 e2 e3 k1 k2 k3 :=
  ⟨s _ _ t.ls, s _ _ t.h1, s _ _ t.h2, s _ _ t.h3, t.n12, t.n13, t.n23, t.m1, t.m2, t.m3⟩
theorem Three.into {cs : List (Nat × Nat)} {N : Nat} {H : Hp} {d0 e1 e2 e3 z : Addr} {k1 k2 k3 : KV1} {o : HO} (t : Three cs N H d0 e1 e2 e3 k1 k2 k3) (n0 : d0 ≠ z) (n1 : e1 ≠ z) (n2 : e2 ≠ z) (n3 : e3 ≠ z) : Three cs N (upd H z o) d0 e1 e2 e3 k1 k2 k3 :=
  ⟨by rw [upd_ne n0]; exact t.ls, by rw [upd_ne n1]; exact t.h1, by rw [upd_ne n2]; exact t.h2, by rw [upd_ne n3]; exact t.h3, t.n12, t.n13, t.n23, t.m1, t.m2, t.m3⟩
def spDicts (K : PySem.W.Frag) : Sp := fun vs H Q _ => ∃ (c a : Addr) (ws : List V) (cs : List (Nat × Nat)) (ns : List Int), vs = [.ref c, .ref a] ∧ H c = some (.lst ws) ∧ Cel H ws cs ∧ cs.length ≤ 64 ∧ SqL K H a (ns.map V.int) ∧
  ∀ (d0 e1 e2 e3 : Addr) (k1 k2 k3 : KV1) (H' : Hp), H e1 = none → H e2 = none → H e3 = none → Three cs 64 H' d0 e1 e2 e3 k1 k2 k3 → Same H H' → Q (.ref d0) H'
theorem ixN6 {n : Nat} {i : Int} (h0 : 0 ≤ i) (h1 : i < n) : ixN n i = some i.toNat := by
  unfold ixN
  rw [if_pos h0, if_pos h1]
section
variable {P : Program} {w : World} {K : PySem.W.Frag} {mg : Str → Option Value} {base : Heap} {f : Addr} {fd : FuncData}
theorem sc_law_dicts : FnScope ["_law_cells", "_law_script", "_law_found", "_law_own", "_law_k", "_law_drawn"] ["_law_cells", "_law_script"] (defScope s_law_dicts) := ⟨rfl, rfl, rfl, by decide +kernel, rfl, by decide +kernel, by decide +kernel⟩
theorem ok_law_dicts {f1 : Addr} {fd1 : FuncData} (T : Txt mg) (D : DefAt K mg "_law_dicts" s_law_dicts ["_law_cells", "_law_script"] f fd) (D_law_cell_at : DefAt K mg "_law_cell_at" s_law_cell_at ["_law_script", "_law_k"] f1 fd1) : FnOk P w K mg base CX0 2 f fd ["_law_cells", "_law_script"] (spDicts K) := by
  have G_law_cell_at : FnOk P w K mg base CX0 1 f1 fd1 ["_law_script", "_law_k"] (spCell K) := ok_law_cell_at T D_law_cell_at
  refine D.F.ok sc_law_dicts (fun vs H Q E h => ?_) (fun cdv A outer s H vs Q E hr h => ?_)
  · obtain ⟨c, a, ws, cs, ns, rfl, _⟩ := h
    rfl
  · obtain ⟨c, a, ws, cs, ns, rfl, hc, hcel, h64, hS, q⟩ := h
    refine ⟨_, (pss_cons (ps_set (i := 2) sc_law_dicts.nd rfl (Or.inl rfl) (pe_lst (pa_cons pe_dnewT (pa_cons pe_dnewT (pa_cons pe_dnewT pa_nil)))))
      (pss_cons (ps_setC (i := 3) sc_law_dicts.nd rfl rfl (N := ["_law_k", "_law_script"]) (src := [none, some 1]) (CompOk.free (O := (defScope s_law_dicts).names) (XN := ["_law_cells", "_law_script", "_law_found", "_law_own", "_law_k", "_law_drawn"]) rfl rfl ⟨_, rfl⟩ rfl rfl (by decide +kernel) (by decide +kernel) (by decide +kernel) rfl (by decide +kernel)) rfl (pi_range1 (by rfl) T.b_range (pa_cons pe_int pa_nil)) (fun _ _ _ _ _ => (pg_name (i := 0) (by show List.Nodup (["_law_k", "_law_script"] : List Str); decide +kernel) rfl (Or.inl rfl))) (fun _ _ _ _ _ => pifs_nil) (fun _ _ _ _ _ => (pe_call G_law_cell_at (hr.mono (by decide)) (by rfl) D_law_cell_at.g D_law_cell_at.F.kp D_law_cell_at.b .nil pass0 (pa_cons (pv 1) (pa_cons (pe_op op_add pe_int (pv 0)) pa_nil)))))
      (pss_cons (ps_for PassesOwn.never rfl (pi_range1 (by rfl) T.b_range (pa_cons (pe_callB call_len_seq (by rfl) T.b_len PySem.boot_len (pa_cons (pv 0) pa_nil)) pa_nil)) (pg_name (i := 4) sc_law_dicts.nd rfl (Or.inl rfl)) (pss_cons (ps_set (i := 5) sc_law_dicts.nd rfl (Or.inl rfl) (pe_ix ix_list (pv 3) (pe_op op_mod (pv 4) pe_int) (fun _ _ => rfl)))
      (pss_cons (ps_asg (pe_op op_fdivG (pe_ix ix_list (pv 3) (pe_op op_mod (pv 4) pe_int) (fun _ _ => rfl)) pe_int) (pg_sub (pv 3) (pe_op op_mod (pv 4) pe_int) set_list))
      (pss_one (ps_if (pt_cmpR op_gt (pe_op op_mod (pv 5) pe_int) pe_int (nomark _)) (pss_one (ps_dput (u1 hr.units) (pe_ix ix_list (pv 2) (pe_op op_sub (pe_op op_mod (pv 5) pe_int) pe_int) (fun _ _ => rfl)) (pe_ix ix_list (pv 0) (pv 4) (fun _ _ => rfl)) (pe_op op_mod (pe_op op_fdivG (pv 5) pe_int) pe_int) rfl)) pss_nil)))))
      (pss_one (ps_ret (pv 2)))))), ?_⟩
    refine fun e1 he1 e2 he2 e3 he3 => ⟨(by show 3 ≤ sizeLine; decide), fun d0 hd0 => ?_⟩
    have z1 := same_new (o := .dT []) he1
    have z2 := same_new (o := .dT []) he2
    have z3 := same_new (o := .dT []) he3
    have z4 := same_new (o := .lst [.ref e1, .ref e2, .ref e3]) hd0
    have f2 := z1.free he2
    have f3 := (z1.trans z2).free he3
    have f0 := ((z1.trans z2).trans z3).free hd0
    have x1 : upd H e1 (.dT []) e1 = some (.dT []) := upd_same
    have x2 : upd (upd H e1 (.dT [])) e2 (.dT []) e2 = some (.dT []) := upd_same
    have x3 : upd (upd (upd H e1 (.dT [])) e2 (.dT [])) e3 (.dT []) e3 = some (.dT []) := upd_same
    have n12 : e1 ≠ e2 := ne_of_none x1 he2
    have n13 : e1 ≠ e3 := ne_of_none (z2 _ _ x1) he3
    have n23 : e2 ≠ e3 := ne_of_none x2 he3
    have T0 : Three cs 0 (upd (upd (upd (upd H e1 (.dT [])) e2 (.dT [])) e3 (.dT [])) d0 (.lst [.ref e1, .ref e2, .ref e3])) d0 e1 e2 e3 [] [] [] := ⟨upd_same, z4 _ _ (z3 _ _ (z2 _ _ x1)), z4 _ _ (z3 _ _ x2), z4 _ _ x3, n12, n13, n23, .nil _ _, .nil _ _, .nil _ _⟩
    have s0 := ((z1.trans z2).trans z3).trans z4
    generalize upd (upd (upd (upd H e1 (.dT [])) e2 (.dT [])) e3 (.dT [])) d0 (.lst [.ref e1, .ref e2, .ref e3]) = H0 at *
    refine ⟨_, rfl, by decide, by decide, fun z hz => ?_⟩
    refine comp_range (lo := 0) (n := 8) (fun j σ' H' => ∃ (u0 : Option V) (xs : List Int), σ' = [u0, some (.ref a)] ∧ Same H0 H' ∧ H' z = some (.lst (xs.map V.int)) ∧ xs.length = j) ⟨_, [], rfl, same_new hz, upd_same, rfl⟩ ?_ ?_
    · rintro j σ' H1 hj ⟨u0, xs, rfl, s1, hz1, xl⟩
      refine tYes_it ⟨_, rfl, _, rfl, _, _, rfl, rfl, a, ns, _, rfl, (s0.trans s1).seq hS, by omega, fun v => ⟨_, hz1, ?_, _, xs ++ [v], rfl, fun b o e => ?_, ?_, ?_⟩⟩
      · rw [List.length_map]
        exact Nat.lt_of_le_of_lt (show _ ≤ 8 by omega) (by decide)
      · rw [upd_ne (ne_of_none e hz)]
        exact s1 _ _ e
      · rw [upd_same, List.map_append]
        rfl
      · rw [List.length_append, xl]
        rfl
    · rintro σ' H1 ⟨u0, xs0, rfl, s1, hz1, xl0⟩
      have s01 := s0.trans s1
      have T1 := T0.mono s1
      have nz0 : d0 ≠ z := ne_of_none T0.ls hz
      have nz1 : e1 ≠ z := ne_of_none T0.h1 hz
      have nz2 : e2 ≠ z := ne_of_none T0.h2 hz
      have nz3 : e3 ≠ z := ne_of_none T0.h3 hz
      have fz := s0.free hz
      have wl := hcel.length
      refine ⟨_, rfl, c, _, rfl, .inl (SqL.of (s01 _ _ hc)), _, rfl, by omega, by omega, ?_⟩
      rw [Int.toNat_natCast]
      refine for_range (lo := 0) (n := ws.length) (fun i σ H' => ∃ (v4 v5 : Option V) (xs : List Int) (k1 k2 k3 : KV1), σ = [some (.ref c), some (.ref a), some (.ref d0), some (.ref z), v4, v5] ∧ Same H H' ∧ H' z = some (.lst (xs.map V.int)) ∧ xs.length = 8 ∧ Three cs i H' d0 e1 e2 e3 k1 k2 k3) ⟨_, _, xs0, [], [], [], rfl, s01, hz1, xl0, T1⟩ ?_ ?_
      · rintro i σ H2 hi ⟨v4, v5, xs, k1, k2, k3, rfl, s2, hz2, xl, T2⟩
        have m0 := Int.emod_nonneg (0 + (i : Int)) (show (8 : Int) ≠ 0 by decide)
        have m1 := Int.emod_lt_of_pos (0 + (i : Int)) (show (0 : Int) < 8 by decide)
        obtain ⟨x, hx⟩ : ∃ x, xs[((0 + (i : Int)) % 8).toNat]? = some x := ⟨_, List.getElem?_eq_getElem (by omega)⟩
        have hx' : (xs.map V.int)[((0 + (i : Int)) % 8).toNat]? = some (V.int x) := by rw [List.getElem?_map, hx]; rfl
        refine ⟨_, rfl, _, rfl, _, _, rfl, rfl, (by show (0 : Int) < 8; decide), z, _, _, _, rfl, rfl, SqL.of hz2, atI_lt m0 hx', ?_⟩
        refine ⟨_, rfl, _, rfl, _, _, rfl, rfl, (by show (0 : Int) < 8; decide), z, _, _, _, rfl, rfl, SqL.of hz2, atI_lt m0 hx', _, _, rfl, rfl, CDivG.small (by decide) (by decide), _, rfl, _, rfl, _, _, rfl, rfl, (by show (0 : Int) < 8; decide), z, _, _, _, rfl, rfl, hz2, ixN6 m0 (by rw [List.length_map, xl]; exact m1), ?_⟩
        have es : (xs.map V.int).set ((0 + (i : Int)) % 8).toNat (V.int (x / 36)) = (xs.set ((0 + (i : Int)) % 8).toNat (x / 36)).map V.int := by rw [List.map_set]
        have hz3 : upd H2 z (.lst ((xs.map V.int).set ((0 + (i : Int)) % 8).toNat (V.int (x / 36)))) z = some (.lst ((xs.set ((0 + (i : Int)) % 8).toNat (x / 36)).map V.int)) := by rw [upd_same, es]
        have s3 : Same H (upd H2 z (.lst ((xs.map V.int).set ((0 + (i : Int)) % 8).toNat (V.int (x / 36))))) := fun b o e => by
          rw [upd_ne (ne_of_none e fz)]
          exact s2 _ _ e
        have T3 := T2.into (o := .lst ((xs.map V.int).set ((0 + (i : Int)) % 8).toNat (V.int (x / 36)))) nz0 nz1 nz2 nz3
        have xl3 : (xs.set ((0 + (i : Int)) % 8).toNat (x / 36)).length = 8 := by rw [List.length_set]; exact xl
        generalize upd H2 z (.lst ((xs.map V.int).set ((0 + (i : Int)) % 8).toNat (V.int (x / 36)))) = H3 at *
        generalize xs.set ((0 + (i : Int)) % 8).toNat (x / 36) = xs3 at *
        have r0 := Int.emod_nonneg x (show (4 : Int) ≠ 0 by decide)
        have r1 := Int.emod_lt_of_pos x (show (0 : Int) < 4 by decide)
        refine ⟨_, rfl, _, _, rfl, rfl, (by show (0 : Int) < 4; decide), _, _, rfl, rfl, _, rfl, ite2 (fun hp => ?_) (fun hp => ?_)⟩
        · have hp' : x % 4 > 0 := of_decide_eq_true hp
          obtain ⟨vv, hv⟩ : ∃ vv, ws[i]? = some vv := ⟨_, List.getElem?_eq_getElem hi⟩
          obtain ⟨cc, hcc, ca, rfl, hca⟩ := Cel.get (hcel.mono s3) hv
          have t0 := Int.emod_nonneg (x / 4) (show (9 : Int) ≠ 0 by decide)
          have t1 := Int.emod_lt_of_pos (x / 4) (show (0 : Int) < 9 by decide)
          have hk : ∃ c ∈ cs, ∃ v : Nat, v ≤ 8 ∧ keyC cc = keyC c ∧ V.int (x / 4 % 9) = V.int (v : Nat) := ⟨cc, List.mem_of_getElem? hcc, (x / 4 % 9).toNat, by omega, rfl, by rw [Int.toNat_of_nonneg t0]⟩
          have i64 : i ≤ 64 := by omega
          have hl : ∀ {k : KV1}, Nums cs i k → k.length < sizeLine := fun h => Nat.lt_of_le_of_lt (Nat.le_trans h.len i64) (by decide)
          have hca' : H3 ca = some (.tup ((keyC cc).map kV)) := hca
          have hci : atI ws (0 + (i : Int)) = some (V.ref ca) := by
            rw [Int.zero_add]
            exact atI_nat hv
          have cas : x % 4 - 1 = 0 ∨ x % 4 - 1 = 1 ∨ x % 4 - 1 = 2 := by omega
          have up : ∀ {e : Addr} {o : HO}, H e = none → Same H (upd H3 e o) := fun he b o e => by
            rw [upd_ne (ne_of_none e he)]
            exact s3 _ _ e
          rcases cas with ce | ce | ce
          · refine ⟨_, rfl, _, _, rfl, rfl, CDivG.small (by decide) (by decide), _, _, rfl, rfl, (by show (0 : Int) < 9; decide), _, rfl, _, rfl, _, _, rfl, rfl, (by show (0 : Int) < 4; decide), _, _, rfl, rfl, d0, _, _, .ref e1, rfl, rfl, SqL.of T3.ls, by rw [ce]; rfl, _, rfl, _, rfl, c, _, _, _, rfl, rfl, SqL.of (s3 _ _ hc), hci, e1, _, rfl, DPut.t (k := keyC cc) T3.h1 hca' (hl T3.m1), ?_⟩
            exact ⟨_, _, xs3, _, k2, k3, rfl, up he1, by rw [upd_ne (Ne.symm nz1)]; exact hz3, xl3, by rw [upd_ne (ne_of T3.ls T3.h1 (by intro y; cases y))]; exact T3.ls, upd_same, by rw [upd_ne (Ne.symm n12)]; exact T3.h2, by rw [upd_ne (Ne.symm n13)]; exact T3.h3, n12, n13, n23, T3.m1.put hk, T3.m2.le (Nat.le_succ _), T3.m3.le (Nat.le_succ _)⟩
          · refine ⟨_, rfl, _, _, rfl, rfl, CDivG.small (by decide) (by decide), _, _, rfl, rfl, (by show (0 : Int) < 9; decide), _, rfl, _, rfl, _, _, rfl, rfl, (by show (0 : Int) < 4; decide), _, _, rfl, rfl, d0, _, _, .ref e2, rfl, rfl, SqL.of T3.ls, by rw [ce]; rfl, _, rfl, _, rfl, c, _, _, _, rfl, rfl, SqL.of (s3 _ _ hc), hci, e2, _, rfl, DPut.t (k := keyC cc) T3.h2 hca' (hl T3.m2), ?_⟩
            exact ⟨_, _, xs3, k1, _, k3, rfl, up f2, by rw [upd_ne (Ne.symm nz2)]; exact hz3, xl3, by rw [upd_ne (ne_of T3.ls T3.h2 (by intro y; cases y))]; exact T3.ls, by rw [upd_ne n12]; exact T3.h1, upd_same, by rw [upd_ne (Ne.symm n23)]; exact T3.h3, n12, n13, n23, T3.m1.le (Nat.le_succ _), T3.m2.put hk, T3.m3.le (Nat.le_succ _)⟩
          · refine ⟨_, rfl, _, _, rfl, rfl, CDivG.small (by decide) (by decide), _, _, rfl, rfl, (by show (0 : Int) < 9; decide), _, rfl, _, rfl, _, _, rfl, rfl, (by show (0 : Int) < 4; decide), _, _, rfl, rfl, d0, _, _, .ref e3, rfl, rfl, SqL.of T3.ls, by rw [ce]; rfl, _, rfl, _, rfl, c, _, _, _, rfl, rfl, SqL.of (s3 _ _ hc), hci, e3, _, rfl, DPut.t (k := keyC cc) T3.h3 hca' (hl T3.m3), ?_⟩
            exact ⟨_, _, xs3, k1, k2, _, rfl, up f3, by rw [upd_ne (Ne.symm nz3)]; exact hz3, xl3, by rw [upd_ne (ne_of T3.ls T3.h3 (by intro y; cases y))]; exact T3.ls, by rw [upd_ne n13]; exact T3.h1, by rw [upd_ne n23]; exact T3.h2, upd_same, n12, n13, n23, T3.m1.le (Nat.le_succ _), T3.m2.le (Nat.le_succ _), T3.m3.put hk⟩
        · exact ⟨_, _, xs3, k1, k2, k3, rfl, s3, hz3, xl3, T3.ls, T3.h1, T3.h2, T3.h3, n12, n13, n23, T3.m1.le (Nat.le_succ _), T3.m2.le (Nat.le_succ _), T3.m3.le (Nat.le_succ _)⟩
      · rintro σ H2 ⟨v4, v5, xs, k1, k2, k3, rfl, s2, hz2, xl, T2⟩
        rw [wl] at T2
        exact ⟨_, rfl, q d0 e1 e2 e3 k1 k2 k3 H2 he1 f2 f3 ⟨T2.ls, T2.h1, T2.h2, T2.h3, n12, n13, n23, T2.m1.le h64, T2.m2.le h64, T2.m3.le h64⟩ s2⟩
end

/-! Lists of cells as data. -/
theorem gRdv {K : PySem.W.Frag} {H : Hp} : ∀ {vs : List V} {cs : List (Nat × Nat)}, Cel H vs cs → RdvAll K H vs (cs.map cData)
  | _, _, .nil => .nil
  | _, _, .cons h t => .cons (CelR.rdv h) (gRdv t)
theorem g_lays (cs : List (Nat × Nat)) : PyData.canLayAll0 (cs.map cData) = true := by
  induction cs with
  | nil => rfl
  | cons c r ih =>
    show (PyData.canLay0 (cData c) && PyData.canLayAll0 (r.map cData)) = true
    rw [ih]
    rfl
theorem g_depths (cs : List (Nat × Nat)) : PyData.depthAll (cs.map cData) ≤ 1 := by
  induction cs with
  | nil => exact Nat.zero_le _
  | cons c r ih =>
    show max (PyData.depth (cData c)) (PyData.depthAll (r.map cData)) ≤ 1
    have : PyData.depth (cData c) = 1 := rfl
    omega
theorem g_cmp2 (cs ds : List (Nat × Nat)) : CmpD (.list (cs.map cData)) (.list (ds.map cData)) := ⟨g_lays cs, g_lays ds, by
  show PyData.depthAll (cs.map cData) + 1 ≤ 64
  have := g_depths cs
  omega⟩
theorem g_same (cs : List (Nat × Nat)) : PyData.eqv (.list (cs.map cData)) (.list (cs.map cData)) = true := SeqAt.eqv_refl _ (g_lays cs)

def shutC (rs : List Str) : List (Nat × Nat) := Cells.allCs pShut 0 (codes rs)
def openC (rs : List Str) : List (Nat × Nat) := Cells.allCs pOpen 0 (codes rs)
theorem in_cs (cs : List (Nat × Nat)) (c : Nat × Nat) : (cs.map cData).any (fun z => PyData.eqv z (cData c)) = cs.any fun z => decide (z = c) := by
  rw [List.any_map]
  congr 1
  funext z
  exact cData_eqv z c
theorem cell_on {p : Nat → Bool} {rs : List Str} {c : Nat × Nat} (h : c ∈ Cells.allCs p 0 (codes rs)) : ∃ t k, rs[c.1]? = some t ∧ t.cps.toList[c.2]? = some k ∧ p k = true := by
  obtain ⟨i, j, u, k, e, h1, h2, h3⟩ := Cells.mem_allCs h
  obtain ⟨t, ht, rfl⟩ := codes_inv h1
  rw [Nat.zero_add] at e
  subst e
  exact ⟨t, k, ht, h2, h3⟩
theorem mem_row6 {p : Nat → Bool} {i : Nat} : ∀ {j m : Nat} {t : List Nat} {c : Nat}, t[m]? = some c → p c = true → (i, j + m) ∈ Cells.rowCs p i j t
  | j, m, [], c, h, _ => by simp at h
  | j, 0, d :: r, c, h, hp => by
    have e : d = c := by simpa using h
    subst e
    rw [Cells.rowCs, if_pos hp]
    exact List.mem_append_left _ List.mem_cons_self
  | j, m + 1, d :: r, c, h, hp => by
    rw [Cells.rowCs]
    refine List.mem_append_right _ ?_
    have := mem_row6 (i := i) (j := j + 1) (m := m) (t := r) (c := c) (by simpa using h) hp
    rwa [show j + 1 + m = j + (m + 1) by omega] at this
theorem mem_all6 {p : Nat → Bool} : ∀ {i m : Nat} {rs : List (List Nat)} {t : List Nat} {j c : Nat}, rs[m]? = some t → t[j]? = some c → p c = true → (i + m, j) ∈ Cells.allCs p i rs
  | i, m, [], t, j, c, h, _, _ => by simp at h
  | i, 0, d :: r, t, j, c, h, hj, hp => by
    have e : d = t := by simpa using h
    subst e
    rw [Cells.allCs]
    refine List.mem_append_left _ ?_
    have := mem_row6 (i := i) (j := 0) hj hp
    rwa [show 0 + j = j by omega] at this
  | i, m + 1, d :: r, t, j, c, h, hj, hp => by
    rw [Cells.allCs]
    refine List.mem_append_right _ ?_
    have := mem_all6 (i := i + 1) (m := m) (rs := r) (t := t) (j := j) (c := c) (by simpa using h) hj hp
    rwa [show i + 1 + m = i + (m + 1) by omega] at this
theorem all6_short {p : Nat → Bool} {rs : List Str} (R : Rows bd.cps.toList rs) : (Cells.allCs p 0 (codes rs)).length ≤ 64 := by
  have h1 := Cells.allCs_length p 0 (codes rs) R.short
  have h2 := R.hi
  rw [codes_len] at h1
  omega
theorem shut_small {rs : List Str} (R : Rows bd.cps.toList rs) {c : Nat × Nat} (h : c ∈ shutC rs) : c.1 < 8 ∧ c.2 < 8 := by
  obtain ⟨t, k, h1, h2, _⟩ := cell_on h
  have a := (List.getElem?_eq_some_iff.mp h1).1
  have b := (List.getElem?_eq_some_iff.mp h2).1
  have d := R.short _ (List.mem_of_getElem? (codes_get h1))
  have e := R.hi
  omega
theorem val_of_mem : ∀ {kvs : KV1} {kv : List Key × V}, (kvs.map (·.1)).Nodup → kv ∈ kvs → valV kvs kv.1 = some kv.2
  | [], kv, _, h => nomatch h
  | p :: r, kv, hn, h => by
    rw [List.map_cons, List.nodup_cons] at hn
    rcases List.mem_cons.mp h with e | h
    · subst e
      exact valV_pos rfl
    · rw [valV_neg (fun z => hn.1 (List.mem_map.mpr ⟨kv, h, z.symm⟩))]
      exact val_of_mem hn.2 h
/-- what is closed on the opened board has no number -/
theorem shut_free {cs : List (Nat × Nat)} {N : Nat} {kvs : KV1} (hN : Nums cs N kvs) {rs : List Str} {c : Nat × Nat} (h : c ∈ shutC (putRs kvs rs)) : valV kvs (keyC c) = none := by
  obtain ⟨t, k, h1, h2, h3⟩ := cell_on h
  have e63 : k = 63 := of_decide_eq_true h3
  subst e63
  rcases hN.at c with e | ⟨v, hv, _, e⟩
  · exact e
  · exfalso
    cases er : rs[c.1]? with
    | none =>
      have h0 := List.getElem?_eq_none_iff.mp er
      rw [List.getElem?_eq_none_iff.mpr (by rw [putRs_len]; exact h0)] at h1
      cases h1
    | some u =>
      rw [putRs_at er] at h1
      have eu := Option.some.inj h1
      subst eu
      rw [putT_list] at h2
      cases e2 : u.cps.toList[c.2]? with
      | none =>
        have h0 := List.getElem?_eq_none_iff.mp e2
        rw [List.getElem?_eq_none_iff.mpr (by unfold putRow; rw [List.length_mapIdx]; exact h0)] at h2
        cases h2
      | some k0 =>
        rw [putRow_at e2] at h2
        have := Option.some.inj h2
        unfold dig at this
        rw [e] at this
        have h9 : 48 + ((v : Nat) : Int).toNat = 63 := this
        omega
/-- what has a number is open there, with it -/
theorem num_open {cs : List (Nat × Nat)} {kvs : KV1} {rs : List Str} (hsub : ∀ c ∈ cs, c ∈ shutC rs) {c : Nat × Nat} (hc : c ∈ cs) {v : Nat} (hv : v ≤ 8) (e : valV kvs (keyC c) = some (V.int (v : Nat))) :
    ∃ t, (putRs kvs rs)[c.1]? = some t ∧ t.cps.toList[c.2]? = some (48 + v) ∧ c ∈ openC (putRs kvs rs) := by
  obtain ⟨t, k, h1, h2, _⟩ := cell_on (hsub c hc)
  have d1 := putRs_at (kvs := kvs) h1
  have d2 : (putT kvs c.1 t).cps.toList[c.2]? = some (48 + v) := by
    rw [putT_list, putRow_at h2]
    unfold dig
    rw [e]
    rfl
  refine ⟨_, d1, d2, ?_⟩
  have hp : pOpen (48 + v) = true := by
    have : ∀ v : Nat, v ≤ 8 → pOpen (48 + v) = true := by decide +kernel
    exact this v hv
  have := mem_all6 (p := pOpen) (i := 0) (codes_get d1) d2 hp
  rwa [Nat.zero_add] at this
theorem Cel.rev {H : Hp} : ∀ {vs : List V} {cs : List (Nat × Nat)}, Cel H vs cs → Cel H vs.reverse cs.reverse
  | _, _, .nil => .nil
  | _, _, .cons x t => by
    rw [List.reverse_cons, List.reverse_cons]
    exact Cel.snoc (Cel.rev t) x
theorem pick6 (c : Int) : ∃ z : Str, atI [V.str "012345678???##", V.str "????#", V.str "?"] (c % 3) = some (.str z) ∧ 1 ≤ z.cps.size ∧ z.cps.size ≤ 20 ∧ ∀ k ∈ z.cps.toList, k ∈ bd.cps.toList := by
  have h : c % 3 = 0 ∨ c % 3 = 1 ∨ c % 3 = 2 := by omega
  rcases h with h | h | h <;> rw [h]
  · exact ⟨"012345678???##", rfl, by decide +kernel, by decide +kernel, by decide +kernel⟩
  · exact ⟨"????#", rfl, by decide +kernel, by decide +kernel, by decide +kernel⟩
  · exact ⟨"?", rfl, by decide +kernel, by decide +kernel, by decide +kernel⟩
theorem b_ne {rs : List Str} {n : Int} (R : Rows bd.cps.toList rs) : (if true = true then !PyData.eqv (bData rs n) (bData rs n) else PyData.eqv (bData rs n) (bData rs n)) = false := by
  show (!PyData.eqv _ _) = false
  rw [SeqAt.eqv_refl _ (R.cmpB n).l1]
  rfl
theorem BoardAt.into {H : Hp} {p l z : Addr} {rs : List Str} {n : Int} {o : HO} (b : BoardAt H p l rs n) (n1 : p ≠ z) (n2 : l ≠ z) : BoardAt (upd H z o) p l rs n := ⟨by rw [upd_ne n1]; exact b.tp, by rw [upd_ne n2]; exact b.rw⟩

def spLaw (K : PySem.W.Frag) : Sp := fun vs H Q _ => ∃ (a : Addr) (ns : List Int), vs = [.ref a] ∧ SqL K H a (ns.map V.int) ∧ ns.length ≤ 63 ∧ ∀ H', Q (.bl true) H'
section
variable {P : Program} {w : World} {K : PySem.W.Frag} {mg : Str → Option Value} {base : Heap} {f : Addr} {fd : FuncData}
theorem sc_law : FnScope ["_law_script", "_law_rows_here", "_law_stones", "_law_board", "_law_cells", "_law_dicts_here", "_law_every", "_law_found", "_law_numbers", "_law_handed", "_law_at_once", "_law_cell"] ["_law_script"] (defScope s_law) := ⟨rfl, rfl, rfl, by decide +kernel, rfl, by decide +kernel, by decide +kernel⟩
theorem ok_law {f1 f2 f3 f4 f5 f6 f7 f8 f9 f10 f11 f12 f13 f14 : Addr} {fd1 fd2 fd3 fd4 fd5 fd6 fd7 fd8 fd9 fd10 fd11 fd12 fd13 fd14 : FuncData} (T : Txt mg) (D : DefAt K mg "law" s_law ["_law_script"] f fd)
    (D_law_cell_at : DefAt K mg "_law_cell_at" s_law_cell_at ["_law_script", "_law_k"] f1 fd1) (D_law_mixed : DefAt K mg "_law_mixed" s_law_mixed ["_law_cell", "_law_k"] f2 fd2) (D_law_rows : DefAt K mg "_law_rows" s_law_rows ["_law_script", "_law_signs"] f3 fd3)
    (D_check_row : DefAt K mg "check_row" s_check_row ["row", "length", "signs"] f4 fd4) (D_checked_rows : DefAt K mg "checked_rows" s_checked_rows ["rows", "signs"] f5 fd5) (D_board_of : DefAt K mg "board_of" s_board_of ["rows", "stones"] f6 fd6)
    (D_sign_at : DefAt K mg "sign_at" s_sign_at ["board", "cell"] f7 fd7) (D_cells_of : DefAt K mg "cells_of" s_cells_of ["board"] f8 fd8) (D_closed : DefAt K mg "closed" s_closed ["board"] f9 fd9) (D_open_cells : DefAt K mg "open_cells" s_open_cells ["board"] f10 fd10)
    (D_number_at : DefAt K mg "number_at" s_number_at ["board", "cell"] f11 fd11) (D_opened : DefAt K mg "opened" s_opened ["board", "numbers"] f12 fd12) (D_law_put : DefAt K mg "_law_put" s_law_put ["_law_rows_here", "_law_numbers"] f13 fd13) (D_law_dicts : DefAt K mg "_law_dicts" s_law_dicts ["_law_cells", "_law_script"] f14 fd14) :
    FnOk P w K mg base CX0 5 f fd ["_law_script"] (spLaw K) := by
  have G_law_cell_at : FnOk P w K mg base CX0 1 f1 fd1 ["_law_script", "_law_k"] (spCell K) := ok_law_cell_at T D_law_cell_at
  have G_law_rows : FnOk P w K mg base CX0 2 f3 fd3 ["_law_script", "_law_signs"] (spRows K) := ok_law_rows T D_law_rows D_law_cell_at D_law_mixed
  have G_board_of : FnOk P w K mg base CX0 3 f6 fd6 ["rows", "stones"] spBoard := ok_board_of T D_board_of D_checked_rows D_check_row
  have G_closed : FnOk P w K mg base CX0 2 f9 fd9 ["board"] (spList pShut) := ok_closed T D_closed D_cells_of D_sign_at
  have G_open_cells : FnOk P w K mg base CX0 2 f10 fd10 ["board"] (spList pOpen) := ok_open_cells T D_open_cells D_cells_of D_sign_at
  have G_number_at : FnOk P w K mg base CX0 2 f11 fd11 ["board", "cell"] spNumber := ok_number_at T D_number_at D_sign_at
  have G_opened : FnOk P w K mg base CX0 1 f12 fd12 ["board", "numbers"] spOpened := ok_opened T D_opened
  have G_law_put : FnOk P w K mg base CX0 1 f13 fd13 ["_law_rows_here", "_law_numbers"] spPut := ok_law_put T D_law_put
  have G_law_dicts : FnOk P w K mg base CX0 2 f14 fd14 ["_law_cells", "_law_script"] (spDicts K) := ok_law_dicts T D_law_dicts D_law_cell_at
  refine D.F.ok sc_law (fun vs H Q E h => ?_) (fun cdv A outer s H vs Q E hr h => ?_)
  · obtain ⟨a, ns, rfl, _⟩ := h
    rfl
  · obtain ⟨a, ns, rfl, hS, hlen, fin⟩ := h
    refine ⟨_, (pss_cons (ps_set (i := 1) sc_law.nd rfl (Or.inl rfl) (pe_call G_law_rows (hr.mono (by decide)) (by rfl) D_law_rows.g D_law_rows.F.kp D_law_rows.b .nil pass0 (pa_cons (pv 0) (pa_cons (pe_ix ix_list (pe_lst (pa_cons pe_str (pa_cons pe_str (pa_cons pe_str pa_nil)))) (pe_op op_mod (pe_call G_law_cell_at (hr.mono (by decide)) (by rfl) D_law_cell_at.g D_law_cell_at.F.kp D_law_cell_at.b .nil pass0 (pa_cons (pv 0) (pa_cons pe_int pa_nil))) pe_int) (fun _ _ => rfl)) pa_nil))))
      (pss_cons (ps_set (i := 2) sc_law.nd rfl (Or.inl rfl) (pe_op op_mod (pe_op op_fdivG (pe_call G_law_cell_at (hr.mono (by decide)) (by rfl) D_law_cell_at.g D_law_cell_at.F.kp D_law_cell_at.b .nil pass0 (pa_cons (pv 0) (pa_cons pe_int pa_nil))) pe_int) pe_int))
      (pss_cons (ps_set (i := 3) sc_law.nd rfl (Or.inl rfl) (pe_call G_board_of (hr.mono (by decide)) (by rfl) D_board_of.g D_board_of.F.kp D_board_of.b .nil pass0 (pa_cons (pe_callTy call_list_of (by rfl) T.b_list PyProof.Rows.boot_list (pa_cons (pv 1) pa_nil)) (pa_cons (pv 2) pa_nil))))
      (pss_cons (ps_set (i := 4) sc_law.nd rfl (Or.inl rfl) (pe_call G_closed (hr.mono (by decide)) (by rfl) D_closed.g D_closed.F.kp D_closed.b .nil pass0 (pa_cons (pv 3) pa_nil)))
      (pss_mid (ps_if (pt_cmpR op_eq (pe_op op_mod (pe_op op_fdivG (pe_call G_law_cell_at (hr.mono (by decide)) (by rfl) D_law_cell_at.g D_law_cell_at.F.kp D_law_cell_at.b .nil pass0 (pa_cons (pv 0) (pa_cons pe_int pa_nil))) pe_int) pe_int) pe_int (nomark _)) (pss_one (ps_expr (pe_bm0 PySem.F.plainAttrs_list PySem.F.slot_list_reverse PySem.F.type_list_reverse mt_reverse (pv 4)))) pss_nil)
      (pss_cons (ps_set (i := 5) sc_law.nd rfl (Or.inl rfl) (pe_call G_law_dicts (hr.mono (by decide)) (by rfl) D_law_dicts.g D_law_dicts.F.kp D_law_dicts.b .nil pass0 (pa_cons (pv 4) (pa_cons (pv 0) pa_nil))))
      (pss_cons (ps_set (i := 6) sc_law.nd rfl (Or.inr rfl) pe_dnewT)
      (pss_cons (ps_set (i := 7) sc_law.nd rfl (Or.inl rfl) (pv 3))
      (pss_cons (ps_for PassesOwn.never rfl (pi_list (pv 5)) (pg_name (i := 8) sc_law.nd rfl (Or.inl rfl)) (pss_cons (ps_expr (pe_bm PySem.F.plainAttrs_dict PySem.F.slot_dict_update PySem.F.type_dict_update (mt_dupdate hr.units) (pv 6) (pa_cons (pv 8) pa_nil)))
      (pss_cons (ps_set (i := 9) sc_law.nd rfl (Or.inl rfl) (pe_callTy (call_dict_copy hr.units) (by rfl) T.b_dict PyProof.Rows.boot_dict (pa_cons (pv 8) pa_nil)))
      (pss_cons (ps_set (i := 7) sc_law.nd rfl (Or.inl rfl) (pe_call G_opened (hr.mono (by decide)) (by rfl) D_opened.g D_opened.F.kp D_opened.b .nil pass0 (pa_cons (pv 7) (pa_cons (pv 9) pa_nil))))
      (pss_cons (ps_if (PW.pt (pw_or (pt_cmpR (op_ne_dict hr.units) (pv 9) (pv 8) (nomark _)) (pw_or1 (pt_cmpR (op_ne_deep hr.units) (pv 7) (pe_tup (pa_cons (pe_call G_law_put (hr.mono (by decide)) (by rfl) D_law_put.g D_law_put.F.kp D_law_put.b .nil pass0 (pa_cons (pv 1) (pa_cons (pv 6) pa_nil))) (pa_cons (pv 2) pa_nil))) (nomark _))))) (pss_one (ps_ret pe_bl)) pss_nil)
      (pss_one (ps_expr (pe_bm0 PySem.F.plainAttrs_dict PySem.F.slot_dict_clear PySem.F.type_dict_clear mt_dclear (pv 9)))))))))
      (pss_cons (ps_set (i := 10) sc_law.nd rfl (Or.inl rfl) (pe_call G_opened (hr.mono (by decide)) (by rfl) D_opened.g D_opened.F.kp D_opened.b .nil pass0 (pa_cons (pv 3) (pa_cons (pe_callTy (call_dict_copy hr.units) (by rfl) T.b_dict PyProof.Rows.boot_dict (pa_cons (pv 6) pa_nil)) pa_nil))))
      (pss_cons (ps_if (PW.pt (pw_or (pt_cmpR (op_ne_deep hr.units) (pv 10) (pv 7) (nomark _)) (pw_or (pt_not (pt_truth (pe_callB call_isinst (by rfl) T.b_isinstance PyProof.Rows.boot_isinstance (pa_cons (pv 10) (pa_cons (pe_bltn (v := .ty "tuple") (by rfl) T.b_tuple PyProof.Rows.boot_tuple (by rfl)) pa_nil))) (fun _ => rfl))) (pw_or1 (pt_cmpR (op_ne_deep hr.units) (pv 3) (pe_tup (pa_cons (pv 1) (pa_cons (pv 2) pa_nil))) (nomark _)))))) (pss_one (ps_ret pe_bl)) pss_nil)
      (pss_cons (ps_expr (pe_bm0 PySem.F.plainAttrs_list PySem.F.slot_list_clear PySem.F.type_list_clear mt_clear (pe_ix ix_tup (pv 3) pe_int (fun _ _ => rfl))))
      (pss_cons (ps_if (PW.pt (pw_or (pt_cmpR (op_ne_deep hr.units) (pv 10) (pe_tup (pa_cons (pe_call G_law_put (hr.mono (by decide)) (by rfl) D_law_put.g D_law_put.F.kp D_law_put.b .nil pass0 (pa_cons (pv 1) (pa_cons (pv 6) pa_nil))) (pa_cons (pv 2) pa_nil))) (nomark _)) (pw_or1 (pt_cmpR (op_ne_deep hr.units) (pe_comp (N := ["_law_one", "_law_every"]) (src := [none, some 6]) (CompOk.free (O := (defScope s_law).names) (XN := ["_law_script", "_law_rows_here", "_law_stones", "_law_board", "_law_cells", "_law_dicts_here", "_law_every", "_law_found", "_law_numbers", "_law_handed", "_law_at_once", "_law_cell"]) rfl rfl ⟨_, rfl⟩ rfl rfl (by decide +kernel) (by decide +kernel) (by decide +kernel) rfl (by decide +kernel)) rfl (pi_list (pe_call G_closed (hr.mono (by decide)) (by rfl) D_closed.g D_closed.F.kp D_closed.b .nil pass0 (pa_cons (pv 7) pa_nil))) (fun _ _ _ _ _ => (pg_name (i := 0) (by show List.Nodup (["_law_one", "_law_every"] : List Str); decide +kernel) rfl (Or.inl rfl))) (fun _ _ _ _ _ => (pifs_one (pt_cmp (pc_din (u1 hr.units) (pv 0) (pv 1))))) (fun _ _ _ _ _ => (pv 0))) (pe_lst pa_nil) (nomark _))))) (pss_one (ps_ret pe_bl)) pss_nil)
      (pss_cons (ps_for PassesOwn.never rfl (pi_dict (pv 6)) (pg_name (i := 11) sc_law.nd rfl (Or.inl rfl)) (pss_one (ps_if (PW.pt (pw_or (pt_cmpR (op_notIn_deep hr.units) (pv 11) (pe_call G_open_cells (hr.mono (by decide)) (by rfl) D_open_cells.g D_open_cells.F.kp D_open_cells.b .nil pass0 (pa_cons (pv 7) pa_nil)) (by rfl)) (pw_or1 (pt_cmpR op_ne (pe_call G_number_at (hr.mono (by decide)) (by rfl) D_number_at.g D_number_at.F.kp D_number_at.b .nil pass0 (pa_cons (pv 7) (pa_cons (pv 11) pa_nil))) (pe_dget (u1 hr.units) (pv 6) (pv 11) (fun _ _ => rfl)) (nomark _))))) (pss_one (ps_ret pe_bl)) pss_nil)))
      (pss_one (ps_ret pe_bl)))))))))))))))), ?_⟩
    -- rows
    refine ⟨_, rfl, (by show 3 ≤ sizeLine; decide), fun l0 hl0 => ?_⟩
    have hS0 : SqL K (upd H l0 (.lst [V.str "012345678???##", V.str "????#", V.str "?"])) a (ns.map V.int) := (same_new hl0).seq hS
    refine ⟨_, rfl, a, ns, _, rfl, hS0, by decide, fun c0 => ?_⟩
    obtain ⟨z, hz, z1, z2, z3⟩ := pick6 c0
    refine ⟨_, _, rfl, rfl, (by show (0 : Int) < 3; decide), l0, _, _, _, rfl, rfl, SqL.of upd_same, hz, a, ns, z, rfl, hS0, z1, z2, fun l rs H1 _ hl1 s1 R0 => ?_⟩
    have R : Rows bd.cps.toList rs := R0.mono z3
    have hS1 : SqL K H1 a (ns.map V.int) := s1.seq hS0
    -- stones
    refine ⟨_, rfl, a, ns, _, rfl, hS1, by decide, fun c2 => ?_⟩
    have n0 := Int.emod_nonneg (c2 / 3) (show (65 : Int) ≠ 0 by decide)
    have n1 := Int.emod_lt_of_pos (c2 / 3) (show (0 : Int) < 65 by decide)
    refine ⟨_, _, rfl, rfl, CDivG.small (by decide) (by decide), _, _, rfl, rfl, (by show (0 : Int) < 65; decide), ?_⟩
    -- board
    refine ⟨_, rfl, l, _, rfl, .inl (SqL.of hl1), fun h1 hh1 => ⟨_, rfl, h1, rs, c2 / 3 % 65, rfl, upd_same, R, n0, by omega, fun l2 p hl2 hp2 hne => ?_⟩⟩
    have s2 : Same H1 (upd (upd (upd H1 h1 (.lst (rs.map V.str))) l2 (.lst (rs.map V.str))) p (.tup [.ref l2, .int (c2 / 3 % 65)])) := (same_new hh1).trans ((same_new hl2).trans (same_new (by rw [upd_ne hne]; exact hp2)))
    have b2 : BoardAt (upd (upd (upd H1 h1 (.lst (rs.map V.str))) l2 (.lst (rs.map V.str))) p (.tup [.ref l2, .int (c2 / 3 % 65)])) p l2 rs (c2 / 3 % 65) := ⟨upd_same, by rw [upd_ne hne.symm]; exact upd_same⟩
    have l2r := s2 _ _ hl1
    have nl : l ≠ l2 := ne_of_none (same_new hh1 _ _ hl1) hl2
    have hS2 := s2.seq hS1
    generalize upd (upd (upd H1 h1 (.lst (rs.map V.str))) l2 (.lst (rs.map V.str))) p (.tup [.ref l2, .int (c2 / 3 % 65)]) = H2 at *
    -- cells
    refine ⟨_, rfl, p, l2, rs, _, rfl, b2, R, fun c ws H3 hc hc3 hcel s3 => ?_⟩
    have w64 : (shutC rs).length ≤ 64 := all6_short R
    refine ⟨fun σ' H' => ∃ (ws' : List V) (cs : List (Nat × Nat)), σ' = [some (.ref a), some (.ref l), some (.int (c2 / 3 % 65)), some (.ref p), some (.ref c), none, none, none, none, none, none, none] ∧ Same H2 H' ∧ H' c = some (.lst ws') ∧ Cel H' ws' cs ∧ cs.length ≤ 64 ∧ ∀ x ∈ cs, x ∈ shutC rs, ?_, ?_⟩
    · refine ⟨_, rfl, a, ns, _, rfl, s3.seq hS2, by decide, fun c5 => ⟨_, _, rfl, rfl, CDivG.small (by decide) (by decide), _, _, rfl, rfl, (by show (0 : Int) < 2; decide), rfl, _, rfl, ite2 (fun _ => ?_) (fun _ => ?_)⟩⟩
      · refine ⟨_, rfl, .inl ⟨rfl, _, SqL.of hc3⟩, c, _, rfl, rfl, hc3, ws.reverse, (shutC rs).reverse, rfl, fun b o e => ?_, upd_same, Cel.into c _ hc3 (Cel.rev hcel), by rw [List.length_reverse]; exact w64, fun x hx => List.mem_reverse.mp hx⟩
        rw [upd_ne (ne_of_none e hc)]
        exact s3 _ _ e
      · exact ⟨ws, shutC rs, rfl, s3, hc3, hcel, w64, fun x hx => hx⟩
    rintro σ' H3' ⟨ws', cs, rfl, s3', hc3', hcel', c64, hsub⟩
    generalize c2 / 3 % 65 = n at *
    have csm : ∀ x ∈ cs, x.1 < 8 ∧ x.2 < 8 := fun x hx => shut_small R (hsub x hx)
    -- dicts
    refine ⟨_, rfl, _, rfl, c, a, ws', cs, ns, rfl, hc3', hcel', c64, s3'.seq hS2, fun d0 e1 e2 e3 k1 k2 k3 H5 he1 he2 he3 T5 s5 => ?_⟩
    have b5 := (b2.mono s3').mono s5
    have hl5 := s5 _ _ (s3' _ _ l2r)
    refine fun ev hev => ⟨_, rfl, ?_⟩
    have z6 := same_new (o := .dT []) hev
    have hev6 : upd H5 ev (.dT []) ev = some (.dT []) := upd_same
    generalize upd H5 ev (.dT []) = H6 at *
    refine ⟨_, rfl, d0, rfl, ⟨_, SqL.of (z6 _ _ T5.ls)⟩, ?_⟩
    refine for_list (K := K) (a := d0) (xs := [.ref e1, .ref e2, .ref e3]) (fun i σ H' => ∃ (fo lf : Addr) (v8 v9 : Option V) (kv : KV1), σ = [some (.ref a), some (.ref l), some (.int n), some (.ref p), some (.ref c), some (.ref d0), some (.ref ev), some (.ref fo), v8, v9, none, none] ∧ Same H5 H' ∧ H' ev = some (.dT kv) ∧ Nums cs (64 * i) kv ∧ BoardAt H' fo lf (putRs kv rs) n ∧ (i ≠ 0 → lf ≠ l2 ∧ fo ≠ l2))
      ⟨p, l2, _, _, [], rfl, z6, hev6, .nil _ _, by rw [putRs_nil]; exact b5.mono z6, fun h => absurd rfl h⟩ (fun i σ H' _ ⟨_, _, _, _, _, _, s', _⟩ => SqL.of (s' _ _ T5.ls)) ?_ ?_
    · rintro i x σ H7 hx ⟨fo, lf, v8, v9, kv, rfl, s7, hev7, hN, bf, _⟩
      obtain ⟨e, k, rfl, he, hk⟩ : ∃ e k, x = V.ref e ∧ H5 e = some (.dT k) ∧ Nums cs 64 k := by
        have hm := List.mem_of_getElem? hx
        simp only [List.mem_cons, List.not_mem_nil, or_false] at hm
        rcases hm with rfl | rfl | rfl
        · exact ⟨e1, k1, rfl, T5.h1, T5.m1⟩
        · exact ⟨e2, k2, rfl, T5.h2, T5.m2⟩
        · exact ⟨e3, k3, rfl, T5.h3, T5.m3⟩
      have hi : i < 3 := (List.getElem?_eq_some_iff.mp hx).1
      have nev : e ≠ ev := ne_of_none he hev
      -- update
      refine ⟨_, rfl, .inr (.inr (.inl ⟨rfl, .inr ⟨kv, hev7⟩⟩)), _, rfl, ev, e, kv, k, rfl, rfl, Ne.symm nev, hev7, s7 _ _ he, hk.small csm, ?_, ?_⟩
      · have h1 := hN.len
        have h2 := hk.len
        exact Nat.le_trans (show _ ≤ 256 by omega) (by decide)
      have hN8 : Nums cs (64 * i + 64) (mergeT kv k) := hN.merge hk.vals hk.len
      have s8 : Same H5 (upd H7 ev (.dT (mergeT kv k))) := fun b o e' => by
        rw [upd_ne (ne_of_none e' hev)]
        exact s7 _ _ e'
      have hev8 : upd H7 ev (.dT (mergeT kv k)) ev = some (.dT (mergeT kv k)) := upd_same
      have bf8 : BoardAt (upd H7 ev (.dT (mergeT kv k))) fo lf (putRs kv rs) n := bf.into (ne_of bf.tp hev7 (by intro y; cases y)) (ne_of bf.rw hev7 (by intro y; cases y))
      generalize upd H7 ev (.dT (mergeT kv k)) = H8 at *
      -- handed
      refine ⟨_, rfl, e, k, rfl, s8 _ _ he, hk.small csm, fun ha hha => ?_⟩
      have z9 := same_new (o := .dT k) hha
      have ha9 : upd H8 ha (.dT k) ha = some (.dT k) := upd_same
      have fha : H5 ha = none := s8.free hha
      have nha : ha ≠ ev := fun y => by
        rw [y, hev8] at hha
        cases hha
      generalize upd H8 ha (.dT k) = H9 at *
      -- found
      refine ⟨_, rfl, _, rfl, fo, lf, ha, putRs kv rs, n, cs, 64, k, rfl, bf8.mono z9, R.put hN, ha9, hk, fun q2 lf2 H10 hq2 hlf2 b10 s10 => ?_⟩
      rw [putRs_merge hk] at b10
      have s510 := (s8.trans z9).trans s10
      have hev10 := s10 _ _ (z9 _ _ hev8)
      have ha10 := s10 _ _ ha9
      have nlf : lf2 ≠ l2 := fun y => by
        rw [y, (s8.trans z9) _ _ b5.rw] at hlf2
        cases hlf2
      have nq : q2 ≠ l2 := fun y => by
        rw [y, (s8.trans z9) _ _ b5.rw] at hq2
        cases hq2
      -- the test
      refine ⟨_, rfl, _, rfl, ha, e, k, rfl, rfl, ha10, s510 _ _ he, hk.ints, _, rfl, iteN rfl ?_⟩
      refine ⟨_, rfl, _, rfl, _, rfl, l, ev, rs, cs, 64 * i + 64, mergeT kv k, rfl, s510 _ _ hl5, R, hev10, hN8, fun l3 H11 hl3 hl11 s11 => ⟨_, rfl, (by show 2 ≤ sizeLine; decide), fun tp htp => ?_⟩⟩
      have z12 := same_new (o := .tup [.ref l3, .int n]) htp
      refine ⟨_, _, BoardAt.rdv ((b10.mono s11).mono z12), BoardAt.rdv (rs := putRs (mergeT kv k) rs) (n := n) ⟨upd_same, z12 _ _ hl11⟩, (R.put hN8).cmpB n, _, rfl, iteN (b_ne (R.put hN8)) ?_⟩
      have s512 := (s510.trans s11).trans z12
      have ha12 := z12 _ _ (s11 _ _ ha10)
      have hev12 := z12 _ _ (s11 _ _ hev10)
      have b12 := (b10.mono s11).mono z12
      generalize upd H11 tp (.tup [.ref l3, .int n]) = H12 at *
      -- clear
      refine ⟨_, rfl, .inr (.inr (.inl ⟨rfl, .inr ⟨k, ha12⟩⟩)), ha, k, rfl, rfl, ha12, ?_⟩
      refine ⟨q2, lf2, _, _, mergeT kv k, rfl, fun b o e' => ?_, by rw [upd_ne (Ne.symm nha)]; exact hev12, hN8.le (by omega), b12.into (ne_of b12.tp ha12 (by intro y; cases y)) (ne_of b12.rw ha12 (by intro y; cases y)), fun _ => ⟨nlf, nq⟩⟩
      rw [upd_ne (ne_of_none e' fha)]
      exact s512 _ _ e'
    · rintro σ H7 ⟨fo, lf, v8, v9, kv, rfl, s7, hev7, hN, bf, hnl⟩
      obtain ⟨nlf, nfo⟩ := hnl (by show 3 ≠ 0; decide)
      have hN' : Nums cs 192 kv := hN.le (by show 64 * 3 ≤ 192; decide)
      have RP := R.put hN'
      have b7 := b5.mono s7
      -- at once
      refine ⟨_, rfl, _, rfl, ev, kv, rfl, hev7, hN'.small csm, fun hb hhb => ?_⟩
      have z8 := same_new (o := .dT kv) hhb
      refine ⟨p, l2, hb, rs, n, cs, 192, kv, rfl, b7.mono z8, R, upd_same, hN', fun at_ la H9 hat hla bat s9 => ?_⟩
      have s79 := z8.trans s9
      have nla : la ≠ l2 := fun y => by
        rw [y, z8 _ _ b7.rw] at hla
        cases hla
      have nat_ : at_ ≠ l2 := fun y => by
        rw [y, z8 _ _ b7.rw] at hat
        cases hat
      have b9 := b7.mono s79
      have bf9 := bf.mono s79
      have hev9 := s79 _ _ hev7
      have hl9 := s79 _ _ (s7 _ _ hl5)
      refine ⟨_, rfl, _, rfl, _, _, BoardAt.rdv bat, BoardAt.rdv bf9, RP.cmpB n, _, rfl, iteN (b_ne RP) ?_⟩
      refine ⟨_, rfl, _, "tuple", "tuple", true, rfl, .tup bat.tp, (by decide +kernel), true, rfl, iteF ?_⟩
      refine ⟨_, rfl, _, rfl, _, rfl, (by show 2 ≤ sizeLine; decide), fun tp htp => ?_⟩
      have z10 := same_new (o := .tup [.ref l, .int n]) htp
      refine ⟨_, _, BoardAt.rdv (b9.mono z10), BoardAt.rdv (rs := rs) (n := n) ⟨upd_same, z10 _ _ hl9⟩, R.cmpB n, _, rfl, iteN (b_ne R) ?_⟩
      have b10 := b9.mono z10
      have bat10 := bat.mono z10
      have bf10 := bf9.mono z10
      have hev10 := z10 _ _ hev9
      have hl10 := z10 _ _ hl9
      generalize upd H9 tp (.tup [.ref l, .int n]) = H10 at *
      -- board[0].clear()
      refine ⟨_, rfl, p, _, 0, _, rfl, rfl, SqT.of b10.tp, rfl, .inl ⟨rfl, _, SqL.of b10.rw⟩, l2, _, rfl, rfl, b10.rw, ?_⟩
      have bat11 : BoardAt (upd H10 l2 (.lst [])) at_ la (putRs kv rs) n := bat10.into nat_ nla
      have bf11 : BoardAt (upd H10 l2 (.lst [])) fo lf (putRs kv rs) n := bf10.into nfo nlf
      have hev11 : upd H10 l2 (.lst []) ev = some (.dT kv) := by
        rw [upd_ne (ne_of hev10 b10.rw (by intro y; cases y))]
        exact hev10
      have hl11 : upd H10 l2 (.lst []) l = some (.lst (rs.map V.str)) := by
        rw [upd_ne nl]
        exact hl10
      generalize upd H10 l2 (.lst []) = H11 at *
      -- the last tests
      refine ⟨_, rfl, _, rfl, _, rfl, l, ev, rs, cs, 192, kv, rfl, hl11, R, hev11, hN', fun l3 H12 hl3 hl12 s12 => ⟨_, rfl, (by show 2 ≤ sizeLine; decide), fun tp htp => ?_⟩⟩
      have z13 := same_new (o := .tup [.ref l3, .int n]) htp
      have s1113 := s12.trans z13
      refine ⟨_, _, BoardAt.rdv (bat11.mono s1113), BoardAt.rdv (rs := putRs kv rs) (n := n) ⟨upd_same, z13 _ _ hl12⟩, RP.cmpB n, _, rfl, iteN (b_ne RP) ?_⟩
      have bf13 := bf11.mono s1113
      have hev13 := s1113 _ _ hev11
      generalize upd H12 tp (.tup [.ref l3, .int n]) = H13 at *
      refine ⟨_, rfl, fo, lf, putRs kv rs, n, rfl, bf13, RP, fun d wd H14 hd hd14 hcd s14 => ⟨d, rfl, ⟨_, SqL.of hd14⟩, fun y hy => ?_⟩⟩
      refine comp_list (K := K) (a := d) (xs := wd) (fun i σ H' => (∃ u0, σ = [u0, some (.ref ev)]) ∧ Same H14 H' ∧ H' y = some (.lst [])) ⟨⟨_, rfl⟩, same_new hy, upd_same⟩ (fun i σ H' _ ⟨_, s', _⟩ => SqL.of (s' _ _ hd14)) ?_ ?_
      · rintro i x σ H15 hx ⟨⟨u0, rfl⟩, s15, hy15⟩
        obtain ⟨cc, hci, ca, rfl, hca⟩ := Cel.get (Cel.mono s15 hcd) hx
        refine ⟨_, rfl, _, rfl, ev, valV kv (keyC cc), rfl, DGet.t (k := keyC cc) (s15 _ _ (s14 _ _ hev13)) hca, _, rfl, ?_⟩
        rw [shut_free hN' (List.mem_of_getElem? hci)]
        exact iteF ⟨⟨_, rfl⟩, s15, hy15⟩
      rintro σ H15 ⟨_, s15, hy15⟩
      refine ⟨(by show 0 ≤ sizeLine; decide), fun e0 he0 => ?_⟩
      have z16 := same_new (o := .lst []) he0
      refine ⟨.list [], .list [], .lst (SqL.of (z16 _ _ hy15)) .nil, .lst (SqL.of upd_same) .nil, ⟨rfl, rfl, by decide⟩, _, rfl, iteN rfl ?_⟩
      have s16 := (s14.trans s15).trans z16
      have bf16 := bf13.mono s16
      have hev16 := s16 _ _ hev13
      generalize upd H15 e0 (.lst []) = H16 at *
      -- the loop over the dict
      refine ⟨_, rfl, ev, kv, rfl, hev16, fun o => ?_⟩
      have hev17 : upd H16 ev (.frz o (.dT kv)) ev = some (.frz o (.dT kv)) := upd_same
      have bf17 : BoardAt (upd H16 ev (.frz o (.dT kv))) fo lf (putRs kv rs) n := bf16.into (ne_of bf16.tp hev16 (by intro y; cases y)) (ne_of bf16.rw hev16 (by intro y; cases y))
      generalize upd H16 ev (.frz o (.dT kv)) = H17 at *
      refine for_dict (d := ev) (o := o) (kvs := kv) (fun i σ H' => (∃ v11, σ = [some (.ref a), some (.ref l), some (.int n), some (.ref p), some (.ref c), some (.ref d0), some (.ref ev), some (.ref fo), v8, v9, some (.ref at_), v11]) ∧ Same H17 H') ⟨⟨_, rfl⟩, Same.refl _⟩ (fun i σ H' _ ⟨_, s'⟩ => s' _ _ hev17) ?_ ?_
      · rintro i kk b σ H18 hkk hb18 ⟨⟨v11, rfl⟩, s18⟩
        have hmem := List.mem_of_getElem? hkk
        obtain ⟨cc, hcc, v, hv, e1, e2⟩ := hN'.vals kk hmem
        have hval : valV kv (keyC cc) = some (V.int (v : Nat)) := by
          rw [← e1, val_of_mem hN'.nd hmem, e2]
        obtain ⟨t, ht1, ht2, hop⟩ := num_open hsub hcc hv hval
        have hb' : H18 b = some (.tup [.int (cc.1 : Nat), .int (cc.2 : Nat)]) := by
          rw [hb18, e1]
          rfl
        refine ⟨_, rfl, _, rfl, fo, lf, putRs kv rs, n, rfl, bf17.mono s18, RP, fun d2 w2 H19 hd2 hd19 hc19 s19 => ?_⟩
        have hb19 := s19 _ _ hb'
        refine ⟨cData cc, (openC (putRs kv rs)).map cData, CelR.rdv ⟨b, rfl, hb19⟩, .lst (SqL.of hd19) (gRdv hc19), rfl, g_lays _, (by show 1 ≤ 60; decide), _, rfl, iteN ?_ ?_⟩
        · show (!((openC (putRs kv rs)).map cData).any (fun z => PyData.eqv z (cData cc))) = false
          rw [in_cs, List.any_eq_true.mpr ⟨cc, hop, decide_eq_true rfl⟩]
          rfl
        · have bf19 := (bf17.mono s18).mono s19
          refine ⟨_, rfl, _, rfl, fo, lf, b, putRs kv rs, n, cc.1, cc.2, t, 48 + v, rfl, bf19, hb19, ht1, ht2, RP.tlen ht1, by omega, by omega, ?_⟩
          refine ⟨_, rfl, _, rfl, ev, V.int (v : Nat), rfl, .inr ⟨kv, keyC cc, b, .inr ⟨o, s19 _ _ (s18 _ _ hev17)⟩, rfl, hb19, hval.symm⟩, rfl, _, rfl, iteNS ?_ ⟨⟨_, rfl⟩, s18.trans s19⟩⟩
          congr 1
          omega
      · rintro σ H18 ⟨⟨v11, rfl⟩, s18⟩
        exact fin _
end

theorem all_mk {l : PySem.W.OpenLaw} {w : World} {K : PySem.W.Frag} {h : Heap} {mg : Str → Option Value} {fa : Addr} {f_board_of : Addr} {od_board_of an_board_of : Option Addr} {sl_board_of : Array (Option Value)} {oc_board_of kV_board_of dc_board_of pm_board_of cd_board_of ct_board_of : Value}
    {f_checked_rows : Addr} {od_checked_rows an_checked_rows : Option Addr} {sl_checked_rows : Array (Option Value)} {oc_checked_rows kV_checked_rows dc_checked_rows pm_checked_rows cd_checked_rows ct_checked_rows : Value}
    {f_check_row : Addr} {od_check_row an_check_row : Option Addr} {sl_check_row : Array (Option Value)} {oc_check_row kV_check_row dc_check_row pm_check_row cd_check_row ct_check_row : Value}
    {f_closed : Addr} {od_closed an_closed : Option Addr} {sl_closed : Array (Option Value)} {oc_closed kV_closed dc_closed pm_closed cd_closed ct_closed : Value}
    {f_open_cells : Addr} {od_open_cells an_open_cells : Option Addr} {sl_open_cells : Array (Option Value)} {oc_open_cells kV_open_cells dc_open_cells pm_open_cells cd_open_cells ct_open_cells : Value}
    {f_number_at : Addr} {od_number_at an_number_at : Option Addr} {sl_number_at : Array (Option Value)} {oc_number_at kV_number_at dc_number_at pm_number_at cd_number_at ct_number_at : Value}
    {f_opened : Addr} {od_opened an_opened : Option Addr} {sl_opened : Array (Option Value)} {oc_opened kV_opened dc_opened pm_opened cd_opened ct_opened : Value}
    {f_cells_of : Addr} {od_cells_of an_cells_of : Option Addr} {sl_cells_of : Array (Option Value)} {oc_cells_of kV_cells_of dc_cells_of pm_cells_of cd_cells_of ct_cells_of : Value}
    {f_sign_at : Addr} {od_sign_at an_sign_at : Option Addr} {sl_sign_at : Array (Option Value)} {oc_sign_at kV_sign_at dc_sign_at pm_sign_at cd_sign_at ct_sign_at : Value}
    {f_law_cell_at : Addr} {od_law_cell_at an_law_cell_at : Option Addr} {sl_law_cell_at : Array (Option Value)} {oc_law_cell_at kV_law_cell_at dc_law_cell_at pm_law_cell_at cd_law_cell_at ct_law_cell_at : Value}
    {f_law_mixed : Addr} {od_law_mixed an_law_mixed : Option Addr} {sl_law_mixed : Array (Option Value)} {oc_law_mixed kV_law_mixed dc_law_mixed pm_law_mixed cd_law_mixed ct_law_mixed : Value}
    {f_law_rows : Addr} {od_law_rows an_law_rows : Option Addr} {sl_law_rows : Array (Option Value)} {oc_law_rows kV_law_rows dc_law_rows pm_law_rows cd_law_rows ct_law_rows : Value}
    {f_law_put : Addr} {od_law_put an_law_put : Option Addr} {sl_law_put : Array (Option Value)} {oc_law_put kV_law_put dc_law_put pm_law_put cd_law_put ct_law_put : Value}
    {f_law_dicts : Addr} {od_law_dicts an_law_dicts : Option Addr} {sl_law_dicts : Array (Option Value)} {oc_law_dicts kV_law_dicts dc_law_dicts pm_law_dicts cd_law_dicts ct_law_dicts : Value}
    {f_law : Addr} {od_law an_law : Option Addr} {sl_law : Array (Option Value)} {oc_law kV_law dc_law pm_law cd_law ct_law : Value}
    {t_BOARD_SIGNS : Tok}
    {t_CLOSED_SIGN : Tok}
    {t_LONGEST_SIDE : Tok}
    {t_MOST_STONES : Tok}
    {t_NO_CELL_SIGN : Tok}
    (X : K.In h) (G : h.Ns mainGlobals mg) (hfa : mg "law" = some (.ref fa))
    (a_board_of : PySem.W.nsIn K mainGlobals "board_of" = some (some (.ref f_board_of)))
    (l_board_of : K.lookup f_board_of = some ⟨oc_board_of, od_board_of, .func (PySem.W.fnOf "board_of" "board_of" (defArgs s_board_of) (defBody s_board_of) (defScope s_board_of) .none kV_board_of dc_board_of pm_board_of an_board_of cd_board_of ct_board_of), sl_board_of⟩)
    (c_board_of : PySem.W.codeIn K cd_board_of "board_of" = true) (k_board_of : PySem.W.keepIn K (.ref f_board_of) = true)
    (a_checked_rows : PySem.W.nsIn K mainGlobals "checked_rows" = some (some (.ref f_checked_rows)))
    (l_checked_rows : K.lookup f_checked_rows = some ⟨oc_checked_rows, od_checked_rows, .func (PySem.W.fnOf "checked_rows" "checked_rows" (defArgs s_checked_rows) (defBody s_checked_rows) (defScope s_checked_rows) .none kV_checked_rows dc_checked_rows pm_checked_rows an_checked_rows cd_checked_rows ct_checked_rows), sl_checked_rows⟩)
    (c_checked_rows : PySem.W.codeIn K cd_checked_rows "checked_rows" = true) (k_checked_rows : PySem.W.keepIn K (.ref f_checked_rows) = true)
    (a_check_row : PySem.W.nsIn K mainGlobals "check_row" = some (some (.ref f_check_row)))
    (l_check_row : K.lookup f_check_row = some ⟨oc_check_row, od_check_row, .func (PySem.W.fnOf "check_row" "check_row" (defArgs s_check_row) (defBody s_check_row) (defScope s_check_row) .none kV_check_row dc_check_row pm_check_row an_check_row cd_check_row ct_check_row), sl_check_row⟩)
    (c_check_row : PySem.W.codeIn K cd_check_row "check_row" = true) (k_check_row : PySem.W.keepIn K (.ref f_check_row) = true)
    (a_closed : PySem.W.nsIn K mainGlobals "closed" = some (some (.ref f_closed)))
    (l_closed : K.lookup f_closed = some ⟨oc_closed, od_closed, .func (PySem.W.fnOf "closed" "closed" (defArgs s_closed) (defBody s_closed) (defScope s_closed) .none kV_closed dc_closed pm_closed an_closed cd_closed ct_closed), sl_closed⟩)
    (c_closed : PySem.W.codeIn K cd_closed "closed" = true) (k_closed : PySem.W.keepIn K (.ref f_closed) = true)
    (a_open_cells : PySem.W.nsIn K mainGlobals "open_cells" = some (some (.ref f_open_cells)))
    (l_open_cells : K.lookup f_open_cells = some ⟨oc_open_cells, od_open_cells, .func (PySem.W.fnOf "open_cells" "open_cells" (defArgs s_open_cells) (defBody s_open_cells) (defScope s_open_cells) .none kV_open_cells dc_open_cells pm_open_cells an_open_cells cd_open_cells ct_open_cells), sl_open_cells⟩)
    (c_open_cells : PySem.W.codeIn K cd_open_cells "open_cells" = true) (k_open_cells : PySem.W.keepIn K (.ref f_open_cells) = true)
    (a_number_at : PySem.W.nsIn K mainGlobals "number_at" = some (some (.ref f_number_at)))
    (l_number_at : K.lookup f_number_at = some ⟨oc_number_at, od_number_at, .func (PySem.W.fnOf "number_at" "number_at" (defArgs s_number_at) (defBody s_number_at) (defScope s_number_at) .none kV_number_at dc_number_at pm_number_at an_number_at cd_number_at ct_number_at), sl_number_at⟩)
    (c_number_at : PySem.W.codeIn K cd_number_at "number_at" = true) (k_number_at : PySem.W.keepIn K (.ref f_number_at) = true)
    (a_opened : PySem.W.nsIn K mainGlobals "opened" = some (some (.ref f_opened)))
    (l_opened : K.lookup f_opened = some ⟨oc_opened, od_opened, .func (PySem.W.fnOf "opened" "opened" (defArgs s_opened) (defBody s_opened) (defScope s_opened) .none kV_opened dc_opened pm_opened an_opened cd_opened ct_opened), sl_opened⟩)
    (c_opened : PySem.W.codeIn K cd_opened "opened" = true) (k_opened : PySem.W.keepIn K (.ref f_opened) = true)
    (a_cells_of : PySem.W.nsIn K mainGlobals "cells_of" = some (some (.ref f_cells_of)))
    (l_cells_of : K.lookup f_cells_of = some ⟨oc_cells_of, od_cells_of, .func (PySem.W.fnOf "cells_of" "cells_of" (defArgs s_cells_of) (defBody s_cells_of) (defScope s_cells_of) .none kV_cells_of dc_cells_of pm_cells_of an_cells_of cd_cells_of ct_cells_of), sl_cells_of⟩)
    (c_cells_of : PySem.W.codeIn K cd_cells_of "cells_of" = true) (k_cells_of : PySem.W.keepIn K (.ref f_cells_of) = true)
    (a_sign_at : PySem.W.nsIn K mainGlobals "sign_at" = some (some (.ref f_sign_at)))
    (l_sign_at : K.lookup f_sign_at = some ⟨oc_sign_at, od_sign_at, .func (PySem.W.fnOf "sign_at" "sign_at" (defArgs s_sign_at) (defBody s_sign_at) (defScope s_sign_at) .none kV_sign_at dc_sign_at pm_sign_at an_sign_at cd_sign_at ct_sign_at), sl_sign_at⟩)
    (c_sign_at : PySem.W.codeIn K cd_sign_at "sign_at" = true) (k_sign_at : PySem.W.keepIn K (.ref f_sign_at) = true)
    (a_law_cell_at : PySem.W.nsIn K mainGlobals "_law_cell_at" = some (some (.ref f_law_cell_at)))
    (l_law_cell_at : K.lookup f_law_cell_at = some ⟨oc_law_cell_at, od_law_cell_at, .func (PySem.W.fnOf "_law_cell_at" "_law_cell_at" (defArgs s_law_cell_at) (defBody s_law_cell_at) (defScope s_law_cell_at) .none kV_law_cell_at dc_law_cell_at pm_law_cell_at an_law_cell_at cd_law_cell_at ct_law_cell_at), sl_law_cell_at⟩)
    (c_law_cell_at : PySem.W.codeIn K cd_law_cell_at "_law_cell_at" = true) (k_law_cell_at : PySem.W.keepIn K (.ref f_law_cell_at) = true)
    (a_law_mixed : PySem.W.nsIn K mainGlobals "_law_mixed" = some (some (.ref f_law_mixed)))
    (l_law_mixed : K.lookup f_law_mixed = some ⟨oc_law_mixed, od_law_mixed, .func (PySem.W.fnOf "_law_mixed" "_law_mixed" (defArgs s_law_mixed) (defBody s_law_mixed) (defScope s_law_mixed) .none kV_law_mixed dc_law_mixed pm_law_mixed an_law_mixed cd_law_mixed ct_law_mixed), sl_law_mixed⟩)
    (c_law_mixed : PySem.W.codeIn K cd_law_mixed "_law_mixed" = true) (k_law_mixed : PySem.W.keepIn K (.ref f_law_mixed) = true)
    (a_law_rows : PySem.W.nsIn K mainGlobals "_law_rows" = some (some (.ref f_law_rows)))
    (l_law_rows : K.lookup f_law_rows = some ⟨oc_law_rows, od_law_rows, .func (PySem.W.fnOf "_law_rows" "_law_rows" (defArgs s_law_rows) (defBody s_law_rows) (defScope s_law_rows) .none kV_law_rows dc_law_rows pm_law_rows an_law_rows cd_law_rows ct_law_rows), sl_law_rows⟩)
    (c_law_rows : PySem.W.codeIn K cd_law_rows "_law_rows" = true) (k_law_rows : PySem.W.keepIn K (.ref f_law_rows) = true)
    (a_law_put : PySem.W.nsIn K mainGlobals "_law_put" = some (some (.ref f_law_put)))
    (l_law_put : K.lookup f_law_put = some ⟨oc_law_put, od_law_put, .func (PySem.W.fnOf "_law_put" "_law_put" (defArgs s_law_put) (defBody s_law_put) (defScope s_law_put) .none kV_law_put dc_law_put pm_law_put an_law_put cd_law_put ct_law_put), sl_law_put⟩)
    (c_law_put : PySem.W.codeIn K cd_law_put "_law_put" = true) (k_law_put : PySem.W.keepIn K (.ref f_law_put) = true)
    (a_law_dicts : PySem.W.nsIn K mainGlobals "_law_dicts" = some (some (.ref f_law_dicts)))
    (l_law_dicts : K.lookup f_law_dicts = some ⟨oc_law_dicts, od_law_dicts, .func (PySem.W.fnOf "_law_dicts" "_law_dicts" (defArgs s_law_dicts) (defBody s_law_dicts) (defScope s_law_dicts) .none kV_law_dicts dc_law_dicts pm_law_dicts an_law_dicts cd_law_dicts ct_law_dicts), sl_law_dicts⟩)
    (c_law_dicts : PySem.W.codeIn K cd_law_dicts "_law_dicts" = true) (k_law_dicts : PySem.W.keepIn K (.ref f_law_dicts) = true)
    (a_law : PySem.W.nsIn K mainGlobals "law" = some (some (.ref f_law)))
    (l_law : K.lookup f_law = some ⟨oc_law, od_law, .func (PySem.W.fnOf "law" "law" (defArgs s_law) (defBody s_law) (defScope s_law) .none kV_law dc_law pm_law an_law cd_law ct_law), sl_law⟩)
    (c_law : PySem.W.codeIn K cd_law "law" = true) (k_law : PySem.W.keepIn K (.ref f_law) = true)
    (z_dict : PySem.W.nsIn K mainGlobals "dict" = some none)
    (z_enumerate : PySem.W.nsIn K mainGlobals "enumerate" = some none)
    (z_int : PySem.W.nsIn K mainGlobals "int" = some none)
    (z_isinstance : PySem.W.nsIn K mainGlobals "isinstance" = some none)
    (z_len : PySem.W.nsIn K mainGlobals "len" = some none)
    (z_list : PySem.W.nsIn K mainGlobals "list" = some none)
    (z_range : PySem.W.nsIn K mainGlobals "range" = some none)
    (z_str : PySem.W.nsIn K mainGlobals "str" = some none)
    (z_tuple : PySem.W.nsIn K mainGlobals "tuple" = some none)
    (g_BOARD_SIGNS : PySem.W.nsIn K mainGlobals "BOARD_SIGNS" = some (some (.str "?012345678#" t_BOARD_SIGNS)))
    (g_CLOSED_SIGN : PySem.W.nsIn K mainGlobals "CLOSED_SIGN" = some (some (.str "?" t_CLOSED_SIGN)))
    (g_LONGEST_SIDE : PySem.W.nsIn K mainGlobals "LONGEST_SIDE" = some (some (.int 8 t_LONGEST_SIDE)))
    (g_MOST_STONES : PySem.W.nsIn K mainGlobals "MOST_STONES" = some (some (.int 64 t_MOST_STONES)))
    (g_NO_CELL_SIGN : PySem.W.nsIn K mainGlobals "NO_CELL_SIGN" = some (some (.str "#" t_NO_CELL_SIGN))) :
    ∃ fd : FuncData, (∀ (s : Shared) (v : Value), BindsTo s fd ⟨[v], []⟩ [("_law_script", v)]) ∧ ∀ base : Heap, K.In base → base.Ns mainGlobals mg → FnOk l.prog w K mg base CX0 5 fa fd ["_law_script"] (spLaw K) := by
  have e := hfa.symm.trans (PySem.W.mg_of X G a_law)
  cases e
  have T : Txt mg := ⟨PySem.W.mg_none_of X G z_dict, PySem.W.mg_none_of X G z_enumerate, PySem.W.mg_none_of X G z_int, PySem.W.mg_none_of X G z_isinstance, PySem.W.mg_none_of X G z_len, PySem.W.mg_none_of X G z_list, PySem.W.mg_none_of X G z_range, PySem.W.mg_none_of X G z_str, PySem.W.mg_none_of X G z_tuple, ⟨_, PySem.W.mg_of X G g_BOARD_SIGNS⟩, ⟨_, PySem.W.mg_of X G g_CLOSED_SIGN⟩, ⟨_, PySem.W.mg_of X G g_LONGEST_SIDE⟩, ⟨_, PySem.W.mg_of X G g_MOST_STONES⟩, ⟨_, PySem.W.mg_of X G g_NO_CELL_SIGN⟩⟩
  have F_board_of := fun_mk (st := s_board_of) l_board_of c_board_of k_board_of
  have D_board_of : DefAt K mg "board_of" s_board_of ["rows", "stones"] _ _ := ⟨F_board_of, PySem.W.mg_of X G a_board_of, F_board_of.binds (ps := ["rows", "stones"]) fun _ _ _ _ _ _ us hl => match us, hl with | [_, _], _ => rfl⟩
  have F_checked_rows := fun_mk (st := s_checked_rows) l_checked_rows c_checked_rows k_checked_rows
  have D_checked_rows : DefAt K mg "checked_rows" s_checked_rows ["rows", "signs"] _ _ := ⟨F_checked_rows, PySem.W.mg_of X G a_checked_rows, F_checked_rows.binds (ps := ["rows", "signs"]) fun _ _ _ _ _ _ us hl => match us, hl with | [_, _], _ => rfl⟩
  have F_check_row := fun_mk (st := s_check_row) l_check_row c_check_row k_check_row
  have D_check_row : DefAt K mg "check_row" s_check_row ["row", "length", "signs"] _ _ := ⟨F_check_row, PySem.W.mg_of X G a_check_row, F_check_row.binds (ps := ["row", "length", "signs"]) fun _ _ _ _ _ _ us hl => match us, hl with | [_, _, _], _ => rfl⟩
  have F_closed := fun_mk (st := s_closed) l_closed c_closed k_closed
  have D_closed : DefAt K mg "closed" s_closed ["board"] _ _ := ⟨F_closed, PySem.W.mg_of X G a_closed, F_closed.binds (ps := ["board"]) fun _ _ _ _ _ _ us hl => match us, hl with | [_], _ => rfl⟩
  have F_open_cells := fun_mk (st := s_open_cells) l_open_cells c_open_cells k_open_cells
  have D_open_cells : DefAt K mg "open_cells" s_open_cells ["board"] _ _ := ⟨F_open_cells, PySem.W.mg_of X G a_open_cells, F_open_cells.binds (ps := ["board"]) fun _ _ _ _ _ _ us hl => match us, hl with | [_], _ => rfl⟩
  have F_number_at := fun_mk (st := s_number_at) l_number_at c_number_at k_number_at
  have D_number_at : DefAt K mg "number_at" s_number_at ["board", "cell"] _ _ := ⟨F_number_at, PySem.W.mg_of X G a_number_at, F_number_at.binds (ps := ["board", "cell"]) fun _ _ _ _ _ _ us hl => match us, hl with | [_, _], _ => rfl⟩
  have F_opened := fun_mk (st := s_opened) l_opened c_opened k_opened
  have D_opened : DefAt K mg "opened" s_opened ["board", "numbers"] _ _ := ⟨F_opened, PySem.W.mg_of X G a_opened, F_opened.binds (ps := ["board", "numbers"]) fun _ _ _ _ _ _ us hl => match us, hl with | [_, _], _ => rfl⟩
  have F_cells_of := fun_mk (st := s_cells_of) l_cells_of c_cells_of k_cells_of
  have D_cells_of : DefAt K mg "cells_of" s_cells_of ["board"] _ _ := ⟨F_cells_of, PySem.W.mg_of X G a_cells_of, F_cells_of.binds (ps := ["board"]) fun _ _ _ _ _ _ us hl => match us, hl with | [_], _ => rfl⟩
  have F_sign_at := fun_mk (st := s_sign_at) l_sign_at c_sign_at k_sign_at
  have D_sign_at : DefAt K mg "sign_at" s_sign_at ["board", "cell"] _ _ := ⟨F_sign_at, PySem.W.mg_of X G a_sign_at, F_sign_at.binds (ps := ["board", "cell"]) fun _ _ _ _ _ _ us hl => match us, hl with | [_, _], _ => rfl⟩
  have F_law_cell_at := fun_mk (st := s_law_cell_at) l_law_cell_at c_law_cell_at k_law_cell_at
  have D_law_cell_at : DefAt K mg "_law_cell_at" s_law_cell_at ["_law_script", "_law_k"] _ _ := ⟨F_law_cell_at, PySem.W.mg_of X G a_law_cell_at, F_law_cell_at.binds (ps := ["_law_script", "_law_k"]) fun _ _ _ _ _ _ us hl => match us, hl with | [_, _], _ => rfl⟩
  have F_law_mixed := fun_mk (st := s_law_mixed) l_law_mixed c_law_mixed k_law_mixed
  have D_law_mixed : DefAt K mg "_law_mixed" s_law_mixed ["_law_cell", "_law_k"] _ _ := ⟨F_law_mixed, PySem.W.mg_of X G a_law_mixed, F_law_mixed.binds (ps := ["_law_cell", "_law_k"]) fun _ _ _ _ _ _ us hl => match us, hl with | [_, _], _ => rfl⟩
  have F_law_rows := fun_mk (st := s_law_rows) l_law_rows c_law_rows k_law_rows
  have D_law_rows : DefAt K mg "_law_rows" s_law_rows ["_law_script", "_law_signs"] _ _ := ⟨F_law_rows, PySem.W.mg_of X G a_law_rows, F_law_rows.binds (ps := ["_law_script", "_law_signs"]) fun _ _ _ _ _ _ us hl => match us, hl with | [_, _], _ => rfl⟩
  have F_law_put := fun_mk (st := s_law_put) l_law_put c_law_put k_law_put
  have D_law_put : DefAt K mg "_law_put" s_law_put ["_law_rows_here", "_law_numbers"] _ _ := ⟨F_law_put, PySem.W.mg_of X G a_law_put, F_law_put.binds (ps := ["_law_rows_here", "_law_numbers"]) fun _ _ _ _ _ _ us hl => match us, hl with | [_, _], _ => rfl⟩
  have F_law_dicts := fun_mk (st := s_law_dicts) l_law_dicts c_law_dicts k_law_dicts
  have D_law_dicts : DefAt K mg "_law_dicts" s_law_dicts ["_law_cells", "_law_script"] _ _ := ⟨F_law_dicts, PySem.W.mg_of X G a_law_dicts, F_law_dicts.binds (ps := ["_law_cells", "_law_script"]) fun _ _ _ _ _ _ us hl => match us, hl with | [_, _], _ => rfl⟩
  have F_law := fun_mk (st := s_law) l_law c_law k_law
  have D_law : DefAt K mg "law" s_law ["_law_script"] _ _ := ⟨F_law, PySem.W.mg_of X G a_law, F_law.binds (ps := ["_law_script"]) fun _ _ _ _ _ _ us hl => match us, hl with | [_], _ => rfl⟩
  exact ⟨PySem.W.fnOf "law" "law" (defArgs s_law) (defBody s_law) (defScope s_law) .none kV_law dc_law pm_law an_law cd_law ct_law, fun s v => .of_eq rfl, fun base _ _ => ok_law T D_law D_law_cell_at D_law_mixed D_law_rows D_check_row D_checked_rows D_board_of D_sign_at D_cells_of D_closed D_open_cells D_number_at D_opened D_law_put D_law_dicts⟩
theorem walk {l : PySem.W.OpenLaw} {q : Program} {loose : List Str} {XP : (Str → Option Value) → Heap → Prop} {YP : World → Heap → Prop} {d : DefRec} {K : Params → PySem.W.Frag} (hn : l.most = some 63) (hdf : d.params.defaults = [])
    (hY : ∀ (w : World) (h : Heap), YP w h → (K w.params).In h)
    (F : ∀ (w : World) (mg : Str → Option Value) (fa : Addr) (h : Heap), (K w.params).In h → h.Ns mainGlobals mg → mg d.name = some (.ref fa) →
      ∃ fd : FuncData, (∀ (s : Shared) (u : Value), BindsTo s fd ⟨[u], []⟩ [("_law_script", u)]) ∧ ∀ base : Heap, (K w.params).In base → base.Ns mainGlobals mg → FnOk l.prog w (K w.params) mg base CX0 5 fa fd ["_law_script"] (spLaw (K w.params))) :
    PySem.W.WalkO q loose XP YP l.row.toRowW d [] (fun f vs => PySem.call f vs) :=
  L2.walk_of (n := 63) (k := 5) (x := "_law_script") (CX := fun _ => CX0) (sp := fun w => spLaw (K w.params)) hn (by decide) hdf ⟨rfl, by decide, by decide⟩ hY F (fun _ _ a ns hl _ hS => ⟨a, ns, rfl, hS, hl, fun _ => rfl⟩) fun _ _ _ _ _ z => z
end K06
open PySem PySem.W PyProof.Rows
set_option maxRecDepth 100000 in
set_option maxHeartbeats 0 in
theorem PySem.Challenge.cw_stonelay_k06_whole_boards_opened_holds : PySem.Challenge.rw_stonelay_k06_whole_boards_opened.Holds := by
  w_on; o_law; k_head; (case hw => w_witness2)
  k_fill
  refine K06.walk (l := PySem.Challenge.rw_stonelay_k06_whole_boards_opened) rfl rfl (fun w h Y => PySem.W.kIn_of Y) ?F
  case F =>
    intro w mg fa h KX G hmg
    refine' K06.all_mk KX G hmg ?a_board_of ?l_board_of ?c_board_of ?k_board_of ?a_checked_rows ?l_checked_rows ?c_checked_rows ?k_checked_rows ?a_check_row ?l_check_row ?c_check_row ?k_check_row ?a_closed ?l_closed ?c_closed ?k_closed ?a_open_cells ?l_open_cells ?c_open_cells ?k_open_cells ?a_number_at ?l_number_at ?c_number_at ?k_number_at ?a_opened ?l_opened ?c_opened ?k_opened ?a_cells_of ?l_cells_of ?c_cells_of ?k_cells_of ?a_sign_at ?l_sign_at ?c_sign_at ?k_sign_at ?a_law_cell_at ?l_law_cell_at ?c_law_cell_at ?k_law_cell_at ?a_law_mixed ?l_law_mixed ?c_law_mixed ?k_law_mixed ?a_law_rows ?l_law_rows ?c_law_rows ?k_law_rows ?a_law_put ?l_law_put ?c_law_put ?k_law_put ?a_law_dicts ?l_law_dicts ?c_law_dicts ?k_law_dicts ?a_law ?l_law ?c_law ?k_law ?z_dict ?z_enumerate ?z_int ?z_isinstance ?z_len ?z_list ?z_range ?z_str ?z_tuple ?g_BOARD_SIGNS ?g_CLOSED_SIGN ?g_LONGEST_SIDE ?g_MOST_STONES ?g_NO_CELL_SIGN
    (case a_board_of => k_is)
    (case l_board_of => k_is)
    (case c_board_of => k_is)
    (case k_board_of => k_is)
    (case a_checked_rows => k_is)
    (case l_checked_rows => k_is)
    (case c_checked_rows => k_is)
    (case k_checked_rows => k_is)
    (case a_check_row => k_is)
    (case l_check_row => k_is)
    (case c_check_row => k_is)
    (case k_check_row => k_is)
    (case a_closed => k_is)
    (case l_closed => k_is)
    (case c_closed => k_is)
    (case k_closed => k_is)
    (case a_open_cells => k_is)
    (case l_open_cells => k_is)
    (case c_open_cells => k_is)
    (case k_open_cells => k_is)
    (case a_number_at => k_is)
    (case l_number_at => k_is)
    (case c_number_at => k_is)
    (case k_number_at => k_is)
    (case a_opened => k_is)
    (case l_opened => k_is)
    (case c_opened => k_is)
    (case k_opened => k_is)
    (case a_cells_of => k_is)
    (case l_cells_of => k_is)
    (case c_cells_of => k_is)
    (case k_cells_of => k_is)
    (case a_sign_at => k_is)
    (case l_sign_at => k_is)
    (case c_sign_at => k_is)
    (case k_sign_at => k_is)
    (case a_law_cell_at => k_is)
    (case l_law_cell_at => k_is)
    (case c_law_cell_at => k_is)
    (case k_law_cell_at => k_is)
    (case a_law_mixed => k_is)
    (case l_law_mixed => k_is)
    (case c_law_mixed => k_is)
    (case k_law_mixed => k_is)
    (case a_law_rows => k_is)
    (case l_law_rows => k_is)
    (case c_law_rows => k_is)
    (case k_law_rows => k_is)
    (case a_law_put => k_is)
    (case l_law_put => k_is)
    (case c_law_put => k_is)
    (case k_law_put => k_is)
    (case a_law_dicts => k_is)
    (case l_law_dicts => k_is)
    (case c_law_dicts => k_is)
    (case k_law_dicts => k_is)
    (case a_law => k_is)
    (case l_law => k_is)
    (case c_law => k_is)
    (case k_law => k_is)
    (case z_dict => k_is)
    (case z_enumerate => k_is)
    (case z_int => k_is)
    (case z_isinstance => k_is)
    (case z_len => k_is)
    (case z_list => k_is)
    (case z_range => k_is)
    (case z_str => k_is)
    (case z_tuple => k_is)
    (case g_BOARD_SIGNS => k_is)
    (case g_CLOSED_SIGN => k_is)
    (case g_LONGEST_SIDE => k_is)
    (case g_MOST_STONES => k_is)
    (case g_NO_CELL_SIGN => k_is)
