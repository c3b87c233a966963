import PyProof.Rows.All
import Wide.All
import OpenK.AllK
import Wide.FinOn
import Lean
import PyProof.EqAt
import PyProof.EqKinds
import PyProof.TupleCall
import PySem.Challenge.RW_leastterms_k02_terms_known
set_option Elab.async false
set_option linter.all false
set_option maxRecDepth 100000
-- CHANGE: your row's module here, as the last of these rows
/-! THE HAND LAYER, for ints, bools, texts, own classes, LISTS and tuples (index, slices, in, append, pop ..), calls, loops. Paste it whole ahead of your own text; what your proof does not reach may be deleted. -/
namespace L2
open PySem PySem.Spec PyProof.Rows

/-- a key: an int or a str -/
abbrev Key := Sum Int Str
def keyIs : Key → Value → Bool
  | .inl k, v => Value.isInt k v
  | .inr x, v => Value.isStrOf x v
def keyH (w : World) : Key → Int
  | .inl k => hashInt k
  | .inr x => hashStr w x
theorem keyIs_shape : ∀ {k : Key} {v : Value}, keyIs k v = true → (∃ i t, k = Sum.inl i ∧ v = Value.int i t) ∨ (∃ x t, k = Sum.inr x ∧ v = Value.str x t)
  | .inl i, v, h => by
    obtain ⟨t, e⟩ := Value.isInt_shape (k := i) (v := v) h
    exact .inl ⟨i, t, rfl, e⟩
  | .inr x, v, h => by
    obtain ⟨t, e⟩ := Value.isStrOf_shape (x := x) (v := v) h
    exact .inr ⟨x, t, rfl, e⟩
theorem key_ll (a b : Int) : decide ((Sum.inl a : Key) = Sum.inl b) = (a == b) := by
  by_cases e : a = b
  · subst e; simp
  · have h : ¬ (Sum.inl a : Key) = Sum.inl b := fun q => e (Sum.inl.inj q)
    rw [decide_eq_false h]
    exact (beq_eq_false_iff_ne.mpr e).symm
theorem key_rr (a b : Str) : decide ((Sum.inr a : Key) = Sum.inr b) = decide (a = b) := by
  by_cases e : a = b
  · subst e; simp
  · have h : ¬ (Sum.inr a : Key) = Sum.inr b := fun q => e (Sum.inr.inj q)
    rw [decide_eq_false h, decide_eq_false e]
theorem key_lr (a : Int) (b : Str) : decide ((Sum.inl a : Key) = Sum.inr b) = false := decide_eq_false (fun q => nomatch q)
theorem key_rl (a : Str) (b : Int) : decide ((Sum.inr a : Key) = Sum.inl b) = false := decide_eq_false (fun q => nomatch q)

def mixKind (prog : Program) (w : World) : PySem.KeyKind prog w Key where
  is := keyIs
  hash := keyH w
  inj := fun v a b ha hb => by
    rcases keyIs_shape ha with ⟨i, t, rfl, rfl⟩ | ⟨x, t, rfl, rfl⟩
    · rcases keyIs_shape hb with ⟨j, u, rfl, e⟩ | ⟨y, u, rfl, e⟩
      · injection e with e1 _; rw [e1]
      · exact nomatch e
    · rcases keyIs_shape hb with ⟨j, u, rfl, e⟩ | ⟨y, u, rfl, e⟩
      · exact nomatch e
      · injection e with e1 _; rw [e1]
  byValue := fun k v h => by
    rcases keyIs_shape h with ⟨i, t, rfl, rfl⟩ | ⟨x, t, rfl, rfl⟩ <;> rfl
  pyHash := fun hv h => by
    rcases keyIs_shape hv with ⟨i, t, rfl, rfl⟩ | ⟨x, t, rfl, rfl⟩
    · exact wpAny_pyHash_int h
    · exact wpAny_pyHash_str h
  eqBool := fun hu hv h => by
    rcases keyIs_shape hu with ⟨i, t, rfl, rfl⟩ | ⟨x, t, rfl, rfl⟩
    · rcases keyIs_shape hv with ⟨j, u, rfl, rfl⟩ | ⟨y, u, rfl, rfl⟩
      · rw [key_ll] at h; exact wpAny_eqBool_int h
      · rw [key_lr] at h; exact SeqAt.EqAt.int_str i t y u _ _ _ _ h
    · rcases keyIs_shape hv with ⟨j, u, rfl, rfl⟩ | ⟨y, u, rfl, rfl⟩
      · rw [key_rl] at h; exact SeqAt.EqAt.str_int x t j u _ _ _ _ h
      · rw [key_rr] at h; exact wpAny_eqBool_str h
  «strs» := fun k x t v h => by
    rcases keyIs_shape h with ⟨i, u, rfl, e⟩ | ⟨y, u, rfl, e⟩
    · exact nomatch e
    · injection e with e1 _
      subst e1
      cases v <;> rfl

end L2

namespace L2
open PySem PySem.Spec PyProof.Rows

/-- a value, without the heap -/
inductive V where
  | non | bl (b : Bool) | int (i : Int) | str (x : Str) | byt (b : Array UInt8) | flt (b : UInt64) | ref (a : Addr) | ty (n : String)
  deriving DecidableEq

def RelV : V → Value → Prop
  | .non, u => u = Value.none
  | .bl b, u => u = Value.bool b
  | .int i, u => ∃ t, u = Value.int i t
  | .str x, u => ∃ t, u = Value.str x t
  | .byt b, u => ∃ t, u = Value.bytes b t
  | .flt b, u => ∃ t, u = Value.float b t
  | .ref a, u => u = Value.ref a
  | .ty n, u => u = Value.type n

abbrev Vals : List V → List Value → Prop := Paired RelV
theorem Vals.length {xs : List V} {us : List Value} (r : Vals xs us) : xs.length = us.length := Paired.length r
theorem Vals.get : ∀ {xs : List V} {us : List Value} {i : Nat} {x : V}, Vals xs us → xs[i]? = some x → ∃ u, us[i]? = some u ∧ RelV x u
  | _, _, _, _, .nil, e => by simp at e
  | _, _, 0, _, .cons r _, e => by simp at e; subst e; exact ⟨_, rfl, r⟩
  | _, _, i + 1, x, .cons _ t, e => by
    obtain ⟨u, h1, h2⟩ := Vals.get (i := i) (x := x) t (by simpa using e)
    exact ⟨u, by simpa using h1, h2⟩
theorem Vals.set {x : V} {u : Value} (r : RelV x u) : ∀ {xs : List V} {us : List Value} (i : Nat), Vals xs us → Vals (xs.set i x) (us.set i u)
  | _, _, _, .nil => .nil
  | _, _, 0, .cons _ t => .cons r t
  | _, _, i + 1, .cons q t => .cons q (Vals.set r i t)
theorem Vals.append : ∀ {xs ys : List V} {us ws : List Value}, Vals xs us → Vals ys ws → Vals (xs ++ ys) (us ++ ws)
  | _, _, _, _, .nil, s => s
  | _, _, _, _, .cons r t, s => .cons r (Vals.append t s)
theorem Vals.take : ∀ {xs : List V} {us : List Value} (n : Nat), Vals xs us → Vals (xs.take n) (us.take n)
  | _, _, 0, _ => .nil
  | _, _, _ + 1, .nil => .nil
  | _, _, n + 1, .cons r t => .cons r (Vals.take n t)
theorem Vals.drop : ∀ {xs : List V} {us : List Value} (n : Nat), Vals xs us → Vals (xs.drop n) (us.drop n)
  | _, _, 0, r => r
  | _, _, _ + 1, .nil => .nil
  | _, _, n + 1, .cons _ t => Vals.drop n t
def RelO : Option V → Option Value → Prop
  | some v, some u => RelV v u
  | none, none => True
  | _, _ => False
def KV {κ : Type} : List (κ × V) → List (κ × Value) → Prop := Paired fun (p : κ × V) (q : κ × Value) => p.1 = q.1 ∧ RelV p.2 q.2

/-- a key of a dict (00_mix): an int or a text -/
def kV : Key → V
  | .inl i => .int i
  | .inr x => .str x

/-- what stands at a tracked address -/
inductive HO where
  /-- a list -/
  | lst (xs : List V)
  /-- a tuple (never changes) -/
  | tup (xs : List V)
  /-- a dict whose keys are ints and texts; one whose keys are tuples of ints and texts (the empty one is both) -/
  | dK (kvs : List (Key × V)) | dT (kvs : List (List Key × V))
  /-- a set of ints: its members, its size -/
  | set (S : Int → Bool) (n : Nat)
  /-- an instance of the class at C, its dict at dx, its attributes -/
  | ins (C dx : Addr) (fs : List (Str × V))
  /-- the dict of the instance at x -/
  | own (x : Addr)
  /-- the dict of an exception -/
  | xd (fs : List (Str × V))
  /-- a bound method, f of x -/
  | met (f x : Addr)
  /-- a range object lo, lo + 1, .. below hi -/
  | rng (lo hi : Int)
  /-- a thing that is known to the object (the script; a dict while a loop walks it): read, never written while it is so -/
  | frz (o : Obj) (u : HO)
  /-- a code object's table -/
  | tbl (ps : Array Value)
  /-- any other thing, by what is true of its one object (a def of one's own: SetO a S n := HO.ext fun h => ..) -/
  | ext (φ : Heap → Prop)

abbrev Hp := Addr → Option HO
def upd (H : Hp) (a : Addr) (o : HO) : Hp := fun b => if b = a then some o else H b
theorem upd_same {H : Hp} {a : Addr} {o : HO} : upd H a o a = some o := by unfold upd; rw [if_pos rfl]
theorem upd_ne {H : Hp} {a b : Addr} {o : HO} (h : b ≠ a) : upd H a o b = H b := by unfold upd; rw [if_neg h]
/-- two objects of different content stand apart -/
theorem ne_of {H : Hp} {a b : Addr} {o u : HO} (h : H a = some o) (h' : H b = some u) (d : o ≠ u) : a ≠ b := by
  intro e; subst e; rw [h] at h'; exact d (Option.some.inj h')
theorem ne_of_none {H : Hp} {a b : Addr} {o : HO} (h : H a = some o) (h' : H b = none) : a ≠ b := by
  intro e; subst e; rw [h] at h'; cases h'

section
variable (P : Program) (w : World)
def ObjOk (H : Hp) (h : Heap) (a : Addr) : HO → Prop
  | .lst xs => xs.length ≤ sizeLine ∧ ∃ (its : List Value) (n : Nat), Vals xs its ∧ h.get? a = some { cls := .type "list", data := .seq its.toArray n }
  | .tup xs => xs.length ≤ sizeLine ∧ ∃ its : List Value, Vals xs its ∧ IsTup h a its.toArray
  | .dK kvs => kvs.length ≤ sizeLine ∧ (a == sysModules) = false ∧ ∃ vs, KV kvs vs ∧ h.DictOf (mixKind P w) a vs
  | .dT kvs => kvs.length ≤ sizeLine ∧ (a == sysModules) = false ∧ ∃ xs : List (List Key × Addr × Value),
      Paired (fun (p : List Key × V) (q : List Key × Addr × Value) => p.1 = q.1 ∧ H q.2.1 = some (.tup (p.1.map kV)) ∧ RelV p.2 q.2.2) kvs xs ∧
      ∃ o es ep, h.get? a = some o ∧ o.ExactDict ∧ o.data = .dict es ep ∧ es.toList = xs.map (entryOfKey (tupleKind (mixKind P w))) ∧ (xs.map (·.1)).Nodup
  | .set S n => h.SetOf (intKind P w) a S n
  | .ins C dx fs => H dx = some (.own a) ∧ fs.length ≤ 1000 ∧ dx ≠ a ∧ h.get? a = some (PySem.W.instObj C dx) ∧
      ∃ mA, h.Ns1 dx mA ∧ (∀ f, RelO (fs.lookup f) (mA f)) ∧ PySem.Within mA (fs.map (·.1))
  | .own _ => ∃ o, h.get? a = some o
  | .xd fs => ∃ mA, h.Ns1 a mA ∧ ∀ f, RelO (fs.lookup f) (mA f)
  | .rng lo hi => ∃ t u v, h.get? a = some { cls := .type "range", data := .fields #[.int lo t, .int hi u, .int 1 v] }
  | .frz o u => h.get? a = some o ∧ ObjOk H h a u
  | .tbl ps => h.get? a = some { cls := .none, data := .fields ps }
  | .met f x => h.get? a = some (PySem.W.methodObj (.ref f) (.ref x))
  | .ext φ => φ h ∧ (∃ o, h.get? a = some o) ∧ ∀ h1 h2 : Heap, φ h1 → (∀ o, h1.get? a = some o → h2.get? a = some o) → φ h2
/-- the abstract heap is held -/
def HOk (H : Hp) (h : Heap) : Prop := ∀ a o, H a = some o → ObjOk P w H h a o
end

section
variable {P : Program} {w : World} {H H' : Hp} {h h' : Heap} {a : Addr} {o : HO}
theorem ObjOk.lt (x : ObjOk P w H h a o) : a < h.objs.size := by
  cases o with
  | lst xs => obtain ⟨_, _, _, _, e⟩ := x; exact Heap.lt_size e
  | tup xs => obtain ⟨_, _, _, p⟩ := x; exact p.lt
  | dK kvs => obtain ⟨_, _, _, _, o, _, _, e, _⟩ := x; exact Heap.lt_size e
  | dT kvs => obtain ⟨_, _, _, _, o, _, _, e, _⟩ := x; exact Heap.lt_size e
  | set S n => obtain ⟨o, _, _, _, e, _⟩ := x; exact Heap.lt_size e
  | ins C dx fs => obtain ⟨_, _, _, e, _⟩ := x; exact Heap.lt_size e
  | own y => obtain ⟨_, e⟩ := x; exact Heap.lt_size e
  | xd fs => obtain ⟨_, ⟨_, _, _, e, _⟩, _⟩ := x; exact Heap.lt_size e
  | rng lo hi => obtain ⟨_, _, _, e⟩ := x; exact Heap.lt_size e
  | frz ob u => obtain ⟨e, _⟩ := x; exact Heap.lt_size e
  | tbl ps => exact Heap.lt_size (show h.get? a = some _ from x)
  | met f y => exact Heap.lt_size (show h.get? a = some _ from x)
  | ext φ => obtain ⟨_, ⟨_, e⟩, _⟩ := x; exact Heap.lt_size e
theorem Paired.mapP {α β : Type} {F G : α → β → Prop} : ∀ {l₁ : List α} {l₂ : List β}, Paired F l₁ l₂ → (∀ a b, F a b → G a b) → Paired G l₁ l₂
  | _, _, .nil, _ => .nil
  | _, _, .cons r t, f => .cons (f _ _ r) (Paired.mapP t f)
/-- what an object's description leans on: its own object, its own dict, the tuples -/
theorem ObjOk.stay (x : ObjOk P w H h a o) (k : ∀ b u, (b = a ∨ H b = some (.own a)) → h.get? b = some u → h'.get? b = some u)
    (ho : ∀ b, H b = some (.own a) → H' b = some (.own a)) (ht : ∀ b xs, H b = some (.tup xs) → H' b = some (.tup xs)) : ObjOk P w H' h' a o := by
  induction o with
  | lst xs => obtain ⟨z, its, n, r, e⟩ := x; exact ⟨z, its, n, r, k _ _ (.inl rfl) e⟩
  | tup xs => obtain ⟨z, its, r, ob, e, c⟩ := x; exact ⟨z, its, r, ob, k _ _ (.inl rfl) e, c⟩
  | dK kvs => obtain ⟨z, y, vs, r, ob, es, ep, e, c⟩ := x; exact ⟨z, y, vs, r, ob, es, ep, k _ _ (.inl rfl) e, c⟩
  | dT kvs =>
    obtain ⟨z, y, xs, r, ob, es, ep, e, c⟩ := x
    exact ⟨z, y, xs, Paired.mapP r fun p q z => ⟨z.1, ht _ _ z.2.1, z.2.2⟩, ob, es, ep, k _ _ (.inl rfl) e, c⟩
  | set S n => obtain ⟨ob, es, ep, t, e, c⟩ := x; exact ⟨ob, es, ep, t, k _ _ (.inl rfl) e, c⟩
  | ins C dx fs =>
    obtain ⟨d, z, ne, e, mA, ⟨od, es, ep, e2, c⟩, r⟩ := x
    exact ⟨ho _ d, z, ne, k _ _ (.inl rfl) e, mA, ⟨od, es, ep, k _ _ (.inr d) e2, c⟩, r⟩
  | own y => obtain ⟨ob, e⟩ := x; exact ⟨ob, k _ _ (.inl rfl) e⟩
  | xd fs => obtain ⟨mA, ⟨od, es, ep, e, c⟩, r⟩ := x; exact ⟨mA, ⟨od, es, ep, k _ _ (.inl rfl) e, c⟩, r⟩
  | rng lo hi => obtain ⟨t, u, v, e⟩ := x; exact ⟨t, u, v, k _ _ (.inl rfl) e⟩
  | frz ob u ih => obtain ⟨e, q⟩ := x; exact ⟨k _ _ (.inl rfl) e, ih q⟩
  | tbl ps =>
    have e : h.get? a = some { cls := .none, data := .fields ps } := x
    show h'.get? a = some { cls := .none, data := .fields ps }
    exact k a _ (.inl rfl) e
  | met f y =>
    have e : h.get? a = some (PySem.W.methodObj (.ref f) (.ref y)) := x
    show h'.get? a = some (PySem.W.methodObj (.ref f) (.ref y))
    exact k a _ (.inl rfl) e
  | ext φ => obtain ⟨p, ⟨o, e⟩, st⟩ := x; exact ⟨st _ _ p fun o q => k _ _ (.inl rfl) q, ⟨o, k _ _ (.inl rfl) e⟩, st⟩
theorem HOk.lt (x : HOk P w H h) (e : H a = some o) : a < h.objs.size := (x a o e).lt
theorem HOk.fresh (x : HOk P w H h) (e : h.objs.size ≤ a) : H a = none := by
  cases q : H a with
  | none => rfl
  | some u => exact absurd (Nat.lt_of_lt_of_le (x.lt q) e) (Nat.lt_irrefl _)
/-- every object of the heap is kept -/
theorem HOk.kept (x : HOk P w H h) (k : ∀ b u, h.get? b = some u → h'.get? b = some u) : HOk P w H h' := fun a o e =>
  (x a o e).stay (fun b u _ q => k b u q) (fun _ q => q) fun _ _ q => q
/-- a new object is laid and tracked -/
theorem HOk.laid (x : HOk P w H h) (k : ∀ b u, h.get? b = some u → h'.get? b = some u) (hp : h.objs.size ≤ a) (new : ObjOk P w (upd H a o) h' a o) : HOk P w (upd H a o) h' := fun b u e => by
  have hn := x.fresh hp
  by_cases hb : b = a
  · subst hb; rw [upd_same] at e; cases e; exact new
  · rw [upd_ne hb] at e
    exact (x b u e).stay (fun c v _ q => k c v q) (fun c q => by rw [upd_ne (ne_of_none q hn)]; exact q) fun c xs q => by rw [upd_ne (ne_of_none q hn)]; exact q
end

/-- what may be read as u: it is u, or a known u -/
def Rd (H : Hp) (a : Addr) (u : HO) : Prop := H a = some u ∨ ∃ o, H a = some (.frz o u)
theorem Rd.ok {P : Program} {w : World} {H : Hp} {h : Heap} {a : Addr} {u : HO} (r : Rd H a u) (x : HOk P w H h) : ObjOk P w H h a u := by
  rcases r with r | ⟨o, r⟩
  · exact x a u r
  · obtain ⟨_, q⟩ := x a _ r
    exact q
/-- what may be written -/
def Mut : Option HO → Prop
  | some (.lst _) => True
  | some (.dK _) => True
  | some (.dT _) => True
  | some (.set _ _) => True
  | some (.ins _ _ _) => True
  | some (.ext _) => True
  | _ => False
section
variable {P : Program} {w : World} {H : Hp} {h h' : Heap} {x e : Addr} {o' : HO}
/-- the object at e is changed: x itself, or the dict of the instance x -/
theorem HOk.write (ok : HOk P w H h) (mu : Mut (H x)) (he : e = x ∨ H e = some (.own x)) (k : ∀ b u, b ≠ e → h.get? b = some u → h'.get? b = some u) (heo : ∃ u, h'.get? e = some u)
    (new : ObjOk P w (upd H x o') h' x o') : HOk P w (upd H x o') h' := fun b u q => by
  have nown : ∀ c y, H c = some (.own y) → c ≠ x := fun c y r z => by subst z; rw [r] at mu; exact mu
  have ntup : ∀ c xs, H c = some (.tup xs) → c ≠ x := fun c xs r z => by subst z; rw [r] at mu; exact mu
  by_cases hb : b = x
  · subst hb; rw [upd_same] at q; cases q; exact new
  · rw [upd_ne hb] at q
    by_cases hbe : b = e
    · have q' : H b = some (.own x) := by
        rcases he with z | z
        · exact absurd (hbe.trans z) hb
        · rw [hbe]; exact z
      rw [q] at q'; cases q'
      obtain ⟨v, hv⟩ := heo
      exact ⟨v, by rw [hbe]; exact hv⟩
    · refine (ok b u q).stay (fun c v hc r => k c v ?_ r) (fun c r => by rw [upd_ne (nown c b r)]; exact r) fun c xs r => by rw [upd_ne (ntup c xs r)]; exact r
      rcases hc with rfl | hc
      · exact hbe
      · rintro rfl
        rcases he with z | z
        · exact nown c b hc z
        · rw [hc] at z; cases z; exact hb rfl
end

/-! ### kept unless tracked; of the frames at fs (the callers') the slots may change (an exception that passes writes there); of the records at ex (iterators) nothing is said -/
structure Un (fs ex : List Addr) (H H' : Hp) (h h' : Heap) : Prop where
  keep : ∀ b o, h.get? b = some o → H b = none → b ∉ fs → b ∉ ex → h'.get? b = some o
  slot : ∀ b o, h.get? b = some o → H b = none → b ∈ fs → b ∉ ex → ∃ sl, h'.get? b = some { o with slots := sl }
  free : ∀ b o, h.get? b = some o → H b = none → b ∉ ex → H' b = none
  there : ∀ b o, h.get? b = some o → b ∉ ex → ∃ o', h'.get? b = some o'
  tups : ∀ b xs, H b = some (.tup xs) → H' b = some (.tup xs)
  frzs : ∀ b o u, H b = some (.frz o u) → H' b = some (.frz o u)
  tbls : ∀ b ps, H b = some (.tbl ps) → ∃ more, H' b = some (.tbl (ps ++ more))
section
variable {fs fs' ex ex' : List Addr} {H H1 H2 : Hp} {h h1 h2 h' : Heap} {a x e : Addr} {o : HO}
theorem Un.any (u : Un fs ex H H1 h h1) {b : Addr} {ob : Obj} (q : h.get? b = some ob) (n : H b = none) (hx : b ∉ ex) : ∃ sl, h1.get? b = some { ob with slots := sl } := by
  by_cases hb : b ∈ fs
  · exact u.slot b ob q n hb hx
  · exact ⟨ob.slots, u.keep b ob q n hb hx⟩
theorem Un.trans (a : Un fs ex H H1 h h1) (b : Un fs ex H1 H2 h1 h2) : Un fs ex H H2 h h2 where
  keep := fun c ob q n hc hx => b.keep c ob (a.keep c ob q n hc hx) (a.free c ob q n hx) hc hx
  slot := fun c ob q n hc hx => by
    obtain ⟨sl, e1⟩ := a.slot c ob q n hc hx
    obtain ⟨sl', e2⟩ := b.slot c _ e1 (a.free c ob q n hx) hc hx
    exact ⟨sl', e2⟩
  free := fun c ob q n hx => by
    obtain ⟨o', e1⟩ := a.there c ob q hx
    exact b.free c o' e1 (a.free c ob q n hx) hx
  there := fun c ob q hx => by
    obtain ⟨o', e1⟩ := a.there c ob q hx
    exact b.there c o' e1 hx
  tups := fun c xs q => b.tups c xs (a.tups c xs q)
  frzs := fun c ob xs q => b.frzs c ob xs (a.frzs c ob xs q)
  tbls := fun c ps q => by
    obtain ⟨m1, e1⟩ := a.tbls c ps q
    obtain ⟨m2, e2⟩ := b.tbls c _ e1
    exact ⟨m1 ++ m2, by rw [e2, Array.append_assoc]⟩
theorem Un.kept (k : ∀ b u, h.get? b = some u → h'.get? b = some u) : Un fs ex H H h h' :=
  ⟨fun b ob q _ _ _ => k b ob q, fun b ob q _ _ _ => ⟨ob.slots, k b ob q⟩, fun _ _ _ n _ => n, fun b ob q _ => ⟨ob, k b ob q⟩, fun _ _ q => q, fun _ _ _ q => q, fun _ ps q => ⟨#[], by rw [q]; simp⟩⟩
theorem Un.refl : Un fs ex H H h h := Un.kept fun _ _ q => q
theorem Un.laid (k : ∀ b u, h.get? b = some u → h'.get? b = some u) (hp : h.objs.size ≤ a) (hn : H a = none) : Un fs ex H (upd H a o) h h' where
  keep := fun b u q _ _ _ => k b u q
  slot := fun b u q _ _ _ => ⟨u.slots, k b u q⟩
  free := fun b u q n _ => by rw [upd_ne (Nat.ne_of_lt (Nat.lt_of_lt_of_le (Heap.lt_size q) hp))]; exact n
  there := fun b u q _ => ⟨u, k b u q⟩
  tups := fun b xs q => by rw [upd_ne (ne_of_none q hn)]; exact q
  frzs := fun b u xs q => by rw [upd_ne (ne_of_none q hn)]; exact q
  tbls := fun b ps q => ⟨#[], by rw [upd_ne (ne_of_none q hn), q]; simp⟩
theorem Un.write (mu : Mut (H x)) (he : e = x ∨ H e = some (.own x)) (k : ∀ b u, b ≠ e → h.get? b = some u → h'.get? b = some u) (heo : ∃ u, h'.get? e = some u) : Un fs ex H (upd H x o) h h' := by
  have hx : ∀ b, H b = none → b ≠ x := fun b n z => by subst z; rw [n] at mu; exact mu
  have hb : ∀ b, H b = none → b ≠ e := fun b n z => by
    subst z
    rcases he with r | r
    · exact hx b n r
    · rw [n] at r; cases r
  have hm : ∀ b u, H b = some u → ¬ Mut (some u) → b ≠ x := fun b u q nm z => by subst z; rw [q] at mu; exact nm mu
  refine ⟨fun b u q n _ _ => k b u (hb b n) q, fun b u q n _ _ => ⟨u.slots, k b u (hb b n) q⟩, fun b u q n _ => by rw [upd_ne (hx b n)]; exact n, fun b u q _ => ?_,
    fun b xs q => by rw [upd_ne (hm b _ q fun z => z)]; exact q, fun b u xs q => by rw [upd_ne (hm b _ q fun z => z)]; exact q, fun b ps q => ⟨#[], by rw [upd_ne (hm b _ q fun z => z), q]; simp⟩⟩
  by_cases hbe : b = e
  · subst hbe; exact heo
  · exact ⟨u, k b u hbe q⟩
end

/-! ### the heap without what is tracked -/
def trk (h : Heap) (H : Hp) : List Addr := (List.range h.objs.size).filter fun a => (H a).isSome
def hidT (h : Heap) (H : Hp) : Heap := PySem.W.hideAll h (trk h H)
theorem hidT_size (h : Heap) (H : Hp) : (hidT h H).objs.size = h.objs.size := PySem.W.hideAll_size _ _
theorem hidT_get {h : Heap} {H : Hp} {b : Addr} {o : Obj} (e : h.get? b = some o) (n : H b = none) : (hidT h H).get? b = some o :=
  PySem.W.hideAll_get _ e fun hm => by
    have q : (H b).isSome = true := (List.mem_filter.mp hm).2
    rw [n] at q; simp at q
theorem of_hidT {h : Heap} {H : Hp} {b : Addr} {o : Obj} (e : (hidT h H).get? b = some o) : h.get? b = some o ∧ H b = none := by
  have e' : h.get? b = some o := PySem.W.of_hideAll (trk h H) e
  refine ⟨e', ?_⟩
  cases q : H b with
  | none => rfl
  | some x =>
    have hm : b ∈ trk h H := List.mem_filter.mpr ⟨List.mem_range.mpr (Heap.lt_size e'), by simp [q]⟩
    have z : (hidT h H).get? b = none := PySem.W.hideAll_none (trk h H) hm
    rw [z] at e; cases e

/-! ### OpenK's ledger, filled with every new object but one -/
def allNews (g h : Heap) (L : Addr) : List (Addr × Obj) := (List.range h.objs.size).filterMap fun a => if a = L ∨ (g.get? a).isSome = true then none else (h.get? a).map fun o => (a, o)
def rest (g h : Heap) (L d : Addr) : List (Addr × Obj) := (allNews g h L).filter fun p => decide (p.1 ≠ d)
end L2

namespace L2
open PySem PySem.Spec PyProof.Rows

/-- the module's facts, over the base: the heap at the law's entry without what is tracked there -/
structure Mod (K : PySem.W.Frag) (mg : Str → Option Value) (base : Heap) : Prop where
  kin : K.In base
  glob : base.Ns mainGlobals mg
  blt : ∃ mb, base.Ns builtinsNs mb ∧ ∀ x : Str, x ≠ "__name__" → mb x = bootBuiltins x
  nolimit : base.NoLimit

/-- the context: a def's body (or a comprehension's block) running. base: fixed through the whole law; s₀, H₀: the entry; outer: the frames whose slots others may change (a def's callers); stack: all frames that run;
   ex: iterators that were made ahead of the entry and are walked here (a comprehension's); fn: the names whose cells were made at the entry (a def: all; a comprehension's block: its own); calm: not within an except suite; pn: pins that every state bears; xe: what is wanted of an exception that leaves the code -/
structure Cx where
  prog : Program
  w : World
  K : PySem.W.Frag
  mg : Str → Option Value
  base : Heap
  A : Around
  N : List Str
  s₀ : Shared
  H₀ : Hp
  env : Env
  outer : List Env
  stack : List Env
  ex : List Addr
  fn : Str → Bool
  calm : Bool
  pn : List (Addr × Obj)
  xe : Value → Shared → Prop
/-- the callers' frames -/
def frs (l : List Env) : List Addr := l.filterMap (·.frame)
abbrev Cx.fs (X : Cx) : List Addr := frs X.outer

def Vis (sc : Scope) (x : Str) : Prop := sc.names.lookup x = some .local ∨ sc.names.lookup x = some .cell ∨ sc.names.lookup x = some .free
def Loc (sc : Scope) (x : Str) : Prop := sc.names.lookup x = some .local ∨ sc.names.lookup x = some .cell
def Look (env : Env) (h : Heap) (m : Str → Option Value) (x : Str) (u : Value) : Prop :=
  (env.kindOf x = some .local ∧ m x = some u) ∨ ((env.kindOf x = some .cell ∨ env.kindOf x = some .free) ∧ ∃ c, env.cells.lookup x = some c ∧ h.IsCell c (some u))

structure Cx.Ok (X : Cx) : Prop where
  mod : Mod X.K X.mg X.base
  kind : X.env.scope.kind = .function
  glob : X.env.globals = mainGlobals
  blt : X.env.builtins = builtinsNs
  above : X.s₀.heap.objs.size ≤ X.env.locals
  inj : ∀ x y c, X.env.cells.lookup x = some c → X.env.cells.lookup y = some c → x = y
  has : ∀ x, (X.env.kindOf x = some .cell ∨ X.env.kindOf x = some .free) → ∃ c, X.env.cells.lookup x = some c
  cab : ∀ x c, X.fn x = true → X.env.cells.lookup x = some c → X.s₀.heap.objs.size ≤ c
  hd : X.calm = true → X.A.handled = none
  frames : X.A.frames = some X.stack
  stk : X.stack = X.outer ∨ (X.stack = X.env :: X.outer ∧ X.env.frame = some X.env.locals)
  exf : ∀ b ∈ X.ex, b ≠ X.env.locals ∧ ∀ x c, X.env.cells.lookup x = some c → c ≠ b
  bs : ∀ b o, X.base.get? b = some o → X.s₀.heap.get? b = some o ∧ X.H₀ b = none
  bsz : X.base.objs.size ≤ X.s₀.heap.objs.size
  noex : ∀ b o, X.base.get? b = some o → b ∉ X.ex
  exfs : ∀ b ∈ X.ex, b ∉ X.fs
  funs : X.s₀.heap.FunFrames X.base X.outer
  frf : ∀ b ∈ X.fs, X.H₀ b = none

structure Inv (X : Cx) (pins : List (Addr × Obj)) (σ : List (Option V)) (H : Hp) (s : Shared) : Prop where
  ok : X.Ok
  os : s.os = X.s₀.os
  bare : AllBare s.gens
  base : Un X.fs X.ex X.H₀ H X.s₀.heap s.heap
  loc : ∃ m, s.heap.Ns X.env.locals m ∧ ∀ (i : Nat) (x : Str) (v : V), X.N[i]? = some x → σ[i]? = some (some v) → Vis X.env.scope x → ∃ u, RelV v u ∧ Look X.env s.heap m x u
  cell : ∀ x c, X.env.cells.lookup x = some c → ∃ v, s.heap.IsCell c v
  free : H X.env.locals = none
  freeC : ∀ x c, X.env.cells.lookup x = some c → H c = none
  pin : ∀ p ∈ X.pn ++ pins, s.heap.get? p.1 = some p.2 ∧ H p.1 = none ∧ p.1 ≠ X.env.locals ∧ p.1 ∉ X.fs ∧ ∀ v, p.2.data ≠ .cell v
  hok : HOk X.prog X.w H s.heap
  len : σ.length = X.N.length

section
variable {X : Cx} {pins : List (Addr × Obj)} {σ : List (Option V)} {H H' : Hp} {s : Shared} {h' : Heap}

theorem Cx.Ok.nofr (ok : X.Ok) {b : Addr} {o : Obj} (e : X.base.get? b = some o) : b ∉ X.fs := fun hb => by
  have := (ok.funs.mem hb).1
  rw [e] at this; cases this
theorem Inv.bs (I : Inv X pins σ H s) : ∀ b o, X.base.get? b = some o → s.heap.get? b = some o ∧ H b = none := fun b o e =>
  ⟨I.base.keep b o (I.ok.bs b o e).1 (I.ok.bs b o e).2 (I.ok.nofr e) (I.ok.noex b o e), I.base.free b o (I.ok.bs b o e).1 (I.ok.bs b o e).2 (I.ok.noex b o e)⟩
theorem Inv.bk (I : Inv X pins σ H s) : ∀ b o, X.base.get? b = some o → s.heap.get? b = some o := fun b o e => (I.bs b o e).1
theorem Inv.mod (I : Inv X pins σ H s) : Mod X.K X.mg X.base := I.ok.mod
theorem Inv.kIn (I : Inv X pins σ H s) : X.K.In s.heap := I.ok.mod.kin.keeps I.bk
theorem Inv.nolimit (I : Inv X pins σ H s) : s.heap.NoLimit := I.ok.mod.nolimit.keeps I.bk
/-- the frame over the base: for OpenK's rules (K.In X.base is I.mod.kin) -/
theorem Inv.fr (I : Inv X pins σ H s) : ∃ m, Fr X.base X.env.locals s.heap m :=
  let ⟨m, hn, _⟩ := I.loc
  ⟨m, hn, I.bk, Nat.le_trans I.ok.bsz I.ok.above⟩
theorem Inv.lt (I : Inv X pins σ H s) : X.env.locals < s.heap.objs.size := let ⟨_, hn, _⟩ := I.loc; hn.lt
theorem Inv.sz (I : Inv X pins σ H s) : X.s₀.heap.objs.size ≤ s.heap.objs.size := Nat.le_trans I.ok.above (Nat.le_of_lt I.lt)
theorem Inv.nofs (I : Inv X pins σ H s) {a : Addr} (h : s.heap.objs.size ≤ a) : a ∉ X.fs := fun hb => by
  obtain ⟨_, o, ho, _⟩ := I.ok.funs.mem hb
  exact absurd (Nat.lt_of_lt_of_le (Heap.lt_size ho) (Nat.le_trans I.sz h)) (Nat.lt_irrefl _)
theorem Inv.cne (I : Inv X pins σ H s) : ∀ x c, X.env.cells.lookup x = some c → c ≠ X.env.locals := fun x c e z => by
  obtain ⟨v, o, ho, hd⟩ := I.cell x c e
  obtain ⟨m, ⟨o', es, ep, ho', hd', _⟩, _⟩ := I.loc
  rw [z, ho'] at ho; cases ho; rw [hd'] at hd; cases hd
theorem Inv.funs (I : Inv X pins σ H s) : s.heap.FunFrames X.base X.outer := by
  have all : ∀ (l : List Env), (∀ b ∈ frs l, b ∈ X.fs) → X.s₀.heap.FunFrames X.base l → s.heap.FunFrames X.base l := by
    intro l
    induction l with
    | nil => intro _ _; trivial
    | cons env r ih =>
      intro hs hl
      obtain ⟨hk, ⟨L, o, hf, hn, ho, hd⟩, hr⟩ := hl
      have hL : L ∈ X.fs := hs L (by unfold frs; rw [List.filterMap_cons, hf]; exact List.mem_cons_self)
      obtain ⟨sl, e⟩ := I.base.slot L o ho (I.ok.frf L hL) hL fun z => I.ok.exfs L z hL
      exact ⟨hk, ⟨L, _, hf, hn, e, hd⟩, ih (fun b hb => hs b (by unfold frs; rw [List.filterMap_cons, hf]; exact List.mem_cons_of_mem _ hb)) hr⟩
  exact all X.outer (fun _ hb => hb) I.ok.funs

/-- the frames that run, for a call -/
theorem Inv.stack (I : Inv X pins σ H s) : s.heap.FunFrames X.base X.stack := by
  rcases I.ok.stk with e | ⟨e, hf⟩
  · rw [e]; exact I.funs
  · rw [e]
    obtain ⟨m, hn, _⟩ := I.loc
    refine .cons (by rw [I.ok.kind]; decide) hf hn ?_ I.funs
    exact Heap.get?_none_of_le (Nat.le_trans I.ok.bsz I.ok.above)
theorem Inv.stkSub (I : Inv X pins σ H s) : ∀ b ∈ frs X.stack, b ∈ X.env.locals :: X.fs := fun b hb => by
  rcases I.ok.stk with e | ⟨e, hf⟩
  · rw [e] at hb; exact List.mem_cons_of_mem _ hb
  · rw [e] at hb
    unfold frs at hb
    rw [List.filterMap_cons, hf] at hb
    exact hb
theorem Inv.stkFree (I : Inv X pins σ H s) : ∀ b ∈ frs X.stack, H b = none := fun b hb => by
  rcases List.mem_cons.mp (I.stkSub b hb) with e | hb
  · rw [e]; exact I.free
  · obtain ⟨_, o, ho, _⟩ := I.ok.funs.mem hb
    exact I.base.free b o ho (I.ok.frf b hb) fun z => I.ok.exfs b z hb

/-- THE STEP: the untracked objects but the frame and the records at ch are kept (the callers' frames up to slots), the frame's map is kept, the new abstract heap is held -/
theorem Inv.step {g' : Array GenState} {t' : Nat} {d' : Drawn} {ch : List Addr} (I : Inv X pins σ H s)
    (hch : ∀ b ∈ ch, (b ∈ X.ex ∨ X.s₀.heap.objs.size ≤ b) ∧ b ≠ X.env.locals ∧ (∀ x c, X.env.cells.lookup x = some c → c ≠ b) ∧ ∀ p ∈ X.pn ++ pins, p.1 ≠ b)
    (keep : ∀ b o, b ≠ X.env.locals → b ∉ X.fs → b ∉ ch → s.heap.get? b = some o → H b = none → h'.get? b = some o)
    (slot : ∀ b o, b ≠ X.env.locals → b ∈ X.fs → b ∉ ch → s.heap.get? b = some o → H b = none → ∃ sl, h'.get? b = some { o with slots := sl }) (free : ∀ b o, b ∉ ch → s.heap.get? b = some o → H b = none → H' b = none)
    (there : ∀ b o, b ∉ ch → s.heap.get? b = some o → ∃ o', h'.get? b = some o')
    (tups : ∀ b xs, H b = some (.tup xs) → H' b = some (.tup xs)) (frzs : ∀ b o u, H b = some (.frz o u) → H' b = some (.frz o u)) (tbls : ∀ b ps, H b = some (.tbl ps) → ∃ more, H' b = some (.tbl (ps ++ more)))
    (ns : ∀ m, s.heap.Ns X.env.locals m → h'.Ns X.env.locals m) (hok : HOk X.prog X.w H' h') (hg : AllBare g') :
    Inv X pins σ H' { s with heap := h', gens := g', drawn := d', toks := t' } := by
  have neL : ∀ b o, X.s₀.heap.get? b = some o → b ≠ X.env.locals := fun b o e => Nat.ne_of_lt (Nat.lt_of_lt_of_le (Heap.lt_size e) I.ok.above)
  have neC : ∀ b o, X.s₀.heap.get? b = some o → b ∉ X.ex → b ∉ ch := fun b o e hx hb => by
    rcases (hch b hb).1 with z | z
    · exact hx z
    · exact absurd (Nat.lt_of_lt_of_le (Heap.lt_size e) z) (Nat.lt_irrefl _)
  have cellK : ∀ x c, X.env.cells.lookup x = some c → ∀ v, s.heap.IsCell c v → h'.IsCell c v := fun x c e v ⟨o, ho, hd⟩ => by
    have nch : c ∉ ch := fun z => (hch c z).2.2.1 x c e rfl
    by_cases hc : c ∈ X.fs
    · obtain ⟨sl, q⟩ := slot c o (I.cne x c e) hc nch ho (I.freeC x c e)
      exact ⟨_, q, hd⟩
    · exact ⟨o, keep c o (I.cne x c e) hc nch ho (I.freeC x c e), hd⟩
  refine ⟨I.ok, I.os, hg, ⟨fun b o e n hb hx => ?_, fun b o e n hb hx => ?_, fun b o e n hx => ?_, fun b o e hx => ?_, fun b xs e => tups b xs (I.base.tups b xs e), fun b o xs e => frzs b o xs (I.base.frzs b o xs e), fun b ps e => ?_⟩, ?_, fun x c e => ?_, ?_, fun x c e => ?_, fun p hp => ?_, hok, I.len⟩
  · exact keep b o (neL b o e) hb (neC b o e hx) (I.base.keep b o e n hb hx) (I.base.free b o e n hx)
  · obtain ⟨sl, e1⟩ := I.base.slot b o e n hb hx
    obtain ⟨sl', e2⟩ := slot b _ (neL b o e) hb (neC b o e hx) e1 (I.base.free b o e n hx)
    exact ⟨sl', e2⟩
  · obtain ⟨o', e1⟩ := I.base.there b o e hx
    exact free b o' (neC b o e hx) e1 (I.base.free b o e n hx)
  · obtain ⟨o', e1⟩ := I.base.there b o e hx
    exact there b o' (neC b o e hx) e1
  · obtain ⟨m1, e1⟩ := I.base.tbls b ps e
    obtain ⟨m2, e2⟩ := tbls b _ e1
    exact ⟨m1 ++ m2, by rw [e2, Array.append_assoc]⟩
  · obtain ⟨m, hn, hl⟩ := I.loc
    refine ⟨m, ns m hn, fun i x v e1 e2 e3 => ?_⟩
    obtain ⟨u, r, l⟩ := hl i x v e1 e2 e3
    refine ⟨u, r, ?_⟩
    rcases l with l | ⟨k, c, e, z⟩
    · exact .inl l
    · exact .inr ⟨k, c, e, cellK x c e _ z⟩
  · obtain ⟨v, z⟩ := I.cell x c e
    exact ⟨v, cellK x c e v z⟩
  · obtain ⟨m, ⟨o, _, _, ho, _⟩, _⟩ := I.loc
    exact free _ o (fun z => (hch _ z).2.1 rfl) ho I.free
  · obtain ⟨v, o, ho, hd⟩ := I.cell x c e
    exact free c o (fun z => (hch c z).2.2.1 x c e rfl) ho (I.freeC x c e)
  · obtain ⟨e, n, ne, nf, d⟩ := I.pin p hp
    have nch : p.1 ∉ ch := fun z => (hch p.1 z).2.2.2 p hp rfl
    exact ⟨keep p.1 p.2 ne nf nch e n, free p.1 p.2 nch e n, ne, nf, d⟩
/-- .. where the frame's own object is kept too -/
theorem Inv.un {t' : Nat} (I : Inv X pins σ H s) (u : Un X.fs [] H H' s.heap h') (hok : HOk X.prog X.w H' h') : Inv X pins σ H' { s with heap := h', toks := t' } := by
  obtain ⟨m, ⟨o, es, ep, ho, r⟩, _⟩ := id I.loc
  obtain ⟨sl, hL⟩ := u.any ho I.free (by simp)
  exact I.step (g' := s.gens) (d' := s.drawn) (ch := []) (fun _ z => nomatch z) (fun b o _ hb _ e n => u.keep b o e n hb (by simp)) (fun b o _ hb _ e n => u.slot b o e n hb (by simp)) (fun b o _ e n => u.free b o e n (by simp)) (fun b o _ e => u.there b o e (by simp)) u.tups u.frzs u.tbls (fun m' hm => by
    obtain ⟨o', es', ep', ho', r'⟩ := hm
    rw [ho] at ho'; cases ho'
    exact ⟨_, es', ep', hL, r'⟩) hok I.bare
/-- behind a call (or a comprehension's block): the slots of this frame may have changed too, the records at ch may have turned -/
theorem Inv.call {g' : Array GenState} {t' : Nat} {d' : Drawn} {ch : List Addr} (I : Inv X pins σ H s) (u : Un (frs X.stack) ch H H' s.heap h') (hok : HOk X.prog X.w H' h') (hg : AllBare g')
    (hch : ∀ b ∈ ch, (b ∈ X.ex ∨ X.s₀.heap.objs.size ≤ b) ∧ b ≠ X.env.locals ∧ (∀ x c, X.env.cells.lookup x = some c → c ≠ b) ∧ ∀ p ∈ X.pn ++ pins, p.1 ≠ b) :
    Inv X pins σ H' { s with heap := h', gens := g', drawn := d', toks := t' } := by
  obtain ⟨m, ⟨o, es, ep, ho, r⟩, _⟩ := id I.loc
  obtain ⟨sl, hL⟩ := u.any ho I.free fun z => (hch _ z).2.1 rfl
  exact I.step (ch := ch) hch (fun b o hL hb hc e n => u.keep b o e n (fun z => (List.mem_cons.mp (I.stkSub b z)).elim hL hb) hc) (fun b o _ _ hc e n => u.any e n hc) (fun b o hc e n => u.free b o e n hc) (fun b o hc e => u.there b o e hc) u.tups u.frzs u.tbls (fun m' hm => by
    obtain ⟨o', es', ep', ho', r'⟩ := hm
    rw [ho] at ho'; cases ho'
    exact ⟨_, es', ep', hL, r'⟩) hok hg
/-- an untracked record of ours (an iterator) has turned -/
theorem Inv.turned {t' : Nat} {it : Addr} (I : Inv X pins σ H s) (k : ∀ b o, b ≠ it → s.heap.get? b = some o → h'.get? b = some o) (hn : H it = none) (hL : it ≠ X.env.locals)
    (h1 : it ∈ X.ex ∨ X.s₀.heap.objs.size ≤ it) (h2 : ∀ x c, X.env.cells.lookup x = some c → c ≠ it) (h3 : ∀ p ∈ X.pn ++ pins, p.1 ≠ it) : Inv X pins σ H { s with heap := h', toks := t' } := by
  have nit : ∀ b u, H b = some u → b ≠ it := fun b u e z => by rw [z, hn] at e; cases e
  refine I.step (g' := s.gens) (d' := s.drawn) (ch := [it]) (fun b hb => ?_) (fun b o _ _ hc e _ => k b o (fun z => hc (by simp [z])) e) (fun b o _ _ hc e _ => ⟨o.slots, k b o (fun z => hc (by simp [z])) e⟩) (fun _ _ _ _ n => n)
    (fun b o hc e => ⟨o, k b o (fun z => hc (by simp [z])) e⟩) (fun _ _ e => e) (fun _ _ _ e => e) (fun b ps e => ⟨#[], by rw [e]; simp⟩) (fun m hm => ?_) (fun b u e => ?_) I.bare
  · have e : b = it := by simpa using hb
    subst e
    exact ⟨h1, hL, h2, h3⟩
  · obtain ⟨o, es, ep, ho, r⟩ := hm
    exact ⟨o, es, ep, k _ o (Ne.symm hL) ho, r⟩
  · refine (I.hok b u e).stay (fun c v hc q => k c v ?_ q) (fun _ q => q) fun _ _ q => q
    rcases hc with z | z
    · rw [z]; exact nit b u e
    · exact nit c _ z
theorem Inv.tok (I : Inv X pins σ H s) (t : Nat) : Inv X pins σ H { s with toks := t } := I.un (h' := s.heap) (t' := t) Un.refl I.hok
/-- all objects kept -/
theorem Inv.kept {t' : Nat} (I : Inv X pins σ H s) (k : ∀ b u, s.heap.get? b = some u → h'.get? b = some u) : Inv X pins σ H { s with heap := h', toks := t' } := I.un (Un.kept k) (I.hok.kept k)
/-- a new object laid and tracked -/
theorem Inv.laid {a : Addr} {o : HO} {t' : Nat} (I : Inv X pins σ H s) (k : ∀ b u, s.heap.get? b = some u → h'.get? b = some u) (hp : s.heap.objs.size ≤ a) (new : ObjOk X.prog X.w (upd H a o) h' a o) :
    Inv X pins σ (upd H a o) { s with heap := h', toks := t' } := I.un (Un.laid k hp (I.hok.fresh hp)) (I.hok.laid k hp new)
/-- an object written -/
theorem Inv.write {x e : Addr} {o : HO} {t' : Nat} (I : Inv X pins σ H s) (mu : Mut (H x)) (he : e = x ∨ H e = some (.own x)) (k : ∀ b u, b ≠ e → s.heap.get? b = some u → h'.get? b = some u) (heo : ∃ u, h'.get? e = some u)
    (new : ObjOk X.prog X.w (upd H x o) h' x o) : Inv X pins σ (upd H x o) { s with heap := h', toks := t' } := I.un (Un.write mu he k heo) (I.hok.write mu he k heo new)
/-- forgetting slots, pins -/
theorem Inv.weak {σ' : List (Option V)} (I : Inv X pins σ H s) (hl : σ'.length = σ.length) (w : ∀ (i : Nat) v, σ'[i]? = some (some v) → σ[i]? = some (some v)) : Inv X pins σ' H s :=
  ⟨I.ok, I.os, I.bare, I.base, let ⟨m, hn, hl'⟩ := I.loc; ⟨m, hn, fun i x v e1 e2 e3 => hl' i x v e1 (w i v e2) e3⟩, I.cell, I.free, I.freeC, I.pin, I.hok, hl.trans I.len⟩
theorem Inv.pins_of {pins' : List (Addr × Obj)} (I : Inv X pins σ H s) (h : ∀ p ∈ pins', s.heap.get? p.1 = some p.2 ∧ H p.1 = none ∧ p.1 ≠ X.env.locals ∧ p.1 ∉ X.fs ∧ ∀ v, p.2.data ≠ .cell v) : Inv X pins' σ H s :=
  ⟨I.ok, I.os, I.bare, I.base, I.loc, I.cell, I.free, I.freeC, fun p hp => (List.mem_append.mp hp).elim (fun z => I.pin p (List.mem_append_left _ z)) (h p), I.hok, I.len⟩

theorem nodup_ix {N : List Str} (hN : N.Nodup) {i j : Nat} {x : Str} (a : N[i]? = some x) (b : N[j]? = some x) : i = j := by
  obtain ⟨h1, e1⟩ := List.getElem?_eq_some_iff.mp a
  obtain ⟨h2, e2⟩ := List.getElem?_eq_some_iff.mp b
  exact (List.getElem_inj hN).mp (e1.trans e2.symm)

/-- a name is stored; what changed -/
theorem store_ok2 {M : Model} {A : Around} {E : Value → Shared → Prop} {i : Nat} {x : Str} {v : V} {u : Value} {Q : Unit → Shared → Prop} (I : Inv X pins σ H s) (hN : X.N.Nodup) (hi : X.N[i]? = some x) (hx : Loc X.env.scope x) (r : RelV v u)
    (h : ∀ s', Inv X pins (σ.set i (some v)) H s' → (∃ a, Heap.SameBut a s.heap s'.heap ∧ (a = X.env.locals ∨ X.env.cells.lookup x = some a)) → Q () s') (hf : X.fn x = true ∨ X.env.scope.names.lookup x = some .local := by first | exact .inl rfl | exact .inr rfl | assumption) : wpAny M A (storeName X.env x u) Q E s := by
  obtain ⟨m, hn, hl⟩ := id I.loc
  have hcls : (X.env.scope.kind == .class || (X.env.scope.kind == .module && X.env.locals != X.env.globals)) = false := by rw [I.ok.kind]; rfl
  have hiσ : i < σ.length := by rw [I.len]; exact (List.getElem?_eq_some_iff.mp hi).1
  have cne := I.cne
  have tracked : ∀ {a : Addr} {h' : Heap}, (∃ o, s.heap.get? a = some o ∧ H a = none) → Heap.SameBut a s.heap h' → HOk X.prog X.w H h' := fun {a h'} ha hs b ob e => by
    obtain ⟨_, _, hfree⟩ := ha
    refine (I.hok b ob e).stay (fun c w' hc q => (hs.2 c ?_).trans q) (fun _ q => q) fun _ _ q => q
    rintro rfl
    rcases hc with rfl | hc
    · rw [hfree] at e; cases e
    · rw [hfree] at hc; cases hc
  rcases hx with hk | hk
  · refine wpAny_storeName_local hk hn (fun h' hn' hs => ?_) hcls
    obtain ⟨oL, _, _, hoL, _⟩ := id hn
    refine h _ ⟨I.ok, I.os, I.bare, ⟨fun b o e n hb hx => ?_, fun b o e n hb hx => ?_, I.base.free, fun b o e hx => ?_, I.base.tups, I.base.frzs, I.base.tbls⟩, ⟨_, hn', fun j y v' e1 e2 e3 => ?_⟩, fun y c e => ?_, I.free, I.freeC, fun p hp => ?_, tracked ⟨oL, hoL, I.free⟩ hs, by simpa using I.len⟩ ⟨_, hs, .inl rfl⟩
    · exact (hs.2 b (Nat.ne_of_lt (Nat.lt_of_lt_of_le (Heap.lt_size e) I.ok.above))).trans (I.base.keep b o e n hb hx)
    · obtain ⟨sl, e1⟩ := I.base.slot b o e n hb hx
      exact ⟨sl, (hs.2 b (Nat.ne_of_lt (Nat.lt_of_lt_of_le (Heap.lt_size e) I.ok.above))).trans e1⟩
    · obtain ⟨o', e1⟩ := I.base.there b o e hx
      exact ⟨o', (hs.2 b (Nat.ne_of_lt (Nat.lt_of_lt_of_le (Heap.lt_size e) I.ok.above))).trans e1⟩
    · by_cases hj : j = i
      · subst hj
        rw [hi] at e1; cases e1
        rw [List.getElem?_set_self hiσ] at e2
        cases e2
        exact ⟨u, r, .inl ⟨hk, by simp⟩⟩
      · rw [List.getElem?_set_ne (Ne.symm hj)] at e2
        obtain ⟨u', r', q⟩ := hl j y v' e1 e2 e3
        refine ⟨u', r', ?_⟩
        rcases q with ⟨k, e⟩ | ⟨k, c, e, z⟩
        · refine .inl ⟨k, ?_⟩
          have : y ≠ x := fun e => hj (nodup_ix hN e1 (e ▸ hi))
          simp [this, e]
        · exact .inr ⟨k, c, e, z.sameBut hs (cne y c e)⟩
    · obtain ⟨w', z⟩ := I.cell y c e
      exact ⟨w', z.sameBut hs (cne y c e)⟩
    · obtain ⟨e, n, ne, nf, d⟩ := I.pin p hp
      exact ⟨(hs.2 p.1 ne).trans e, n, ne, nf, d⟩
  · have hfn : X.fn x = true := by
      rcases hf with z | z
      · exact z
      · rw [z] at hk; cases hk
    obtain ⟨c, hc⟩ := I.ok.has x (.inl hk)
    obtain ⟨w', z⟩ := I.cell x c hc
    refine wpAny_storeName_cell I.ok.kind hk hc z (fun h' hc' hs => ?_)
    obtain ⟨oc, hoc, hocd⟩ := id z
    refine h { s with heap := h' } ⟨I.ok, I.os, I.bare, ⟨fun b o e n hb hx => ?_, fun b o e n hb hx => ?_, I.base.free, fun b o e hx => ?_, I.base.tups, I.base.frzs, I.base.tbls⟩, ⟨m, hn.sameBut hs (Ne.symm (cne x c hc)), fun j y v' e1 e2 e3 => ?_⟩, fun y c' e => ?_, I.free, I.freeC, fun p hp => ?_, tracked ⟨oc, hoc, I.freeC x c hc⟩ hs, by simpa using I.len⟩ ⟨c, hs, .inr hc⟩
    · exact (hs.2 b (Nat.ne_of_lt (Nat.lt_of_lt_of_le (Heap.lt_size e) (I.ok.cab x c hfn hc)))).trans (I.base.keep b o e n hb hx)
    · obtain ⟨sl, e1⟩ := I.base.slot b o e n hb hx
      exact ⟨sl, (hs.2 b (Nat.ne_of_lt (Nat.lt_of_lt_of_le (Heap.lt_size e) (I.ok.cab x c hfn hc)))).trans e1⟩
    · obtain ⟨o', e1⟩ := I.base.there b o e hx
      exact ⟨o', (hs.2 b (Nat.ne_of_lt (Nat.lt_of_lt_of_le (Heap.lt_size e) (I.ok.cab x c hfn hc)))).trans e1⟩
    · by_cases hj : j = i
      · subst hj
        rw [hi] at e1; cases e1
        rw [List.getElem?_set_self hiσ] at e2
        cases e2
        exact ⟨u, r, .inr ⟨.inl hk, c, hc, hc'⟩⟩
      · rw [List.getElem?_set_ne (Ne.symm hj)] at e2
        obtain ⟨u', r', q⟩ := hl j y v' e1 e2 e3
        refine ⟨u', r', ?_⟩
        rcases q with q | ⟨k, c', e, z'⟩
        · exact .inl q
        · refine .inr ⟨k, c', e, z'.sameBut hs ?_⟩
          rintro rfl
          exact hj (nodup_ix hN e1 (I.ok.inj _ _ _ e hc ▸ hi))
    · by_cases hcc : c' = c
      · subst hcc; exact ⟨_, hc'⟩
      · obtain ⟨w2, z2⟩ := I.cell y c' e
        exact ⟨w2, z2.sameBut hs hcc⟩
    · obtain ⟨e, n, ne, nf, d⟩ := I.pin p hp
      refine ⟨(hs.2 p.1 ?_).trans e, n, ne, nf, d⟩
      intro q
      rw [q, hoc] at e
      have q' : oc = p.2 := Option.some.inj e
      exact d w' (by rw [← q']; exact hocd)
theorem store_ok {M : Model} {A : Around} {E : Value → Shared → Prop} {i : Nat} {x : Str} {v : V} {u : Value} {Q : Unit → Shared → Prop} (I : Inv X pins σ H s) (hN : X.N.Nodup) (hi : X.N[i]? = some x) (hx : Loc X.env.scope x) (r : RelV v u)
    (h : ∀ s', Inv X pins (σ.set i (some v)) H s' → Q () s') (hf : X.fn x = true ∨ X.env.scope.names.lookup x = some .local := by first | exact .inl rfl | exact .inr rfl | assumption) : wpAny M A (storeName X.env x u) Q E s :=
  store_ok2 I hN hi hx r (fun s' I' _ => h s' I') hf
/-- behind a call or a block, the state as it is -/
theorem Inv.call' {s' : Shared} {ch : List Addr} (I : Inv X pins σ H s) (ho : s'.os = s.os) (u : Un (frs X.stack) ch H H' s.heap s'.heap) (hok : HOk X.prog X.w H' s'.heap) (hg : AllBare s'.gens)
    (hch : ∀ b ∈ ch, (b ∈ X.ex ∨ X.s₀.heap.objs.size ≤ b) ∧ b ≠ X.env.locals ∧ (∀ x c, X.env.cells.lookup x = some c → c ≠ b) ∧ ∀ p ∈ X.pn ++ pins, p.1 ≠ b) : Inv X pins σ H' s' := by
  obtain ⟨h', g', d', t', o'⟩ := s'
  have e : o' = s.os := ho
  subst e
  exact I.call (g' := g') (t' := t') (d' := d') u hok hg hch
end

/-! ### the judgements -/
/-- an exception: its class, its own dict's address (where it has one), the abstract heap behind it -/
abbrev XK := Value → Option Addr → Hp → Prop
abbrev St := List (Option V)
abbrev VK := V → Hp → Prop
/-- an expression's reading; a test's; an argument list's -/
abbrev TE := St → Hp → VK → Prop
abbrev TT := St → Hp → (Bool → Hp → Prop) → Prop
abbrev TA := St → Hp → (List V → Hp → Prop) → Prop
/-- what is wanted behind a statement -/
structure Ends where
  nx : St → Hp → Prop
  rt : VK
  bk : St → Hp → Prop := fun _ _ => False
  ct : St → Hp → Prop := fun _ _ => False
abbrev TS := Ends → St → Hp → Prop

def EP (X : Cx) (pins : List (Addr × Obj)) (σ : St) (Q : VK) (u : Value) (s' : Shared) : Prop := ∃ v H', Inv X pins σ H' s' ∧ RelV v u ∧ Q v H'
def TP (X : Cx) (pins : List (Addr × Obj)) (σ : St) (Q : Bool → Hp → Prop) (b : Bool) (s' : Shared) : Prop := ∃ H', Inv X pins σ H' s' ∧ Q b H'
def AP (X : Cx) (pins : List (Addr × Obj)) (σ : St) (Q : List V → Hp → Prop) (us : List Value) (s' : Shared) : Prop := ∃ vs H', Inv X pins σ H' s' ∧ Vals vs us ∧ Q vs H'
def SP (X : Cx) (pins : List (Addr × Obj)) (D : Ends) (f : Flow) (s' : Shared) : Prop :=
  match f with
  | .next => ∃ σ' H', Inv X pins σ' H' s' ∧ D.nx σ' H'
  | .brk => ∃ σ' H', Inv X pins σ' H' s' ∧ D.bk σ' H'
  | .cont => ∃ σ' H', Inv X pins σ' H' s' ∧ D.ct σ' H'
  | .ret u => ∃ v σ' H', Inv X pins σ' H' s' ∧ RelV v u ∧ D.rt v H'

def PE (X : Cx) (e : Expr) (t : TE) : Prop :=
  ∀ (pins : List (Addr × Obj)) (s : Shared) (σ : St) (H : Hp) (Q : VK), Inv X pins σ H s → t σ H Q → wpAny (model X.prog X.w) X.A (eval e X.env) (EP X pins σ Q) X.xe s
def PT (X : Cx) (e : Expr) (t : TT) : Prop :=
  ∀ (pins : List (Addr × Obj)) (s : Shared) (σ : St) (H : Hp) (Q : Bool → Hp → Prop), Inv X pins σ H s → t σ H Q → wpAny (model X.prog X.w) X.A (isTrue e X.env (eval e X.env)) (TP X pins σ Q) X.xe s
/-- a test whatever its 'whole' is (and, or) -/
def PW (X : Cx) (e : Expr) (t : TT) : Prop :=
  ∀ (whole : Sem Value) (pins : List (Addr × Obj)) (s : Shared) (σ : St) (H : Hp) (Q : Bool → Hp → Prop), Inv X pins σ H s → t σ H Q → wpAny (model X.prog X.w) X.A (isTrue e X.env whole) (TP X pins σ Q) X.xe s
theorem PW.pt {X : Cx} {e : Expr} {t : TT} (h : PW X e t) : PT X e t := h _
/-- an argument list (no star), from the left -/
def PA (X : Cx) (es : List Expr) (t : TA) : Prop :=
  ∀ (pos : Pos) (pins : List (Addr × Obj)) (s : Shared) (σ : St) (H : Hp) (Q : List V → Hp → Prop), Inv X pins σ H s → t σ H Q → wpAny (model X.prog X.w) X.A (spliced (backTo pos (starEach es X.env))) (AP X pins σ Q) X.xe s
def PS (X : Cx) (st : Stmt) (t : TS) : Prop :=
  ∀ (pins : List (Addr × Obj)) (s : Shared) (σ : St) (H : Hp) (D : Ends), Inv X pins σ H s → t D σ H → wpAny (model X.prog X.w) X.A (exec st X.env) (SP X pins D) X.xe s
def PSs (X : Cx) (st : List Stmt) (t : TS) : Prop :=
  ∀ (pins : List (Addr × Obj)) (s : Shared) (σ : St) (H : Hp) (D : Ends), Inv X pins σ H s → t D σ H → wpAny (model X.prog X.w) X.A (execs st X.env) (SP X pins D) X.xe s
/-- weaken the end -/
theorem thn {α : Type} {t : Sem α} {Q Q' : α → Shared → Prop} {M : Model} {A : Around} {E : Value → Shared → Prop} {s : Shared} (h : wpAny M A t Q E s) (hQ : ∀ a s, Q a s → Q' a s) : wpAny M A t Q' E s := wpAny_mono h hQ fun _ _ x => x
end L2

namespace L2
open PySem PySem.Spec PyProof.Rows
section
variable {X : Cx}

/-- two expressions in a row -/
theorem bin {a b : Expr} {ta tb : TE} (ha : PE X a ta) (hb : PE X b tb) {pins : List (Addr × Obj)} {s : Shared} {σ : St} {H : Hp} {R : V → V → Hp → Prop} (I : Inv X pins σ H s) (h : ta σ H fun x H1 => tb σ H1 fun y H2 => R x y H2)
    {α : Type} {Q : α → Shared → Prop} {f : Value → Value → Sem α}
    (hf : ∀ v u s2 x y H2, Inv X pins σ H2 s2 → RelV x v → RelV y u → R x y H2 → wpAny (model X.prog X.w) X.A (f v u) Q X.xe s2) :
    wpAny (model X.prog X.w) X.A (eval a X.env) (fun v s₁ => wpAny (model X.prog X.w) X.A (eval b X.env) (fun u s₂ => wpAny (model X.prog X.w) X.A (f v u) Q X.xe s₂) X.xe s₁) X.xe s := by
  refine thn (ha pins s σ H _ I h) fun v s1 ⟨x, H1, I1, r1, q1⟩ => ?_
  refine thn (hb pins s1 σ H1 _ I1 q1) fun u s2 ⟨y, H2, I2, r2, q2⟩ => ?_
  exact hf v u s2 x y H2 I2 r1 r2 q2

/-! ### names and constants -/
def tVar (i : Nat) : TE := fun σ H Q => ∃ v, σ[i]? = some (some v) ∧ Q v H
def tC (v : V) : TE := fun _ H Q => Q v H
theorem pe_var {i : Nat} {x : Str} {pos : Pos} (hN : X.N[i]? = some x) (hv : Vis X.env.scope x) (hd : (x == ("__debug__" : Str)) = false := by decide) (hcd : (x == ("__classdict__" : Str)) = false := by decide) : PE X (.Name x pos) (tVar i) := by
  intro pins s σ H Q I h
  obtain ⟨v, e, h⟩ := h
  obtain ⟨m, hn, hl⟩ := I.loc
  obtain ⟨u, r, l⟩ := hl i x v hN e hv
  have fin : EP X pins σ Q u s := ⟨v, H, I, r, h⟩
  rcases l with ⟨hk, hm⟩ | ⟨hk, c, hc, hcell⟩
  · exact wpAny_Name (wpAny_loadName_local I.ok.kind hk hn hm fin) hd
  · rcases hk with hk | hk
    · exact wpAny_Name (wpAny_loadName_cell I.ok.kind hk hc hcell fin) hd
    · exact wpAny_Name (wpAny_loadName_free I.ok.kind hk hc hcell fin hcd) hd
theorem pe_int {i j pos} : PE X (.Constant (.int i) j pos) (tC (.int i)) := fun _ _ _ H _ I h => wpAny_Constant_int ⟨.int i, H, I.tok _, ⟨_, rfl⟩, h⟩
theorem pe_bl {b j pos} : PE X (.Constant (.bool b) j pos) (tC (.bl b)) := fun _ _ _ H _ I h => Constant_bool ⟨.bl b, H, I, rfl, h⟩
theorem pe_non {j pos} : PE X (.Constant .none j pos) (tC .non) := fun _ _ _ H _ I h => Constant_none ⟨.non, H, I, rfl, h⟩
theorem pe_str {x j pos} : PE X (.Constant (.str x) j pos) (tC (.str x)) := fun _ _ _ H _ I h => Calls.Constant_str ⟨.str x, H, I.tok _, ⟨_, rfl⟩, h⟩

/-- a global name of the def -/
def Gl (X : Cx) (x : Str) : Prop := X.env.kindOf x = some .globalImplicit
theorem ld_glob {E : Value → Shared → Prop} {pins : List (Addr × Obj)} {s : Shared} {σ : St} {H : Hp} {x : Str} {u : Value} {pos : Pos} {Q : Value → Shared → Prop} (I : Inv X pins σ H s) (hg : Gl X x) (hm : X.mg x = some u) (h : Q u s)
    (hd : (x == ("__debug__" : Str)) = false := by decide) : wpAny (model X.prog X.w) X.A (eval (.Name x pos) X.env) Q E s :=
  Calls.Name_function_global I.ok.kind hg (Calls.loadGlobal_global (by rw [I.ok.glob]; exact I.mod.glob.keeps I.bk) hm h) hd
theorem ld_blt {E : Value → Shared → Prop} {pins : List (Addr × Obj)} {s : Shared} {σ : St} {H : Hp} {x : Str} {u : Value} {pos : Pos} {Q : Value → Shared → Prop} (I : Inv X pins σ H s) (hg : Gl X x) (hm : X.mg x = none) (hv : bootBuiltins x = some u) (h : Q u s)
    (hn : x ≠ "__name__" := by decide) (hd : (x == ("__debug__" : Str)) = false := by decide) : wpAny (model X.prog X.w) X.A (eval (.Name x pos) X.env) Q E s := by
  obtain ⟨mb, h1, h2⟩ := I.mod.blt
  exact Calls.Name_function_global I.ok.kind hg (Calls.loadGlobal_builtin (by rw [I.ok.glob]; exact I.mod.glob.keeps I.bk) hm (by rw [I.ok.blt]; exact h1.keeps I.bk) ((h2 x hn).trans hv) h) hd
/-- a module's constant, a class, a function, as a value -/
theorem pe_glob {x : Str} {v : V} {u : Value} {pos : Pos} (hg : Gl X x) (hm : X.mg x = some u) (r : RelV v u) (hd : (x == ("__debug__" : Str)) = false := by decide) : PE X (.Name x pos) (tC v) :=
  fun _ _ _ H _ I h => ld_glob I hg hm ⟨v, H, I, r, h⟩ hd
theorem pe_bltn {x : Str} {v : V} {u : Value} {pos : Pos} (hg : Gl X x) (hm : X.mg x = none) (hv : bootBuiltins x = some u) (r : RelV v u) (hn : x ≠ "__name__" := by decide) (hd : (x == ("__debug__" : Str)) = false := by decide) : PE X (.Name x pos) (tC v) :=
  fun _ _ _ H _ I h => ld_blt I hg hm hv ⟨v, H, I, r, h⟩ hn hd

/-! ### arithmetic -/
variable {a b : Expr} {ta tb : TE} {pos : Pos}
/-! ### comparisons -/
/-- a comparison as a value, as a test -/
def tB (t : TE) : TT := fun σ H Q => t σ H fun x H1 => ∃ c, x = .bl c ∧ Q c H1
/-! ### and, or, not -/
variable {tA tB' : TT} {rest : List Expr}
def tAnd (t u : TT) : TT := fun σ H Q => t σ H fun c H1 => if c = true then u σ H1 Q else Q false H1
def tOr (t u : TT) : TT := fun σ H Q => t σ H fun c H1 => if c = true then Q true H1 else u σ H1 Q
def tNot (t : TT) : TT := fun σ H Q => t σ H fun c H1 => Q (!c) H1
theorem pw_and1 (ha : PT X a tA) : PW X (.BoolOp .And [a] pos) tA := by
  intro wh pins s σ H Q I h
  refine isTrue_and (thn (ha pins s σ H Q I h) fun c s1 e => ?_)
  cases c with
  | true => exact isTrue_and_nil e
  | false => exact e
theorem pw_or1 (ha : PT X a tA) : PW X (.BoolOp .Or [a] pos) tA := by
  intro wh pins s σ H Q I h
  refine isTrue_or (thn (ha pins s σ H Q I h) fun c s1 e => ?_)
  cases c with
  | false => exact isTrue_or_nil e
  | true => exact e
theorem pw_and (ha : PT X a tA) (hb : PW X (.BoolOp .And (b :: rest) pos) tB') : PW X (.BoolOp .And (a :: b :: rest) pos) (tAnd tA tB') := by
  intro wh pins s σ H Q I h
  refine isTrue_and (thn (ha pins s σ H _ I h) fun c s1 ⟨H1, I1, q1⟩ => ?_)
  cases c with
  | true => exact hb wh pins s1 σ H1 Q I1 q1
  | false => exact ⟨H1, I1, q1⟩
theorem pw_or (ha : PT X a tA) (hb : PW X (.BoolOp .Or (b :: rest) pos) tB') : PW X (.BoolOp .Or (a :: b :: rest) pos) (tOr tA tB') := by
  intro wh pins s σ H Q I h
  refine isTrue_or (thn (ha pins s σ H _ I h) fun c s1 ⟨H1, I1, q1⟩ => ?_)
  cases c with
  | true => exact ⟨H1, I1, q1⟩
  | false => exact hb wh pins s1 σ H1 Q I1 q1
theorem pt_not (ha : PT X a tA) : PT X (.UnaryOp .Not a pos) (tNot tA) := by
  intro pins s σ H Q I h
  exact isTrue_not (ha pins s σ H (fun c H1 => Q (!c) H1) I h)
/-- .. as values (bools) -/
def tAndV (ta tb : TE) : TE := fun σ H Q => ta σ H fun x H1 => ∃ c, x = .bl c ∧ if c = true then tb σ H1 Q else Q (.bl false) H1
def tOrV (ta tb : TE) : TE := fun σ H Q => ta σ H fun x H1 => ∃ c, x = .bl c ∧ if c = true then Q (.bl true) H1 else tb σ H1 Q
def tNotV (ta : TE) : TE := fun σ H Q => ta σ H fun x H1 => ∃ c, x = .bl c ∧ Q (.bl (!c)) H1
theorem pe_one {op} {t : TE} (h : PE X a t) : PE X (.BoolOp op [a] pos) t := fun pins s σ H Q I hw => BoolOp_one (h pins s σ H Q I hw)
theorem pe_and (ha : PE X a ta) (hb : PE X (.BoolOp .And (b :: rest) pos) tb) : PE X (.BoolOp .And (a :: b :: rest) pos) (tAndV ta tb) := by
  intro pins s σ H Q I h
  refine BoolOp_and (thn (ha pins s σ H _ I h) fun v s1 ⟨x, H1, I1, r1, q1⟩ => ?_)
  obtain ⟨c, rfl, q1⟩ := q1
  cases r1
  refine wpAny_truthy_bool ?_
  cases c with
  | true => exact hb pins s1 σ H1 Q I1 q1
  | false => exact ⟨.bl false, H1, I1, rfl, q1⟩
theorem pe_or (ha : PE X a ta) (hb : PE X (.BoolOp .Or (b :: rest) pos) tb) : PE X (.BoolOp .Or (a :: b :: rest) pos) (tOrV ta tb) := by
  intro pins s σ H Q I h
  refine BoolOp_or (thn (ha pins s σ H _ I h) fun v s1 ⟨x, H1, I1, r1, q1⟩ => ?_)
  obtain ⟨c, rfl, q1⟩ := q1
  cases r1
  refine wpAny_truthy_bool ?_
  cases c with
  | false => exact hb pins s1 σ H1 Q I1 q1
  | true => exact ⟨.bl true, H1, I1, rfl, q1⟩
theorem pe_not (ha : PE X a ta) : PE X (.UnaryOp .Not a pos) (tNotV ta) := by
  intro pins s σ H Q I h
  refine UnaryOp_ (thn (ha pins s σ H _ I h) fun v s1 ⟨x, H1, I1, r1, q1⟩ => ?_)
  obtain ⟨c, rfl, q1⟩ := q1
  cases r1
  exact not_of (wpAny_truthy_bool ⟨.bl (!c), H1, I1, rfl, q1⟩)
/-- a if t else b -/
def tIf (t : TT) (ta tb : TE) : TE := fun σ H Q => t σ H fun c H1 => if c = true then ta σ H1 Q else tb σ H1 Q
theorem pe_ifExp {c : Expr} (hc : PT X c tA) (ha : PE X a ta) (hb : PE X b tb) : PE X (.IfExp c a b pos) (tIf tA ta tb) := by
  intro pins s σ H Q I h
  refine wpAny_IfExp (thn (hc pins s σ H _ I h) fun d s1 ⟨H1, I1, q1⟩ => ?_)
  cases d with
  | true => exact ha pins s1 σ H1 Q I1 q1
  | false => exact hb pins s1 σ H1 Q I1 q1
end
end L2

namespace L2
open PySem PySem.Spec PyProof.Rows

/-! ### a list, a tuple that is read: tracked, frozen, or an object of the module -/
def SqL (K : PySem.W.Frag) (H : Hp) (a : Addr) (xs : List V) : Prop :=
  Rd H a (.lst xs) ∨
    ∃ (o : Obj) (its : Array Value) (n : Nat), K.lookup a = some o ∧ o.cls = .type "list" ∧ o.dict = none ∧ o.data = .seq its n ∧ its.size ≤ sizeLine ∧ Vals xs its.toList
def SqT (K : PySem.W.Frag) (H : Hp) (a : Addr) (xs : List V) : Prop :=
  Rd H a (.tup xs) ∨
    ∃ (o : Obj) (its : Array Value) (n : Nat), K.lookup a = some o ∧ o.cls = .type "tuple" ∧ o.data = .seq its n ∧ its.size ≤ sizeLine ∧ Vals xs its.toList
def absV : Value → Option V
  | .none => some .non
  | .bool b => some (.bl b)
  | .int i _ => some (.int i)
  | .str x _ => some (.str x)
  | .bytes b _ => some (.byt b)
  | .float b _ => some (.flt b)
  | .ref a => some (.ref a)
  | .type n => some (.ty n)
  | _ => none
theorem RelV.abs {x : V} {u : Value} (r : RelV x u) : absV u = some x := by
  cases x with
  | non => cases r; rfl
  | bl _ => cases r; rfl
  | int _ => obtain ⟨t, rfl⟩ := r; rfl
  | str _ => obtain ⟨t, rfl⟩ := r; rfl
  | byt _ => obtain ⟨t, rfl⟩ := r; rfl
  | flt _ => obtain ⟨t, rfl⟩ := r; rfl
  | ref _ => cases r; rfl
  | ty _ => cases r; rfl
theorem RelV.inj {x y : V} {u : Value} (r : RelV x u) (q : RelV y u) : x = y := Option.some.inj (r.abs.symm.trans q.abs)
theorem Vals.inj : ∀ {xs ys : List V} {us : List Value}, Vals xs us → Vals ys us → xs = ys
  | _, _, _, .nil, .nil => rfl
  | _, _, _, .cons r t, .cons r' t' => by rw [r.inj r', Vals.inj t t']
section
variable {X : Cx} {pins : List (Addr × Obj)} {σ : St} {H : Hp} {s : Shared} {a : Addr} {xs ys : List V}
theorem SqL.of {K : PySem.W.Frag} (h : H a = some (.lst xs)) : SqL K H a xs := .inl (.inl h)
theorem SqT.of {K : PySem.W.Frag} (h : H a = some (.tup xs)) : SqT K H a xs := .inl (.inl h)
theorem Inv.list (I : Inv X pins σ H s) (h : SqL X.K H a xs) : ∃ its : List Value, Vals xs its ∧ PlainL s.heap a its.toArray ∧ xs.length ≤ sizeLine := by
  rcases h with h | ⟨o, its, n, hk, hc, hd, hs, hz, r⟩
  · obtain ⟨z, its, n, r, e⟩ := h.ok I.hok
    exact ⟨its, r, ⟨_, n, e, rfl, rfl, rfl⟩, z⟩
  · refine ⟨its.toList, r, ⟨o, n, I.kIn a o hk, hc, hd, by simpa using hs⟩, ?_⟩
    have e := r.length
    simp only [Array.length_toList] at e
    omega
theorem Inv.tuple (I : Inv X pins σ H s) (h : SqT X.K H a xs) : ∃ its : List Value, Vals xs its ∧ IsTup s.heap a its.toArray ∧ xs.length ≤ sizeLine := by
  rcases h with h | ⟨o, its, n, hk, hc, hs, hz, r⟩
  · obtain ⟨z, its, r, p⟩ := h.ok I.hok
    exact ⟨its, r, p, z⟩
  · refine ⟨its.toList, r, ⟨o, I.kIn a o hk, hc, n, by simpa using hs⟩, ?_⟩
    have e := r.length
    simp only [Array.length_toList] at e
    omega
theorem Inv.list_inj (I : Inv X pins σ H s) (h : SqL X.K H a xs) (h' : SqL X.K H a ys) : xs = ys := by
  obtain ⟨its, r, ⟨o, n, e, _, _, d⟩, _⟩ := I.list h
  obtain ⟨its', r', ⟨o', n', e', _, _, d'⟩, _⟩ := I.list h'
  rw [e] at e'; cases e'
  rw [d] at d'
  injection d' with d1 _
  have : its = its' := by simpa using congrArg Array.toList d1
  subst this
  exact r.inj r'
theorem Inv.tuple_inj (I : Inv X pins σ H s) (h : SqT X.K H a xs) (h' : SqT X.K H a ys) : xs = ys := by
  obtain ⟨its, r, ⟨o, e, _, n, d⟩, _⟩ := I.tuple h
  obtain ⟨its', r', ⟨o', e', _, n', d'⟩, _⟩ := I.tuple h'
  rw [e] at e'; cases e'
  rw [d] at d'
  injection d' with d1 _
  have : its = its' := by simpa using congrArg Array.toList d1
  subst this
  exact r.inj r'
end

/-! ### another wish about exceptions -/
abbrev Cx.wish (X : Cx) (E : Value → Shared → Prop) : Cx := { X with xe := E }
/-- no exception leaves -/
abbrev Cx.nox (X : Cx) : Cx := X.wish fun _ _ => False
theorem Cx.Ok.wish {X : Cx} (ok : X.Ok) (E : Value → Shared → Prop) : (X.wish E).Ok :=
  ⟨ok.mod, ok.kind, ok.glob, ok.blt, ok.above, ok.inj, ok.has, ok.cab, ok.hd, ok.frames, ok.stk, ok.exf, ok.bs, ok.bsz, ok.noex, ok.exfs, ok.funs, ok.frf⟩
theorem Cx.Ok.unwish {X : Cx} {E : Value → Shared → Prop} (ok : (X.wish E).Ok) : X.Ok :=
  ⟨ok.mod, ok.kind, ok.glob, ok.blt, ok.above, ok.inj, ok.has, ok.cab, ok.hd, ok.frames, ok.stk, ok.exf, ok.bs, ok.bsz, ok.noex, ok.exfs, ok.funs, ok.frf⟩
section
variable {X : Cx} {pins : List (Addr × Obj)} {σ : St} {H : Hp} {s : Shared} {E : Value → Shared → Prop}
theorem Inv.wish (I : Inv X pins σ H s) (E : Value → Shared → Prop) : Inv (X.wish E) pins σ H s := ⟨I.ok.wish E, I.os, I.bare, I.base, I.loc, I.cell, I.free, I.freeC, I.pin, I.hok, I.len⟩
theorem Inv.unwish (I : Inv (X.wish E) pins σ H s) : Inv X pins σ H s := ⟨I.ok.unwish, I.os, I.bare, I.base, I.loc, I.cell, I.free, I.freeC, I.pin, I.hok, I.len⟩
theorem SP.unwish {D : Ends} {f : Flow} {s' : Shared} (h : SP (X.wish E) pins D f s') : SP X pins D f s' := by
  cases f with
  | next => obtain ⟨σ', H', I, q⟩ := h; exact ⟨σ', H', I.unwish, q⟩
  | brk => obtain ⟨σ', H', I, q⟩ := h; exact ⟨σ', H', I.unwish, q⟩
  | cont => obtain ⟨σ', H', I, q⟩ := h; exact ⟨σ', H', I.unwish, q⟩
  | ret u => obtain ⟨v, σ', H', I, r, q⟩ := h; exact ⟨v, σ', H', I.unwish, r, q⟩
theorem PE.nox {e : Expr} {t : TE} (h : PE X.nox e t) : PE X e t := fun pins s σ H Q I hw =>
  wpAny_mono (h pins s σ H Q (I.wish _) hw) (fun _ _ ⟨v, H', I', r, q⟩ => ⟨v, H', I'.unwish, r, q⟩) fun _ _ z => False.elim z
theorem PT.nox {e : Expr} {t : TT} (h : PT X.nox e t) : PT X e t := fun pins s σ H Q I hw =>
  wpAny_mono (h pins s σ H Q (I.wish _) hw) (fun _ _ ⟨H', I', q⟩ => ⟨H', I'.unwish, q⟩) fun _ _ z => False.elim z
theorem PSs.nox {st : List Stmt} {t : TS} (h : PSs X.nox st t) : PSs X st t := fun pins s σ H D I hw =>
  wpAny_mono (h pins s σ H D (I.wish _) hw) (fun _ _ q => q.unwish) fun _ _ z => False.elim z
end

/-! ### blocks and small statements -/
section
variable {X : Cx} {st : Stmt} {rest : List Stmt} {t u : TS} {e : Expr} {te : TE} {pos : Pos}
def tNext : TS := fun D σ H => D.nx σ H
def tSeq (t u : TS) : TS := fun D σ H => t { D with nx := u D } σ H
theorem pss_nil : PSs X [] tNext := fun _ _ σ H _ I h => wpAny_execs_nil ⟨σ, H, I, h⟩
theorem pss_cons (h1 : PS X st t) (h2 : PSs X rest u) : PSs X (st :: rest) (tSeq t u) := by
  intro pins s σ H D I h
  refine wpAny_execs_cons (thn (h1 pins s σ H { D with nx := u D } I h) fun f s1 q => ?_)
  cases f with
  | next =>
    obtain ⟨σ', H', I', q⟩ := q
    exact h2 pins s1 σ' H' D I' q
  | ret v => exact q
  | brk => exact q
  | cont => exact q
theorem pss_one (h1 : PS X st t) : PSs X [st] t := by
  intro pins s σ H D I h
  refine wpAny_execs_cons (thn (h1 pins s σ H D I h) fun f s1 q => ?_)
  cases f with
  | next => exact wpAny_execs_nil q
  | ret v => exact q
  | brk => exact q
  | cont => exact q
/-- in a def's body nothing is shown -/
theorem Inv.quiet {pins : List (Addr × Obj)} {σ : St} {H : Hp} {s : Shared} (I : Inv X pins σ H s) : interactive X.env = false := by simp [interactive, I.ok.kind]
/-- an expression whose value is dropped -/
def tDrop (te : TE) : TS := fun D σ H => te σ H fun _ H1 => D.nx σ H1
theorem ps_expr (he : PE X e te) (hs : swapsWith e none pos.line X.env = pure false := by rfl) : PS X (.Expr e pos) (tDrop te) := by
  intro pins s σ H D I h
  exact wpAny_Expr_any (thn (he pins s σ H _ I h) fun v s1 ⟨x, H1, I1, r1, q1⟩ => ⟨σ, H1, I1, q1⟩) I.quiet hs
def tRet (te : TE) : TS := fun D σ H => te σ H D.rt
theorem ps_ret (he : PE X e te) : PS X (.Return (some e) pos) (tRet te) := by
  intro pins s σ H D I h
  exact wpAny_Return_some (thn (he pins s σ H _ I h) fun v s1 ⟨x, H1, I1, r1, q1⟩ => ⟨x, σ, H1, I1, r1, q1⟩)
def tIfS (c : TT) (t u : TS) : TS := fun D σ H => c σ H fun b H1 => if b = true then t D σ H1 else u D σ H1
theorem ps_if {c : Expr} {a b : List Stmt} {tc : TT} (hc : PT X c tc) (ha : PSs X a t) (hb : PSs X b u) : PS X (.If c a b pos) (tIfS tc t u) := by
  intro pins s σ H D I h
  refine wpAny_If (thn (hc pins s σ H _ I h) fun d s1 ⟨H1, I1, q1⟩ => ?_)
  cases d with
  | true => exact ha pins s1 σ H1 D I1 q1
  | false => exact hb pins s1 σ H1 D I1 q1
/-- code that the proof never comes to -/
def tNever : TS := fun _ _ _ => False
theorem pss_never {sts : List Stmt} : PSs X sts tNever := fun _ _ _ _ _ _ h => h.elim
end

/-! ### targets -/
abbrev TG := V → St → Hp → (St → Hp → Prop) → Prop
abbrev TGs := List V → St → Hp → (St → Hp → Prop) → Prop
def PG (X : Cx) (target : Expr) (t : TG) : Prop :=
  ∀ (pins : List (Addr × Obj)) (s : Shared) (σ : St) (H : Hp) (v : V) (u : Value) (Q : St → Hp → Prop), Inv X pins σ H s → RelV v u → t v σ H Q →
    wpAny (model X.prog X.w) X.A (assign target X.env u) (fun _ s' => ∃ σ' H', Inv X pins σ' H' s' ∧ Q σ' H') X.xe s
/-- several targets, one after another -/
def PGs (X : Cx) (ts : List Expr) (t : TGs) : Prop :=
  ∀ (pins : List (Addr × Obj)) (s : Shared) (σ : St) (H : Hp) (vs : List V) (us : List Value) (Q : St → Hp → Prop), Inv X pins σ H s → Vals vs us → t vs σ H Q →
    wpAny (model X.prog X.w) X.A (assignInOrder ((assignEach ts X.env).map (·.2)) us) (fun _ s' => ∃ σ' H', Inv X pins σ' H' s' ∧ Q σ' H') X.xe s
/-- o[i] = v, by values -/
abbrev TSet := V → V → V → Hp → (Hp → Prop) → Prop
def PSet (X : Cx) (t : TSet) : Prop :=
  ∀ (pins : List (Addr × Obj)) (s : Shared) (σ : St) (H : Hp) (o i v : V) (ov iv u : Value) (Q : Hp → Prop), Inv X pins σ H s → RelV o ov → RelV i iv → RelV v u → t o i v H Q →
    wpAny (model X.prog X.w) X.A (setItem ov iv u) (fun _ s' => ∃ H', Inv X pins σ H' s' ∧ Q H') X.xe s
section
variable {X : Cx} {pos : Pos}
def gName (i : Nat) : TG := fun v σ H Q => Q (σ.set i (some v)) H
theorem pg_name {i : Nat} {x : Str} (hN : X.N.Nodup) (hi : X.N[i]? = some x) (hx : Loc X.env.scope x) (hf : X.fn x = true ∨ X.env.scope.names.lookup x = some .local := by first | exact .inl rfl | exact .inr rfl | assumption) : PG X (.Name x pos) (gName i) := by
  intro pins s σ H v u Q I r h
  exact wpAny_assign_Name (store_ok I hN hi hx r (fun s' I' => ⟨_, H, I', h⟩) hf)
def gNil : TGs := fun vs σ H Q => vs = [] ∧ Q σ H
def gCons (t : TG) (u : TGs) : TGs := fun vs σ H Q => ∃ v r, vs = v :: r ∧ t v σ H fun σ' H' => u r σ' H' Q
theorem pgs_nil : PGs X [] gNil := by
  intro pins s σ H vs us Q I r h
  obtain ⟨e, h⟩ := h
  subst e
  cases r
  exact assignInOrder_nil ⟨σ, H, I, h⟩
theorem pgs_cons {e : Expr} {es : List Expr} {t : TG} {u : TGs} (h1 : PG X e t) (h2 : PGs X es u)
    (hs : (assignEach (e :: es) X.env).map (·.2) = assign e X.env :: (assignEach es X.env).map (·.2) := by rfl) : PGs X (e :: es) (gCons t u) := by
  intro pins s σ H vs us Q I r h
  obtain ⟨v, vr, e1, h⟩ := h
  subst e1
  cases r with
  | cons r rr =>
    rw [hs]
    refine assignInOrder_cons (thn (h1 pins s σ H _ _ _ I r h) fun _ s1 ⟨σ1, H1, I1, q1⟩ => ?_)
    exact h2 pins s1 σ1 H1 _ _ Q I1 rr q1
/-- (a, b, ..) = a tuple of that length -/
def gTup (K : PySem.W.Frag) (n : Nat) (t : TGs) : TG := fun v σ H Q => ∃ a xs, v = .ref a ∧ SqT K H a xs ∧ xs.length = n ∧ t xs σ H Q
theorem pg_tup {es : List Expr} {k : Nat} {t : TGs} {n : Nat} (hc : X.calm = true) (h : PGs X es t)
    (hn : (assignEach es X.env).length = n := by rfl) (hst : (assignEach es X.env).findIdx? (·.1) = none := by rfl) : PG X (.Tuple es k pos) (gTup X.K n t) := by
  intro pins s σ H v u Q I r hw
  obtain ⟨a, xs, e1, hq, hl, hw⟩ := hw
  subst e1
  cases r
  obtain ⟨its, rv, ht, hz⟩ := I.tuple hq
  refine assign_Tuple_tuple (I.ok.hd hc) ht (by simp [hn, ← hl, rv.length]) hst fun h' hx => ?_
  have I1 : Inv X pins σ H { s with heap := h' } := I.kept (t' := s.toks) fun b o e => hx b o (Nat.ne_of_lt (Heap.lt_size e)) e
  exact h pins _ σ H xs _ Q I1 (by simpa using rv) hw
/-- o[i] = .. -/
def gSub (to ti : TE) (t : TSet) : TG := fun v σ H Q => to σ H fun o H1 => ti σ H1 fun i H2 => t o i v H2 fun H3 => Q σ H3
theorem pg_sub {o i : Expr} {to ti : TE} {t : TSet} (ho : PE X o to) (hi : PE X i ti) (hs : PSet X t)
    (ha : ∀ v, assign (.Subscript o i pos) X.env v = (do
      let ov ← holding [v] (eval o X.env)
      let iv ← holding [v, ov] (eval i X.env)
      standAt pos
      holding [v, ov, iv] (setItem ov iv v)
      release [v, ov, iv] []) := by intro _; rfl) : PG X (.Subscript o i pos) (gSub to ti t) := by
  intro pins s σ H v u Q I r h
  rw [ha]
  refine wpAny_bind (wpAny_holding (thn (ho pins s σ H _ I h) fun ov s1 ⟨x, H1, I1, r1, q1⟩ => ?_))
  refine wpAny_bind (wpAny_holding (thn (hi pins s1 σ H1 _ I1 q1) fun iv s2 ⟨y, H2, I2, r2, q2⟩ => ?_))
  refine wpAny_bind (wpAny_standAt (wpAny_bind (wpAny_holding (thn (hs pins s2 σ H2 x y v ov iv u _ I2 r1 r2 r q2) fun _ s3 ⟨H3, I3, q3⟩ => ?_))))
  exact wpAny_release ⟨σ, H3, I3, q3⟩
/-- target = value -/
def tAsg (te : TE) (g : TG) : TS := fun D σ H => te σ H fun x H1 => g x σ H1 D.nx
theorem ps_asg {tg e : Expr} {te : TE} {g : TG} (he : PE X e te) (hg : PG X tg g) (hs : swapsWithSole [tg] e pos.line X.env = pure false := by rfl) (hw : swappedStores [tg] e X.env = pure none := by rfl)
    (h1 : (assignEach [tg] X.env).map (·.2) = [assign tg X.env] := by rfl) : PS X (.Assign [tg] e pos) (tAsg te g) := by
  intro pins s σ H D I h
  refine wpAny_Assign_stores (thn (he pins s σ H _ I h) fun v s1 ⟨x, H1, I1, r1, q1⟩ => ?_) hs hw
  rw [h1]
  exact thn (hg pins s1 σ H1 x v _ I1 r1 q1) fun _ s2 q => q
/-- name = value -/
theorem ps_set {i : Nat} {x : Str} {e : Expr} {te : TE} {pos' : Pos} (hN : X.N.Nodup) (hi : X.N[i]? = some x) (hx : Loc X.env.scope x) (he : PE X e te) (hs : swapsWith e (some (.Name x pos')) pos.line X.env = pure false := by rfl) (hf : X.fn x = true ∨ X.env.scope.names.lookup x = some .local := by first | exact .inl rfl | exact .inr rfl | assumption) :
    PS X (.Assign [.Name x pos'] e pos) (tAsg te (gName i)) := by
  intro pins s σ H D I h
  refine wpAny_Assign_Name (thn (he pins s σ H _ I h) fun v s1 ⟨y, H1, I1, r1, q1⟩ => ?_) hs
  exact store_ok I1 hN hi hx r1 (fun s2 I2 => ⟨_, H1, I2, q1⟩) hf
end

/-! ### while -/
section
variable {X : Cx} {pos : Pos}
end

/-! ### what a loop or a comprehension walks -/
/-- at turn i: it yields x (the heap may grow), or it stops -/
structure It where
  go : Nat → Hp → Prop
  yld : Nat → Hp → V → Hp → Prop
  stop : Nat → Hp → Prop
/-- the iterator's own objects may turn: they are not the frame's, not pinned, younger than the entry (or a comprehension's own) -/
def FpOk (X : Cx) (pins : List (Addr × Obj)) (H : Hp) (b : Addr) : Prop :=
  H b = none ∧ b ≠ X.env.locals ∧ b ∉ X.fs ∧ (b ∈ X.ex ∨ X.s₀.heap.objs.size ≤ b) ∧ (∀ x c, X.env.cells.lookup x = some c → c ≠ b) ∧ ∀ p ∈ X.pn ++ pins, p.1 ≠ b
theorem Inv.fpOk {X : Cx} {pins : List (Addr × Obj)} {σ : St} {H H' : Hp} {s : Shared} {b : Addr} (I : Inv X pins σ H s) (hb : s.heap.objs.size ≤ b) (hn : H' b = none) : FpOk X pins H' b := by
  refine ⟨hn, Nat.ne_of_gt (Nat.lt_of_lt_of_le I.lt hb), I.nofs hb, .inr (Nat.le_trans I.sz hb), fun x c e z => ?_, fun p hp z => ?_⟩
  · obtain ⟨v, q⟩ := I.cell x c e
    exact absurd (Nat.lt_of_lt_of_le q.lt (by rw [z]; exact hb)) (Nat.lt_irrefl _)
  · exact absurd (Nat.lt_of_lt_of_le (Heap.lt_size (I.pin p hp).1) (by rw [z]; exact hb)) (Nat.lt_irrefl _)
structure Turn (P : Program) (w : World) (K : PySem.W.Frag) (tg : Expr) (J : It) (fp : List Addr) (it : Addr) (tn : Nat → Heap → Prop) : Prop where
  mem : it ∈ fp
  obj : ∀ i h, tn i h → ∀ b ∈ fp, ∃ o, h.get? b = some o ∧ ∀ v, o.data ≠ .cell v
  keep : ∀ i h h', tn i h → (∀ b ∈ fp, ∀ o, h.get? b = some o → h'.get? b = some o) → tn i h'
  item : ∀ (X : Cx), X.prog = P → X.w = w → X.K = K → X.calm = true → ∀ (i : Nat) (pins : List (Addr × Obj)) (s : Shared) (σ : St) (H : Hp) (E : Value → Shared → Prop), Inv X pins σ H s → (∀ b ∈ fp, FpOk X pins H b) → tn i s.heap → J.go i H →
    wpAny (model P w) X.A (pyNext (.ref it)) (fun r s1 => ∃ u, r = some u ∧
      wpAny (model P w) X.A (letOwnedTupleGo tg (.ref it) u) (fun _ s2 => ∃ x H', Inv X pins σ H' s2 ∧ RelV x u ∧ J.yld i H x H' ∧ tn (i + 1) s2.heap ∧ ∀ b ∈ fp, H' b = none) E s1) E s
  done : ∀ (X : Cx), X.prog = P → X.w = w → X.K = K → X.calm = true → ∀ (i : Nat) (pins : List (Addr × Obj)) (s : Shared) (σ : St) (H : Hp) (E : Value → Shared → Prop), Inv X pins σ H s → (∀ b ∈ fp, FpOk X pins H b) → tn i s.heap → J.stop i H →
    wpAny (model P w) X.A (pyNext (.ref it)) (fun r s1 => r = none ∧ Inv X pins σ H s1) E s
  self : ∀ (A : Around) (i : Nat) (s : Shared) (Q : Value → Shared → Prop) (E : Value → Shared → Prop), tn i s.heap → Q (.ref it) s → wpAny (model P w) A (pyIter (.ref it)) Q E s
abbrev TI := St → Hp → (It → Hp → Prop) → Prop
/-- an iterator has come -/
def PIE (X : Cx) (pins : List (Addr × Obj)) (σ : St) (tg : Expr) (R : It → Hp → Prop) (itv : Value) (s2 : Shared) : Prop :=
  ∃ (it : Addr) (fp : List Addr) (tn : Nat → Heap → Prop) (J : It) (H' : Hp), itv = .ref it ∧ Inv X pins σ H' s2 ∧ Turn X.prog X.w X.K tg J fp it tn ∧ tn 0 s2.heap ∧ (∀ b ∈ fp, FpOk X pins H' b) ∧ R J H'
def PI (X : Cx) (tg iter : Expr) (wi : TI) : Prop :=
  ∀ (pins : List (Addr × Obj)) (s : Shared) (σ : St) (H : Hp) (R : It → Hp → Prop), Inv X pins σ H s → wi σ H R →
    wpAny (model X.prog X.w) X.A (eval iter X.env) (fun v s1 => wpAny (model X.prog X.w) X.A (pyIter v) (PIE X pins σ tg R) X.xe s1) X.xe s

/-- the step ahead of the store is nothing for an iterator that keeps no tuple -/
theorem go_of {M : Model} {A : Around} {E : Value → Shared → Prop} {s : Shared} {tg : Expr} {it : Addr} {u : Value} {o : Obj} {n : String} {vs : Array Value} {Q : Unit → Shared → Prop} (ho : s.heap.get? it = some o) (hc : o.cls = .type n) (hd : o.data = .fields vs)
    (hn : ["enumerate", "zip", "dict_itemiterator", "dict_reverseitemiterator", "odict_iterator", "itertools.zip_longest", "itertools.pairwise"].contains n = false) (hQ : Q () s) : wpAny M A (letOwnedTupleGo tg (.ref it) u) Q E s := by
  unfold letOwnedTupleGo
  cases tg <;> first
    | exact wpAny_pure hQ
    | (cases u <;> first
        | exact wpAny_pure hQ
        | (refine wpAny_bind (wpAny_load ho ?_)
           rw [hc, hd]
           show wpAny M A (if (["enumerate", "zip", "dict_itemiterator", "dict_reverseitemiterator", "odict_iterator", "itertools.zip_longest", "itertools.pairwise"].contains n && vs[0]? == some (rawInt _)) = true then _ else _) Q E s
           rw [if_neg (by intro h; rw [hn, Bool.false_and] at h; cases h)]
           exact wpAny_pure hQ))

/-- the list at a, as it stands at each turn (a loop may append to it) -/
def Itl (K : PySem.W.Frag) (a : Addr) : It :=
  ⟨fun i H => ∃ xs x, SqL K H a xs ∧ xs[i]? = some x, fun i H x H' => H' = H ∧ ∀ xs, SqL K H a xs → xs[i]? = some x, fun i H => ∃ xs, SqL K H a xs ∧ xs.length ≤ i⟩
def Itt (K : PySem.W.Frag) (a : Addr) : It :=
  ⟨fun i H => ∃ xs x, SqT K H a xs ∧ xs[i]? = some x, fun i H x H' => H' = H ∧ ∀ xs, SqT K H a xs → xs[i]? = some x, fun i H => ∃ xs, SqT K H a xs ∧ xs.length ≤ i⟩
/-- lo, lo + 1, .. (n of them) -/
def Itr (lo : Int) (n : Nat) : It := ⟨fun i _ => i < n, fun i H x H' => H' = H ∧ x = .int (lo + i), fun i _ => n ≤ i⟩
theorem turn_list {P : Program} {w : World} {K : PySem.W.Frag} {tg : Expr} (a it : Addr) : Turn P w K tg (Itl K a) [it] it (fun i h => h.IsListIter it a i) where
  mem := by simp
  obj := fun i h st b hb => by
    have e : b = it := by simpa using hb
    subst e
    obtain ⟨o, e, c, d⟩ := st
    exact ⟨o, e, fun v z => by rw [d] at z; cases z⟩
  keep := fun i h h' st k => st.at fun o e => k it (by simp) o e
  item := by
    intro X hP hw hK hc i pins s σ H E I hf st hg
    subst hP hw hK
    obtain ⟨xs, x, hq, hx⟩ := hg
    obtain ⟨its, rv, p, hz⟩ := I.list hq
    obtain ⟨u, hu, ru⟩ := rv.get hx
    obtain ⟨f0, f1, f2, f3, f4, f5⟩ := hf it (by simp)
    refine wpAny_pyNext_list_item st p.isList (x := u) (by simpa using hu) fun h' st' sb => ?_
    have I1 : Inv X pins σ H { s with heap := h' } := I.turned (t' := s.toks) (fun b o hb e => (sb.2 b hb).trans e) f0 f1 f3 f4 f5
    obtain ⟨o, e, c, d⟩ := id st'
    exact ⟨u, rfl, go_of (s := { s with heap := h' }) e c d (by decide) ⟨x, H, I1, ru, ⟨rfl, fun ys hy => by rw [I.list_inj hy hq]; exact hx⟩, st', fun b hb => (hf b hb).1⟩⟩
  done := by
    intro X hP hw hK hc i pins s σ H E I hf st hg
    subst hP hw hK
    obtain ⟨xs, hq, hx⟩ := hg
    obtain ⟨its, rv, p, hz⟩ := I.list hq
    obtain ⟨f0, f1, f2, f3, f4, f5⟩ := hf it (by simp)
    have hl := rv.length
    exact wpAny_pyNext_list_end (I.ok.hd hc) st p.isList (by simp; omega) fun h' eb => ⟨rfl, I.turned (t' := s.toks) (fun b o hb e => eb b o hb e) f0 f1 f3 f4 f5⟩
  self := fun _ _ _ _ _ st h => wpAny_pyIter_listiter st h
theorem turn_tuple {P : Program} {w : World} {K : PySem.W.Frag} {tg : Expr} (a it : Addr) : Turn P w K tg (Itt K a) [it] it (fun i h => h.IsTupleIter it a i) where
  mem := by simp
  obj := fun i h st b hb => by
    have e : b = it := by simpa using hb
    subst e
    obtain ⟨o, e, c, d⟩ := st
    exact ⟨o, e, fun v z => by rw [d] at z; cases z⟩
  keep := fun i h h' st k => st.at fun o e => k it (by simp) o e
  item := by
    intro X hP hw hK hc i pins s σ H E I hf st hg
    subst hP hw hK
    obtain ⟨xs, x, hq, hx⟩ := hg
    obtain ⟨its, rv, p, hz⟩ := I.tuple hq
    obtain ⟨u, hu, ru⟩ := rv.get hx
    obtain ⟨f0, f1, f2, f3, f4, f5⟩ := hf it (by simp)
    refine wpAny_pyNext_tuple_item st (show s.heap.IsTuple a its.toArray from p) (x := u) (by simpa using hu) fun h' st' sb => ?_
    have I1 : Inv X pins σ H { s with heap := h' } := I.turned (t' := s.toks) (fun b o hb e => (sb.2 b hb).trans e) f0 f1 f3 f4 f5
    obtain ⟨o, e, c, d⟩ := id st'
    exact ⟨u, rfl, go_of (s := { s with heap := h' }) e c d (by decide) ⟨x, H, I1, ru, ⟨rfl, fun ys hy => by rw [I.tuple_inj hy hq]; exact hx⟩, st', fun b hb => (hf b hb).1⟩⟩
  done := by
    intro X hP hw hK hc i pins s σ H E I hf st hg
    subst hP hw hK
    obtain ⟨xs, hq, hx⟩ := hg
    obtain ⟨its, rv, p, hz⟩ := I.tuple hq
    obtain ⟨f0, f1, f2, f3, f4, f5⟩ := hf it (by simp)
    have hl := rv.length
    exact wpAny_pyNext_tuple_end (I.ok.hd hc) st (show s.heap.IsTuple a its.toArray from p) (by simp; omega) fun h' eb => ⟨rfl, I.turned (t' := s.toks) (fun b o hb e => eb b o hb e) f0 f1 f3 f4 f5⟩
  self := fun _ _ _ _ _ st h => wpAny_pyIter_tupleiter st h
theorem turn_range {P : Program} {w : World} {K : PySem.W.Frag} {tg : Expr} (it : Addr) (lo : Int) (n : Nat) : Turn P w K tg (Itr lo n) [it] it (fun i h => IsRangeIter h it (lo + (i : Nat) * 1) ((n : Int) - (i : Nat)) 1) where
  mem := by simp
  obj := fun i h st b hb => by
    have e : b = it := by simpa using hb
    subst e
    exact ⟨_, st, fun v z => by
      have z' : Data.fields _ = Data.cell v := z
      cases z'⟩
  keep := fun i h h' st k => k it (by simp) _ st
  item := by
    intro X hP hw hK hc i pins s σ H E I hf st hg
    subst hP hw hK
    obtain ⟨f0, f1, f2, f3, f4, f5⟩ := hf it (by simp)
    have W := Walks.range (prog := X.prog) (w := X.w) (I.ok.hd hc) it lo 1 n
    refine W.item i s _ _ hg st fun v h' tk hv st' kk => ?_
    obtain ⟨t, rfl⟩ := hv
    have I1 : Inv X pins σ H { s with heap := h', toks := tk } := I.turned (fun b o hb e => kk b o (by simpa using hb) e) f0 f1 f3 f4 f5
    refine ⟨_, rfl, go_of (s := { s with heap := h', toks := tk }) (n := "range_iterator") st' rfl rfl (by decide) ⟨.int (lo + i), H, I1, ⟨t, ?_⟩, ⟨rfl, rfl⟩, st', fun b hb => (hf b hb).1⟩⟩
    rw [Int.mul_one]
  done := by
    intro X hP hw hK hc i pins s σ H E I hf st hg
    subst hP hw hK
    obtain ⟨f0, f1, f2, f3, f4, f5⟩ := hf it (by simp)
    exact wpAny_pyNext_range_end (I.ok.hd hc) st (by have : n ≤ i := hg; omega) fun h' eb => ⟨rfl, I.turned (t' := s.toks) (fun b o hb e => eb b o hb e) f0 f1 f3 f4 f5⟩
  self := fun _ _ _ _ _ st h => wpAny_pyIter_rangeiter st h
end L2

namespace L2
open PySem PySem.Spec PyProof.Rows
section
variable {X : Cx} {tg : Expr}
/-- a range object just made, walked -/
theorem range_it {pins : List (Addr × Obj)} {σ : St} {H : Hp} {s : Shared} {R : It → Hp → Prop} {E : Value → Shared → Prop} {lo hi : Int} {t u v : Tok} {tk : Nat} (I : Inv X pins σ H s) (h1 : -(2 ^ 62) ≤ lo) (h2 : lo < 2 ^ 62) (h3 : -(2 ^ 62) ≤ hi) (h4 : hi < 2 ^ 62)
    (q : R (Itr lo (hi - lo).toNat) H) : wpAny (model X.prog X.w) X.A (pyIter (.ref s.heap.objs.size)) (PIE X pins σ tg R) E { s with heap := s.heap.push { cls := .type "range", data := .fields #[.int lo t, .int hi u, .int 1 v] }, toks := tk } := by
  refine wpAny_pyIter_range (IsRange.new ..) (small_one h1 h2 h3 h4) ?_
  have I1 : Inv X pins σ H { s with heap := s.heap.push { cls := .type "range", data := .fields #[.int lo t, .int hi u, .int 1 v] }, toks := tk } := I.kept fun b o e => Heap.get?_push_of_some _ e
  refine ⟨(s.heap.push { cls := .type "range", data := .fields #[.int lo t, .int hi u, .int 1 v] }).objs.size, [(s.heap.push { cls := .type "range", data := .fields #[.int lo t, .int hi u, .int 1 v] }).objs.size], _, _, H, rfl,
    I1.kept (t' := tk) fun b o e => Heap.get?_push_of_some _ e, turn_range _ lo (hi - lo).toNat, ?_, fun b hb => ?_, q⟩
  · have e1 : lo + ((0 : Nat) : Int) * 1 = lo := by simp
    have e2 : (((hi - lo).toNat : Nat) : Int) - ((0 : Nat) : Int) = Builtin.Range.rangeSize lo hi 1 := by rw [rangeSize_one]; split <;> omega
    show IsRangeIter _ _ (lo + ((0 : Nat) : Int) * 1) ((((hi - lo).toNat : Nat) : Int) - ((0 : Nat) : Int)) 1
    rw [e1, e2]
    exact Heap.get?_push_size _ rfl
  · have e : b = (s.heap.push { cls := .type "range", data := .fields #[.int lo t, .int hi u, .int 1 v] }).objs.size := by simpa using hb
    subst e
    exact I1.fpOk (Nat.le_refl _) (I1.hok.fresh (Nat.le_refl _))
def iRng1 (ta : TA) : TI := fun σ H R => ta σ H fun vs H1 => ∃ j : Int, vs = [.int j] ∧ -(2 ^ 62) ≤ j ∧ j < 2 ^ 62 ∧ R (Itr 0 j.toNat) H1
theorem pi_range1 {a : Expr} {ta : TA} {p pos : Pos} (hg : Gl X "range") (hm : X.mg "range" = none) (ha : PA X [a] ta) (hs : starEach [a] X.env = [(false, eval a X.env)] := by rfl) : PI X tg (.Call (.Name "range" p) [a] [] pos) (iRng1 ta) := by
  intro pins s σ H R I h
  refine Call_ (ld_blt I hg hm boot_range (PyProof.Rows.callWith_type1 (thn (ha pos pins s σ H _ I h) fun us s1 ⟨vs, H1, I1, r1, q1⟩ => ?_) hs rfl))
  obtain ⟨j, e, q1, q2, q⟩ := q1
  subst e
  cases r1 with
  | cons r rr =>
    cases rr
    obtain ⟨t, rfl⟩ := r
    exact call_range_1 (range_it I1 (by omega) (by omega) q1 q2 (by simpa using q))
/-! ### for -/
/-- W: the invariant by the turn and a measure; N: what the body is to reach -/
def tFor (wi : TI) (g : TG) (tb : TS) : TS := fun D σ H => wi σ H fun J H1 => ∃ W : Nat → Nat → St → Hp → Prop, (∃ m, W 0 m σ H1) ∧ ∀ i m σ H, W i m σ H →
  (J.stop i H ∧ D.nx σ H) ∨ (J.go i H ∧ ∃ N : St → Hp → Prop, (∀ σ' H', N σ' H' → ∃ m', m' < m ∧ W (i + 1) m' σ' H') ∧ ∀ x H', J.yld i H x H' → g x σ H' fun σ2 H2 => tb { D with nx := N, ct := N, bk := D.nx } σ2 H2)
/-- the records at fp as they stand -/
def pinsAt (fp : List Addr) (h : Heap) : List (Addr × Obj) := fp.filterMap fun b => (h.get? b).map fun o => (b, o)
theorem mem_pinsAt {fp : List Addr} {h : Heap} {b : Addr} {o : Obj} (hb : b ∈ fp) (e : h.get? b = some o) : (b, o) ∈ pinsAt fp h := List.mem_filterMap.mpr ⟨b, hb, by rw [e]; rfl⟩
theorem of_pinsAt {fp : List Addr} {h : Heap} {p : Addr × Obj} (hp : p ∈ pinsAt fp h) : p.1 ∈ fp ∧ h.get? p.1 = some p.2 := by
  obtain ⟨b, hb, e⟩ := List.mem_filterMap.mp hp
  cases q : h.get? b with
  | none => rw [q] at e; cases e
  | some o =>
    rw [q] at e
    have e' : (b, o) = p := Option.some.inj e
    subst e'
    exact ⟨hb, q⟩
theorem Inv.pinned {pins : List (Addr × Obj)} {σ : St} {H : Hp} {s : Shared} {fp : List Addr} (I : Inv X pins σ H s) (hf : ∀ b ∈ fp, FpOk X pins H b) (ho : ∀ b ∈ fp, ∃ o, s.heap.get? b = some o ∧ ∀ v, o.data ≠ .cell v) : Inv X (pins ++ pinsAt fp s.heap) σ H s :=
  I.pins_of fun p hp => (List.mem_append.mp hp).elim (fun z => I.pin p (List.mem_append_right _ z)) fun z => by
    obtain ⟨hb, e⟩ := of_pinsAt z
    obtain ⟨f0, f1, f2, _⟩ := hf p.1 hb
    obtain ⟨o, e', d⟩ := ho p.1 hb
    rw [e] at e'; cases e'
    exact ⟨e, f0, f1, f2, d⟩
theorem Inv.unpinned {pins pl : List (Addr × Obj)} {σ : St} {H : Hp} {s : Shared} (I : Inv X (pins ++ pl) σ H s) : Inv X pins σ H s := I.pins_of fun p hp => I.pin p (List.mem_append_right _ (List.mem_append_left _ hp))
theorem ps_for {iter : Expr} {body : List Stmt} {wi : TI} {g : TG} {tb : TS} {pos : Pos} (hp : PassesOwn (model X.prog X.w) X.A X.env X.xe) (hc : X.calm = true) (hi : PI X tg iter wi) (hg : PG X tg g) (hb : PSs X body tb)
    (hs : ∀ x, foldedSetIterable iter X.env x = pure x := by intro _; rfl) : PS X (.For tg iter body [] pos) (tFor wi g tb) := by
  intro pins s σ H D I h
  refine wpAny_For (thn (hi pins s σ H _ I h) fun v s1 h1 => thn h1 fun itv s2 h2 => ?_) hs
  obtain ⟨it, fp, tn, J, H2, e, I2, T, st2, f2, W, ⟨m0, w0⟩, turn⟩ := h2
  subst e
  -- what stays true of the iterator's objects through the loop
  have stat : ∀ {H' : Hp}, (∀ b ∈ fp, H' b = none) → ∀ b ∈ fp, FpOk X pins H' b := fun hn b hb => ⟨hn b hb, (f2 b hb).2⟩
  refine codeAny_forLoop_any (fun n s' => ∃ i σ' H', Inv X pins σ' H' s' ∧ tn i s'.heap ∧ (∀ b ∈ fp, H' b = none) ∧ W i n σ' H') ?_ m0 ⟨0, σ, H2, I2, st2, fun b hb => (f2 b hb).1, w0⟩
  rintro n s3 ⟨i, σ3, H3, I3, st3, fr3, w3⟩
  rcases turn i n σ3 H3 w3 with ⟨stop, qn⟩ | ⟨go, N, hN, step⟩
  · refine wpAny_passesOwn hp (thn (T.done X rfl rfl rfl hc i pins s3 σ3 H3 X.xe I3 (stat fr3) st3 stop) fun r s4 ⟨hr, I4⟩ => ?_)
    subst hr
    exact wpAny_execs_nil ⟨σ3, H3, I4, qn⟩
  · refine wpAny_passesOwn hp (thn (T.item X rfl rfl rfl hc i pins s3 σ3 H3 X.xe I3 (stat fr3) st3 go) fun r s4 ⟨u, hr, h4⟩ => ?_)
    subst hr
    refine wpAny_passesOwn hp (thn h4 fun _ s5 ⟨x, H5, I5, r5, y5, st5, fr5⟩ => ?_)
    have I5' := I5.pinned (stat fr5) (T.obj _ _ st5)
    refine wpAny_passesOwn hp (thn (hg _ s5 σ3 H5 x u _ I5' r5 (step x H5 y5)) fun _ s6 ⟨σ6, H6, I6, q6⟩ => ?_)
    refine wpAny_passesOwn hp (thn (hb _ s6 σ6 H6 _ I6 q6) fun f s7 q7 => ?_)
    have again : ∀ {σ7 : St} {H7 : Hp}, Inv X (pins ++ pinsAt fp s5.heap) σ7 H7 s7 → N σ7 H7 → ∃ m, m < n ∧ ∃ i σ' H', Inv X pins σ' H' s7 ∧ tn i s7.heap ∧ (∀ b ∈ fp, H' b = none) ∧ W i m σ' H' := fun {σ7 H7} I7 n7 => by
      obtain ⟨m', hm, w7⟩ := hN σ7 H7 n7
      refine ⟨m', hm, i + 1, σ7, H7, I7.unpinned, T.keep _ _ _ st5 fun b hb o e => (I7.pin (b, o) (List.mem_append_right _ (List.mem_append_right _ (mem_pinsAt hb e)))).1, fun b hb => ?_, w7⟩
      obtain ⟨o, e, d⟩ := T.obj _ _ st5 b hb
      exact (I7.pin (b, o) (List.mem_append_right _ (List.mem_append_right _ (mem_pinsAt hb e)))).2.1
    cases f with
    | next => obtain ⟨σ7, H7, I7, n7⟩ := q7; exact again I7 n7
    | cont => obtain ⟨σ7, H7, I7, n7⟩ := q7; exact again I7 n7
    | brk => obtain ⟨σ7, H7, I7, q7⟩ := q7; exact ⟨σ7, H7, I7.unpinned, q7⟩
    | ret v => obtain ⟨x7, σ7, H7, I7, r7, q7⟩ := q7; exact ⟨x7, σ7, H7, I7.unpinned, r7, q7⟩
end

/-! ### the forms one uses -/
end L2

namespace L2
open PySem PySem.Spec PyProof.Rows

abbrev R2 := V → V → Hp → VK → Prop
/-- a two-place operation on values: f is binaryOp op, inplaceOp op or compareOp op -/
def OpR (X : Cx) (f : Value → Value → Sem Value) (r : R2) : Prop :=
  ∀ (pins : List (Addr × Obj)) (s : Shared) (σ : St) (H : Hp) (x y : V) (v u : Value) (Q : VK), Inv X pins σ H s → RelV x v → RelV y u → r x y H Q →
    wpAny (model X.prog X.w) X.A (f v u) (EP X pins σ Q) X.xe s
/-- a one-place operation -/
def UnR (X : Cx) (f : Value → Sem Value) (r : V → Hp → VK → Prop) : Prop :=
  ∀ (pins : List (Addr × Obj)) (s : Shared) (σ : St) (H : Hp) (x : V) (v : Value) (Q : VK), Inv X pins σ H s → RelV x v → r x H Q →
    wpAny (model X.prog X.w) X.A (f v) (EP X pins σ Q) X.xe s
/-- a call of a value that is known (a builtin, a type) with values -/
def CallR (X : Cx) (f : Value) (r : List V → Hp → VK → Prop) : Prop :=
  ∀ (pins : List (Addr × Obj)) (s : Shared) (σ : St) (H : Hp) (xs : List V) (us : List Value) (Q : VK), Inv X pins σ H s → Vals xs us → r xs H Q →
    wpAny (model X.prog X.w) X.A (call f us) (EP X pins σ Q) X.xe s
/-- a value's truth -/
def TruR (X : Cx) (r : V → Hp → (Bool → Hp → Prop) → Prop) : Prop :=
  ∀ (pins : List (Addr × Obj)) (s : Shared) (σ : St) (H : Hp) (x : V) (v : Value) (Q : Bool → Hp → Prop), Inv X pins σ H s → RelV x v → r x H Q →
    wpAny (model X.prog X.w) X.A (truthy v) (TP X pins σ Q) X.xe s

def tOp (r : R2) (ta tb : TE) : TE := fun σ H Q => ta σ H fun x H1 => tb σ H1 fun y H2 => r x y H2 Q
def tUn (r : V → Hp → VK → Prop) (ta : TE) : TE := fun σ H Q => ta σ H fun x H1 => r x H1 Q
/-- ints in, under C, and a value out -/
def rI (C : Int → Int → Prop) (g : Int → Int → V) : R2 := fun x y H Q => ∃ i j, x = .int i ∧ y = .int j ∧ C i j ∧ Q (g i j) H
def rI0 (g : Int → Int → V) : R2 := fun x y H Q => ∃ i j, x = .int i ∧ y = .int j ∧ Q (g i j) H
def rU (g : Int → V) : V → Hp → VK → Prop := fun x H Q => ∃ i, x = .int i ∧ Q (g i) H

section
variable {X : Cx} {a b c : Expr} {ta tb tc : TE} {pos : Pos}

theorem binT (ha : PE X a ta) (hb : PE X b tb) {pins : List (Addr × Obj)} {s : Shared} {σ : St} {H : Hp} {R : V → V → Hp → Prop} (I : Inv X pins σ H s)
    (h : ta σ H fun x H1 => tb σ H1 fun y H2 => R x y H2) {Q : Value → Shared → Prop} {f : Value → Value → Sem Value}
    (hf : ∀ v u s2 x y H2, Inv X pins σ H2 s2 → RelV x v → RelV y u → R x y H2 → wpAny (model X.prog X.w) X.A (f v u) Q X.xe s2) :
    wpAny (model X.prog X.w) X.A (eval a X.env) (fun v s₁ => wpAny (model X.prog X.w) X.A (eval b X.env) (fun u s₂ => wpAny (model X.prog X.w) X.A (f v u) Q X.xe s₂) X.xe s₁) X.xe s := by
  refine thn (ha pins s σ H _ I h) fun v s1 ⟨x, H1, I1, r1, q1⟩ => ?_
  refine thn (hb pins s1 σ H1 _ I1 q1) fun u s2 ⟨y, H2, I2, r2, q2⟩ => ?_
  exact hf v u s2 x y H2 I2 r1 r2 q2

theorem pe_op {op : Operator} {r : R2} (ho : OpR X (binaryOp op) r) (ha : PE X a ta) (hb : PE X b tb) : PE X (.BinOp a op b pos) (tOp r ta tb) := by
  intro pins s σ H Q I h
  exact wpAny_BinOp (binT ha hb I h fun v u s2 x y H2 I2 rx ry q => ho pins s2 σ H2 x y v u Q I2 rx ry q)
theorem pe_un {op : UnaryOp} {r : V → Hp → VK → Prop} (ho : UnR X (unaryOp op) r) (ha : PE X a ta) : PE X (.UnaryOp op a pos) (tUn r ta) := by
  intro pins s σ H Q I h
  exact UnaryOp_ (thn (ha pins s σ H _ I h) fun v s1 ⟨x, H1, I1, r1, q1⟩ => ho pins s1 σ H1 x v Q I1 r1 q1)
/-! ### ints -/
theorem opI {f : Value → Value → Sem Value} {C : Int → Int → Prop} {g : Int → Int → Int}
    (rule : ∀ (i j : Int) (t u : Tok) (s : Shared) (Q : Value → Shared → Prop) (E : Value → Shared → Prop), C i j → Q (.int (g i j) s.toks) { s with toks := s.toks + 1 } → wpAny (model X.prog X.w) X.A (f (.int i t) (.int j u)) Q E s) :
    OpR X f (rI C fun i j => .int (g i j)) := by
  intro pins s σ H x y v u Q I rx ry h
  obtain ⟨i, j, rfl, rfl, hc, q⟩ := h
  obtain ⟨t, rfl⟩ := rx
  obtain ⟨t', rfl⟩ := ry
  exact rule i j t t' s _ _ hc ⟨.int (g i j), H, I.tok _, ⟨_, rfl⟩, q⟩
theorem opI0 {f : Value → Value → Sem Value} {g : Int → Int → Int}
    (rule : ∀ (i j : Int) (t u : Tok) (s : Shared) (Q : Value → Shared → Prop) (E : Value → Shared → Prop), Q (.int (g i j) s.toks) { s with toks := s.toks + 1 } → wpAny (model X.prog X.w) X.A (f (.int i t) (.int j u)) Q E s) :
    OpR X f (rI0 fun i j => .int (g i j)) := by
  intro pins s σ H x y v u Q I rx ry h
  obtain ⟨i, j, rfl, rfl, q⟩ := h
  obtain ⟨t, rfl⟩ := rx
  obtain ⟨t', rfl⟩ := ry
  exact rule i j t t' s _ _ ⟨.int (g i j), H, I.tok _, ⟨_, rfl⟩, q⟩
theorem opB0 {f : Value → Value → Sem Value} {g : Int → Int → Bool}
    (rule : ∀ (i j : Int) (t u : Tok) (s : Shared) (Q : Value → Shared → Prop) (E : Value → Shared → Prop), Q (.bool (g i j)) s → wpAny (model X.prog X.w) X.A (f (.int i t) (.int j u)) Q E s) :
    OpR X f (rI0 fun i j => .bl (g i j)) := by
  intro pins s σ H x y v u Q I rx ry h
  obtain ⟨i, j, rfl, rfl, q⟩ := h
  obtain ⟨t, rfl⟩ := rx
  obtain ⟨t', rfl⟩ := ry
  exact rule i j t t' s _ _ ⟨.bl (g i j), H, I, rfl, q⟩

def CDiv (i j : Int) : Prop := 0 < j ∧ j < 1073741824
def CPow (i j : Int) : Prop := 0 ≤ j ∧ j ≤ 1000000 ∧ i.natAbs < 2 ^ 64
def CMul (i j : Int) : Prop := (-(2 ^ 64) < i ∧ i < 2 ^ 64) ∨ (-(2 ^ 64) < j ∧ j < 2 ^ 64)
theorem CMul.ok {i j : Int} (h : CMul i j) : IntMulOk i j := by
  rcases h with ⟨h1, h2⟩ | ⟨h1, h2⟩
  · exact .of_left (intBits_le_64 h1 h2)
  · exact .of_right (intBits_le_64 h1 h2)
theorem op_add : OpR X (binaryOp .Add) (rI0 fun i j => .int (i + j)) := opI0 fun _ _ _ _ _ _ _ q => add_int q
theorem op_sub : OpR X (binaryOp .Sub) (rI0 fun i j => .int (i - j)) := opI0 fun _ _ _ _ _ _ _ q => sub_int q
theorem op_mul : OpR X (binaryOp .Mult) (rI CMul fun i j => .int (i * j)) := opI fun _ _ _ _ _ _ _ hc q => mul_int q hc.ok
/-- // by a positive divisor -/
theorem op_fdiv : OpR X (binaryOp .FloorDiv) (rI CDiv fun i j => .int (i / j)) := opI fun i j _ _ _ _ _ hc q => by
  have h1 : (0 : Int) < j := hc.1
  have h2 : j < 1073741824 := hc.2
  exact floordiv_int (by omega) (by rw [Int.fdiv_eq_ediv_of_nonneg i (by omega)]; exact q) (.inl (PyProof.noPylong_small (by omega)))
/-- % by a positive divisor of any size -/
theorem op_mod : OpR X (binaryOp .Mod) (rI (fun _ j => 0 < j) fun i j => .int (i % j)) := opI fun i j _ _ _ _ _ hc q => by
  have h1 : (0 : Int) < j := hc
  exact mod_int' (by omega) (by rw [Int.fmod_eq_emod_of_nonneg i (by omega)]; exact q)
theorem op_pow : OpR X (binaryOp .Pow) (rI CPow fun i j => .int (i ^ j.toNat)) := opI fun _ _ _ _ _ _ _ hc q => pow_int_small hc.1 hc.2.1 hc.2.2 q
theorem op_shl : OpR X (binaryOp .LShift) (rI CPow fun i j => .int (i * 2 ^ j.toNat)) := opI fun _ _ _ _ _ _ _ hc q => lshift_int_small hc.1 hc.2.1 hc.2.2 q
theorem unI {f : Value → Sem Value} {g : Int → Int}
    (rule : ∀ (i : Int) (t : Tok) (s : Shared) (Q : Value → Shared → Prop) (E : Value → Shared → Prop), Q (.int (g i) s.toks) { s with toks := s.toks + 1 } → wpAny (model X.prog X.w) X.A (f (.int i t)) Q E s) :
    UnR X f (rU fun i => .int (g i)) := by
  intro pins s σ H x v Q I rx h
  obtain ⟨i, rfl, q⟩ := h
  obtain ⟨t, rfl⟩ := rx
  exact rule i t s _ _ ⟨.int (g i), H, I.tok _, ⟨_, rfl⟩, q⟩
theorem un_neg : UnR X (unaryOp .USub) (rU fun i => .int (-i)) := unI fun _ _ _ _ _ q => neg_int q
/-! ### bools among ints: n += (a < b) -/
end

/-! ### comparisons -/
section
variable {X : Cx} {a b c : Expr} {ta tb tc : TE} {pos : Pos}
theorem fin_bl {pins : List (Addr × Obj)} {σ : St} {H : Hp} {s : Shared} {Q : VK} {k k' : Bool} (I : Inv X pins σ H s) (q : Q (.bl k) H) (e : k = k') : EP X pins σ Q (.bool k') s := by
  subst e
  exact ⟨.bl k, H, I, rfl, q⟩
theorem op_lt : OpR X (compareOp .Lt) (rI0 fun i j => .bl (decide (i < j))) := opB0 fun _ _ _ _ _ _ _ q => lt_int q
theorem op_le : OpR X (compareOp .LtE) (rI0 fun i j => .bl (decide (i ≤ j))) := opB0 fun _ _ _ _ _ _ _ q => le_int q
theorem op_ge : OpR X (compareOp .GtE) (rI0 fun i j => .bl (decide (j ≤ i))) := opB0 fun _ _ _ _ _ _ _ q => ge_int q
/-- the one string within the other -/
theorem op_in_str : OpR X (compareOp .In) (fun x y H Q => ∃ i j, x = .str i ∧ y = .str j ∧ Q (.bl (!(Builtin.Str.occurrences j i 0 j.length 1).isEmpty)) H) := by
  intro pins s σ H x y v u Q I rx ry h
  obtain ⟨i, j, rfl, rfl, q⟩ := h
  obtain ⟨t, rfl⟩ := rx
  obtain ⟨t', rfl⟩ := ry
  exact in_str (fin_bl I q rfl)

/-- is None, is not None: the right side a value none -/
theorem op_isN : OpR X (compareOp .Is) (fun x y H Q => y = .non ∧ Q (.bl (decide (x = .non))) H) := by
  intro pins s σ H x y v u Q I rx ry h
  obtain ⟨rfl, q⟩ := h
  cases ry
  refine is_none_gen (fin_bl I q ?_)
  cases x <;> first
    | (cases rx; rfl)
    | (obtain ⟨t, rfl⟩ := rx; rfl)
theorem op_notN : OpR X (compareOp .IsNot) (fun x y H Q => y = .non ∧ Q (.bl (!decide (x = .non))) H) := by
  intro pins s σ H x y v u Q I rx ry h
  obtain ⟨rfl, q⟩ := h
  cases ry
  refine isnot_none_gen (fin_bl I q ?_)
  cases x <;> first
    | (cases rx; rfl)
    | (obtain ⟨t, rfl⟩ := rx; rfl)

theorem op_notin_str : OpR X (compareOp .NotIn) (fun x y H Q => ∃ i j, x = .str i ∧ y = .str j ∧ Q (.bl (!(!(Builtin.Str.occurrences j i 0 j.length 1).isEmpty))) H) := by
  intro pins s σ H x y v u Q I rx ry h
  obtain ⟨i, j, rfl, rfl, q⟩ := h
  obtain ⟨t, rfl⟩ := rx
  obtain ⟨t', rfl⟩ := ry
  exact notIn_str (fin_bl I q rfl)
/-- two rules for one operation: by cases -/
theorem OpR.or {f : Value → Value → Sem Value} {r r' : R2} (h : OpR X f r) (h' : OpR X f r') : OpR X f (fun x y H Q => r x y H Q ∨ r' x y H Q) := by
  intro pins s σ H x y v u Q I rx ry q
  rcases q with q | q
  · exact h pins s σ H x y v u Q I rx ry q
  · exact h' pins s σ H x y v u Q I rx ry q

theorem nomark (b : Expr) {op : CmpOp} (h : op ≠ .In := by decide) (h2 : op ≠ .NotIn := by decide) : behindInMarks op b = false := by
  have e1 : (op == CmpOp.In) = false := by cases op <;> first | rfl | exact absurd rfl h
  have e2 : (op == CmpOp.NotIn) = false := by cases op <;> first | rfl | exact absurd rfl h2
  cases b <;> simp [behindInMarks, e1, e2]
/-- a comparison as a value; hm: nomark b, or (for in, not in) by with_unfolding_all rfl -/
theorem pe_cmpR {op : CmpOp} {r : R2} (ho : OpR X (compareOp op) r) (ha : PE X a ta) (hb : PE X b tb) (hm : behindInMarks op b = false) : PE X (.Compare a [op] [b] pos) (tOp r ta tb) := by
  intro pins s σ H Q I h
  exact wpAny_Compare1 (binT ha hb I h fun v u s2 x y H2 I2 rx ry q => ho pins s2 σ H2 x y v u Q I2 rx ry q) hm
/-- a reading of a value as a test -/
def tTest (t : TE) : TT := fun σ H Q => t σ H fun x H' => ∃ k, x = .bl k ∧ Q k H'
theorem pt_cmpR {op : CmpOp} {r : R2} (ho : OpR X (compareOp op) r) (ha : PE X a ta) (hb : PE X b tb) (hm : behindInMarks op b = false) : PT X (.Compare a [op] [b] pos) (tTest (tOp r ta tb)) := by
  intro pins s σ H Q I h
  refine wpAny_isTrue_Compare1 (thn (ha pins s σ H _ I h) fun v s1 ⟨x, H1, I1, r1, q1⟩ => thn (hb pins s1 σ H1 _ I1 q1) fun u s2 ⟨y, H2, I2, r2, q2⟩ =>
    thn (ho pins s2 σ H2 x y v u _ I2 r1 r2 q2) fun c s3 ⟨z, H3, I3, r3, k, e, q3⟩ => ?_) hm
  subst e
  cases r3
  exact wpAny_truthy_bool ⟨H3, I3, q3⟩
/-- a op1 b op2 c -/
def tChain (r r' : R2) (ta tb tc : TE) : TE := fun σ H Q => ta σ H fun x H1 => tb σ H1 fun y H2 => r x y H2 fun z H3 => ∃ k, z = .bl k ∧
  (if k = true then tc σ H3 fun w' H4 => r' y w' H4 Q else Q (.bl false) H3)
theorem pe_chain {op op' : CmpOp} {r r' : R2} (ho : OpR X (compareOp op) r) (ho' : OpR X (compareOp op') r') (ha : PE X a ta) (hb : PE X b tb) (hc : PE X c tc)
    (hm : lastMarks [op, op'] [b, c] = false := by with_unfolding_all rfl) : PE X (.Compare a [op, op'] [b, c] pos) (tChain r r' ta tb tc) := by
  intro pins s σ H Q I h
  refine Compare_chain (thn (ha pins s σ H _ I h) fun v s1 ⟨x, H1, I1, r1, q1⟩ => chain_link (thn (hb pins s1 σ H1 _ I1 q1) fun u s2 ⟨y, H2, I2, r2, q2⟩ =>
    thn (ho pins s2 σ H2 x y v u _ I2 r1 r2 q2) fun d s3 ⟨z, H3, I3, r3, k, e, q3⟩ => ?_)) hm
  subst e
  cases r3
  refine wpAny_truthy_bool ?_
  cases k with
  | false => exact ite_ff ⟨.bl false, H3, I3, rfl, q3⟩
  | true => exact ite_tt (chain_last (thn (hc pins s3 σ H3 _ I3 q3) fun w' s4 ⟨z', H4, I4, r4, q4⟩ => ho' pins s4 σ H4 y z' u w' Q I4 r2 r4 q4))
/-! ### truth -/
/-- a value's truth by the abstract heap -/
def TruV (K : PySem.W.Frag) (x : V) (H : Hp) (k : Bool) : Prop :=
  match x with
  | .non => k = false
  | .bl b => k = b
  | .int i => k = (i != 0)
  | .str y => y.length ≤ sizeLine ∧ k = ((y.length : Int) != 0)
  | .byt y => y.size ≤ sizeLine ∧ k = ((y.size : Int) != 0)
  | .ref p => (∃ xs, SqL K H p xs ∧ k = !xs.isEmpty) ∨ (∃ xs, SqT K H p xs ∧ k = !xs.isEmpty) ∨ ∃ kvs, H p = some (.dK kvs) ∧ k = !kvs.isEmpty
  | _ => False
theorem isEmpty_kv {κ : Type} {kvs : List (κ × V)} {vs : List (κ × Value)} (r : KV kvs vs) : (!vs.isEmpty) = !kvs.isEmpty := by
  cases r <;> rfl
theorem isEmpty_of {xs : List V} {its : List Value} (r : Vals xs its) : (!its.toArray.isEmpty) = !xs.isEmpty := by
  cases r <;> simp
theorem line63 : (sizeLine : Nat) < 2 ^ 63 := by rw [sizeLine_eq]; decide
theorem tru_ok : TruR X (fun x H Q => ∃ k, TruV X.K x H k ∧ Q k H) := by
  intro pins s σ H x v Q I rx h
  obtain ⟨k, e, q⟩ := h
  have hl := line63
  have hs : sizeLine = 16777216 := sizeLine_eq
  cases x with
  | non =>
    cases rx
    have e' : k = false := e
    subst e'
    exact truthy_none ⟨H, I, q⟩
  | bl b =>
    cases rx
    have e' : k = b := e
    subst e'
    exact wpAny_truthy_bool ⟨H, I, q⟩
  | int i =>
    obtain ⟨t, rfl⟩ := rx
    have e' : k = (i != 0) := e
    subst e'
    exact PySem.P.truthy_int ⟨H, I, q⟩
  | str y =>
    obtain ⟨t, rfl⟩ := rx
    obtain ⟨hy, e'⟩ : y.length ≤ sizeLine ∧ k = ((y.length : Int) != 0) := e
    subst e'
    exact PySem.P.truthy_str (by omega) ⟨H, I.tok _, q⟩
  | byt y =>
    obtain ⟨t, rfl⟩ := rx
    obtain ⟨hy, e'⟩ : y.size ≤ sizeLine ∧ k = ((y.size : Int) != 0) := e
    subst e'
    exact PySem.W.truthy_bytes (by omega) ⟨H, I.tok _, q⟩
  | ref p =>
    cases rx
    have e' : (∃ xs, SqL X.K H p xs ∧ k = !xs.isEmpty) ∨ (∃ xs, SqT X.K H p xs ∧ k = !xs.isEmpty) ∨ ∃ kvs, H p = some (.dK kvs) ∧ k = !kvs.isEmpty := e
    rcases e' with ⟨xs, hx, e'⟩ | ⟨xs, hx, e'⟩ | ⟨kvs, hx, e'⟩
    · subst e'
      obtain ⟨its, r, pl, hz⟩ := I.list hx
      have hlen := r.length
      exact wpAny_truthy_list pl.isList (by simp only [List.size_toArray]; omega) ⟨H, I.tok _, by rw [isEmpty_of r]; exact q⟩
    · subst e'
      obtain ⟨its, r, pl, hz⟩ := I.tuple hx
      have hlen := r.length
      exact truthy_tuple pl (by simp only [List.size_toArray]; omega) ⟨H, I.tok _, by rw [isEmpty_of r]; exact q⟩
    · subst e'
      obtain ⟨hz, hS, vs, r, m⟩ : kvs.length ≤ sizeLine ∧ (p == sysModules) = false ∧ ∃ vs, KV kvs vs ∧ s.heap.DictOf (mixKind X.prog X.w) p vs := I.hok p _ hx
      have hlen : kvs.length = vs.length := Paired.length r
      exact wpAny_truthy_dict hS m (by omega) ⟨H, I.tok _, by rw [isEmpty_kv r]; exact q⟩
  | _ => exact (show False from e).elim
/-- any expression whose test is its value's truth (a name, a call, a subscript, a field ..: he by fun _ => rfl) -/
theorem pt_truth (ha : PE X a ta) (he : ∀ whole, isTrue a X.env whole = (do let v ← whole; standAt a.pos; holding [v] (truthy v))) :
    PT X a (fun σ H Q => ta σ H fun x H' => ∃ k, TruV X.K x H' k ∧ Q k H') := by
  intro pins s σ H Q I h
  exact isTrue_plain (thn (ha pins s σ H _ I h) fun v s1 ⟨x, H1, I1, r1, q1⟩ => tru_ok pins s1 σ H1 x v Q I1 r1 q1) (he _)

/-! ### strs and bytes -/
theorem op_add_str : OpR X (binaryOp .Add) (fun x y H Q => ∃ i j, x = .str i ∧ y = .str j ∧ i.length + j.length ≤ sizeLine ∧ Q (.str (i ++ j)) H) := by
  intro pins s σ H x y v u Q I rx ry h
  obtain ⟨i, j, rfl, rfl, hz, q⟩ := h
  obtain ⟨t, rfl⟩ := rx
  obtain ⟨t', rfl⟩ := ry
  exact add_str (fun t' tk => ⟨.str (i ++ j), H, I.tok _, ⟨_, rfl⟩, q⟩) hz
/-! ### scalar builtins, by CallR -/
theorem vals1 {x : V} {us : List Value} (r : Vals [x] us) : ∃ u, us = [u] ∧ RelV x u := by
  cases r with
  | cons r1 r2 => cases r2; exact ⟨_, rfl, r1⟩
theorem vals2 {x y : V} {us : List Value} (r : Vals [x, y] us) : ∃ u w', us = [u, w'] ∧ RelV x u ∧ RelV y w' := by
  cases r with
  | cons r1 r2 =>
    cases r2 with
    | cons r3 r4 => cases r4; exact ⟨_, _, rfl, r1, r3⟩
theorem call_max2 (hc : X.calm = true) : CallR X (.builtin "max") (fun xs H Q => ∃ i j, xs = [.int i, .int j] ∧ Q (.int (if j > i then j else i)) H) := by
  intro pins s σ H xs us Q I r h
  obtain ⟨i, j, rfl, q⟩ := h
  obtain ⟨u, w', rfl, ⟨t, rfl⟩, ⟨t', rfl⟩⟩ := vals2 r
  refine max_two_ints (I.ok.hd hc) fun h' tk k => ⟨_, H, I.kept k, ?_, q⟩
  by_cases hj : j > i
  · rw [if_pos hj, if_pos hj]; exact ⟨_, rfl⟩
  · rw [if_neg hj, if_neg hj]; exact ⟨_, rfl⟩
theorem call_min2 (hc : X.calm = true) : CallR X (.builtin "min") (fun xs H Q => ∃ i j, xs = [.int i, .int j] ∧ Q (.int (if j < i then j else i)) H) := by
  intro pins s σ H xs us Q I r h
  obtain ⟨i, j, rfl, q⟩ := h
  obtain ⟨u, w', rfl, ⟨t, rfl⟩, ⟨t', rfl⟩⟩ := vals2 r
  refine min_two_ints (I.ok.hd hc) fun h' tk k => ⟨_, H, I.kept k, ?_, q⟩
  by_cases hj : j < i
  · rw [if_pos hj, if_pos hj]; exact ⟨_, rfl⟩
  · rw [if_neg hj, if_neg hj]; exact ⟨_, rfl⟩
theorem call_int1 : CallR X (.type "int") (fun xs H Q => (∃ i, xs = [.int i] ∧ Q (.int i) H) ∨ ∃ k, xs = [.bl k] ∧ Q (.int (if k then 1 else 0)) H) := by
  intro pins s σ H xs us Q I r h
  rcases h with ⟨i, rfl, q⟩ | ⟨k, rfl, q⟩
  · obtain ⟨u, rfl, t, rfl⟩ := vals1 r
    exact call_int_int ⟨.int i, H, I, ⟨_, rfl⟩, q⟩
  · obtain ⟨u, rfl, r1⟩ := vals1 r
    cases r1
    exact call_int_bool ⟨.int (if k then 1 else 0), H, I.tok _, ⟨_, rfl⟩, q⟩
theorem call_str_int : CallR X (.type "str") (fun xs H Q => ∃ i, xs = [.int i] ∧ i.natAbs.log2 < 1920 ∧ Q (.str (toString i)) H) := by
  intro pins s σ H xs us Q I r h
  obtain ⟨i, rfl, hz, q⟩ := h
  obtain ⟨u, rfl, t, rfl⟩ := vals1 r
  exact PySem.P.str_of_int hz ⟨.str _, H, I.tok _, ⟨_, rfl⟩, q⟩
/-- len of a str, a bytes, a list, a tuple -/
def LenV (K : PySem.W.Frag) (x : V) (H : Hp) (n : Nat) : Prop :=
  match x with
  | .str y => y.length ≤ sizeLine ∧ n = y.length
  | .byt y => y.size ≤ sizeLine ∧ n = y.size
  | .ref p => (∃ xs, SqL K H p xs ∧ n = xs.length) ∨ ∃ xs, SqT K H p xs ∧ n = xs.length
  | _ => False
theorem call_len : CallR X (.builtin "len") (fun xs H Q => ∃ x n, xs = [x] ∧ LenV X.K x H n ∧ Q (.int n) H) := by
  intro pins s σ H xs us Q I r h
  obtain ⟨x, n, rfl, e, q⟩ := h
  obtain ⟨u, rfl, rx⟩ := vals1 r
  have hl := line63
  have hs : sizeLine = 16777216 := sizeLine_eq
  cases x with
  | str y =>
    obtain ⟨t, rfl⟩ := rx
    obtain ⟨hy, e'⟩ : y.length ≤ sizeLine ∧ n = y.length := e
    subst e'
    exact len_str (by omega) ⟨.int _, H, I.tok _, ⟨_, rfl⟩, q⟩
  | byt y =>
    obtain ⟨t, rfl⟩ := rx
    obtain ⟨hy, e'⟩ : y.size ≤ sizeLine ∧ n = y.size := e
    subst e'
    exact PySem.W.len_bytes (by omega) ⟨.int _, H, I.tok _, ⟨_, rfl⟩, q⟩
  | ref p =>
    cases rx
    have e' : (∃ xs, SqL X.K H p xs ∧ n = xs.length) ∨ ∃ xs, SqT X.K H p xs ∧ n = xs.length := e
    rcases e' with ⟨xs, hx, e'⟩ | ⟨xs, hx, e'⟩
    · subst e'
      obtain ⟨its, r', pl, hz⟩ := I.list hx
      have hlen := r'.length
      exact Calls.call_len_list pl.isList (by simp only [List.size_toArray]; omega) ⟨.int xs.length, H, I.tok _, ⟨_, by simp only [List.size_toArray]; rw [hlen]⟩, q⟩
    · subst e'
      obtain ⟨its, r', pl, hz⟩ := I.tuple hx
      have hlen := r'.length
      exact len_tuple pl (by simp only [List.size_toArray]; omega) ⟨.int xs.length, H, I.tok _, ⟨_, by simp only [List.size_toArray]; rw [hlen]⟩, q⟩
  | _ => exact (show False from e).elim
end
end L2

namespace L2
open PySem PySem.Spec PyProof.Rows

/-! ### an instance, its attributes a map -/
structure ObjM (h : Heap) (x dx C : Addr) (mA : Str → Option Value) : Prop where
  obj : h.get? x = some (PySem.W.instObj C dx)
  ns : h.Ns1 dx mA
  ne : dx ≠ x

section
variable {prog : Program} {w : World} {A : Around} {E : Value → Shared → Prop} {s : Shared} {K : PySem.W.Frag} {x dx C f : Addr} {mA : Str → Option Value} {name : Str} {v : Value}

end

/-! ### the attributes as a list of pairs -/
section
variable {P : Program} {w : World} {H H' : Hp} {h h' : Heap} {a C dx : Addr} {fs fs' : List (Str × V)}
end

/-! ### what of the text a class must have -/
structure Cls (K : PySem.W.Frag) (C : Addr) : Prop where
  pg : PySem.W.plainGet K C Str.empty = true
  hd : PySem.W.hasDictIn K C = true
  po : PySem.W.plainOver K C = true
  sa : PySem.W.findIn K (.ref C) "__setattr__" = some (some (.builtin "object.__setattr__"))
theorem Cls.get {K : PySem.W.Frag} {C : Addr} (c : Cls K C) (f : Str) : PySem.W.plainGet K C f = true := c.pg
/-- a constant of the class -/
structure Con (K : PySem.W.Frag) (C : Addr) (f : Str) (v : V) (u : Value) : Prop where
  at_ : PySem.W.findIn K (.ref C) f = some (some u)
  rel : RelV v u
  get : PySem.W.specialIn K u "__get__" = some none
  cp : PySem.W.copiedNames.contains f = false
/-- a method: a plain def of the class or of one above it -/
structure Meth (K : PySem.W.Frag) (C : Addr) (m : Str) (f : Addr) : Prop where
  at_ : PySem.W.findIn K (.ref C) m = some (some (.ref f))
  fn : PySem.W.isFn K (.ref f) = true
  kp : PySem.W.keepIn K (.ref f) = true

section
variable {X : Cx} {pins : List (Addr × Obj)} {σ : St} {H : Hp} {s : Shared} {a C dx : Addr} {fs : List (Str × V)} {f : Str} {v : V} {A : Around} {E : Value → Shared → Prop}

end

/-! ### readings and rules -/
section
variable {X : Cx} {o e value : Expr} {f : Str} {pos pos' tpos : Pos} {ta tv : TE}
end

/-! ### isinstance -/
section
variable {X : Cx} {pins : List (Addr × Obj)} {σ : St} {H : Hp} {s : Shared} {A : Around} {E : Value → Shared → Prop} {Q : Value → Shared → Prop} {c : Value} {b : Bool}
/-- the type of a value, as the fragment's deciders take it; for an instance its class -/
inductive TyOf (K : PySem.W.Frag) (H : Hp) : V → Value → Prop where
  | non : TyOf K H .non (.type "NoneType")
  | bl (x : Bool) : TyOf K H (.bl x) (.type "bool")
  | int (i : Int) : TyOf K H (.int i) (.type "int")
  | str (x : Str) : TyOf K H (.str x) (.type "str")
  | flt (x : UInt64) : TyOf K H (.flt x) (.type "float")
  | lst {a : Addr} {xs : List V} (e : H a = some (.lst xs)) : TyOf K H (.ref a) (.type "list")
  | frz {a : Addr} {o : Obj} {xs : List V} (e : H a = some (.frz o (.lst xs))) : TyOf K H (.ref a) (.type "list")
  | tup {a : Addr} {xs : List V} (e : H a = some (.tup xs)) : TyOf K H (.ref a) (.type "tuple")
  | dK {a : Addr} {kvs : List (Key × V)} (e : H a = some (.dK kvs)) : TyOf K H (.ref a) (.type "dict")
  | dT {a : Addr} {kvs : List (List Key × V)} (e : H a = some (.dT kvs)) : TyOf K H (.ref a) (.type "dict")
  | ins {a C dx : Addr} {fs : List (Str × V)} (e : H a = some (.ins C dx fs)) (cl : Cls K C) (ha : PySem.W.findIn K (.ref C) "__class__" = some (some (.builtin "object.__class__")))
      (hn : PySem.W.specialIn K (.builtin "object.__class__") "__get__" = some (some (.builtin "getset_descriptor.__get__"))) (htk : PySem.W.takesIn K (.builtin "object.__class__") = some true)
      (hm : PySem.W.mroIn K C (.type "object") = some true) : TyOf K H (.ref a) (.ref C)
end
end L2

namespace L2
open PySem PySem.Spec PyProof.Rows

/-! ### room -/
structure Room (k : Nat) (A : Around) : Prop where
  hd : A.handled = none
  dp : A.depth + 3 * k + 5 < recursionLimit
  un : A.units + 16 * k + 200 < cLine
theorem Room.mono {j k : Nat} {A : Around} (r : Room k A) (h : j ≤ k) : Room j A := ⟨r.hd, by have := r.dp; omega, by have := r.un; omega⟩
theorem Room.deeper {k : Nat} {A : Around} (r : Room (k + 1) A) (env : Env) : Room k (A.deeper env) :=
  ⟨r.hd, by have := r.dp; show A.depth + 1 + 3 * k + 5 < _; omega, by have := r.un; show A.units + 3 + 16 * k + 200 < _; omega⟩
theorem Room.depth {k : Nat} {A : Around} (r : Room k A) : A.depth < recursionLimit := by have := r.dp; omega
theorem Room.units {k : Nat} {A : Around} (r : Room k A) : A.units + 64 < cLine := by have := r.un; omega
/-! ### argument lists and displays -/
def tNil : TA := fun _ H Q => Q [] H
def tCons (ta : TE) (tr : TA) : TA := fun σ H Q => ta σ H fun x H1 => tr σ H1 fun xs H2 => Q (x :: xs) H2
section
variable {X : Cx} {e : Expr} {es : List Expr} {te : TE} {t : TA} {pos : Pos}
theorem pa_nil : PA X [] tNil := fun _ _ _ _ H Q I h => Calls.spliced_nil ⟨[], H, I, .nil, h⟩
theorem pa_cons (ha : PE X e te) (hr : PA X es t) (hs : starEach (e :: es) X.env = (false, eval e X.env) :: starEach es X.env := by rfl) : PA X (e :: es) (tCons te t) := by
  intro pos pins s σ H Q I h
  rw [hs]
  show wpAny _ _ (spliced ((false, eval e X.env) :: backTo pos (starEach es X.env))) _ _ s
  refine Calls.spliced_cons (thn (ha pins s σ H _ I h) fun u s1 ⟨x, H1, I1, r1, q1⟩ => ?_)
  exact thn (hr pos pins s1 σ H1 _ I1 q1) fun us s2 ⟨xs, H2, I2, r2, q2⟩ => ⟨x :: xs, H2, I2, .cons r1 r2, q2⟩

/-- a tuple, a list of written items -/
def tTup (t : TA) : TE := fun σ H Q => t σ H fun xs H1 => xs.length ≤ sizeLine ∧ ∀ p, H1 p = none → Q (.ref p) (upd H1 p (.tup xs))
def tLst (t : TA) : TE := fun σ H Q => t σ H fun xs H1 => xs.length ≤ sizeLine ∧ ∀ p, H1 p = none → Q (.ref p) (upd H1 p (.lst xs))
theorem pe_tup {x1} (h : PA X es t) : PE X (.Tuple es x1 pos) (tTup t) := by
  intro pins s σ H Q I hq
  refine wpAny_Tuple_spliced (thn (h pos pins s σ H _ I hq) fun us s1 ⟨xs, H1, I1, r, z, q⟩ => ⟨by rw [← r.length]; exact z, ?_⟩)
  have hf : H1 s1.heap.objs.size = none := I1.hok.fresh (Nat.le_refl _)
  refine ⟨.ref s1.heap.objs.size, upd H1 s1.heap.objs.size (.tup xs), I1.laid (t' := s1.toks) (fun b u e => Heap.get?_push_of_some _ e) (Nat.le_refl _) ?_, rfl, q _ hf⟩
  exact ⟨z, us, r, ⟨_, Heap.get?_push_size _ rfl, rfl, _, rfl⟩⟩
theorem pe_lst (h : PA X es t) : PE X (.List es pos) (tLst t) := by
  intro pins s σ H Q I hq
  refine wpAny_List_spliced (thn (h pos pins s σ H _ I hq) fun us s1 ⟨xs, H1, I1, r, z, q⟩ => ⟨by rw [← r.length]; exact z, ?_⟩)
  have hf : H1 s1.heap.objs.size = none := I1.hok.fresh (Nat.le_refl _)
  refine ⟨.ref s1.heap.objs.size, upd H1 s1.heap.objs.size (.lst xs), I1.laid (t' := s1.toks) (fun b u e => Heap.get?_push_of_some _ e) (Nat.le_refl _) ?_, rfl, q _ hf⟩
  exact ⟨z, us, 0, r, Heap.get?_push_size _ rfl⟩
end

/-! ### what a def promises -/
/-- a def's promise: the bound arguments in the parameters' order, the heap, the wanted end, the wanted exception -/
abbrev Sp := List V → Hp → VK → XK → Prop
/-- how an exception lies behind a call (file 08 gives it): the callers' frames, abstract heap and state ahead of the call, the wish, the exception, the state -/
abbrev CXT := List Env → Hp → Shared → XK → Value → Shared → Prop

/-- the state at a call -/
structure Env0 (P : Program) (w : World) (K : PySem.W.Frag) (mg : Str → Option Value) (base : Heap) (A : Around) (outer : List Env) (s : Shared) (H : Hp) : Prop where
  frames : A.frames = some outer
  mod : Mod K mg base
  bs : ∀ b o, base.get? b = some o → s.heap.get? b = some o ∧ H b = none
  bsz : base.objs.size ≤ s.heap.objs.size
  funs : s.heap.FunFrames base outer
  frf : ∀ b ∈ frs outer, H b = none
  hok : HOk P w H s.heap
  bare : AllBare s.gens
/-- a call's end -/
def CE (outer : List Env) (P : Program) (w : World) (H : Hp) (s : Shared) (Q : VK) (u : Value) (s' : Shared) : Prop :=
  ∃ v H', s'.os = s.os ∧ AllBare s'.gens ∧ Un (frs outer) [] H H' s.heap s'.heap ∧ HOk P w H' s'.heap ∧ RelV v u ∧ Q v H'
def CR (CX : CXT) (outer : List Env) (P : Program) (w : World) (H : Hp) (s : Shared) (Q : VK) (E : XK) (r : Result) (s' : Shared) : Prop :=
  match r with
  | .ok (.ret u) => CE outer P w H s Q u s'
  | .ok _ => False
  | .error e => CX outer H s E e s'
structure FnOk (P : Program) (w : World) (K : PySem.W.Frag) (mg : Str → Option Value) (base : Heap) (CX : CXT) (k : Nat) (f : Addr) (fd : FuncData) (ps : List Str) (sp : Sp) : Prop where
  len : ∀ vs H Q E, sp vs H Q E → vs.length = ps.length
  run : ∀ (A : Around) (outer : List Env) (s : Shared) (H : Hp) (args : Args) (us : List Value) (vs : List V) (Q : VK) (E : XK), Room k A → Env0 P w K mg base A outer s H → BindsTo s fd args (ps.zip us) → Vals vs us → sp vs H Q E →
    codeAny (model P w) A (.call (.ref f) args) (CR CX outer P w H s Q E) s
theorem FnOk.mono {P : Program} {w : World} {K : PySem.W.Frag} {mg : Str → Option Value} {base : Heap} {CX : CXT} {j k : Nat} {f : Addr} {fd : FuncData} {ps : List Str} {sp : Sp} (F : FnOk P w K mg base CX j f fd ps sp) (h : j ≤ k) :
    FnOk P w K mg base CX k f fd ps sp := ⟨F.len, fun A outer s H args us vs Q E hr => F.run A outer s H args us vs Q E (hr.mono h)⟩
/-- a weaker promise -/
theorem FnOk.imp {P : Program} {w : World} {K : PySem.W.Frag} {mg : Str → Option Value} {base : Heap} {CX : CXT} {k : Nat} {f : Addr} {fd : FuncData} {ps : List Str} {sp sp' : Sp} (F : FnOk P w K mg base CX k f fd ps sp)
    (h : ∀ vs H Q E, sp' vs H Q E → sp vs H Q E) : FnOk P w K mg base CX k f fd ps sp' :=
  ⟨fun vs H Q E q => F.len vs H Q E (h _ _ _ _ q), fun A outer s H args us vs Q E hr he hb hv hs => F.run A outer s H args us vs Q E hr he hb hv (h _ _ _ _ hs)⟩

section
variable {X : Cx} {pins : List (Addr × Obj)} {σ : St} {H : Hp} {s s' : Shared}
/-- from a body: what a callee wants -/
theorem Inv.env0 (I : Inv X pins σ H s) : Env0 X.prog X.w X.K X.mg X.base X.A X.stack s H :=
  ⟨I.ok.frames, I.ok.mod, I.bs, Nat.le_trans I.ok.bsz I.sz, I.stack, I.stkFree, I.hok, I.bare⟩
/-- behind a call -/
theorem Inv.after {Q : VK} {u : Value} (I : Inv X pins σ H s) (h : CE X.stack X.prog X.w H s Q u s') : EP X pins σ Q u s' := by
  obtain ⟨v, H', os, bare, un, hok, r, q⟩ := h
  obtain ⟨hh, g, d, t, os'⟩ := s'
  obtain rfl : os' = s.os := os
  exact ⟨v, H', I.call (h' := hh) (g' := g) (d' := d) (t' := t) (ch := []) un hok bare (fun b z => absurd z (by simp)), r, q⟩
end

/-! ### calls -/
/-- f(..): the written arguments, then the defaults dvs; E: what is wanted of an exception -/
def tCall (sp : Sp) (dvs : List V) (E : XK) (t : TA) : TE := fun σ H Q => t σ H fun vs H1 => sp (vs ++ dvs) H1 Q E
/-- how the parameters are bound: us the positional arguments, kw the keywords' values by name, ds the defaults that fill up -/
def Binds (K : PySem.W.Frag) (fd : FuncData) (ps : List Str) (ds : List Value) : Prop :=
  ∀ (s : Shared) (us : List Value), K.In s.heap → (us ++ ds).length = ps.length → BindsTo s fd ⟨us, []⟩ (ps.zip (us ++ ds))
/-- every parameter is given -/
theorem Binds.all {K : PySem.W.Frag} {fd : FuncData} {ps : List Str} (h : ∀ us : List Value, us.length = ps.length → bindArgs fd ⟨us, []⟩ = pure (ps.zip us)) : Binds K fd ps [] := fun s us _ hl => by
  rw [List.append_nil] at hl ⊢
  exact .of_eq (h us hl)

/-- an exception of a callee reaches what this body wants of exceptions -/
def Passes (CX : CXT) (X : Cx) (E : XK) : Prop := ∀ (pins : List (Addr × Obj)) (σ : St) (H : Hp) (s : Shared) (e : Value) (s' : Shared), Inv X pins σ H s → CX X.stack H s E e s' → X.xe e s'

section
variable {X : Cx} {CX : CXT} {k : Nat} {f C : Addr} {fd : FuncData} {ps : List Str} {sp : Sp} {dvs : List V} {ds : List Value} {E : XK} {x m : Str} {p pos apos : Pos} {e o : Expr} {es : List Expr} {ta : TE} {t : TA}

/-- the callee runs -/
theorem run_fn {pins : List (Addr × Obj)} {σ : St} {H : Hp} {s : Shared} {Q : VK} {us : List Value} {vs : List V} (F : FnOk X.prog X.w X.K X.mg X.base CX k f fd ps sp) (hr : Room k X.A) (hb : Binds X.K fd ps ds) (hd : Vals dvs ds) (hx : Passes CX X E)
    (I : Inv X pins σ H s) (r : Vals vs us) (h : sp (vs ++ dvs) H Q E) : wpAny (model X.prog X.w) X.A (call (.ref f) us) (EP X pins σ Q) X.xe s := by
  have r2 : Vals (vs ++ dvs) (us ++ ds) := r.append hd
  have hl : (us ++ ds).length = ps.length := by rw [← r2.length]; exact F.len _ _ _ _ h
  refine wpAny_call (codeAny_mono (F.run X.A X.stack s H ⟨us, []⟩ (us ++ ds) (vs ++ dvs) Q E hr I.env0 (hb s us I.kIn hl) r2 h) fun r s' hq => ?_)
  cases r with
  | error e => exact hx pins σ H s e s' I hq
  | ok fl =>
    cases fl with
    | ret u => exact I.after hq
    | next => exact False.elim hq
    | brk => exact False.elim hq
    | cont => exact False.elim hq

theorem pe_call (F : FnOk X.prog X.w X.K X.mg X.base CX k f fd ps sp) (hr : Room k X.A) (hg : Gl X x) (hm : X.mg x = some (.ref f)) (hk : PySem.W.keepIn X.K (.ref f) = true) (hb : Binds X.K fd ps ds) (hd : Vals dvs ds) (hx : Passes CX X E)
    (ha : PA X (e :: es) t) (hdb : (x == ("__debug__" : Str)) = false := by decide) (he : starEach (e :: es) X.env = (false, eval e X.env) :: starEach es X.env := by rfl) (hpl : (backTo pos (starEach es X.env)).any (·.1) = false := by rfl) :
    PE X (.Call (.Name x p) (e :: es) [] pos) (tCall sp dvs E t) := by
  intro pins s σ H Q I h
  refine wpAny_Call_Name_kw (ld_glob I hg hm ?_ hdb)
  refine PySem.W.callWith_K (h₀ := X.base) I.ok.mod.kin hk (thn (ha pos pins s σ H _ I h) fun us s1 ⟨vs, H1, I1, r, q⟩ => ⟨I1.kIn, ?_⟩) he hpl
  exact run_fn F hr hb hd hx I1 r q
/-- what a class must have to be made -/
structure Mk (K : PySem.W.Frag) (C f : Addr) : Prop where
  makes : PySem.W.makesIn K C = true
  init : PySem.W.findIn K (.ref C) "__init__" = some (some (.ref f))
  fn : PySem.W.isFn K (.ref f) = true
  kp : PySem.W.keepIn K (.ref C) = true

end

/-! ### keywords -/
section
variable {X : Cx} {CX : CXT} {k : Nat} {f C : Addr} {fd : FuncData} {ps ks : List Str} {sp : Sp} {E : XK} {x m : Str} {p pos apos kpos : Pos} {e o : Expr} {es : List Expr} {kws : List Keyword} {te ta : TE} {t tk : TA} {nm : Option Str}
/-- how a call with keywords binds: g puts the positional values us and the keywords' values ws (names ks) in the parameters' order, defaults among them -/
structure KBinds (K : PySem.W.Frag) (fd : FuncData) (ps ks : List Str) (g : List Value → List Value → List Value) (gV : List V → List V → List V) : Prop where
  to : ∀ (s : Shared) (us ws : List Value), K.In s.heap → (g us ws).length = ps.length → BindsTo s fd ⟨us, ks.zip ws⟩ (ps.zip (g us ws))
  rel : ∀ {vs : List V} {us : List Value} {zs : List V} {ws : List Value}, Vals vs us → Vals zs ws → Vals (gV vs zs) (g us ws)
variable {g : List Value → List Value → List Value} {gV : List V → List V → List V}
end

/-! ### a def's body keeps its promise -/
/-- names: the parameters first -/
structure FnScope (N P : List Str) (sc : Scope) : Prop where
  kind : sc.kind = .function
  co : sc.isCoroutine = false
  gen : sc.isGenerator = false
  nd : N.Nodup
  pre : N.take P.length = P
  par : ∀ x ∈ P, sc.names.lookup x = some .local ∨ sc.names.lookup x = some .cell
  nofree : ∀ y ∈ sc.names, y.2 ≠ .free

theorem bindL_out {kindOf : Str → Option NameKind} {x : Str} : ∀ {binds : List (Str × Value)} {m : Str → Option Value}, (∀ v, (x, v) ∉ binds) → bindL kindOf binds m x = m x
  | [], _, _ => rfl
  | (n, v) :: r, m, h => by
    unfold bindL
    rw [bindL_out fun w hw => h w (List.mem_cons_of_mem _ hw)]
    split
    · have : x ≠ n := by rintro rfl; exact h v List.mem_cons_self
      simp [this]
    · rfl
theorem bindC_out {kindOf : Str → Option NameKind} {x : Str} : ∀ {binds : List (Str × Value)} {m : Str → Option Value}, (∀ v, (x, v) ∉ binds) → bindC kindOf binds m x = m x
  | [], _, _ => rfl
  | (n, v) :: r, m, h => by
    unfold bindC
    rw [bindC_out fun w hw => h w (List.mem_cons_of_mem _ hw)]
    split
    · rfl
    · have : x ≠ n := by rintro rfl; exact h v List.mem_cons_self
      simp [this]
theorem bindL_get {kindOf : Str → Option NameKind} {x : Str} {v : Value} : ∀ {P : List Str} {vs : List Value} {i : Nat} {m : Str → Option Value}, P.Nodup → P[i]? = some x → vs[i]? = some v → kindOf x = some .local →
    bindL kindOf (P.zip vs) m x = some v
  | [], _, _, _, _, h, _, _ => by simp at h
  | _ :: _, [], _, _, _, _, h, _ => by simp at h
  | p :: P, w :: vs, 0, m, nd, h1, h2, hk => by
    simp at h1 h2; subst h1; subst h2
    show bindL kindOf ((p, w) :: P.zip vs) m p = _
    unfold bindL
    rw [bindL_out fun v hv => (List.nodup_cons.mp nd).1 (List.of_mem_zip hv).1, if_pos hk]
    simp
  | p :: P, w :: vs, i + 1, m, nd, h1, h2, hk => by
    show bindL kindOf ((p, w) :: P.zip vs) m x = _
    unfold bindL
    exact bindL_get (i := i) (List.nodup_cons.mp nd).2 (by simpa using h1) (by simpa using h2) hk
theorem bindC_get {kindOf : Str → Option NameKind} {x : Str} {v : Value} : ∀ {P : List Str} {vs : List Value} {i : Nat} {m : Str → Option Value}, P.Nodup → P[i]? = some x → vs[i]? = some v → kindOf x ≠ some .local →
    bindC kindOf (P.zip vs) m x = some v
  | [], _, _, _, _, h, _, _ => by simp at h
  | _ :: _, [], _, _, _, _, h, _ => by simp at h
  | p :: P, w :: vs, 0, m, nd, h1, h2, hk => by
    simp at h1 h2; subst h1; subst h2
    show bindC kindOf ((p, w) :: P.zip vs) m p = _
    unfold bindC
    rw [bindC_out fun v hv => (List.nodup_cons.mp nd).1 (List.of_mem_zip hv).1, if_neg hk]
    simp
  | p :: P, w :: vs, i + 1, m, nd, h1, h2, hk => by
    show bindC kindOf ((p, w) :: P.zip vs) m x = _
    unfold bindC
    exact bindC_get (i := i) (List.nodup_cons.mp nd).2 (by simpa using h1) (by simpa using h2) hk

/-- the names' values at the entry -/
def start (N : List Str) (vs : List V) : St := vs.map some ++ List.replicate (N.length - vs.length) none

/-- the context of a def's body, at its entry; an exception leaves the frame, then lies as CX says -/
def cxOf (CX : CXT) (P : Program) (w : World) (K : PySem.W.Frag) (mg : Str → Option Value) (base : Heap) (N : List Str) (qual : Str) (scope : Scope) (f : Addr) (cd : Value) (A : Around) (outer : List Env) (s : Shared) (H : Hp) (E : XK) : Cx where
  prog := P
  w := w
  K := K
  mg := mg
  base := base
  A := A.deeper (envOfC qual scope s.heap.objs.size f cd)
  N := N
  s₀ := s
  H₀ := H
  env := envOfC qual scope s.heap.objs.size f cd
  outer := outer
  stack := envOfC qual scope s.heap.objs.size f cd :: outer
  ex := []
  calm := true
  fn := fun _ => true
  pn := []
  xe := fun e s' => wpAny (model P w) (A.deeper (envOfC qual scope s.heap.objs.size f cd)) (leaving (envOfC qual scope s.heap.objs.size f cd) e) (fun _ s'' => CX outer H s E e s'') (fun e' s'' => CX outer H s E e' s'') s'

theorem cell_has {sc : Scope} {n : Nat} {x : Str} (h : sc.names.lookup x = some .cell) : ∃ c, (cellsFrom n sc.names []).lookup x = some c := by
  have q := PySem.W.cellsFrom_some sc.names n [] (.inl h)
  exact Option.isSome_iff_exists.mp q

theorem inv_start {CX : CXT} {P : Program} {w : World} {K : PySem.W.Frag} {mg : Str → Option Value} {base : Heap} {N ps : List Str} {qual : Str} {scope : Scope} {f : Addr} {cd : Value} {A : Around} {outer : List Env} {s s1 : Shared} {H : Hp} {E : XK} {us : List Value} {vs : List V}
    (S : FnScope N ps scope) (hd : A.handled = none) (e0 : Env0 P w K mg base A outer s H) (hl : vs.length = ps.length) (r : Vals vs us)
    (x : InCallC s s.heap.objs.size (bindL (envOfC qual scope s.heap.objs.size f cd).kindOf (ps.zip us) fun _ => none) (cellsFrom (s.heap.objs.size + 1) scope.names []) (bindC (envOfC qual scope s.heap.objs.size f cd).kindOf (ps.zip us) fun _ => none) s1) :
    Inv (cxOf CX P w K mg base N qual scope f cd A outer s H E) [] (start N vs) H s1 := by
  have hpl : ps.length ≤ N.length := by have := congrArg List.length S.pre; rw [List.length_take] at this; omega
  obtain ⟨h1, tk, rfl, hk⟩ := x.done
  have noA : ∀ b : Addr, b ∉ (cxOf CX P w K mg base N qual scope f cd A outer s H E).ex := fun b z => absurd (show b ∈ ([] : List Addr) from z) (by simp)
  refine ⟨⟨e0.mod, S.kind, rfl, rfl, Nat.le_refl _, fun y z c h1 h2 => ?_, fun y hy => ?_, fun y c _ h => ?_, fun _ => hd, Around.frames_deeper e0.frames, .inr ⟨rfl, rfl⟩, fun b z => absurd z (noA b), e0.bs, e0.bsz, fun b _ _ => noA b, fun b z => absurd z (noA b), e0.funs, e0.frf⟩,
    rfl, e0.bare, Un.kept hk, ⟨_, x.toInCall.ns, fun i y v h1 h2 h3 => ?_⟩, fun y c h => ⟨_, x.cell y c h⟩, e0.hok.fresh (Nat.le_refl _), fun y c h => ?_, fun p hp => absurd (show p ∈ ([] : List (Addr × Obj)) from hp) (by simp), e0.hok.kept hk, ?_⟩
  · exact name_of_addr x.apart (PySem.mem_of_lookup h1) (PySem.mem_of_lookup h2)
  · have hy : scope.names.lookup y = some .cell ∨ scope.names.lookup y = some .free := hy
    rcases hy with hy | hy
    · exact cell_has hy
    · exact absurd rfl (S.nofree _ (PySem.mem_of_lookup hy))
  · exact Nat.le_of_lt (x.above y c (PySem.mem_of_lookup h))
  · have hi : i < vs.length := by
      unfold start at h2
      by_cases hi : i < vs.length
      · exact hi
      · rw [List.getElem?_append_right (by simpa using hi)] at h2
        rw [List.getElem?_replicate] at h2
        split at h2 <;> cases h2
    have ha : vs[i]? = some v := by
      unfold start at h2
      rw [List.getElem?_append_left (by simpa using hi), List.getElem?_map] at h2
      cases e : vs[i]? with
      | none => rw [e] at h2; cases h2
      | some a => rw [e] at h2; cases h2; rfl
    obtain ⟨u, hu, rv⟩ := r.get ha
    have hp : ps[i]? = some y := by
      rw [← S.pre, List.getElem?_take_of_lt (by omega)]; exact h1
    have ndP : ps.Nodup := by rw [← S.pre]; exact S.nd.sublist (List.take_sublist _ _)
    refine ⟨u, rv, ?_⟩
    rcases S.par y (List.mem_of_getElem? hp) with k | k
    · exact .inl ⟨k, bindL_get ndP hp hu k⟩
    · obtain ⟨c, e⟩ := cell_has (n := s.heap.objs.size + 1) k
      refine .inr ⟨.inl k, c, e, ?_⟩
      have q := x.cell y c e
      rw [bindC_get ndP hp hu (by show scope.names.lookup y ≠ _; rw [k]; decide)] at q
      exact q
  · exact e0.hok.fresh (Nat.le_of_lt (x.above y c (PySem.mem_of_lookup h)))
  · unfold start
    show _ = N.length
    rw [List.length_append, List.length_map, List.length_replicate]
    omega

/-- THE RULE: a def (or a method) of the text, by its body. The body's reading t is chosen for each entry; it is run at the parameters' values -/
theorem fn_of {CX : CXT} {P : Program} {w : World} {K : PySem.W.Frag} {mg : Str → Option Value} {base : Heap} {k : Nat} {f : Addr} {name qual : Str} {params : Arguments} {body : List Stmt} {scope : Scope} {dV kV doc pm cdv ct oc : Value} {an od : Option Addr}
    {osl : Array (Option Value)} {N ps : List Str} {sp : Sp} (lk : K.lookup f = some ⟨oc, od, .func (PySem.W.fnOf name qual params body scope dV kV doc pm an cdv ct), osl⟩) (hcd : PySem.W.codeIn K cdv qual = true) (S : FnScope N ps scope)
    (len : ∀ vs H Q E, sp vs H Q E → vs.length = ps.length)
    (hbody : ∀ (A : Around) (outer : List Env) (s : Shared) (H : Hp) (vs : List V) (Q : VK) (E : XK), Room k (A.deeper (envOfC qual scope s.heap.objs.size f cdv)) → sp vs H Q E →
      ∃ t, PSs (cxOf CX P w K mg base N qual scope f cdv A outer s H E) body t ∧ t { nx := fun _ H' => Q .non H', rt := Q } (start N vs) H) :
    FnOk P w K mg base CX (k + 1) f (PySem.W.fnOf name qual params body scope dV kV doc pm an cdv ct) ps sp := by
  refine ⟨len, fun A outer s H args us vs Q E hr e0 hb r hsp => ?_⟩
  have hl := len _ _ _ _ hsp
  have KX : K.In s.heap := e0.mod.kin.keeps fun b o e => (e0.bs b o e).1
  have lim : s.heap.NoLimit := e0.mod.nolimit.keeps fun b o e => (e0.bs b o e).1
  have hkind : ∀ y ∈ ps.zip us, scope.names.lookup y.1 = some .local ∨ (scope.names.lookup y.1 = some .cell ∧ ((cellsFrom (s.heap.objs.size + 1) scope.names []).lookup y.1).isSome = true) := fun ⟨n, v⟩ hy => by
    rcases S.par n (List.of_mem_zip hy).1 with q | q
    · exact .inl q
    · exact .inr ⟨q, PySem.W.cellsFrom_some _ _ _ (.inl q)⟩
  refine codeAny_call_function hr.depth (KX _ _ lk) rfl S.co S.gen rfl (PySem.W.codeRec_of KX hcd) (hb _ _ _ _ ?_)
  refine wpAny_newFunctionEnv_cells S.kind hkind fun env he s1 x => ?_
  subst he
  refine ⟨lim.keeps x.toInCall.keep, codeAny_func ?_⟩
  obtain ⟨t, ht, hq⟩ := hbody A outer s H vs Q E (hr.deeper _) hsp
  have I : Inv (cxOf CX P w K mg base N qual scope f cdv A outer s H E) [] (start N vs) H s1 := inv_start S hr.hd e0 hl r x
  refine wpAny_mono (ht [] s1 (start N vs) H _ I hq) (fun fl s' hs => ?_) fun e s' hs => hs
  have fin : ∀ {σ' : St} {H' : Hp} {v : V} {u : Value}, Inv (cxOf CX P w K mg base N qual scope f cdv A outer s H E) [] σ' H' s' → RelV v u → Q v H' → CE outer P w H s Q u s' :=
    fun {σ' H' v u} J rv q => ⟨v, H', J.os, J.bare, J.base, J.hok, rv, q⟩
  cases fl with
  | ret u =>
    obtain ⟨v, σ', H', J, rv, q⟩ := hs
    exact fin J rv q
  | next =>
    obtain ⟨σ', H', J, q⟩ := hs
    exact fin (v := V.non) (u := Value.none) J rfl q
  | brk =>
    obtain ⟨_, _, _, q⟩ := hs
    exact False.elim q
  | cont =>
    obtain ⟨_, _, _, q⟩ := hs
    exact False.elim q
end L2

namespace L2
open PySem PySem.Spec PyProof.Rows
section
variable {X : Cx} {x : Str} {p pos : Pos} {e : Expr} {es : List Expr} {t : TA} {id T : String} {r : List V → Hp → VK → Prop}

def tCB (r : List V → Hp → VK → Prop) (t : TA) : TE := fun σ H Q => t σ H fun vs H1 => r vs H1 Q
/-- f(e, ..), f a built-in function -/
theorem pe_callB (hc : CallR X (.builtin id) r) (hg : Gl X x) (hm : X.mg x = none) (hv : bootBuiltins x = some (.builtin id)) (ha : PA X (e :: es) t) (hn : x ≠ "__name__" := by decide) (hdb : (x == ("__debug__" : Str)) = false := by decide)
    (he : starEach (e :: es) X.env = (false, eval e X.env) :: starEach es X.env := by rfl) (hpl : (backTo pos (starEach es X.env)).any (·.1) = false := by rfl) : PE X (.Call (.Name x p) (e :: es) [] pos) (tCB r t) := by
  intro pins s σ H Q I h
  refine wpAny_Call_Name_kw (ld_blt I hg hm hv ?_ hn hdb)
  exact PyProof.Rows.callWith_builtin1 (thn (ha pos pins s σ H _ I h) fun us s1 ⟨vs, H1, I1, r1, q1⟩ => hc pins s1 σ H1 vs us Q I1 r1 q1) he hpl
/-- T(e, ..), T a built-in type -/
theorem pe_callTy (hc : CallR X (.type T) r) (hg : Gl X x) (hm : X.mg x = none) (hv : bootBuiltins x = some (.type T)) (ha : PA X (e :: es) t) (hn : x ≠ "__name__" := by decide) (hdb : (x == ("__debug__" : Str)) = false := by decide)
    (he : starEach (e :: es) X.env = (false, eval e X.env) :: starEach es X.env := by rfl) (hpl : (backTo pos (starEach es X.env)).any (·.1) = false := by rfl) : PE X (.Call (.Name x p) (e :: es) [] pos) (tCB r t) := by
  intro pins s σ H Q I h
  refine wpAny_Call_Name_kw (ld_blt I hg hm hv ?_ hn hdb)
  exact PyProof.Rows.callWith_type1 (thn (ha pos pins s σ H _ I h) fun us s1 ⟨vs, H1, I1, r1, q1⟩ => hc pins s1 σ H1 vs us Q I1 r1 q1) he hpl
end
end L2

namespace HT
open PySem PyProof.Rows

section
open PySem.SeqAt
open PySem.AutoSeq1 (wpAny_loadPart')
open PySem.MeetsSeq PySem.MeetsSeq2 PySem.MeetsSeq3

end

section
variable {prog : Program} {w : World} {A : Around} {E : Value → Shared → Prop} {s : Shared}

/-- t + u, t not empty -/
theorem cat_tup {t b : Addr} {vs ws : List Value} {Q : Value → Shared → Prop} (ht : IsTup s.heap t vs.toArray) (hb : IsTup s.heap b ws.toArray) (hv : vs ≠ [])
    (h1 : ws = [] → Q (.ref t) s) (h2 : ws ≠ [] → Q (.ref s.heap.objs.size) { s with heap := s.heap.push { cls := .type "tuple", data := .seq (vs ++ ws).toArray } })
    (hsz : vs.length + ws.length ≤ sizeLine) : wpAny (model prog w) A (binaryOp .Add (.ref t) (.ref b)) Q E s := by
  obtain ⟨⟨cls, dd, data, sl⟩, ho, hc, n, hd⟩ := id ht
  obtain ⟨⟨cls2, dd2, data2, sl2⟩, ho2, hc2, n2, hd2⟩ := id hb
  simp only at hc hd hc2 hd2
  subst hc hd hc2 hd2
  have e : vs.toArray ++ ws.toArray = (vs ++ ws).toArray := by simp
  by_cases hw : ws = []
  · exact concat_meets ⟨_, ho, rfl⟩ ⟨_, ho2, rfl⟩ noFill_tuple_add seq_tuple_add PySem.F.slot_tuple_add PySem.F.entry_tuple_add (PySem.F.args_tuple_add_2 _ _)
      (tuple_addW1 t b vs.toArray ws.toArray n n2 dd dd2 sl sl2 (by simpa using hv) (by simp [hw])) ⟨ho, ho2, h1 hw⟩
  · refine concat_meets ⟨_, ho, rfl⟩ ⟨_, ho2, rfl⟩ noFill_tuple_add seq_tuple_add PySem.F.slot_tuple_add PySem.F.entry_tuple_add (PySem.F.args_tuple_add_2 _ _)
      (tuple_addW2 t b vs.toArray ws.toArray n n2 dd dd2 sl sl2 (by simpa using hv) (by simpa using hw) (by rw [List.size_toArray, List.size_toArray]; exact hsz)) ⟨ho, ho2, ?_⟩
    rw [e]
    exact h2 hw

/-! ### t[a:b], not the whole -/
/-- a slice's bound as a place among n (d where it is left out) -/
def sIx (n d : Nat) : Option Int → Nat
  | none => d
  | some v => if v < 0 then (v + (n : Int)).toNat else min v.toNat n
theorem sIx_le (n d : Nat) (hd : d ≤ n) (o : Option Int) : sIx n d o ≤ n := by
  cases o with
  | none => exact hd
  | some v =>
    show (if v < 0 then (v + (n : Int)).toNat else min v.toNat n) ≤ n
    by_cases hv : v < 0
    · rw [if_pos hv]; omega
    · rw [if_neg hv]; exact Nat.min_le_right _ _
theorem clip_eq (v : Int) (n d : Nat) : (if v < 0 then max (v + (n : Int)) 0 else min v (n : Int)) = ((sIx n d (some v) : Nat) : Int) := by
  show (if v < 0 then max (v + (n : Int)) 0 else min v (n : Int)) = (((if v < 0 then (v + (n : Int)).toNat else min v.toNat n) : Nat) : Int)
  by_cases hv : v < 0
  · simp only [if_pos hv]; omega
  · simp only [if_neg hv]; omega
theorem adjust_gen (lo hi : Option Int) (n : Nat) : Builtin.Slice.sliceAdjust lo hi 1 (n : Int) = (((sIx n 0 lo : Nat) : Int), ((sIx n n hi : Nat) : Int)) := by
  have h1 : ¬ ((1 : Int) < 0) := by omega
  unfold Builtin.Slice.sliceAdjust
  simp only [h1, if_false]
  refine Prod.ext ?_ ?_
  · cases lo with
    | none => rfl
    | some v => exact clip_eq v n 0
  · cases hi with
    | none => rfl
    | some v => exact clip_eq v n n
theorem places_gen (i j : Nat) : Builtin.Slice.slicePlaces (i : Int) (j : Int) 1 = j - i := by
  unfold Builtin.Slice.slicePlaces
  have h1 : (1 : Int) > 0 := by omega
  simp only [h1, if_true, Int.ediv_one]
  split <;> omega
theorem slicePart_ {v : Value} {o : Option Int} {Q : Option Int → Shared → Prop} (p : IsPart v o) (h : Q o s) : wpAny (model prog w) A (Builtin.Slice.slicePartIndex v) Q E s := by
  cases p with
  | none => exact slicePart_none h
  | int i t => exact slicePart_int h
theorem sliceApplied_gen {sl : Addr} {vl vu : Value} {lo hi : Option Int} {n : Nat} {Q : Int × Int × Nat → Shared → Prop} (hs : s.heap.IsSliceOf sl vl vu .none) (pl : IsPart vl lo) (pu : IsPart vu hi)
    (h : Q (((sIx n 0 lo : Nat) : Int), 1, sIx n n hi - sIx n 0 lo) s) : wpAny (model prog w) A (Builtin.Slice.sliceApplied (.ref sl) (pure (n : Int))) Q E s := by
  obtain ⟨os, hos, hcs, hds⟩ := id hs
  unfold Builtin.Slice.sliceApplied Builtin.Slice.sliceFields
  refine wpAny_bind (wpAny_bind (wpAny_field hos hds (x := vl) rfl (wpAny_bind (wpAny_field hos hds (x := vu) rfl (wpAny_bind (wpAny_field hos hds (x := .none) rfl (wpAny_pure ?_)))))))
  refine wpAny_bind (slicePart_none ?_)
  show wpAny _ _ (if ((1 : Int) == 0) = true then _ else _) _ _ s
  rw [if_neg (by decide)]
  refine wpAny_bind (slicePart_ pl (wpAny_bind (slicePart_ pu (wpAny_bind (wpAny_pure ?_)))))
  show wpAny _ _ (match Builtin.Slice.sliceAdjust lo hi 1 (n : Int) with | (lo, hi) => pure (lo, (1 : Int), Builtin.Slice.slicePlaces lo hi 1)) _ _ s
  rw [adjust_gen lo hi n]
  show wpAny _ _ (pure (((sIx n 0 lo : Nat) : Int), (1 : Int), Builtin.Slice.slicePlaces ((sIx n 0 lo : Nat) : Int) ((sIx n n hi : Nat) : Int) 1)) _ _ s
  rw [places_gen]
  exact wpAny_pure h
theorem pick_gen (xs : Array Value) (i k : Nat) : ((List.range k).filterMap fun (m : Nat) => xs[((i : Int) + (m : Int) * 1).toNat]?).toArray = ((xs.toList.drop i).take k).toArray := by
  have e : (fun (m : Nat) => xs[((i : Int) + (m : Int) * 1).toNat]?) = fun m => xs[i + m]? := by
    funext m
    have : ((i : Int) + (m : Int) * 1).toNat = i + m := by omega
    rw [this]
  rw [e]
  have := pick_run xs i k
  rw [List.filterMap_map] at this
  have e2 : ((fun x => xs[x]?) ∘ fun x => i + x) = fun m => xs[i + m]? := rfl
  rw [e2] at this
  rw [this]

theorem getItem_tuple_cut {t sl : Addr} {items : Array Value} {vl vu : Value} {lo hi : Option Int} {Q : Value → Shared → Prop} (ht : IsTup s.heap t items) (hs : s.heap.IsSliceOf sl vl vu .none) (pl : IsPart vl lo) (pu : IsPart vu hi)
    (hw : ¬ (sIx items.size 0 lo = 0 ∧ sIx items.size items.size hi = items.size))
    (h : Q (.ref s.heap.objs.size) { s with heap := s.heap.push { cls := .type "tuple", data := .seq ((items.toList.drop (sIx items.size 0 lo)).take (sIx items.size items.size hi - sIx items.size 0 lo)).toArray } })
    (hsz : items.size ≤ sizeLine) : wpAny (model prog w) A (getItem (.ref t) (.ref sl)) Q E s := by
  have htake : sizeOk (.seq ((items.toList.drop (sIx items.size 0 lo)).take (sIx items.size items.size hi - sIx items.size 0 lo)).toArray) := by
    show ((items.toList.drop (sIx items.size 0 lo)).take (sIx items.size items.size hi - sIx items.size 0 lo)).toArray.size ≤ sizeLine
    rw [List.size_toArray, List.length_take, List.length_drop, Array.length_toList]
    omega
  have hj : sIx items.size items.size hi ≤ items.size := sIx_le _ _ (Nat.le_refl _) hi
  obtain ⟨os, hos, hcs, hds⟩ := id hs
  have hTs : s.TypeIs (.ref sl) "slice" := ⟨os, hos, hcs⟩
  unfold getItem
  try with_reducible refine wpAny_holding ?_
  first | refine wpAny_bind (wpAny_pure ?_) | skip
  refine wpAny_bind (wpAny_sequenceKey ht.typeIs (by decide) ?_)
  refine wpAny_bind (wpAny_callSpecial?_slot (name := Str.ofString "__getitem__") ht.typeIs PyProof.Rows.slot_tuple_getitem
    (wpAny_call_entry PyProof.Rows.slot_tuple_getitem ht.typeIs entry_tuple_getitem ?_ (args_tuple_getitem _ _)))
  show wpAny _ _ (Builtin.Tuple.tupleItemsOf (.ref t) >>= _) _ _ s
  refine wpAny_bind (tupleItemsOf_ ht ?_)
  refine wpAny_bind (wpAny_typeOf hTs ?_)
  rw [if_pos (by decide)]
  refine wpAny_bind (sliceApplied_gen hs pl pu ?_)
  have hno : ¬ ((((sIx items.size 0 lo : Nat) : Int) == 0 && (1 : Int) == 1 && (sIx items.size items.size hi - sIx items.size 0 lo) == items.size) = true) := by
    intro q
    rw [Bool.and_eq_true, Bool.and_eq_true] at q
    have q1 : ((sIx items.size 0 lo : Nat) : Int) = 0 := eq_of_beq q.1.1
    have q2 : sIx items.size items.size hi - sIx items.size 0 lo = items.size := eq_of_beq q.2
    exact hw ⟨by omega, by omega⟩
  show wpAny _ _ (if (((sIx items.size 0 lo : Nat) : Int) == 0 && (1 : Int) == 1 && (sIx items.size items.size hi - sIx items.size 0 lo) == items.size) = true then _ else _) _ _ s
  rw [if_neg hno, pick_gen]
  first
    | exact wpAny_bind (m := Builtin.Tuple.tupleExact _) (wpAny_newObj_type (wpAny_pure ⟨_, rfl, wpAny_pure h⟩) htake)
    | exact wpAny_bind (m := Builtin.Tuple.tupleExact _) (wpAny_newObj_type (wpAny_bind (wpAny_pure (wpAny_pure ⟨_, rfl, wpAny_pure h⟩))) htake)
    | exact wpAny_bind (wpAny_bind (m := Builtin.Tuple.tupleExact _) (wpAny_newObj_type (wpAny_pure (wpAny_pure ⟨_, rfl, wpAny_pure h⟩)) htake))
    | exact wpAny_bind (wpAny_bind (m := Builtin.Tuple.tupleExact _) (wpAny_newObj_type (wpAny_pure ⟨_, rfl, wpAny_pure h⟩) htake))
end
end HT

namespace L2
open PySem PySem.Spec PyProof.Rows

/-! ### the parts of a slice -/
abbrev TO := St → Hp → (Option Int → Hp → Prop) → Prop
/-- a slice's part (left out, or an int) -/
def PO (X : Cx) (e : Option Expr) (t : TO) : Prop :=
  ∀ (pins : List (Addr × Obj)) (s : Shared) (σ : St) (H : Hp) (Q : Option Int → Hp → Prop), Inv X pins σ H s → t σ H Q →
    wpAny (model X.prog X.w) X.A (evalPart e X.env) (fun u s' => ∃ o H', Inv X pins σ H' s' ∧ IsPart u o ∧ Q o H') X.xe s
def tNoPart : TO := fun _ H Q => Q none H
def tPart (t : TE) : TO := fun σ H Q => t σ H fun x H1 => ∃ i, x = .int i ∧ Q (some i) H1

section
variable {X : Cx} {e : Expr} {te : TE} {lo hi : Option Expr} {tl th : TO} {pos p2 : Pos}

theorem po_none : PO X none tNoPart := by
  intro pins s σ H Q I h
  rw [evalPart_none]
  exact wpAny_pure ⟨none, H, I, .none, h⟩
theorem po_some (h : PE X e te) : PO X (some e) (tPart te) := by
  intro pins s σ H Q I hw
  rw [evalPart_some]
  refine thn (h pins s σ H _ I hw) fun u s1 ⟨x, H1, I1, r1, q1⟩ => ?_
  obtain ⟨i, rfl, q⟩ := q1
  obtain ⟨t, rfl⟩ := r1
  exact ⟨some i, H1, I1, .int i t, q⟩

/-- what a slice of a value is, by values: the slice object stands at sl -/
def SlR (X : Cx) (r : V → Option Int → Option Int → Hp → VK → Prop) : Prop :=
  ∀ (pins : List (Addr × Obj)) (s : Shared) (σ : St) (H : Hp) (x : V) (v vl vu : Value) (lo hi : Option Int) (sl : Addr) (Q : VK), Inv X pins σ H s → RelV x v → s.heap.IsSliceOf sl vl vu .none → IsPart vl lo → IsPart vu hi → r x lo hi H Q →
    ∃ T id, typeLookup (.type T) "__getitem__" = pure (some (.builtin id)) ∧ s.TypeIs v T ∧ wpAny (model X.prog X.w) X.A (getItem v (.ref sl)) (EP X pins σ Q) X.xe s
theorem SlR.or {r r' : V → Option Int → Option Int → Hp → VK → Prop} (h : SlR X r) (h' : SlR X r') : SlR X (fun x lo hi H Q => r x lo hi H Q ∨ r' x lo hi H Q) := by
  intro pins s σ H x v vl vu lo hi sl Q I rx hs pl pu q
  rcases q with q | q
  · exact h pins s σ H x v vl vu lo hi sl Q I rx hs pl pu q
  · exact h' pins s σ H x v vl vu lo hi sl Q I rx hs pl pu q
def tSl (r : V → Option Int → Option Int → Hp → VK → Prop) (te : TE) (tl th : TO) : TE := fun σ H Q => te σ H fun x H1 => tl σ H1 fun l H2 => th σ H2 fun u H3 => r x l u H3 Q
/-- a[lo:hi], any a -/
theorem pe_slice {r : V → Option Int → Option Int → Hp → VK → Prop} (hr : SlR X r) (he : PE X e te) (hl : PO X lo tl) (hu : PO X hi th) : PE X (.Subscript e (.Slice lo hi none p2) pos) (tSl r te tl th) := by
  intro pins s σ H Q I h
  refine Subscript_ (thn (he pins s σ H _ I h) fun v s1 ⟨x, H1, I1, r1, q1⟩ => ?_)
  refine wpAny_Slice (thn (hl pins s1 σ H1 _ I1 q1) fun vl s2 ⟨l, H2, I2, pl, q2⟩ => thn (hu pins s2 σ H2 _ I2 q2) fun vu s3 ⟨u, H3, I3, pu, q3⟩ => ?_)
  rw [evalPart_none]
  refine wpAny_pure ?_
  have I4 : Inv X pins σ H3 { s3 with heap := s3.heap.push { cls := .type "slice", data := .fields #[vl, vu, .none] } } := I3.kept (t' := s3.toks) fun b ob q => Heap.get?_push_of_some _ q
  obtain ⟨T, id, hT, ht, hg⟩ := hr pins { s3 with heap := s3.heap.push { cls := .type "slice", data := .fields #[vl, vu, .none] } } σ H3 x v vl vu l u s3.heap.objs.size Q I4 r1 (Heap.IsSliceOf.new ..) pl pu q3
  show wpAny (model X.prog X.w) X.A (subscriptTail e (.Slice lo hi none p2) v (.ref s3.heap.objs.size)) (EP X pins σ Q) X.xe { s3 with heap := s3.heap.push { cls := .type "slice", data := .fields #[vl, vu, .none] } }
  exact tail_any (ops := [.ref s3.heap.objs.size, v]) ht hT hg (by with_unfolding_all rfl)

/-- the items of xs[lo:hi] -/
def cutV (xs : List V) (lo hi : Option Int) : List V := (xs.drop (HT.sIx xs.length 0 lo)).take (HT.sIx xs.length xs.length hi - HT.sIx xs.length 0 lo)
theorem cutV_length (xs : List V) (lo hi : Option Int) : (cutV xs lo hi).length ≤ xs.length := by
  unfold cutV
  rw [List.length_take, List.length_drop]
  omega
/-- t[lo:hi], not the whole of it (the whole would be t itself) -/
def rSlT (K : PySem.W.Frag) : V → Option Int → Option Int → Hp → VK → Prop := fun x lo hi H Q => ∃ a xs, x = .ref a ∧ SqT K H a xs ∧
  ¬ (HT.sIx xs.length 0 lo = 0 ∧ HT.sIx xs.length xs.length hi = xs.length) ∧ ∀ p, H p = none → Q (.ref p) (upd H p (.tup (cutV xs lo hi)))
theorem sl_tup : SlR X (rSlT X.K) := by
  intro pins s σ H x v vl vu lo hi sl Q I rx hs pl pu h
  obtain ⟨a, xs, rfl, hx, hw, q⟩ := h
  cases rx
  obtain ⟨its, r, ht, hz⟩ := I.tuple hx
  have hlen : its.toArray.size = xs.length := by rw [List.size_toArray]; exact r.length.symm
  refine ⟨"tuple", _, PyProof.Rows.slot_tuple_getitem.lookup, ht.typeIs, ?_⟩
  refine HT.getItem_tuple_cut ht hs pl pu (by rw [hlen]; exact hw) ?_ (by rw [hlen]; exact hz)
  rw [hlen]
  refine ⟨.ref s.heap.objs.size, _, I.laid (t' := s.toks) (o := .tup (cutV xs lo hi)) (fun b ob q => Heap.get?_push_of_some _ q) (Nat.le_refl _) ?_, rfl, q _ (I.hok.fresh (Nat.le_refl _))⟩
  exact ⟨Nat.le_trans (cutV_length xs lo hi) hz, _, (r.drop (HT.sIx xs.length 0 lo)).take (HT.sIx xs.length xs.length hi - HT.sIx xs.length 0 lo), IsTup.new _ _⟩

/-! ### t < u, t + u -/
/-- t + u, t not empty: u empty gives t itself -/
def rCatT (K : PySem.W.Frag) : R2 := fun x y H Q => ∃ a b xs ys, x = .ref a ∧ y = .ref b ∧ SqT K H a xs ∧ SqT K H b ys ∧ xs ≠ [] ∧ xs.length + ys.length ≤ sizeLine ∧
  (ys = [] → Q (.ref a) H) ∧ (ys ≠ [] → ∀ p, H p = none → Q (.ref p) (upd H p (.tup (xs ++ ys))))
theorem Vals.nil_iff {xs : List V} {us : List Value} (r : Vals xs us) : us = [] ↔ xs = [] := by
  cases r with
  | nil => simp
  | cons _ _ => simp
theorem op_catT : OpR X (binaryOp .Add) (rCatT X.K) := by
  intro pins s σ H x y v u Q I rx ry h
  obtain ⟨a, b, xs, ys, rfl, rfl, ha, hb, hx, hz, q1, q2⟩ := h
  cases rx
  cases ry
  obtain ⟨its, r1, p1, _⟩ := I.tuple ha
  obtain ⟨its2, r2, p2, _⟩ := I.tuple hb
  refine HT.cat_tup p1 p2 (fun z => hx (r1.nil_iff.mp z)) (fun z => ⟨.ref a, H, I, rfl, q1 (r2.nil_iff.mp z)⟩) (fun z => ?_) (by rw [← r1.length, ← r2.length]; exact hz)
  refine ⟨.ref s.heap.objs.size, _, I.laid (t' := s.toks) (o := .tup (xs ++ ys)) (fun b ob q => Heap.get?_push_of_some _ q) (Nat.le_refl _) ?_, rfl, q2 (fun w => z (r2.nil_iff.mpr w)) _ (I.hok.fresh (Nat.le_refl _))⟩
  exact ⟨by rw [List.length_append]; exact hz, _, r1.append r2, IsTup.new _ _⟩
end
end L2

namespace L2
open PySem PySem.Spec PyProof.Rows

/-! ### places -/
/-- the place that an index of any sign means -/
def ixN (n : Nat) (i : Int) : Option Nat := if 0 ≤ i then (if i < n then some i.toNat else none) else if -(n : Int) ≤ i then some (i + n).toNat else none
def atI {α : Type} (xs : List α) (i : Int) : Option α := (ixN xs.length i).bind fun j => xs[j]?
theorem ixN_seq {n : Nat} {i : Int} {j : Nat} (h : ixN n i = some j) : seqIndex? i n = some j ∧ j < n ∧ -(n : Int) ≤ i ∧ i < n := by
  unfold ixN at h
  by_cases h0 : 0 ≤ i
  · rw [if_pos h0] at h
    by_cases h1 : i < n
    · rw [if_pos h1] at h
      have e : i.toNat = j := Option.some.inj h
      exact ⟨by rw [seqIndex_of h0 h1, e], by omega, by omega, h1⟩
    · rw [if_neg h1] at h; cases h
  · rw [if_neg h0] at h
    by_cases h1 : -(n : Int) ≤ i
    · rw [if_pos h1] at h
      have e : (i + n).toNat = j := Option.some.inj h
      exact ⟨by rw [seqIndex_neg (by omega) h1, e], by omega, h1, by omega⟩
    · rw [if_neg h1] at h; cases h
theorem atI_get {α : Type} {xs : List α} {i : Int} {v : α} (h : atI xs i = some v) : ∃ j, seqIndex? i xs.length = some j ∧ xs[j]? = some v ∧ j < xs.length ∧ -(xs.length : Int) ≤ i ∧ i < xs.length := by
  unfold atI at h
  cases e : ixN xs.length i with
  | none => rw [e] at h; cases h
  | some j =>
    rw [e] at h
    obtain ⟨h1, h2, h3, h4⟩ := ixN_seq e
    exact ⟨j, h1, h, h2, h3, h4⟩
theorem atI_nat {α : Type} {xs : List α} {j : Nat} {v : α} (h : xs[j]? = some v) : atI xs (j : Int) = some v := by
  have hj : j < xs.length := (List.getElem?_eq_some_iff.mp h).1
  have e : ixN xs.length (j : Int) = some j := by
    unfold ixN
    rw [if_pos (by omega), if_pos (by omega)]; simp
  unfold atI; rw [e]; exact h
/-! ### what may be subscripted -/
/-- what stands as an index of a plain subscript -/
def PlainIx (b : Expr) : Prop := ∀ o i, subscripted b false o i = operate [o, i] (getItem o i)
/-- a subscript by values -/
def IxR (X : Cx) (r : R2) : Prop :=
  ∀ (value slice : Expr) (pins : List (Addr × Obj)) (s : Shared) (σ : St) (H : Hp) (x y : V) (v u : Value) (Q : VK), Inv X pins σ H s → RelV x v → RelV y u → r x y H Q →
    subscripted slice false v u = operate [v, u] (getItem v u) → wpAny (model X.prog X.w) X.A (subscriptTail value slice v u) (EP X pins σ Q) X.xe s
/-- a call of a builtin's method by values: the receiver, the arguments -/
def MtR (X : Cx) (id : String) (r : V → List V → Hp → VK → Prop) : Prop :=
  ∀ (pins : List (Addr × Obj)) (s : Shared) (σ : St) (H : Hp) (x : V) (xs : List V) (v : Value) (us : List Value) (Q : VK), Inv X pins σ H s → RelV x v → Vals xs us → r x xs H Q →
    wpAny (model X.prog X.w) X.A (call (.builtin id) (v :: us)) (EP X pins σ Q) X.xe s
section
variable {X : Cx} {a b : Expr} {ta tb : TE} {pos : Pos}
theorem IxR.or {r r' : R2} (h : IxR X r) (h' : IxR X r') : IxR X (fun x y H Q => r x y H Q ∨ r' x y H Q) := by
  intro value slice pins s σ H x y v u Q I rx ry q hs
  rcases q with q | q
  · exact h value slice pins s σ H x y v u Q I rx ry q hs
  · exact h' value slice pins s σ H x y v u Q I rx ry q hs
/-- a[b] -/
theorem pe_ix {r : R2} (hr : IxR X r) (ha : PE X a ta) (hb : PE X b tb) (hs : PlainIx b) : PE X (.Subscript a b pos) (tOp r ta tb) := by
  intro pins s σ H Q I h
  exact Subscript_ (binT ha hb I h fun v u s2 x y H2 I2 rx ry q => hr a b pins s2 σ H2 x y v u Q I2 rx ry q (hs _ _))

def rIxL (K : PySem.W.Frag) : R2 := fun x y H Q => ∃ p xs i v, x = .ref p ∧ y = .int i ∧ SqL K H p xs ∧ atI xs i = some v ∧ Q v H
def rIxT (K : PySem.W.Frag) : R2 := fun x y H Q => ∃ p xs i v, x = .ref p ∧ y = .int i ∧ SqT K H p xs ∧ atI xs i = some v ∧ Q v H
def rIxS : R2 := fun x y H Q => ∃ z i c, x = .str z ∧ y = .int i ∧ z.length ≤ sizeLine ∧ atI z.cps.toList i = some c ∧ Q (.str ⟨#[c]⟩) H
theorem ix_list : IxR X (rIxL X.K) := by
  intro value slice pins s σ H x y v u Q I rx ry h hs
  obtain ⟨p, xs, i, z, rfl, rfl, hq, he, q⟩ := h
  cases rx
  obtain ⟨t, rfl⟩ := ry
  obtain ⟨its, r, pl, hz⟩ := I.list hq
  obtain ⟨j, h1, h2, h3, h4, h5⟩ := atI_get he
  obtain ⟨w, ew, rw'⟩ := r.get h2
  have hl := r.length
  have hn := line63
  have fin : EP X pins σ Q w s := ⟨z, H, I, rw', q⟩
  by_cases h0 : 0 ≤ i
  · have hj : i.toNat = j := by
      rw [seqIndex_of h0 h5] at h1
      exact Option.some.inj h1
    exact item_listR pl.isList h0 (by omega) (by rw [hj]; simpa using ew) fin hs
  · have hj : (i + (its.toArray.size : Int)).toNat = j := by
      rw [seqIndex_neg (by omega) h4] at h1
      rw [List.size_toArray, ← hl]
      exact Option.some.inj h1
    exact subscriptTail_builtinR (x := w) pl.isList.typeIs slot_list_getitem.lookup
      (wpAny_getItem_list_neg (Q := fun r s' => r = w ∧ EP X pins σ Q r s') pl.isList (by omega) (by rw [List.size_toArray] <;> omega) (by omega) (by rw [hj]; simpa using ew) ⟨rfl, fin⟩) hs
theorem ix_tup : IxR X (rIxT X.K) := by
  intro value slice pins s σ H x y v u Q I rx ry h hs
  obtain ⟨p, xs, i, z, rfl, rfl, hq, he, q⟩ := h
  cases rx
  obtain ⟨t, rfl⟩ := ry
  obtain ⟨its, r, pl, hz⟩ := I.tuple hq
  obtain ⟨j, h1, h2, h3, h4, h5⟩ := atI_get he
  obtain ⟨w, ew, rw'⟩ := r.get h2
  have hl := r.length
  have hn := line63
  have fin : EP X pins σ Q w s := ⟨z, H, I, rw', q⟩
  exact subscriptTail_builtinR (x := w) pl.typeIs slot_tuple_getitem.lookup
    (getItem_tuple (j := j) (Q := fun r s' => r = w ∧ EP X pins σ Q r s') pl (by omega) (by omega) (by rw [List.size_toArray, ← hl]; exact h1) (by simpa using ew) ⟨rfl, fin⟩) hs
theorem ix_str : IxR X rIxS := by
  intro value slice pins s σ H x y v u Q I rx ry h hs
  obtain ⟨z, i, c, rfl, rfl, hz, he, q⟩ := h
  obtain ⟨t, rfl⟩ := rx
  obtain ⟨t', rfl⟩ := ry
  obtain ⟨j, h1, h2, h3, h4, h5⟩ := atI_get he
  have hl : z.cps.toList.length = z.length := by simp [Str.length]
  rw [hl] at h1 h4 h5
  have hn := line63
  exact tail_any (typeIs_str s z t) slot_str_getitem.lookup (getItem_str (c := c) (by
    have e1 : decide (i < -(2 ^ 63 : Int)) = false := decide_eq_false (by omega)
    have e2 : decide (i ≥ 2 ^ 63) = false := decide_eq_false (by omega)
    rw [e1, e2, Bool.or_false]) (by rw [h1]; simpa using h2) ⟨.str ⟨#[c]⟩, H, I.tok _, ⟨_, rfl⟩, q⟩) hs
/-- list, tuple or str -/
def rIx (K : PySem.W.Frag) : R2 := fun x y H Q => rIxL K x y H Q ∨ rIxT K x y H Q ∨ rIxS x y H Q
theorem ix_seq : IxR X (rIx X.K) := ix_list.or (ix_tup.or ix_str)

/-! ### xs[i] = v, any sign -/
/-- the list's object behind a store -/
theorem mapSeq_set (its : List Value) (n j : Nat) (u : Value) : Obj.mapSeq (·.setIfInBounds j u) { cls := .type "list", data := .seq its.toArray n } = { cls := .type "list", data := .seq (its.set j u).toArray n } := by
  simp [Obj.mapSeq]
theorem Inv.lst {pins : List (Addr × Obj)} {σ : St} {H : Hp} {s : Shared} {p : Addr} {xs : List V} (I : Inv X pins σ H s) (h : H p = some (.lst xs)) :
    ∃ (its : List Value) (n : Nat), Vals xs its ∧ s.heap.get? p = some { cls := .type "list", data := .seq its.toArray n } ∧ xs.length ≤ sizeLine := by
  obtain ⟨z, its, n, r, e⟩ := I.hok p _ h
  exact ⟨its, n, r, e, z⟩
/-- the list at p is written by an update of its object -/
theorem Inv.lstUpd {pins : List (Addr × Obj)} {σ : St} {H : Hp} {s : Shared} {p : Addr} {xs ys : List V} {its its' : List Value} {n n' : Nat} {f : Obj → Obj} (I : Inv X pins σ H s) (h : H p = some (.lst xs))
    (ho : s.heap.get? p = some { cls := .type "list", data := .seq its.toArray n }) (hf : f { cls := .type "list", data := .seq its.toArray n } = { cls := .type "list", data := .seq its'.toArray n' }) (r : Vals ys its') (hz : ys.length ≤ sizeLine) (t : Nat) :
    Inv X pins σ (upd H p (.lst ys)) { s with heap := s.heap.update p f, toks := t } := by
  have e : (s.heap.update p f).get? p = some { cls := .type "list", data := .seq its'.toArray n' } := by
    rw [Heap.get?_update_self f ho (by rw [hf] <;> rfl), hf]
  refine I.write (x := p) (e := p) (by rw [h]; trivial) (.inl rfl) (fun b u hb q => (Heap.get?_update_other _ _ (Ne.symm hb)).trans q) ⟨_, e⟩ ?_
  exact ⟨hz, its', n', r, e⟩
def rSetL : V → V → V → Hp → (Hp → Prop) → Prop := fun o i v H Q => ∃ p xs k j, o = .ref p ∧ i = .int k ∧ H p = some (.lst xs) ∧ ixN xs.length k = some j ∧ Q (upd H p (.lst (xs.set j v)))
theorem set_list : PSet X rSetL := by
  intro pins s σ H o i v ov iv u Q I ro ri rv h
  obtain ⟨p, xs, k, j, rfl, rfl, hp, hj, q⟩ := h
  cases ro
  obtain ⟨t, rfl⟩ := ri
  obtain ⟨its, n, r, ho, hz⟩ := I.lst hp
  obtain ⟨h1, h2, h3, h4⟩ := ixN_seq hj
  have hl := r.length
  have hn := line63
  have I' : Inv X pins σ (upd H p (.lst (xs.set j v))) { s with heap := s.heap.update p (Obj.mapSeq (·.setIfInBounds j u)) } :=
    I.lstUpd hp ho (mapSeq_set its n j u) (r.set rv j) (by rw [List.length_set]; exact hz) s.toks
  by_cases h0 : 0 ≤ k
  · have hk : k.toNat = j := by
      rw [seqIndex_of h0 h4] at h1
      exact Option.some.inj h1
    exact PySem.W.ki_setAt ho h0 (by omega) (by rw [List.size_toArray, ← hl]; exact h4) (by rw [hk]; exact ⟨_, I', q⟩)
  · have hk : (k + (its.toArray.size : Int)).toNat = j := by
      rw [seqIndex_neg (by omega) h3] at h1
      rw [List.size_toArray, ← hl]
      exact Option.some.inj h1
    exact PySem.W.ki_setBack ho (by omega) (by rw [List.size_toArray, ← hl]; exact h3) (by omega) (by rw [hk]; exact ⟨_, I', q⟩)

/-! ### slices -/
theorem slice_bounds (lo hi : Option Int) (n : Nat) : (sliceBounds lo hi none n).1 = ((HT.sIx n 0 lo : Nat) : Int) ∧ (sliceBounds lo hi none n).2.1 = ((HT.sIx n n hi : Nat) : Int) ∧ (sliceBounds lo hi none n).2.2 = 1 := by
  refine ⟨?_, ?_, rfl⟩
  · cases lo with
    | none => simp [sliceBounds, HT.sIx]
    | some i =>
      simp only [sliceBounds, HT.sIx, Option.getD_none, show (1 : Int) > 0 by decide, if_true]
      by_cases h : i < 0
      · simp only [h, if_true] <;> omega
      · simp only [h, if_false] <;> omega
  · cases hi with
    | none => simp [sliceBounds, HT.sIx]
    | some i =>
      simp only [sliceBounds, HT.sIx, Option.getD_none, show (1 : Int) > 0 by decide, if_true]
      by_cases h : i < 0
      · simp only [h, if_true] <;> omega
      · simp only [h, if_false] <;> omega
theorem slicePick_cut (its : List Value) (lo hi : Option Int) : slicePick its.toArray lo hi none = ((its.drop (HT.sIx its.length 0 lo)).take (HT.sIx its.length its.length hi - HT.sIx its.length 0 lo)).toArray := by
  obtain ⟨h1, h2, h3⟩ := slice_bounds lo hi its.toArray.size
  unfold slicePick
  rw [h1, h2, h3]
  simp only [sliceRange_one, pick_run, List.size_toArray] <;> rfl
/-- xs[lo:hi] of a list: a new list -/
def rSlL (K : PySem.W.Frag) : V → Option Int → Option Int → Hp → VK → Prop := fun x lo hi H Q => ∃ a xs, x = .ref a ∧ SqL K H a xs ∧ ∀ p, H p = none → Q (.ref p) (upd H p (.lst (cutV xs lo hi)))
theorem sl_list : SlR X (rSlL X.K) := by
  intro pins s σ H x v vl vu lo hi sl Q I rx hs pl pu h
  obtain ⟨a, xs, rfl, hx, q⟩ := h
  cases rx
  obtain ⟨its, r, ht, hz⟩ := I.list hx
  have hlen := r.length
  refine ⟨"list", _, slot_list_getitem.lookup, ht.isList.typeIs, ?_⟩
  refine wpAny_getItem_list_slice ht.isList hs pl pu .none (by simp) ?_ (by rw [List.size_toArray] <;> omega)
  rw [slicePick_cut, ← hlen]
  refine ⟨.ref s.heap.objs.size, _, I.laid (t' := s.toks) (o := .lst (cutV xs lo hi)) (fun b ob q => Heap.get?_push_of_some _ q) (Nat.le_refl _) ?_, rfl, q _ (I.hok.fresh (Nat.le_refl _))⟩
  exact ⟨Nat.le_trans (cutV_length xs lo hi) hz, _, 0, (r.drop (HT.sIx xs.length 0 lo)).take (HT.sIx xs.length xs.length hi - HT.sIx xs.length 0 lo), Heap.get?_push_size _ rfl⟩

/-! ### in, not in: flat items -/
/-! ### len, list(x), tuple(x) of any list or tuple that is read -/
theorem CallR.or {f : Value} {r r' : List V → Hp → VK → Prop} (h : CallR X f r) (h' : CallR X f r') : CallR X f (fun xs H Q => r xs H Q ∨ r' xs H Q) := by
  intro pins s σ H xs us Q I rs q
  rcases q with q | q
  · exact h pins s σ H xs us Q I rs q
  · exact h' pins s σ H xs us Q I rs q
/-! ### the call of a builtin's method: o.m(..) -/
/-- the value is of that builtin type -/
def tyV (K : PySem.W.Frag) (T : String) (x : V) (H : Hp) : Prop := match x with
  | .str _ => T = "str"
  | .int _ => T = "int"
  | .ref p => (T = "list" ∧ ∃ xs, SqL K H p xs) ∨ (T = "tuple" ∧ ∃ o, K.lookup p = some o ∧ o.cls = .type "tuple" ∧ o.dict = none) ∨
      (T = "dict" ∧ ((∃ kvs, H p = some (.dK kvs)) ∨ ∃ kvs, H p = some (.dT kvs))) ∨ (T = "set" ∧ ∃ S n, H p = some (.set S n))
  | _ => False
theorem tyV_is {pins : List (Addr × Obj)} {σ : St} {H : Hp} {s : Shared} {T : String} {x : V} {v : Value} (I : Inv X pins σ H s) (r : RelV x v) (ty : tyV X.K T x H) :
    s.TypeIs v T ∧ ∀ a, v = .ref a → ∃ ob, s.heap.get? a = some ob ∧ ob.dict = none := by
  cases x with
  | str z =>
    obtain ⟨t, rfl⟩ := r
    cases (show T = "str" from ty)
    exact ⟨typeIs_str s z t, fun _ e => nomatch e⟩
  | int i =>
    obtain ⟨t, rfl⟩ := r
    cases (show T = "int" from ty)
    exact ⟨typeIs_int s i t, fun _ e => nomatch e⟩
  | ref p =>
    cases r
    rcases ty with ⟨rfl, xs, hq⟩ | ⟨rfl, o, hk, hc, hd⟩ | ⟨rfl, hk⟩ | ⟨rfl, S, n, hk⟩
    · obtain ⟨its, _, pl, _⟩ := I.list hq
      refine ⟨pl.isList.typeIs, fun a e => ?_⟩
      cases e
      obtain ⟨o, n, e, c, hd, _⟩ := pl
      exact ⟨o, e, hd⟩
    · refine ⟨⟨o, I.kIn p o hk, hc⟩, fun a e => ?_⟩
      cases e
      exact ⟨o, I.kIn _ o hk, hd⟩
    · have z : ∃ o, s.heap.get? p = some o ∧ o.ExactDict := by
        rcases hk with ⟨kvs, hk⟩ | ⟨kvs, hk⟩
        · obtain ⟨_, _, _, _, o, _, _, e, ex, _⟩ := I.hok p _ hk
          exact ⟨o, e, ex⟩
        · obtain ⟨_, _, _, _, o, _, _, e, ex, _⟩ := I.hok p _ hk
          exact ⟨o, e, ex⟩
      obtain ⟨o, e, ex⟩ := z
      refine ⟨⟨o, e, ex.1⟩, fun a e2 => ?_⟩
      cases e2
      exact ⟨o, e, ex.2.1⟩
    · obtain ⟨o, _, _, _, e, ex, _⟩ := I.hok p _ hk
      refine ⟨⟨o, e, ex.1⟩, fun a e2 => ?_⟩
      cases e2
      exact ⟨o, e, ex.2.1⟩
  | _ => exact False.elim ty
def tBM0 (K : PySem.W.Frag) (T : String) (r : V → List V → Hp → VK → Prop) (to : TE) : TE := fun σ H Q => to σ H fun x H1 => tyV K T x H1 ∧ r x [] H1 Q
def tBM (K : PySem.W.Frag) (T : String) (r : V → List V → Hp → VK → Prop) (to : TE) (t : TA) : TE := fun σ H Q => to σ H fun x H1 => tyV K T x H1 ∧ t σ H1 fun xs H2 => r x xs H2 Q
variable {o e : Expr} {es : List Expr} {to : TE} {t : TA} {name : Str} {apos cpos : Pos} {T id : String} {r : V → List V → Hp → VK → Prop}
theorem pe_bm0 (pa : PlainAttrs T) (slot : Slot T name id) (hty : typeOf (.builtin id) = pure (.type "method_descriptor")) (hm : MtR X id r) (ho : PE X o to)
    (hbase : attributeBase o name X.env (eval o X.env) = eval o X.env := by rfl) (hline : (apos.endLine == cpos.line) = true := by rfl) : PE X (.Call (.Attribute o name apos) [] [] cpos) (tBM0 X.K T r to) := by
  intro pins s σ H Q I h
  refine wpAny_Call_method0_late hbase hline (thn (ho pins s σ H _ I h) fun v s1 ⟨x, H1, I1, r1, ty, q1⟩ => ?_)
  obtain ⟨h1, h2⟩ := tyV_is I1 r1 ty
  exact ⟨T, id, pa, slot, hty, h1, h2, Calls.callWith_builtin rfl (PySem.evalArgs_none (hm pins s1 σ H1 x [] v [] Q I1 r1 .nil q1))⟩
theorem pe_bm (pa : PlainAttrs T) (slot : Slot T name id) (hty : typeOf (.builtin id) = pure (.type "method_descriptor")) (hm : MtR X id r) (ho : PE X o to) (ha : PA X (e :: es) t)
    (hbase : attributeBase o name X.env (eval o X.env) = eval o X.env := by rfl)
    (hfew : ((backTo cpos (starEach (e :: es) X.env)).all (fun x => !x.1) && (backToKw cpos (keywordEach [] X.env)).all (fun x => x.1.isSome)
      && decide ((e :: es).length + ([] : List Keyword).length + (if ([] : List Keyword).isEmpty then 0 else 1) < 30)) = true := by rfl)
    (hline : (apos.endLine == cpos.line) = true := by rfl) (hs : starEach (e :: es) X.env = (false, eval e X.env) :: starEach es X.env := by rfl) (hplain : (backTo cpos (starEach es X.env)).any (·.1) = false := by rfl) :
    PE X (.Call (.Attribute o name apos) (e :: es) [] cpos) (tBM X.K T r to t) := by
  intro pins s σ H Q I h
  refine wpAny_Call_method_late hbase hfew hline rfl (thn (ho pins s σ H _ I h) fun v s1 ⟨x, H1, I1, r1, ty, q1⟩ => ?_)
  obtain ⟨h1, h2⟩ := tyV_is I1 r1 ty
  refine ⟨T, id, pa, slot, hty, h1, h2, ?_⟩
  have hA := ha cpos pins s1 σ H1 _ I1 q1
  rw [hs] at hA ⊢
  refine Calls.callWith_builtin (by show (false || (backTo cpos (starEach es X.env)).any (·.1)) = false; rw [hplain] <;> rfl) (Calls.evalArgs_plain ?_)
  exact thn hA fun us s2 ⟨vs, H2, I2, r2, q2⟩ => hm pins s2 σ H2 x vs v us Q I2 r1 r2 q2
/- xs.append(e), list.index on a module's tuple .. are MtR facts of 06m -/
end
end L2

namespace L2
open PySem PySem.Spec PyProof.Rows

def MtM (X : Cx) (id : String) (r : V → List V → Hp → VK → Prop) : Prop :=
  ∀ (pins : List (Addr × Obj)) (s : Shared) (σ : St) (H : Hp) (x : V) (xs : List V) (v : Value) (us : List Value) (Q : VK), Inv X pins σ H s → RelV x v → Vals xs us → r x xs H Q →
    wpAny (model X.prog X.w) X.A (call (.builtin id) (v :: us)) (EP X pins σ Q) X.xe s

/-! ### lists of values -/
theorem Vals.one : ∀ {x : V} {us : List Value}, Vals [x] us → ∃ u, us = [u] ∧ RelV x u
  | _, _, .cons r .nil => ⟨_, rfl, r⟩
theorem Vals.zero : ∀ {us : List Value}, Vals [] us → us = []
  | _, .nil => rfl
section
variable {X : Cx} {pins : List (Addr × Obj)} {σ : St} {H : Hp} {s : Shared} {l b : Addr} {xs ys zs : List V}

/-! ### the two steps: a tracked list is rewritten, a new list is laid -/
theorem Inv.lset {its its' : List Value} {n : Nat} {f : Array Value → Array Value} {t' : Nat} (I : Inv X pins σ H s) (hH : H l = some (.lst xs))
    (e : s.heap.get? l = some { cls := .type "list", data := .seq its.toArray n }) (hf : f its.toArray = its'.toArray) (hv : Vals ys its') (hz : ys.length ≤ sizeLine) :
    Inv X pins σ (upd H l (.lst ys)) { s with heap := s.heap.update l (Obj.mapSeq f), toks := t' } := by
  have q := PySem.IsL.update e f
  rw [hf] at q
  refine I.write (x := l) (e := l) (by rw [hH]; exact trivial) (.inl rfl) (fun b' u hb hu => (Heap.get?_update_other s.heap (Obj.mapSeq f) (Ne.symm hb)).trans hu) ⟨_, q⟩ ?_
  exact ⟨hz, its', _, hv, q⟩
theorem Inv.lnew {its : List Value} {t' : Nat} (I : Inv X pins σ H s) (hv : Vals ys its) (hz : ys.length ≤ sizeLine) :
    Inv X pins σ (upd H s.heap.objs.size (.lst ys)) { s with heap := s.heap.push { cls := .type "list", data := .seq its.toArray }, toks := t' } :=
  I.laid (fun _ _ q => Heap.get?_push_of_some _ q) (Nat.le_refl _) ⟨hz, its, 0, hv, Heap.get?_push_size _ rfl⟩
theorem Inv.fresh (I : Inv X pins σ H s) : H s.heap.objs.size = none := I.hok.fresh (Nat.le_refl _)
theorem Inv.lstM (I : Inv X pins σ H s) (hH : H l = some (.lst xs)) : xs.length ≤ sizeLine ∧ ∃ (its : List Value) (n : Nat), Vals xs its ∧ xs.length = its.length ∧ s.heap.get? l = some { cls := .type "list", data := .seq its.toArray n } := by
  obtain ⟨z, its, n, r, e⟩ := I.hok l _ hH
  exact ⟨z, its, n, r, r.length, e⟩

end

section
variable {X : Cx}

/-! ### methods -/
def rAppend : V → List V → Hp → VK → Prop := fun x vs H Q => ∃ l xs y, x = .ref l ∧ vs = [y] ∧ H l = some (.lst xs) ∧ xs.length < sizeLine ∧ Q .non (upd H l (.lst (xs ++ [y])))
theorem mt_append : MtM X "list.append" rAppend := by
  intro pins s σ H x vs v us Q I rx rv h
  obtain ⟨l, xs, y, rfl, rfl, hH, hz, q⟩ := h
  cases rx
  obtain ⟨u, rfl, ru⟩ := rv.one
  obtain ⟨z, its, n, r, hl, e⟩ := I.lstM hH
  refine call_meets F.slot_list_append ⟨_, e, rfl⟩ F.entry_list_append (F.args_list_append_2 _ _) (PySem.list_append l its.toArray n u (by rw [List.size_toArray]; omega)) ⟨e, ?_⟩
  refine ⟨.non, _, I.lset (its' := its ++ [u]) hH e (by simp) (r.append (.cons ru .nil)) ?_, rfl, q⟩
  rw [List.length_append, List.length_singleton]
  omega

/-! ### list + list, list += list, list * int -/
/-! ### del xs[i] -/
end

/-! ### xs[a:b] = ys -/
section
variable {prog : Program} {w : World} {A : Around} {E : Value → Shared → Prop} {s : Shared}
end

section
variable {X : Cx}
end
end L2

namespace Att
open PySem PySem.W PySem.Calls PyProof.Rows

/-! ### the script -/
theorem ints_of_wellAll {P : Params} {h : Heap} : ∀ (ns : List Int) (vs : List Value), WellAll P h vs (ns.map WData.int) → IntsAre vs ns := by
  intro ns
  induction ns with
  | nil =>
    intro vs w
    rw [List.map_nil] at w
    cases w
    exact .nil
  | cons n ns ih =>
    intro vs w
    rw [List.map_cons] at w
    cases w with
    | cons a b =>
      cases a
      exact .cons _ _ (ih _ b)

theorem script_of {l : OpenLaw} {n : Nat} (hn : l.most = some n) {P : Params} {h : Heap} {args : List WData} {vals : List Value}
    (hpre : l.row.toRowW.claim.pre args = true) (hwl : WellAll P h vals args) :
    ∃ a vs ns, vals = [Value.ref a] ∧ args = [WData.list (ns.map WData.int)] ∧ h.get? a = some { cls := .type "list", data := .seq vs.toArray } ∧ IntsAre vs ns ∧ ns.length ≤ n := by
  have hsh : WShape.hasAll [] args [.list .int] = true := (pre_splitW hpre).1
  have hc : l.pre.holds [] { args := args } = true := (pre_splitW hpre).2
  obtain ⟨d, r, rfl, h1, h2⟩ := hasAllW_cons hsh
  obtain rfl := hasAllW_nil h2
  obtain ⟨xs, rfl, h3⟩ := hasW_list h1
  obtain ⟨ns, rfl⟩ := items_int h3
  have hlen : ns.length ≤ n := by
    unfold OpenLaw.pre at hc
    have h4 : (WTm.not (.lt (.lit (.int (n : Int))) (.len (.arg 0)))).holds [] { args := [.list (ns.map .int)] } = true := by
      have h4 := (holds_andW hc).1
      rw [hn] at h4
      exact h4
    have h5 := condW_of h4 (w_not (w_lt w_lit (w_len_list (w_arg rfl))))
    rw [List.length_map] at h5
    refine Nat.le_of_not_lt fun q => ?_
    have q' : (n : Int) < ((ns.length : Nat) : Int) := by omega
    first
      | (rw [decide_eq_true q'] at h5; exact absurd h5 (by decide))
      | (simp at h5; omega)
  cases hwl with
  | cons w1 w2 =>
    cases w2
    cases w1 with
    | list ho hall => exact ⟨_, _, ns, rfl, rfl, ho, ints_of_wellAll ns _ hall, hlen⟩

theorem post_true (l : OpenLaw) (args : List WData) : l.row.toRowW.claim.post args (.bool true) args = true :=
  postW_of (r := l.row.toRowW) (X := (true == true))
    (show WShape.has [] (.bool true) .bool = true by first | rfl | decide | simp [WShape.has, WShape.arms, WShape.armsAll])
    (show (WTm.eq .res (.lit (.bool true))).value [] { args := args, res := some (.bool true), after := args } = some (.bool (true == true)) from w_eq_bool (w_res rfl) w_lit) rfl

/-! ### the attachment: holds_open's last premise (the goal 'hc' behind k_head) from a wpAny of the law's body -/
/-- the same from a codeAny of the CALL (for a layer whose function contracts speak of calls) -/
theorem attach_call {l : OpenLaw} {n : Nat} {q : Program} {loose : List Str} {XP : (Str → Option Value) → Heap → Prop} {YP : World → Heap → Prop} {d : DefRec}
    (hn : l.most = some n) (hdf : d.params.defaults = [])
    (call : ∀ (w : World) (s₀ s₁ : Shared) (mg mb : Str → Option Value) (fa : Addr) (o : Obj) (pm cd doc : Value) (a : Addr) (vs : List Value) (ns : List Int),
      Ground q loose [] XP w s₀ mg mb s₁.heap → YP w s₁.heap →
      s₁.heap.get? fa = some o → o.data = .func (docDef d.name d.params d.body d.scope pm cd doc) → s₁.heap.CodeRec cd d.name → mg d.name = some (.ref fa) →
      s₁.heap.get? a = some { cls := .type "list", data := .seq vs.toArray } → IntsAre vs ns → ns.length ≤ n → s₁.gens = #[] →
      codeAny (model l.prog w) callerA (.call (.ref fa) ⟨[.ref a], []⟩) (fun r s' => r = .ok (.ret (.bool true)) ∧ OldK s₁.heap s'.heap ∧ s'.os = s₁.os ∧ AllBare s'.gens) s₁) :
    WalkO q loose XP YP l.row.toRowW d [] (fun f vs => PySem.call f vs) := by
  intro w s₀ s₁ mg mb G Y fa o pm cd doc dV kV ho hd hcd hD hmg hg args vals as hpre hlay hrd hwl hlo
  obtain rfl : dV = .none := Dflts.none hD hdf
  obtain rfl : kV = .none := Dflts.noKw hD
  obtain ⟨a, vs, ns, rfl, rfl, hobj, hints, hlen⟩ := script_of hn hpre hwl
  refine enter_call (codeAny_mono (call w s₀ s₁ mg mb fa o pm cd doc a vs ns G Y ho (fd_plain hd) hcd hmg hobj hints hlen hg) fun r s' hq => ?_)
  obtain ⟨rfl, h2, h3, h4⟩ := hq
  exact ⟨.inl ⟨.bool true, .bool true, [], rfl, fun _ => rfl, .bool true, post_true l _, fun _ => ⟨List.Pairwise.nil, fun _ hm => (nomatch hm)⟩⟩, h2, h3, h4⟩

/-! ### rules over ANY heap (no ledger) from facts about the written part K: the library's own take a ledger (News) for what they write -/
section
variable {prog : Program} {w : World} {A : Around} {E : Value → Shared → Prop} {s : Shared} {K : Frag}

/-! the whole heap as the ledger: makes every rule that writes through a ledger a rule over any heap -/
def ledger (h : Heap) (L d : Addr) : List (Addr × Obj) := (List.range h.objs.size).filterMap fun a => if a = L ∨ a = d then none else (h.get? a).map fun o => (a, o)
end
end Att

namespace L2
open PySem PySem.Spec PyProof.Rows

theorem vals_ints : ∀ {vs : List Value} {ns : List Int}, IntsAre vs ns → Vals (ns.map V.int) vs
  | _, _, .nil => .nil
  | _, _, .cons n t h => .cons ⟨t, rfl⟩ (vals_ints h)

/-- nothing is tracked but the script, known to the object (or it is an object of the module) -/
def Only (H : Hp) : Prop := ∀ b, H b = none ∨ ∃ o xs, H b = some (.frz o (.lst xs))

/-- THE HEAD: the law's promise, at the heap behind the top. F, the promise of the law's def, may use that base is part of the heap (so K.In base, base.Ns mainGlobals mg stand in Mod) -/
theorem law_call {P : Program} {w : World} {K : PySem.W.Frag} {mg mb : Str → Option Value} {CX : CXT} {k : Nat} {fa a : Addr} {fd : FuncData} {x : Str} {sp : Sp} {s₁ : Shared} {vs : List Value} {ns : List Int}
    (KX : K.In s₁.heap) (hns : s₁.heap.Ns mainGlobals mg) (hb : s₁.heap.Ns builtinsNs mb) (hbb : ∀ x : Str, x ≠ "__name__" → mb x = bootBuiltins x) (hlim : s₁.heap.NoLimit) (hg : s₁.gens = #[])
    (ha : s₁.heap.get? a = some { cls := .type "list", data := .seq vs.toArray }) (hi : IntsAre vs ns) (hl : ns.length ≤ sizeLine) (hr : Room k callerA)
    (F : ∀ base : Heap, K.In base → base.Ns mainGlobals mg → FnOk P w K mg base CX k fa fd [x] sp) (hbind : ∀ (s : Shared) (u : Value), BindsTo s fd ⟨[u], []⟩ [(x, u)])
    (hsp : ∀ H : Hp, Only H → SqL K H a (ns.map V.int) → sp [.ref a] H (fun v _ => v = .bl true) fun _ _ _ => False)
    (hCX : ∀ H e s', CX [] H s₁ (fun _ _ _ => False) e s' → False) :
    codeAny (model P w) callerA (.call (.ref fa) ⟨[.ref a], []⟩) (fun r s' => r = .ok (.ret (.bool true)) ∧ OldK s₁.heap s'.heap ∧ s'.os = s₁.os ∧ AllBare s'.gens) s₁ := by
  have rv := vals_ints hi
  have lenV := hi.length
  -- from an abstract heap in which nothing but the script may be tracked
  have core : ∀ H : Hp, Only H → SqL K H a (ns.map V.int) → HOk P w H s₁.heap → (∀ b, H b ≠ none → b = a) → (H a ≠ none → K.lookup a = none) →
      codeAny (model P w) callerA (.call (.ref fa) ⟨[.ref a], []⟩) (fun r s' => r = .ok (.ret (.bool true)) ∧ OldK s₁.heap s'.heap ∧ s'.os = s₁.os ∧ AllBare s'.gens) s₁ := by
    intro H hO hS hok hA hK
    have base_of : ∀ {b : Addr} {o : Obj}, s₁.heap.get? b = some o → H b = none → (hidT s₁.heap H).get? b = some o := fun e n => hidT_get e n
    have noA : ∀ {b : Addr} {o : Obj} {es : Array DictEntry} {ep : Nat}, s₁.heap.get? b = some o → o.data = .dict es ep → H b = none := fun {b o es ep} e d => by
      cases q : H b with
      | none => rfl
      | some u =>
        have e' : b = a := hA b (by rw [q]; simp)
        subst e'
        rw [ha] at e; cases e
        have d' : Data.seq vs.toArray _ = Data.dict es ep := d
        cases d'
    have nsK : ∀ {b : Addr} {m : Str → Option Value}, s₁.heap.Ns b m → (hidT s₁.heap H).Ns b m := fun {b m} ⟨o, es, ep, e, d, r⟩ => ⟨o, es, ep, base_of e (noA e d), d, r⟩
    have hKb : K.In (hidT s₁.heap H) := fun b o e => base_of (KX b o e) (by
      cases q : H b with
      | none => rfl
      | some u =>
        have e' : b = a := hA b (by rw [q]; simp)
        subst e'
        rw [hK (by rw [q]; simp)] at e; cases e)
    have hM : Mod K mg (hidT s₁.heap H) := ⟨hKb, nsK hns, ⟨mb, nsK hb, hbb⟩, let ⟨mc, h1, h2⟩ := hlim; ⟨mc, nsK h1, h2⟩⟩
    have e0 : Env0 P w K mg (hidT s₁.heap H) callerA [] s₁ H := ⟨rfl, hM, fun b o e => of_hidT e, Nat.le_of_eq (hidT_size _ _), trivial, fun b hb => absurd (show b ∈ ([] : List Addr) from hb) (by simp), hok, .of_eq hg⟩
    refine codeAny_mono ((F _ hKb (nsK hns)).run callerA [] s₁ H ⟨[.ref a], []⟩ [.ref a] [.ref a] _ _ hr e0 (hbind s₁ (.ref a)) (.cons rfl .nil) (hsp H hO hS)) fun r s' h => ?_
    cases r with
    | error e => exact (hCX H e s' h).elim
    | ok fl =>
      cases fl with
      | next => exact False.elim h
      | brk => exact False.elim h
      | cont => exact False.elim h
      | ret u =>
        obtain ⟨v, H', os, bare, un, hok', r', q⟩ := h
        have q' : v = .bl true := q
        subst q'
        obtain rfl : u = Value.bool true := r'
        refine ⟨rfl, OldK.of_keep fun b o e => ?_, os, bare⟩
        cases q : H b with
        | none => exact un.keep b o e q (by intro z; exact absurd (show b ∈ ([] : List Addr) from z) (by simp)) (by simp)
        | some u =>
          rcases hO b with z | ⟨ob, xs, z⟩
          · rw [q] at z; cases z
          · have z2 := un.frzs b ob _ z
            obtain ⟨e1, _⟩ := hok b _ z
            obtain ⟨e2, _⟩ := hok' b _ z2
            rw [e] at e1; cases e1
            exact e2
  cases hk : K.lookup a with
  | some o =>
    -- the script is one of the module's own objects
    have e := KX a o hk
    rw [ha] at e
    cases e
    refine core (fun _ => none) (fun _ => .inl rfl) (.inr ⟨_, vs.toArray, _, hk, rfl, rfl, rfl, by rw [List.size_toArray, lenV]; exact hl, by simpa using rv⟩) (fun b u z => by have z' : (none : Option HO) = some u := z; cases z') (fun b z => absurd rfl z) fun z => absurd rfl z
  | none =>
    refine core (fun b => if b = a then some (.frz { cls := .type "list", data := .seq vs.toArray } (.lst (ns.map V.int))) else none) (fun b => ?_) (.inl (.inr ⟨{ cls := .type "list", data := .seq vs.toArray }, if_pos rfl⟩)) (fun b u z => ?_) (fun b z => ?_) fun _ => hk
    · by_cases hb : b = a
      · exact .inr ⟨_, _, if_pos hb⟩
      · exact .inl (if_neg hb)
    · by_cases hb : b = a
      · have z' := (if_pos hb).symm.trans z
        cases z'
        subst hb
        exact ⟨ha, by rw [List.length_map]; exact hl, vs, _, rv, ha⟩
      · have z' := (if_neg hb).symm.trans z
        cases z'
    · by_cases hb : b = a
      · exact hb
      · exact absurd (if_neg hb) z
end L2

namespace L2
open PySem PySem.Spec PyProof.Rows

abbrev KOf {K : PySem.W.Frag} {h : Heap} (_ : K.In h) : PySem.W.Frag := K

/-- the goal that k_head leaves (case hc), from the law's promise. F gives the function object fd (K's own) once, then the promise over every base -/
theorem walk_of {l : PySem.W.OpenLaw} {n k : Nat} {q : Program} {loose : List Str} {XP : (Str → Option Value) → Heap → Prop} {YP : World → Heap → Prop} {d : DefRec} {K : Params → PySem.W.Frag} {CX : World → CXT} {sp : World → Sp} {x : Str}
    (hn : l.most = some n) (hn2 : n ≤ sizeLine) (hdf : d.params.defaults = []) (hr : Room k callerA)
    (hY : ∀ (w : World) (h : Heap), YP w h → (K w.params).In h)
    (F : ∀ (w : World) (mg : Str → Option Value) (fa : Addr) (h : Heap), (K w.params).In h → h.Ns mainGlobals mg → mg d.name = some (.ref fa) →
      ∃ fd : FuncData, (∀ (s : Shared) (u : Value), BindsTo s fd ⟨[u], []⟩ [(x, u)]) ∧
        ∀ base : Heap, (K w.params).In base → base.Ns mainGlobals mg → FnOk l.prog w (K w.params) mg base (CX w) k fa fd [x] (sp w))
    (hsp : ∀ (w : World) (H : Hp) (a : Addr) (ns : List Int), ns.length ≤ n → Only H → SqL (K w.params) H a (ns.map V.int) → sp w [.ref a] H (fun v _ => v = .bl true) fun _ _ _ => False)
    (hCX : ∀ (w : World) (H : Hp) (s : Shared) (e : Value) (s' : Shared), CX w [] H s (fun _ _ _ => False) e s' → False) :
    PySem.W.WalkO q loose XP YP l.row.toRowW d [] (fun f vs => PySem.call f vs) := by
  refine Att.attach_call hn hdf fun w s₀ s₁ mg mb fa o pm cd doc a vs ns G Y ho hd hcd hmg hobj hints hlen hg => ?_
  have KX := hY w _ Y
  obtain ⟨fd, hb, hF⟩ := F w mg fa _ KX G.T.g hmg
  exact law_call KX G.T.g G.T.b G.T.builtins G.T.nolimit hg hobj hints (Nat.le_trans hlen hn2) hr hF hb (fun H hO hS => hsp w H a ns hlen hO hS) fun H e s' => hCX w H s₁ e s'
end L2

/- THE LAST THEOREM (shape; LID, My.* are yours):
   My.Adr: a structure of the addresses that your layer names (classes, functions); My.Txt K t: a structure (Prop) of the equations over K;
   My.txt_mk : {K} {implicit addresses ..} (e1 : nsIn K mainGlobals "law" = some (some (.ref f))) (e2 : K.lookup f = some ⟨oc, od, .func (fnOf "law" "law" params body scope dV kV doc pm an cdv ct), sl⟩) (e3 : codeIn K cdv "law" = true) .. : ∃ t, My.Txt K t

set_option maxRecDepth 100000 in
set_option maxHeartbeats 0 in
theorem PySem.Challenge.cw_LID_holds : PySem.Challenge.rw_LID.Holds := by
  w_on; o_law; k_head; (case hw => w_witness2)
  k_fill
  refine L2.walk_of (l := PySem.Challenge.rw_LID) (n := 63) (k := 40) (x := "script") (CX := fun w => ..) (sp := fun _ => My.sp_law) rfl (by decide) rfl ⟨rfl, by decide, by decide⟩ (fun w h Y => PySem.W.kIn_of Y) ?F ?S ?C
  case F =>
    intro w mg fa h KX G hmg
    have T : ∃ t, My.Txt (L2.KOf KX) t := by
      dsimp only [L2.KOf]                          -- K must stand as «<heap const> w.params» for k_is
      refine' My.txt_mk ?e1 ?e2 ?e3 ..
      (case e1 => PySem.W.k_is)                    -- in the order: a name -> its address -> its object -> its parts
      (case e2 => PySem.W.k_is)
      ..
    obtain ⟨t, T⟩ := T
    have e0 := hmg.symm.trans (PySem.W.mg_of KX G T.law)
    cases e0                                       -- fa is the law's own address
    exact ⟨_, fun s u => .of_eq rfl, fun base kb nb => My.law_fn T kb nb⟩     -- if «.of_eq rfl» comes too early: refine' ⟨_, ?b, fun base kb nb => My.law_fn T kb nb⟩; exact fun s u => .of_eq rfl
  case S => exact fun w H a ns hl hO hS => ..
  case C => exact ..
(the tactic k_is has no namespace: write k_is) -/

/-! SHORT WORDS over the layer: a def of the text, its body, what a loop and a test want. -/
namespace L2
open PySem PySem.Spec PyProof.Rows

/-! ### the text by places -/
def defArgs (s : Stmt) : Arguments := match s with
  | .FunctionDef _ a _ _ _ _ _ _ _ _ => a
  | _ => { posonlyargs := [], args := [], vararg := none, kwonlyargs := [], kw_defaults := [], kwarg := none, defaults := [] }
def defBody (s : Stmt) : List Stmt := match s with
  | .FunctionDef _ _ b _ _ _ _ _ _ _ => b
  | _ => []
def defScope (s : Stmt) : Scope := match s with
  | .FunctionDef _ _ _ _ _ _ sc _ _ _ => sc
  | _ => { kind := .function, names := [], isGenerator := false, isCoroutine := false }

/-! ### no exception leaves a def -/
abbrev CX0 : CXT := fun _ _ _ _ _ _ => False
abbrev E0 : XK := fun _ _ _ => False
/-! ### a def (or method) of the text as it stands behind the top -/
structure Fun (K : PySem.W.Frag) (x qual : Str) (st : Stmt) (f : Addr) (fd : FuncData) : Prop where
  ex : ∃ (oc : Value) (od : Option Addr) (kV doc pm : Value) (an : Option Addr) (cdv ct : Value) (osl : Array (Option Value)),
    fd = PySem.W.fnOf x qual (defArgs st) (defBody st) (defScope st) .none kV doc pm an cdv ct ∧ K.lookup f = some ⟨oc, od, .func fd, osl⟩ ∧ PySem.W.codeIn K cdv qual = true
  kp : PySem.W.keepIn K (.ref f) = true
section
variable {P : Program} {w : World} {K : PySem.W.Frag} {mg : Str → Option Value} {base : Heap}
/-- THE RULE for a def: its body as a term of rules, and the reading of that term -/
theorem Fun.ok {x qual : Str} {st : Stmt} {f : Addr} {fd : FuncData} {N ps : List Str} {k : Nat} {sp : Sp} (F : Fun K x qual st f fd) (S : FnScope N ps (defScope st)) (len : ∀ vs H Q E, sp vs H Q E → vs.length = ps.length)
    (hbody : ∀ (cdv : Value) (A : Around) (outer : List Env) (s : Shared) (H : Hp) (vs : List V) (Q : VK) (E : XK), Room k (A.deeper (envOfC qual (defScope st) s.heap.objs.size f cdv)) → sp vs H Q E →
      ∃ t, PSs (cxOf CX0 P w K mg base N qual (defScope st) f cdv A outer s H E).nox (defBody st) t ∧ t { nx := fun _ H' => Q .non H', rt := Q } (start N vs) H) : FnOk P w K mg base CX0 (k + 1) f fd ps sp := by
  obtain ⟨oc, od, kV, doc, pm, an, cdv, ct, osl, rfl, lk, hcd⟩ := F.ex
  refine fn_of lk hcd S len fun A outer s H vs Q E hr hsp => ?_
  obtain ⟨t, h, q⟩ := hbody cdv A outer s H vs Q E hr hsp
  exact ⟨t, h.nox, q⟩
/-- how its arguments bind (no defaults): h is «fun _ _ _ _ _ _ us hl => match us, hl with | [_, _], _ => rfl», one _ a parameter -/
theorem Fun.binds {x qual : Str} {st : Stmt} {f : Addr} {fd : FuncData} {ps : List Str} (F : Fun K x qual st f fd)
    (h : ∀ (kV doc pm : Value) (an : Option Addr) (cdv ct : Value) (us : List Value), us.length = ps.length → bindArgs (PySem.W.fnOf x qual (defArgs st) (defBody st) (defScope st) .none kV doc pm an cdv ct) ⟨us, []⟩ = pure (ps.zip us)) : Binds K fd ps [] := by
  obtain ⟨oc, od, kV, doc, pm, an, cdv, ct, osl, rfl, lk, hcd⟩ := F.ex
  exact .all (h kV doc pm an cdv ct)
theorem fun_mk {x qual : Str} {st : Stmt} {f : Addr} {oc : Value} {od an : Option Addr} {osl : Array (Option Value)} {kV doc pm cdv ct : Value} (l : K.lookup f = some ⟨oc, od, .func (PySem.W.fnOf x qual (defArgs st) (defBody st) (defScope st) .none kV doc pm an cdv ct), osl⟩)
    (c : PySem.W.codeIn K cdv qual = true) (k : PySem.W.keepIn K (.ref f) = true) : Fun K x qual st f (PySem.W.fnOf x qual (defArgs st) (defBody st) (defScope st) .none kV doc pm an cdv ct) := ⟨⟨oc, od, kV, doc, pm, an, cdv, ct, osl, rfl, l, c⟩, k⟩
end
/-! ### expressions in short: the name that stands in the i-th slot -/
section
variable {X : Cx}
end

/-! ### tests -/
/-! ### heaps -/
/-- all that was tracked is as it was -/
def Same (H H' : Hp) : Prop := ∀ b o, H b = some o → H' b = some o
theorem Same.trans {H H1 H2 : Hp} (a : Same H H1) (b : Same H1 H2) : Same H H2 := fun c o h => b c o (a c o h)
theorem Same.free {H H' : Hp} (e : Same H H') {l : Addr} (h : H' l = Option.none) : H l = Option.none := by
  cases q : H l with
  | none => rfl
  | some o =>
    rw [e l o q] at h
    cases h
theorem Same.seq {K : PySem.W.Frag} {H H' : Hp} {a : Addr} {xs : List V} (e : Same H H') (h : SqL K H a xs) : SqL K H' a xs := by
  rcases h with (h | ⟨o, h⟩) | h
  · exact .inl (.inl (e _ _ h))
  · exact .inl (.inr ⟨o, e _ _ h⟩)
  · exact .inr h

end L2

namespace L2
open PySem PySem.Spec PyProof.Rows

/-! ### lists of pairs as tables -/
section
variable {κ : Type} [DecidableEq κ]
def valV (kvs : List (κ × V)) (k : κ) : Option V := (kvs.find? fun kv => decide (kv.1 = k)).map (·.2)
theorem valV_pos {p : κ × V} {r : List (κ × V)} {k : κ} (e : p.1 = k) : valV (p :: r) k = some p.2 := by simp [valV, List.find?_cons, e]
theorem valV_neg {p : κ × V} {r : List (κ × V)} {k : κ} (e : ¬ p.1 = k) : valV (p :: r) k = valV r k := by simp [valV, List.find?_cons, e]
/-- raw tables of the same keys -/
theorem KV.val {kvs : List (κ × V)} {vs : List (κ × Value)} (r : KV kvs vs) (k : κ) : RelO (valV kvs k) (valueAt vs k) := by
  unfold KV at r
  induction r with
  | nil => exact True.intro
  | @cons p q ps qs h t ih =>
    obtain ⟨h1, h2⟩ := h
    by_cases e : p.1 = k
    · have e' : q.1 = k := h1.symm.trans e
      have b : valueAt (q :: qs) k = some q.2 := by simp [valueAt, List.find?_cons, e']
      rw [valV_pos e, b]; exact h2
    · have e' : ¬ q.1 = k := fun z => e (h1.trans z)
      have b : valueAt (q :: qs) k = valueAt qs k := by simp [valueAt, List.find?_cons, e']
      rw [valV_neg e, b]; exact ih
theorem KV.any {kvs : List (κ × V)} {vs : List (κ × Value)} (r : KV kvs vs) (k : κ) : (kvs.any fun kv => decide (kv.1 = k)) = vs.any fun kv => decide (kv.1 = k) := by
  unfold KV at r
  induction r with
  | nil => rfl
  | cons h t ih => rw [List.any_cons, List.any_cons, ih, h.1]
theorem KV.length {kvs : List (κ × V)} {vs : List (κ × Value)} (r : KV kvs vs) : kvs.length = vs.length := Paired.length r
end


/-! ### a tracked dict, its keys ints and texts or tuples of these -/
/-- raw entries of a dict with tuple keys -/
abbrev KT (H : Hp) : List (List Key × V) → List (List Key × Addr × Value) → Prop := Paired fun p q => p.1 = q.1 ∧ H q.2.1 = some (.tup (p.1.map kV)) ∧ RelV p.2 q.2.2
theorem KT.val {H : Hp} {kvs : List (List Key × V)} {xs : List (List Key × Addr × Value)} (r : KT H kvs xs) (k : List Key) : RelO (valV kvs k) ((atKey xs k).map (·.2)) := by
  induction r with
  | nil => exact True.intro
  | @cons p q ps qs h t ih =>
    obtain ⟨h1, _, h2⟩ := h
    by_cases e : p.1 = k
    · have e' : q.1 = k := h1.symm.trans e
      have b : atKey (q :: qs) k = some q.2 := by simp [atKey, List.find?_cons, e']
      rw [valV_pos e, b]; exact h2
    · have e' : ¬ q.1 = k := fun z => e (h1.trans z)
      have b : atKey (q :: qs) k = atKey qs k := by simp [atKey, List.find?_cons, e']
      rw [valV_neg e, b]; exact ih
section
variable {P : Program} {w : World} {H : Hp} {h : Heap} {a : Addr}
end

section
variable {X : Cx} {pins : List (Addr × Obj)} {σ : St} {H : Hp} {s : Shared} {a : Addr} {y v : V} {u r : Value} {o : Option V} {A : Around} {E : Value → Shared → Prop}

end

section
variable {X : Cx} {pins : List (Addr × Obj)} {σ : St} {H : Hp} {s : Shared} {a : Addr} {kvs : List (Key × V)} {k : Key} {u : Value} {A : Around} {E : Value → Shared → Prop}
end


/-! ### readings and rules -/
section
variable {X : Cx} {o i e value : Expr} {pos pos' tpos : Pos} {td ty tv : TE}
end


/-! ### displays -/
section
variable {X : Cx} {pos : Pos}
end

/-! ### methods -/
/-- a method call o.m(e) of a built-in, with one argument: what must be seen of the text -/
structure M1 (X : Cx) (o : Expr) (m : Str) (apos : Pos) (e : Expr) (cpos : Pos) : Prop where
  base : attributeBase o m X.env (eval o X.env) = eval o X.env
  few : ((backTo cpos (starEach [e] X.env)).all (fun x => !x.1) && (backToKw cpos (keywordEach [] X.env)).all (fun x => x.1.isSome)
    && decide (([e] : List Expr).length + ([] : List Keyword).length + (if ([] : List Keyword).isEmpty then 0 else 1) < 30)) = true
  line : (apos.endLine == cpos.line) = true
  trees : backTo cpos (starEach [e] X.env) = [(false, eval e X.env)]
structure M2 (X : Cx) (o : Expr) (m : Str) (apos : Pos) (e f : Expr) (cpos : Pos) : Prop where
  base : attributeBase o m X.env (eval o X.env) = eval o X.env
  few : ((backTo cpos (starEach [e, f] X.env)).all (fun x => !x.1) && (backToKw cpos (keywordEach [] X.env)).all (fun x => x.1.isSome)
    && decide (([e, f] : List Expr).length + ([] : List Keyword).length + (if ([] : List Keyword).isEmpty then 0 else 1) < 30)) = true
  line : (apos.endLine == cpos.line) = true
  trees : backTo cpos (starEach [e, f] X.env) = [(false, eval e X.env), (false, eval f X.env)]

section
variable {X : Cx} {pins : List (Addr × Obj)} {σ : St} {H : Hp} {s : Shared} {a : Addr} {y d : V} {u r : Value} {o : Option V} {A : Around} {E : Value → Shared → Prop}
end

section
variable {X : Cx} {o e f : Expr} {apos cpos : Pos} {td ty tx : TE}
end

/-! ### dict(d): a copy -/
section
variable {X : Cx} {pins : List (Addr × Obj)} {σ : St} {H : Hp} {s : Shared} {a : Addr} {kvs : List (Key × V)} {A : Around} {E : Value → Shared → Prop}
end


section
variable {X : Cx} {pins : List (Addr × Obj)} {σ : St} {H : Hp} {s : Shared} {a : Addr} {y : V} {u : Value} {A : Around} {E : Value → Shared → Prop}
end
end L2

namespace DL
open PySem L2
/-! ### isinstance of an exception of an own class -/
structure XcK (K : PySem.W.Frag) (C : Addr) : Prop where
  ga : PySem.W.findIn K (.ref C) "__getattribute__" = some (some (.builtin "BaseException.__getattribute__"))
  nh : PySem.W.findIn K (.ref C) "__getattr__" = some none
  cl : ∃ cd, PySem.W.clsIn K C = some cd
  at_ : PySem.W.findIn K (.ref C) "__class__" = some (some (.builtin "object.__class__"))
  gt : PySem.W.specialIn K (.builtin "object.__class__") "__get__" = some (some (.builtin "getset_descriptor.__get__"))
  tk : PySem.W.takesIn K (.builtin "object.__class__") = some true
  ob : PySem.W.mroIn K C (.type "object") = some true
  bx : PySem.W.mroIn K C (.type "BaseException") = some true
  kit : ∀ c ∈ (["int", "bool", "str", "list", "tuple", "dict"] : List String), PySem.W.kitOne K (.ref C) (.type c) = some false
section
open PySem.W
variable {prog : Program} {w : World} {A : Around} {E : Value → Shared → Prop} {s : Shared} {K : PySem.W.Frag} {x C : Addr} {ox : Obj}
theorem check_x {M : Model} {nameV : Value} {Q : Unit → Shared → Prop} (X : K.In s.heap) (k : XcK K C) (I : PySem.W.InstAt s.heap x ox C none) (hq : Q () s) : wpAny M A (checkBuiltinCall "BaseException.__getattribute__" ⟨[.ref x, nameV], []⟩) Q E s := by
  have hk : builtinKind "BaseException.__getattribute__" = some .slot := by decide +kernel
  have hsplit : splitId "BaseException.__getattribute__" = some ("BaseException", "__getattribute__") := by decide +kernel
  have ha := F.args_bexc_ga (.ref x) nameV
  have L0 := I.type (M := M)
  have L1 := looks_mroIn (M := M) X k.bx
  have LI : Looks M s.heap (isInstance (.ref x) (.type "BaseException")) true := L0.andThen L1
  simp only [checkBuiltinCall, hk, hsplit]
  refine wpAny_bind (LI.at ?_)
  repeat (first | wp_step | exact hq)
theorem class_x {Q : Option Value → Shared → Prop} (X : K.In s.heap) (k : XcK K C) (I : PySem.W.InstAt s.heap x ox C none) (h : Q (some (.ref C)) { s with toks := s.toks + 1 }) : wpAny (model prog w) A (getAttr? (.ref x) "__class__") Q E s := by
  obtain ⟨cd, hcd⟩ := k.cl
  have hf : findObj K C none "__class__" = some (.bind (.builtin "getset_descriptor.__get__") (.builtin "object.__class__")) := by
    unfold findObj
    rw [hcd, k.at_]
    simp only [Option.bind_some, k.gt, k.tk]
  have L0 := I.type (M := model prog w)
  have L1 := looks_findIn (M := model prog w) X k.ga
  have L2 := looks_findIn (M := model prog w) X k.nh
  have LF := looks_find (M := model prog w) X I hf
  unfold getAttr? getAttrBy? getAttrBy
  refine wpAny_bind (wpAny_mkText (wpAny_bind (wpAny_attempt (wpAny_holding (wpAny_bind (L0.at (wpAny_bind (L1.at ?_))))))))
  have hx1 : (onTheHeap (Value.ref C) && Value.builtin "BaseException.__getattribute__" == Value.builtin "object.__getattribute__") = false := by
    rw [show (Value.builtin "BaseException.__getattribute__" == Value.builtin "object.__getattribute__") = false from by decide +kernel]; rfl
  show wpAny _ _ (if (onTheHeap (Value.ref C) && Value.builtin "BaseException.__getattribute__" == Value.builtin "object.__getattribute__") = true then _ else _) _ _ _
  rw [if_neg (by rw [hx1]; decide)]
  unfold getAttrByItsOwn hookBefore
  rw [if_pos (by rfl)]
  refine wpAny_bind (L2.at (wpAny_bind (wpAny_attempt (wpAny_holding ?_))))
  unfold callGetattribute boundAndCalled
  rw [if_neg (by decide)]
  rw [F.attr_ValueError.ga.bind (.ref x)]
  refine wpAny_bind (wpAny_pure (wpAny_call ?_))
  refine codeAny_call_builtin F.attr_ValueError.ga.plain F.entry_bexc_ga (check_x (s := { s with toks := s.toks + 1 }) X k I ?_)
  unfold Builtin.«object.__getattribute__»
  refine wpAny_bind (wpAny_pure (wpAny_bind (wpAny_pure (wpAny_bind (L0.at (wpAny_bind (LF.at ?_)))))))
  show wpAny _ _ (Builtin.ObjectAttr.bindTo _ _ _ _) _ _ _
  unfold Builtin.ObjectAttr.bindTo
  refine wpAny_bind (wpAny_holding (wpAny_call (class_get (s := { s with toks := s.toks + 1 }) X I k.ob ?_)))
  exact wpAny_pure (wpAny_pure (wpAny_pure h))
theorem kitx_x (k : XcK K C) : KitX K (.ref x) (.ref C) (fun h => ∃ ox, PySem.W.InstAt h x ox C none) where
  ty := fun _ _ _ ⟨ox, I⟩ => I.type
  it := fun _ _ X _ => by
    obtain ⟨cd, hcd⟩ := k.cl
    unfold clsIn at hcd
    split at hcd
    · rename_i c' d' cd' sl' ho
      intro A' Q' E' s' kp q
      unfold isType loadHead
      exact wpAny_bind (wpAny_loadPart (kp _ _ (X _ _ ho)) (wpAny_pure q))
    · cases hcd
  ne := fun h tp dd its n sl X htp => by
    obtain ⟨cd, hcd⟩ := k.cl
    refine Bool.eq_false_iff.mpr fun q => ?_
    have e : C = tp := Value.ref.inj (beq_iff_eq.mp q)
    subst e
    unfold clsIn at hcd
    split at hcd
    · rename_i c' d' cd' sl' ho
      have z := (X _ _ ho).symm.trans htp
      cases z
    · cases hcd
  ca := fun X ⟨ox, I⟩ q => class_x X k I q
end
end DL

namespace DL
open PySem L2

/-- data by value; own k: the k-th cell (a list that may be changed); exn C: an exception of the own class at C; tab P: no value, but the table at P is tidy (a name that the text hasn't) -/
inductive D where
  | non
  | bl (b : Bool)
  | int (i : Int)
  | str (cs : List Nat)
  | lst (xs : List D)
  | tup (xs : List D)
  | own (k : Nat)
  | dct
  | exn (C : Nat)
  | tab (P : Nat)
  deriving Repr, BEq, Inhabited
abbrev Ow := List (List D)
/-- an expression's outcome -/
inductive R (α : Type) where
  | ok (a : α) (O : Ow)
  | exc (c : Nat) (O : Ow)
  | bad
  deriving Repr, BEq, Inhabited
def R.bnd {α β : Type} (r : R α) (k : α → Ow → R β) : R β := match r with
  | .ok a O => k a O
  | .exc c O => .exc c O
  | .bad => .bad
abbrev Sg := List (Option D)
abbrev DE := Sg → Ow → R D
abbrev DT := Sg → Ow → R Bool
abbrev DA := Sg → Ow → R (List D)

section
variable (K : PySem.W.Frag) (H : Hp) (hid μ : List Addr)
def modL (K : PySem.W.Frag) (a : Addr) (xs : List V) : Prop := ∃ (o : Obj) (its : Array Value) (n : Nat), K.lookup a = some o ∧ o.cls = .type "list" ∧ o.dict = none ∧ o.data = .seq its n ∧ its.size ≤ sizeLine ∧ Vals xs its.toList
def modT (K : PySem.W.Frag) (a : Addr) (xs : List V) : Prop := ∃ (o : Obj) (its : Array Value) (n : Nat), K.lookup a = some o ∧ o.cls = .type "tuple" ∧ o.data = .seq its n ∧ its.size ≤ sizeLine ∧ Vals xs its.toList
def LstAt (a : Addr) (vs : List V) : Prop := (Rd H a (.lst vs) ∧ a ∉ hid ∧ a ∉ μ) ∨ modL K a vs
def TupAt (a : Addr) (vs : List V) : Prop := (Rd H a (.tup vs) ∧ a ∉ hid ∧ a ∉ μ) ∨ modT K a vs
end
/-- the table at P of the codes made within a def -/
def Tidy (H : Hp) (P : Addr) : Prop := ∃ ps, H P = some (.tbl ps) ∧ TriplesOk ps.toList ∧ ∀ pos cv, codeAmong pos ps.toList = some cv → ∃ c φ, cv = .ref c ∧ H c = some (.ext φ) ∧ ∀ h : Heap, φ h → ∃ q, h.CodeRec (.ref c) q
def NoTab (o : HO) : Prop := ∀ ps, o ≠ .tbl ps
section
variable (K : PySem.W.Frag) (H : Hp) (hid μ : List Addr)
mutual
def Dat : D → V → Prop
  | .non, v => v = .non
  | .bl b, v => v = .bl b
  | .int i, v => v = .int i
  | .str cs, v => v = .str ⟨cs.toArray⟩
  | .lst ds, v => ∃ a vs, v = .ref a ∧ LstAt K H hid μ a vs ∧ Dats ds vs
  | .tup ds, v => ∃ a vs, v = .ref a ∧ TupAt K H hid μ a vs ∧ Dats ds vs
  | .own k, v => ∃ a, v = .ref a ∧ μ[k]? = some a
  | .dct, v => ∃ a, v = .ref a ∧ Rd H a (.dK []) ∧ a ∉ hid ∧ a ∉ μ
  | .exn C, v => ∃ a φ, v = .ref a ∧ (XcK K C ∧ ∀ h : Heap, φ h → ∃ ox, PySem.W.InstAt h a ox C none) ∧ Rd H a (.ext φ) ∧ a ∉ hid ∧ a ∉ μ
  | .tab P, v => v = .bl false ∧ Tidy H P
def Dats : List D → List V → Prop
  | [], vs => vs = []
  | d :: ds, vs => ∃ v r, vs = v :: r ∧ Dat d v ∧ Dats ds r
end
/-- the cells -/
structure Cells (O : Ow) : Prop where
  len : μ.length = O.length
  nd : μ.Nodup
  nh : ∀ a ∈ μ, a ∉ hid
  ht : ∀ a ∈ hid, H a ≠ none
  at_ : ∀ (k : Nat) a, μ[k]? = some a → ∃ ds vs, O[k]? = some ds ∧ H a = some (.lst vs) ∧ Dats K H hid μ ds vs
structure EnvOk (σ : Sg) (σv : St) : Prop where
  len : σ.length = σv.length
  at_ : ∀ (i : Nat) d, σ[i]? = some (some d) → ∃ v, σv[i]? = some (some v) ∧ Dat K H hid μ d v
end
/-- tables may grow, so long as they stay tidy -/
structure Ext (H : Hp) (μ : List Addr) (H' : Hp) (μ' : List Addr) : Prop where
  pre : ∃ ν, μ' = μ ++ ν
  kept : ∀ b o, H b = some o → b ∉ μ → NoTab o → H' b = some o
  fresh : ∀ b ∈ μ', b ∈ μ ∨ H b = none
  there : ∀ b, H b ≠ none → H' b ≠ none
  tab : ∀ P, Tidy H P → Tidy H' P
/-- the same, where the hidden ones may change, and fresh ones be hidden -/
structure Mv (H : Hp) (hid μ : List Addr) (H' : Hp) (hid' μ' : List Addr) : Prop where
  pre : ∃ ν, μ' = μ ++ ν
  kept : ∀ b o, H b = some o → b ∉ μ → b ∉ hid → NoTab o → H' b = some o
  fresh : ∀ b ∈ μ', b ∈ μ ∨ H b = none
  hids : ∀ b ∈ hid', b ∈ hid ∨ H b = none
  there : ∀ b, H b ≠ none → H' b ≠ none
  tab : ∀ P, Tidy H P → Tidy H' P

section
variable {K : PySem.W.Frag} {H H' H1 H2 : Hp} {hid hid' hid1 hid2 μ μ' μ1 μ2 : List Addr}
theorem Ext.keep (e : Ext H μ H' μ') (b : Addr) (o : HO) (h : H b = some o) (n : b ∉ μ) (ht : NoTab o := by intro ps z; cases z) : H' b = some o := e.kept b o h n ht
theorem Tidy.upd {P p : Addr} {o : HO} (t : Tidy H P) (hp : H p = none ∨ ∃ vs, H p = some (.lst vs)) : Tidy (L2.upd H p o) P := by
  obtain ⟨ps, h1, h2, h3⟩ := t
  have n1 : P ≠ p := by
    rintro rfl
    rcases hp with z | ⟨vs, z⟩ <;> (rw [z] at h1; cases h1)
  refine ⟨ps, by rw [upd_ne n1]; exact h1, h2, fun pos cv e => ?_⟩
  obtain ⟨c, φ, rfl, hc, hf⟩ := h3 pos cv e
  have n2 : c ≠ p := by
    rintro rfl
    rcases hp with z | ⟨vs, z⟩ <;> (rw [z] at hc; cases hc)
  exact ⟨c, φ, rfl, by rw [upd_ne n2]; exact hc, hf⟩
theorem Ext.refl : Ext H μ H μ := ⟨⟨[], by simp⟩, fun _ _ h _ _ => h, fun _ h => .inl h, fun _ h => h, fun _ t => t⟩
theorem Ext.trans (a : Ext H μ H1 μ1) (b : Ext H1 μ1 H2 μ2) : Ext H μ H2 μ2 := by
  refine ⟨?_, fun c o h n ht => ?_, fun c h => ?_, fun c h => b.there c (a.there c h), fun P t => b.tab P (a.tab P t)⟩
  · obtain ⟨x, rfl⟩ := a.pre
    obtain ⟨y, rfl⟩ := b.pre
    exact ⟨x ++ y, by simp⟩
  · refine b.kept c o (a.kept c o h n ht) (fun m => ?_) ht
    rcases a.fresh c m with z | z
    · exact n z
    · rw [z] at h; cases h
  · rcases b.fresh c h with z | z
    · exact a.fresh c z
    · by_cases hm : c ∈ μ
      · exact .inl hm
      · cases e : H c with
        | none => exact .inr rfl
        | some o => exact absurd z (a.there c (by rw [e]; simp))
theorem Ext.mv (a : Ext H μ H' μ') : Mv H hid μ H' hid μ' := ⟨a.pre, fun b o h n _ ht => a.kept b o h n ht, a.fresh, fun _ h => .inl h, a.there, a.tab⟩
theorem Mv.trans (a : Mv H hid μ H1 hid1 μ1) (b : Mv H1 hid1 μ1 H2 hid2 μ2) : Mv H hid μ H2 hid2 μ2 := by
  have nn : ∀ c, H1 c = none → H c = none := fun c h => by
    cases e : H c with
    | none => rfl
    | some o => exact absurd h (a.there c (by rw [e]; simp))
  refine ⟨?_, fun c o h n1 n2 ht => ?_, fun c h => ?_, fun c h => ?_, fun c h => b.there c (a.there c h), fun P t => b.tab P (a.tab P t)⟩
  · obtain ⟨x, rfl⟩ := a.pre
    obtain ⟨y, rfl⟩ := b.pre
    exact ⟨x ++ y, by simp⟩
  · refine b.kept c o (a.kept c o h n1 n2 ht) (fun m => ?_) (fun m => ?_) ht
    · rcases a.fresh c m with z | z
      · exact n1 z
      · rw [z] at h; cases h
    · rcases a.hids c m with z | z
      · exact n2 z
      · rw [z] at h; cases h
  · rcases b.fresh c h with z | z
    · exact a.fresh c z
    · exact .inr (nn c z)
  · rcases b.hids c h with z | z
    · exact a.hids c z
    · exact .inr (nn c z)
theorem Mv.hide {b : Addr} (h : H b = none) : Mv H hid μ H (b :: hid) μ := ⟨⟨[], by simp⟩, fun _ _ h _ _ _ => h, fun _ m => .inl m, fun c m => (List.mem_cons.mp m).elim (fun e => .inr (by rw [e]; exact h)) .inl, fun _ h => h, fun _ t => t⟩
theorem Mv.unhide {b : Addr} : Mv H (b :: hid) μ H hid μ := ⟨⟨[], by simp⟩, fun _ _ h _ _ _ => h, fun _ m => .inl m, fun _ m => .inl (List.mem_cons_of_mem _ m), fun _ h => h, fun _ t => t⟩
theorem Rd.mv {a : Addr} {u : HO} (r : Rd H a u) (e : Mv H hid μ H' hid' μ') (n1 : a ∉ hid) (n2 : a ∉ μ) (ht : NoTab u := by intro ps z; cases z) : Rd H' a u ∧ a ∉ hid' ∧ a ∉ μ' := by
  have out : ∀ o, H a = some o → a ∉ hid' ∧ a ∉ μ' := by
    intro o h
    constructor
    · intro m
      rcases e.hids a m with z | z
      · exact n1 z
      · rw [z] at h; cases h
    · intro m
      rcases e.fresh a m with z | z
      · exact n2 z
      · rw [z] at h; cases h
  rcases r with r | ⟨o, r⟩
  · exact ⟨.inl (e.kept _ _ r n2 n1 ht), out _ r⟩
  · exact ⟨.inr ⟨o, e.kept _ _ r n2 n1 (by intro ps z; cases z)⟩, out _ r⟩
theorem LstAt.mv {a : Addr} {vs : List V} (h : LstAt K H hid μ a vs) (e : Mv H hid μ H' hid' μ') : LstAt K H' hid' μ' a vs :=
  h.imp (fun z => Rd.mv z.1 e z.2.1 z.2.2) id
theorem TupAt.mv {a : Addr} {vs : List V} (h : TupAt K H hid μ a vs) (e : Mv H hid μ H' hid' μ') : TupAt K H' hid' μ' a vs :=
  h.imp (fun z => Rd.mv z.1 e z.2.1 z.2.2) id
theorem LstAt.sq {a : Addr} {vs : List V} (h : LstAt K H hid μ a vs) : SqL K H a vs := h.elim (fun z => .inl z.1) .inr
theorem TupAt.sq {a : Addr} {vs : List V} (h : TupAt K H hid μ a vs) : SqT K H a vs := h.elim (fun z => .inl z.1) .inr
mutual
theorem Dat.mv (e : Mv H hid μ H' hid' μ') : ∀ {d : D} {v : V}, Dat K H hid μ d v → Dat K H' hid' μ' d v
  | .non, _, h => h
  | .bl _, _, h => h
  | .int _, _, h => h
  | .str _, _, h => h
  | .lst ds, v, h => by
    unfold Dat at h ⊢
    obtain ⟨a, vs, r, l, q⟩ := h
    exact ⟨a, vs, r, l.mv e, Dats.mv e q⟩
  | .tup ds, v, h => by
    unfold Dat at h ⊢
    obtain ⟨a, vs, r, l, q⟩ := h
    exact ⟨a, vs, r, l.mv e, Dats.mv e q⟩
  | .own k, v, h => by
    unfold Dat at h ⊢
    obtain ⟨a, r, q⟩ := h
    obtain ⟨x, rfl⟩ := e.pre
    exact ⟨a, r, by rw [List.getElem?_append_left (List.getElem?_eq_some_iff.mp q).1]; exact q⟩
  | .dct, v, h => by
    unfold Dat at h ⊢
    obtain ⟨a, r, q, n1, n2⟩ := h
    exact ⟨a, r, Rd.mv q e n1 n2⟩
  | .exn C, v, h => by
    unfold Dat at h ⊢
    obtain ⟨a, φ, r, g, q, n1, n2⟩ := h
    exact ⟨a, φ, r, g, Rd.mv q e n1 n2⟩
  | .tab P, v, h => by
    unfold Dat at h ⊢
    exact ⟨h.1, e.tab _ h.2⟩
theorem Dats.mv (e : Mv H hid μ H' hid' μ') : ∀ {ds : List D} {vs : List V}, Dats K H hid μ ds vs → Dats K H' hid' μ' ds vs
  | [], _, h => h
  | d :: ds, vs, h => by
    unfold Dats at h ⊢
    obtain ⟨v, r, e1, h1, h2⟩ := h
    exact ⟨v, r, e1, Dat.mv e h1, Dats.mv e h2⟩
end
theorem Dat.ext (e : Ext H μ H' μ') {d : D} {v : V} (h : Dat K H hid μ d v) : Dat K H' hid μ' d v := h.mv e.mv
theorem Dats.ext (e : Ext H μ H' μ') {ds : List D} {vs : List V} (h : Dats K H hid μ ds vs) : Dats K H' hid μ' ds vs := h.mv e.mv
theorem EnvOk.mv {σ : Sg} {σv : St} (h : EnvOk K H hid μ σ σv) (e : Mv H hid μ H' hid' μ') : EnvOk K H' hid' μ' σ σv :=
  ⟨h.len, fun i d q => let ⟨v, a, b⟩ := h.at_ i d q; ⟨v, a, b.mv e⟩⟩
theorem EnvOk.ext {σ : Sg} {σv : St} (h : EnvOk K H hid μ σ σv) (e : Ext H μ H' μ') : EnvOk K H' hid μ' σ σv := h.mv e.mv
theorem EnvOk.set {σ : Sg} {σv : St} (h : EnvOk K H hid μ σ σv) {d : D} {v : V} (q : Dat K H hid μ d v) (i : Nat) : EnvOk K H hid μ (σ.set i (some d)) (σv.set i (some v)) := by
  refine ⟨by simp [h.len], fun j x e => ?_⟩
  by_cases hj : i = j
  · subst hj
    have hi : i < σ.length := by have := (List.getElem?_eq_some_iff.mp e).1; simpa using this
    rw [List.getElem?_set_self hi] at e
    cases e
    exact ⟨v, by rw [List.getElem?_set_self (by rw [← h.len]; exact hi)], q⟩
  · rw [List.getElem?_set_ne hj] at e
    obtain ⟨w, a, b⟩ := h.at_ j x e
    exact ⟨w, by rw [List.getElem?_set_ne hj]; exact a, b⟩
/-! lists of data -/
theorem Dats.length : ∀ {ds : List D} {vs : List V}, Dats K H hid μ ds vs → ds.length = vs.length
  | [], _, h => by unfold Dats at h; subst h; rfl
  | d :: ds, vs, h => by
    unfold Dats at h
    obtain ⟨v, r, rfl, _, h2⟩ := h
    simp [Dats.length h2]
theorem Dats.nil : Dats K H hid μ [] [] := by unfold Dats; rfl
theorem Dats.cons {d : D} {v : V} {ds : List D} {vs : List V} (h : Dat K H hid μ d v) (t : Dats K H hid μ ds vs) : Dats K H hid μ (d :: ds) (v :: vs) := by
  unfold Dats; exact ⟨v, vs, rfl, h, t⟩
theorem Dats.append : ∀ {ds es : List D} {vs ws : List V}, Dats K H hid μ ds vs → Dats K H hid μ es ws → Dats K H hid μ (ds ++ es) (vs ++ ws)
  | [], _, _, _, h, t => by unfold Dats at h; subst h; exact t
  | d :: ds, es, vs, ws, h, t => by
    unfold Dats at h
    obtain ⟨v, r, rfl, h1, h2⟩ := h
    exact .cons h1 (Dats.append h2 t)
theorem Dats.get : ∀ {ds : List D} {vs : List V} {i : Nat} {d : D}, Dats K H hid μ ds vs → ds[i]? = some d → ∃ v, vs[i]? = some v ∧ Dat K H hid μ d v
  | [], _, _, _, _, e => by simp at e
  | d :: ds, vs, 0, x, h, e => by
    unfold Dats at h
    obtain ⟨v, r, rfl, h1, h2⟩ := h
    simp at e; subst e
    exact ⟨v, by simp, h1⟩
  | d :: ds, vs, i + 1, x, h, e => by
    unfold Dats at h
    obtain ⟨v, r, rfl, h1, h2⟩ := h
    obtain ⟨z, a, b⟩ := Dats.get (i := i) h2 (by simpa using e)
    exact ⟨z, by simpa using a, b⟩
theorem Dats.take : ∀ {ds : List D} {vs : List V} (n : Nat), Dats K H hid μ ds vs → Dats K H hid μ (ds.take n) (vs.take n)
  | _, _, 0, _ => by simpa using Dats.nil
  | [], _, n + 1, h => by unfold Dats at h; subst h; simpa using Dats.nil
  | d :: ds, vs, n + 1, h => by
    unfold Dats at h
    obtain ⟨v, r, rfl, h1, h2⟩ := h
    simpa using Dats.cons h1 (Dats.take n h2)
theorem Dats.drop : ∀ {ds : List D} {vs : List V} (n : Nat), Dats K H hid μ ds vs → Dats K H hid μ (ds.drop n) (vs.drop n)
  | _, _, 0, h => by simpa using h
  | [], _, n + 1, h => by unfold Dats at h; subst h; simpa using Dats.nil
  | d :: ds, vs, n + 1, h => by
    unfold Dats at h
    obtain ⟨v, r, rfl, h1, h2⟩ := h
    simpa using Dats.drop n h2
theorem Dats.set {d : D} {v : V} (q : Dat K H hid μ d v) : ∀ {ds : List D} {vs : List V} (i : Nat), Dats K H hid μ ds vs → Dats K H hid μ (ds.set i d) (vs.set i v)
  | [], _, i, h => by unfold Dats at h; subst h; simpa using Dats.nil
  | x :: ds, vs, 0, h => by
    unfold Dats at h
    obtain ⟨w, r, rfl, h1, h2⟩ := h
    simpa using Dats.cons q h2
  | x :: ds, vs, i + 1, h => by
    unfold Dats at h
    obtain ⟨w, r, rfl, h1, h2⟩ := h
    simpa using Dats.cons h1 (Dats.set q i h2)
/-! steps of the heap -/
theorem upd_there {p : Addr} {o : HO} (b : Addr) (h : H b ≠ none) : upd H p o b ≠ none := by
  by_cases e : b = p
  · subst e; rw [upd_same]; simp
  · rw [upd_ne e]; exact h
/-- a new object by value -/
theorem Ext.laid {p : Addr} {o : HO} (h : H p = none) : Ext H μ (upd H p o) μ :=
  ⟨⟨[], by simp⟩, fun b u e _ _ => by rw [upd_ne (ne_of_none e h)]; exact e, fun _ m => .inl m, upd_there, fun _ t => t.upd (.inl h)⟩
theorem Cells.laid {p : Addr} {o : HO} {O : Ow} (c : Cells K H hid μ O) (h : H p = none) : Cells K (upd H p o) hid μ O := by
  refine ⟨c.len, c.nd, c.nh, fun a m => ?_, fun k a e => ?_⟩
  · by_cases q : a = p
    · subst q; rw [upd_same]; simp
    · rw [upd_ne q]; exact c.ht a m
  · obtain ⟨ds, vs, h1, h2, h3⟩ := c.at_ k a e
    exact ⟨ds, vs, h1, by rw [upd_ne (ne_of_none h2 h)]; exact h2, h3.ext (.laid h)⟩
theorem Cells.not_in {O : Ow} (c : Cells K H hid μ O) {p : Addr} (h : H p = none) : p ∉ hid ∧ p ∉ μ := by
  refine ⟨fun m => c.ht p m h, fun m => ?_⟩
  obtain ⟨k, hk, e⟩ := List.mem_iff_getElem.mp m
  obtain ⟨ds, vs, _, h2, _⟩ := c.at_ k p (by rw [List.getElem?_eq_some_iff]; exact ⟨hk, e⟩)
  rw [h] at h2; cases h2
/-- a new list by value, a new tuple by value -/
theorem Dat.newL {O : Ow} {p : Addr} {vs : List V} {ds : List D} (c : Cells K H hid μ O) (h : H p = none) (q : Dats K H hid μ ds vs) : Dat K (upd H p (.lst vs)) hid μ (.lst ds) (.ref p) := by
  unfold Dat
  exact ⟨p, vs, rfl, .inl ⟨.inl upd_same, c.not_in h⟩, q.ext (.laid h)⟩
theorem Dat.newT {O : Ow} {p : Addr} {vs : List V} {ds : List D} (c : Cells K H hid μ O) (h : H p = none) (q : Dats K H hid μ ds vs) : Dat K (upd H p (.tup vs)) hid μ (.tup ds) (.ref p) := by
  unfold Dat
  exact ⟨p, vs, rfl, .inl ⟨.inl upd_same, c.not_in h⟩, q.ext (.laid h)⟩
/-- a new cell -/
theorem Ext.cell {p : Addr} {o : HO} (h : H p = none) : Ext H μ (upd H p o) (μ ++ [p]) :=
  ⟨⟨[p], rfl⟩, fun b u e _ _ => by rw [upd_ne (ne_of_none e h)]; exact e, fun b m => by
    rcases List.mem_append.mp m with m | m
    · exact .inl m
    · have : b = p := by simpa using m
      subst this; exact .inr h, upd_there, fun _ t => t.upd (.inl h)⟩
theorem Cells.cell {O : Ow} {p : Addr} {vs : List V} {ds : List D} (c : Cells K H hid μ O) (h : H p = none) (q : Dats K H hid μ ds vs) : Cells K (upd H p (.lst vs)) hid (μ ++ [p]) (O ++ [ds]) := by
  have ni := c.not_in h
  refine ⟨by simp [c.len], ?_, fun a m => ?_, fun a m => ?_, fun k a e => ?_⟩
  · rw [List.nodup_append]
    refine ⟨c.nd, by simp, fun a ha b hb => ?_⟩
    have : b = p := by simpa using hb
    subst this
    rintro rfl
    exact ni.2 ha
  · rcases List.mem_append.mp m with m | m
    · exact c.nh a m
    · have : a = p := by simpa using m
      subst this; exact ni.1
  · by_cases q : a = p
    · subst q; rw [upd_same]; simp
    · rw [upd_ne q]; exact c.ht a m
  · by_cases hk : k < μ.length
    · rw [List.getElem?_append_left hk] at e
      obtain ⟨ds', vs', h1, h2, h3⟩ := c.at_ k a e
      exact ⟨ds', vs', by rw [List.getElem?_append_left (by rw [← c.len]; exact hk)]; exact h1, by rw [upd_ne (ne_of_none h2 h)]; exact h2, h3.ext (.cell h)⟩
    · rw [List.getElem?_append_right (by omega)] at e
      have e0 : k - μ.length = 0 := by
        have := (List.getElem?_eq_some_iff.mp e).1
        simp at this; omega
      rw [e0] at e
      simp at e; subst e
      refine ⟨ds, vs, ?_, upd_same, q.ext (.cell h)⟩
      have : k = O.length := by have := c.len; omega
      subst this; simp
/-- a cell is changed -/
theorem Ext.put {p : Addr} {o : HO} (h : p ∈ μ) (hl : ∃ vs, H p = some (.lst vs)) : Ext H μ (upd H p o) μ :=
  ⟨⟨[], by simp⟩, fun b u e n _ => by rw [upd_ne (by rintro rfl; exact n h)]; exact e, fun _ m => .inl m, upd_there, fun _ t => t.upd (.inr hl)⟩
theorem Cells.put {O : Ow} {p : Addr} {k : Nat} {vs : List V} {ds : List D} (c : Cells K H hid μ O) (hk : μ[k]? = some p) (q : Dats K H hid μ ds vs) : Cells K (upd H p (.lst vs)) hid μ (O.set k ds) := by
  have hm : p ∈ μ := List.mem_of_getElem? hk
  have hl : ∃ vs, H p = some (.lst vs) := let ⟨_, vs, _, h2, _⟩ := c.at_ k p hk; ⟨vs, h2⟩
  refine ⟨by simp [c.len], c.nd, c.nh, fun a m => ?_, fun j a e => ?_⟩
  · by_cases q : a = p
    · subst q; rw [upd_same]; simp
    · rw [upd_ne q]; exact c.ht a m
  · by_cases hj : j = k
    · subst hj
      rw [hk] at e; cases e
      refine ⟨ds, vs, ?_, upd_same, q.ext (.put hm hl)⟩
      rw [List.getElem?_set_self (by rw [← c.len]; exact (List.getElem?_eq_some_iff.mp hk).1)]
    · have ne : a ≠ p := by
        rintro rfl
        obtain ⟨h1, e1⟩ := List.getElem?_eq_some_iff.mp e
        obtain ⟨h2, e2⟩ := List.getElem?_eq_some_iff.mp hk
        exact hj ((List.getElem_inj c.nd).mp (e1.trans e2.symm))
      obtain ⟨ds', vs', h1, h2, h3⟩ := c.at_ j a e
      exact ⟨ds', vs', by rw [List.getElem?_set_ne (Ne.symm hj)]; exact h1, by rw [upd_ne ne]; exact h2, h3.ext (.put hm hl)⟩
end

/-! ### readings -/
section
variable (Ex : Nat → Hp → Prop) (K : PySem.W.Frag)
def post {α β : Type} (rel : Hp → List Addr → α → β → Prop) (H : Hp) (hid μ : List Addr) (r : R α) (Q : β → Hp → Prop) : Prop := match r with
  | .ok d O' => ∀ v H' μ', Ext H μ H' μ' → Cells K H' hid μ' O' → rel H' μ' d v → Q v H'
  | .exc c O' => ∀ H' μ', Ext H μ H' μ' → Cells K H' hid μ' O' → Ex c H'
  | .bad => False
abbrev postE (H : Hp) (hid μ : List Addr) (r : R D) (Q : VK) : Prop := post Ex K (fun H' μ' d v => Dat K H' hid μ' d v) H hid μ r Q
abbrev postT (H : Hp) (hid μ : List Addr) (r : R Bool) (Q : Bool → Hp → Prop) : Prop := post Ex K (fun _ _ d v => d = v) H hid μ r Q
abbrev postA (H : Hp) (hid μ : List Addr) (r : R (List D)) (Q : List V → Hp → Prop) : Prop := post Ex K (fun H' μ' d v => Dats K H' hid μ' d v) H hid μ r Q
def rd (t : DE) : TE := fun σv H Q => ∃ hid μ σ O, EnvOk K H hid μ σ σv ∧ Cells K H hid μ O ∧ postE Ex K H hid μ (t σ O) Q
def rdT (t : DT) : TT := fun σv H Q => ∃ hid μ σ O, EnvOk K H hid μ σ σv ∧ Cells K H hid μ O ∧ postT Ex K H hid μ (t σ O) Q
def rdA (t : DA) : TA := fun σv H Q => ∃ hid μ σ O, EnvOk K H hid μ σ σv ∧ Cells K H hid μ O ∧ postA Ex K H hid μ (t σ O) Q
end
section
variable {Ex : Nat → Hp → Prop} {K : PySem.W.Frag} {H H1 : Hp} {hid μ μ1 : List Addr}
theorem post.ext {α β : Type} {rel : Hp → List Addr → α → β → Prop} {r : R α} {Q : β → Hp → Prop} (h : post Ex K rel H hid μ r Q) (e : Ext H μ H1 μ1) : post Ex K rel H1 hid μ1 r Q := by
  cases r with
  | ok d O' => exact fun v H' μ' e' c q => h v H' μ' (e.trans e') c q
  | exc c O' => exact fun H' μ' e' c => h H' μ' (e.trans e') c
  | bad => exact h
/-- one step, then the rest -/
theorem post.bnd {α β α' β' : Type} {rel : Hp → List Addr → α → β → Prop} {rel' : Hp → List Addr → α' → β' → Prop} {r : R α} {k : α → Ow → R α'} {Q : β' → Hp → Prop} {Q1 : β → Hp → Prop}
    (h : post Ex K rel' H hid μ (r.bnd k) Q)
    (hk : ∀ d O1 v H1 μ1, Ext H μ H1 μ1 → Cells K H1 hid μ1 O1 → rel H1 μ1 d v → post Ex K rel' H1 hid μ1 (k d O1) Q → Q1 v H1) : post Ex K rel H hid μ r Q1 := by
  cases r with
  | ok d O' => exact fun v H' μ' e c q => hk d O' v H' μ' e c q (post.ext (show post Ex K rel' H hid μ (k d O') Q from h) e)
  | exc c O' => exact h
  | bad => exact h
theorem post.ok {α β : Type} {rel : Hp → List Addr → α → β → Prop} {d : α} {O : Ow} {Q : β → Hp → Prop} {v : β} (h : post Ex K rel H hid μ (.ok d O) Q) {H' : Hp} {μ' : List Addr} (e : Ext H μ H' μ') (c : Cells K H' hid μ' O) (q : rel H' μ' d v) : Q v H' := h v H' μ' e c q
theorem post.here {α β : Type} {rel : Hp → List Addr → α → β → Prop} {d : α} {O : Ow} {Q : β → Hp → Prop} {v : β} (h : post Ex K rel H hid μ (.ok d O) Q) (c : Cells K H hid μ O) (q : rel H μ d v) : Q v H := h v H μ .refl c q
end
/-! ### the judgements -/
structure PD (X : Cx) (Ex : Nat → Hp → Prop) (e : Expr) (t : DE) : Prop where
  out : PE X e (rd Ex X.K t)
structure PDT (X : Cx) (Ex : Nat → Hp → Prop) (e : Expr) (t : DT) : Prop where
  out : PT X e (rdT Ex X.K t)
structure PDA (X : Cx) (Ex : Nat → Hp → Prop) (es : List Expr) (t : DA) : Prop where
  out : PA X es (rdA Ex X.K t)
theorem PE.imp {X : Cx} {e : Expr} {t t' : TE} (h : PE X e t) (f : ∀ σ H Q, t' σ H Q → t σ H Q) : PE X e t' := fun pins s σ H Q I q => h pins s σ H Q I (f σ H Q q)
theorem PT.imp {X : Cx} {e : Expr} {t t' : TT} (h : PT X e t) (f : ∀ σ H Q, t' σ H Q → t σ H Q) : PT X e t' := fun pins s σ H Q I q => h pins s σ H Q I (f σ H Q q)
theorem PA.imp {X : Cx} {e : List Expr} {t t' : TA} (h : PA X e t) (f : ∀ σ H Q, t' σ H Q → t σ H Q) : PA X e t' := fun pos pins s σ H Q I q => h pos pins s σ H Q I (f σ H Q q)
theorem PW.imp {X : Cx} {e : Expr} {t t' : TT} (h : PW X e t) (f : ∀ σ H Q, t' σ H Q → t σ H Q) : PW X e t' := fun w pins s σ H Q I q => h w pins s σ H Q I (f σ H Q q)
end DL

namespace DL
open PySem L2

/-! ### names, constants -/
def dVar (i : Nat) : DE := fun σ O => match σ[i]? with
  | some (some d) => .ok d O
  | _ => .bad
def dC (d : D) : DE := fun _ O => .ok d O
section
variable {X : Cx} {Ex : Nat → Hp → Prop} {pos : Pos} {a b c : Expr} {ta tb tc : DE}
theorem pd_of {e : Expr} {t : TE} {t' : DE} (h : PE X e t) (f : ∀ hid μ σ O σv H Q, EnvOk X.K H hid μ σ σv → Cells X.K H hid μ O → postE Ex X.K H hid μ (t' σ O) Q → t σv H Q) : PD X Ex e t' :=
  ⟨PE.imp h fun σv H Q ⟨hid, μ, σ, O, e1, c1, q⟩ => f hid μ σ O σv H Q e1 c1 q⟩
theorem pdt_of {e : Expr} {t : TT} {t' : DT} (h : PT X e t) (f : ∀ hid μ σ O σv H Q, EnvOk X.K H hid μ σ σv → Cells X.K H hid μ O → postT Ex X.K H hid μ (t' σ O) Q → t σv H Q) : PDT X Ex e t' :=
  ⟨PT.imp h fun σv H Q ⟨hid, μ, σ, O, e1, c1, q⟩ => f hid μ σ O σv H Q e1 c1 q⟩
theorem pda_of {e : List Expr} {t : TA} {t' : DA} (h : PA X e t) (f : ∀ hid μ σ O σv H Q, EnvOk X.K H hid μ σ σv → Cells X.K H hid μ O → postA Ex X.K H hid μ (t' σ O) Q → t σv H Q) : PDA X Ex e t' :=
  ⟨PA.imp h fun σv H Q ⟨hid, μ, σ, O, e1, c1, q⟩ => f hid μ σ O σv H Q e1 c1 q⟩
/-- step into a part -/
theorem rd.go {α' β' : Type} {rel' : Hp → List Addr → α' → β' → Prop} {t : DE} {hid μ : List Addr} {σ : Sg} {O : Ow} {σv : St} {H : Hp} {Q1 : VK} {k : D → Ow → R α'} {Q : β' → Hp → Prop} (e1 : EnvOk X.K H hid μ σ σv) (c1 : Cells X.K H hid μ O)
    (q : post Ex X.K rel' H hid μ ((t σ O).bnd k) Q)
    (f : ∀ d O1 v H1 μ1, EnvOk X.K H1 hid μ1 σ σv → Ext H μ H1 μ1 → Cells X.K H1 hid μ1 O1 → Dat X.K H1 hid μ1 d v → post Ex X.K rel' H1 hid μ1 (k d O1) Q → Q1 v H1) : rd Ex X.K t σv H Q1 :=
  ⟨hid, μ, σ, O, e1, c1, post.bnd q fun d O1 v H1 μ1 x c r p => f d O1 v H1 μ1 (e1.ext x) x c r p⟩
theorem rdT.go {α' β' : Type} {rel' : Hp → List Addr → α' → β' → Prop} {t : DT} {hid μ : List Addr} {σ : Sg} {O : Ow} {σv : St} {H : Hp} {Q1 : Bool → Hp → Prop} {k : Bool → Ow → R α'} {Q : β' → Hp → Prop} (e1 : EnvOk X.K H hid μ σ σv) (c1 : Cells X.K H hid μ O)
    (q : post Ex X.K rel' H hid μ ((t σ O).bnd k) Q)
    (f : ∀ v O1 H1 μ1, EnvOk X.K H1 hid μ1 σ σv → Ext H μ H1 μ1 → Cells X.K H1 hid μ1 O1 → post Ex X.K rel' H1 hid μ1 (k v O1) Q → Q1 v H1) : rdT Ex X.K t σv H Q1 :=
  ⟨hid, μ, σ, O, e1, c1, post.bnd q fun d O1 v H1 μ1 x c r p => by
    have r : d = v := r
    subst r
    exact f d O1 H1 μ1 (e1.ext x) x c p⟩
theorem rdA.go {α' β' : Type} {rel' : Hp → List Addr → α' → β' → Prop} {t : DA} {hid μ : List Addr} {σ : Sg} {O : Ow} {σv : St} {H : Hp} {Q1 : List V → Hp → Prop} {k : List D → Ow → R α'} {Q : β' → Hp → Prop} (e1 : EnvOk X.K H hid μ σ σv) (c1 : Cells X.K H hid μ O)
    (q : post Ex X.K rel' H hid μ ((t σ O).bnd k) Q)
    (f : ∀ d O1 v H1 μ1, EnvOk X.K H1 hid μ1 σ σv → Ext H μ H1 μ1 → Cells X.K H1 hid μ1 O1 → Dats X.K H1 hid μ1 d v → post Ex X.K rel' H1 hid μ1 (k d O1) Q → Q1 v H1) : rdA Ex X.K t σv H Q1 :=
  ⟨hid, μ, σ, O, e1, c1, post.bnd q fun d O1 v H1 μ1 x c r p => f d O1 v H1 μ1 (e1.ext x) x c r p⟩

theorem pd_var {i : Nat} {x : Str} (hN : X.N[i]? = some x) (hv : Vis X.env.scope x) (hd : (x == ("__debug__" : Str)) = false := by decide) (hcd : (x == ("__classdict__" : Str)) = false := by decide) : PD X Ex (.Name x pos) (dVar i) :=
  pd_of (pe_var hN hv hd hcd) fun hid μ σ O σv H Q e1 c1 q => by
    unfold dVar at q
    split at q
    · rename_i d hd
      obtain ⟨v, h1, h2⟩ := e1.at_ i d hd
      exact ⟨v, h1, post.here q c1 h2⟩
    · exact False.elim q
theorem pd_int {i j} : PD X Ex (.Constant (.int i) j pos) (dC (.int i)) := pd_of pe_int fun hid μ σ O σv H Q e1 c1 q => post.here q c1 (by unfold Dat; rfl)
theorem pd_bl {i j} : PD X Ex (.Constant (.bool i) j pos) (dC (.bl i)) := pd_of pe_bl fun hid μ σ O σv H Q e1 c1 q => post.here q c1 (by unfold Dat; rfl)
theorem pd_non {j} : PD X Ex (.Constant .none j pos) (dC .non) := pd_of pe_non fun hid μ σ O σv H Q e1 c1 q => post.here q c1 (by unfold Dat; rfl)
theorem pd_str {x : Str} {j} (cs : List Nat) (h : x = ⟨cs.toArray⟩) : PD X Ex (.Constant (.str x) j pos) (dC (.str cs)) := pd_of pe_str fun hid μ σ O σv H Q e1 c1 q => post.here q c1 (by unfold Dat; rw [h])
theorem pd_globS {x : Str} {y : Str} {t : Tok} (cs : List Nat) (hg : Gl X x) (hm : X.mg x = some (.str y t)) (h : y = ⟨cs.toArray⟩) (hd : (x == ("__debug__" : Str)) = false := by decide) : PD X Ex (.Name x pos) (dC (.str cs)) :=
  pd_of (pe_glob (v := .str y) hg hm ⟨t, rfl⟩ hd) fun hid μ σ O σv H Q e1 c1 q => post.here q c1 (by unfold Dat; rw [h])

/-! ### operators -/
def dOp (f : Ow → D → D → R D) (ta tb : DE) : DE := fun σ O => (ta σ O).bnd fun x O1 => (tb σ O1).bnd fun y O2 => f O2 x y
/-- an operation by data -/
def OpD (X : Cx) (Ex : Nat → Hp → Prop) (r : R2) (f : Ow → D → D → R D) : Prop := ∀ (H : Hp) (hid μ : List Addr) (O : Ow) (x y : D) (v w : V) (Q : VK), Cells X.K H hid μ O → Dat X.K H hid μ x v → Dat X.K H hid μ y w → postE Ex X.K H hid μ (f O x y) Q → r v w H Q
theorem tOp_of {r : R2} {f : Ow → D → D → R D} (h : OpD X Ex r f) (hid μ : List Addr) (σ : Sg) (O : Ow) (σv : St) (H : Hp) (Q : VK) (e1 : EnvOk X.K H hid μ σ σv) (c1 : Cells X.K H hid μ O) (q : postE Ex X.K H hid μ (dOp f ta tb σ O) Q) :
    tOp r (rd Ex X.K ta) (rd Ex X.K tb) σv H Q :=
  rd.go e1 c1 q fun x O1 v H1 μ1 e2 x2 c2 d2 q2 => rd.go e2 c2 q2 fun y O2 w H2 μ2 e3 x3 c3 d3 q3 => h H2 hid μ2 O2 x y v w Q c3 (d2.ext x3) d3 q3
theorem pd_op {op : Operator} {r : R2} {f : Ow → D → D → R D} (ho : OpR X (binaryOp op) r) (h : OpD X Ex r f) (ha : PD X Ex a ta) (hb : PD X Ex b tb) : PD X Ex (.BinOp a op b pos) (dOp f ta tb) :=
  pd_of (pe_op ho ha.out hb.out) (tOp_of h)
theorem pd_cmp {op : CmpOp} {r : R2} {f : Ow → D → D → R D} (ho : OpR X (compareOp op) r) (h : OpD X Ex r f) (ha : PD X Ex a ta) (hb : PD X Ex b tb) (hm : behindInMarks op b = false) : PD X Ex (.Compare a [op] [b] pos) (dOp f ta tb) :=
  pd_of (pe_cmpR ho ha.out hb.out hm) (tOp_of h)
/-- a value as a test -/
def dTst (t : DE) : DT := fun σ O => (t σ O).bnd fun x O1 => match x with
  | .bl k => .ok k O1
  | _ => .bad
theorem tTest_of {t : TE} {td : DE} (f : ∀ hid μ σ O σv H Q, EnvOk X.K H hid μ σ σv → Cells X.K H hid μ O → postE Ex X.K H hid μ (td σ O) Q → t σv H Q) (hid μ : List Addr) (σ : Sg) (O : Ow) (σv : St) (H : Hp) (Q : Bool → Hp → Prop)
    (e1 : EnvOk X.K H hid μ σ σv) (c1 : Cells X.K H hid μ O) (q : postT Ex X.K H hid μ (dTst td σ O) Q) : tTest t σv H Q := by
  refine f hid μ σ O σv H _ e1 c1 ?_
  refine post.bnd q fun d O1 v H1 μ1 x c r p => ?_
  cases d with
  | bl k =>
    have r : v = .bl k := by unfold Dat at r; exact r
    exact ⟨k, r, post.here p c rfl⟩
  | _ => exact False.elim p
theorem pdt_cmp {op : CmpOp} {r : R2} {f : Ow → D → D → R D} (ho : OpR X (compareOp op) r) (h : OpD X Ex r f) (ha : PD X Ex a ta) (hb : PD X Ex b tb) (hm : behindInMarks op b = false) : PDT X Ex (.Compare a [op] [b] pos) (dTst (dOp f ta tb)) :=
  pdt_of (pt_cmpR ho ha.out hb.out hm) (tTest_of (tOp_of h))
/-- any value's truth -/
def truD (O : Ow) : D → R Bool
  | .non => .ok false O
  | .bl b => .ok b O
  | .int i => .ok (i != 0) O
  | .str cs => if cs.length ≤ 100000 then .ok (!cs.isEmpty) O else .bad
  | .lst ds => .ok (!ds.isEmpty) O
  | .tup ds => .ok (!ds.isEmpty) O
  | .own k => match O[k]? with
    | some ds => .ok (!ds.isEmpty) O
    | none => .bad
  | .dct => .bad
  | .exn _ => .bad
  | .tab _ => .bad
def dTru (t : DE) : DT := fun σ O => (t σ O).bnd fun x O1 => truD O1 x
theorem small_line {n : Nat} (h : n ≤ 100000) : n ≤ sizeLine := Nat.le_trans h (by decide)
theorem isEmpty_of_dats {K : PySem.W.Frag} {H : Hp} {hid μ : List Addr} {ds : List D} {vs : List V} (h : Dats K H hid μ ds vs) : (!ds.isEmpty) = !vs.isEmpty := by
  have e := h.length
  cases ds <;> cases vs <;> simp_all
theorem pdt_tru (ha : PD X Ex a ta) (he : ∀ whole, isTrue a X.env whole = (do let v ← whole; standAt a.pos; holding [v] (truthy v))) : PDT X Ex a (dTru ta) :=
  pdt_of (pt_truth ha.out he) fun hid μ σ O σv H Q e1 c1 q => rd.go e1 c1 q fun d O1 v H1 μ1 e2 x c r p => by
    cases d with
    | non => unfold Dat at r; subst r; exact ⟨_, rfl, post.here p c rfl⟩
    | bl b => unfold Dat at r; subst r; exact ⟨_, rfl, post.here p c rfl⟩
    | int b => unfold Dat at r; subst r; exact ⟨_, rfl, post.here p c rfl⟩
    | str cs =>
      unfold Dat at r; subst r
      by_cases hl : cs.length ≤ 100000
      · have p' : postT Ex X.K H1 hid μ1 (.ok (!cs.isEmpty) O1) Q := by
          have p2 : postT Ex X.K H1 hid μ1 (if cs.length ≤ 100000 then .ok (!cs.isEmpty) O1 else .bad) Q := p
          rw [if_pos hl] at p2; exact p2
        refine ⟨_, ⟨?_, rfl⟩, ?_⟩
        · show cs.toArray.size ≤ _
          rw [List.size_toArray]; exact small_line hl
        · have e : (((⟨cs.toArray⟩ : Str).length : Int) != 0) = !cs.isEmpty := by
            show ((cs.toArray.size : Int) != 0) = _
            rw [List.size_toArray]
            cases cs <;> simp [bne]
            omega
          rw [e]; exact post.here p' c rfl
      · have p2 : postT Ex X.K H1 hid μ1 (if cs.length ≤ 100000 then .ok (!cs.isEmpty) O1 else .bad) Q := p
        rw [if_neg hl] at p2; exact False.elim p2
    | lst ds =>
      unfold Dat at r
      obtain ⟨a, vs, rfl, l, q⟩ := r
      exact ⟨_, .inl ⟨vs, l.sq, rfl⟩, by rw [← isEmpty_of_dats q]; exact post.here p c rfl⟩
    | tup ds =>
      unfold Dat at r
      obtain ⟨a, vs, rfl, l, q⟩ := r
      exact ⟨_, .inr (.inl ⟨vs, l.sq, rfl⟩), by rw [← isEmpty_of_dats q]; exact post.here p c rfl⟩
    | own k =>
      unfold Dat at r
      obtain ⟨a, rfl, hk⟩ := r
      obtain ⟨ds, vs, h1, h2, h3⟩ := c.at_ k a hk
      have p' : postT Ex X.K H1 hid μ1 (.ok (!ds.isEmpty) O1) Q := by
        have p2 : postT Ex X.K H1 hid μ1 (match O1[k]? with | some ds => .ok (!ds.isEmpty) O1 | none => .bad) Q := p
        rw [h1] at p2; exact p2
      exact ⟨_, .inl ⟨vs, .of h2, rfl⟩, by rw [← isEmpty_of_dats h3]; exact post.here p' c rfl⟩
    | dct => exact False.elim p
    | exn _ => exact False.elim p
    | tab _ => exact False.elim p
/-! ints -/
def fI (g : Int → Int → Option D) : Ow → D → D → R D := fun O x y => match x, y with
  | .int i, .int j => match g i j with
    | some d => .ok d O
    | none => .bad
  | _, _ => .bad
theorem opd_int {C : Int → Int → Prop} {gv : Int → Int → V} {g : Int → Int → Option D} (h : ∀ i j d, g i j = some d → C i j ∧ ∀ K H hid μ, Dat K H hid μ d (gv i j)) : OpD X Ex (rI C gv) (fI g) := by
  intro H hid μ O x y v w Q c dx dy q
  unfold fI at q
  split at q
  · rename_i i j
    unfold Dat at dx dy
    subst dx; subst dy
    split at q
    · rename_i d hd
      obtain ⟨h1, h2⟩ := h i j d hd
      exact ⟨i, j, rfl, rfl, h1, post.here q c (h2 _ _ _ _)⟩
    · exact False.elim q
  · exact False.elim q
theorem opd_int0 {gv : Int → Int → V} {g : Int → Int → Option D} (h : ∀ i j d, g i j = some d → ∀ K H hid μ, Dat K H hid μ d (gv i j)) : OpD X Ex (rI0 gv) (fI g) := by
  intro H hid μ O x y v w Q c dx dy q
  unfold fI at q
  split at q
  · rename_i i j
    unfold Dat at dx dy
    subst dx; subst dy
    split at q
    · rename_i d hd
      exact ⟨i, j, rfl, rfl, post.here q c (h i j d hd _ _ _ _)⟩
    · exact False.elim q
  · exact False.elim q
theorem dat_int {K H hid μ} {i : Int} : Dat K H hid μ (.int i) (.int i) := by unfold Dat; rfl
theorem dat_bl {K H hid μ} {i : Bool} : Dat K H hid μ (.bl i) (.bl i) := by unfold Dat; rfl
theorem dat_non {K H hid μ} : Dat K H hid μ .non .non := by unfold Dat; rfl
theorem dat_str {K H hid μ} {cs : List Nat} : Dat K H hid μ (.str cs) (.str ⟨cs.toArray⟩) := by unfold Dat; rfl
def gB (p : Int → Int → Bool) : Int → Int → Option D := fun i j => some (.bl (p i j))
def gI (p : Int → Int → Int) : Int → Int → Option D := fun i j => some (.int (p i j))
def gSub : Int → Int → Option D := gI fun i j => i - j
def gMul : Int → Int → Option D := fun i j => if (-1000000000000000 < i ∧ i < 1000000000000000) ∨ (-1000000000000000 < j ∧ j < 1000000000000000) then some (.int (i * j)) else none
def gDiv : Int → Int → Option D := fun i j => if 0 < j ∧ j < 1073741824 then some (.int (i / j)) else none
def gMod : Int → Int → Option D := fun i j => if 0 < j then some (.int (i % j)) else none
def gPow : Int → Int → Option D := fun i j => if 0 ≤ j ∧ j ≤ 1000000 ∧ i.natAbs < 2 ^ 64 then some (.int (i ^ j.toNat)) else none
def gShl : Int → Int → Option D := fun i j => if 0 ≤ j ∧ j ≤ 1000000 ∧ i.natAbs < 2 ^ 64 then some (.int (i * 2 ^ j.toNat)) else none
theorem opd_sub : OpD X Ex (rI0 fun i j => .int (i - j)) (fI gSub) := opd_int0 fun i j d h _ _ _ _ => by cases h; exact dat_int
theorem opd_mul : OpD X Ex (rI CMul fun i j => .int (i * j)) (fI gMul) := opd_int fun i j d h => by
  unfold gMul at h; split at h
  · rename_i hc; cases h; exact ⟨hc.imp (fun z => ⟨by omega, by omega⟩) fun z => ⟨by omega, by omega⟩, fun _ _ _ _ => dat_int⟩
  · cases h
theorem opd_div : OpD X Ex (rI CDiv fun i j => .int (i / j)) (fI gDiv) := opd_int fun i j d h => by
  unfold gDiv at h; split at h
  · rename_i hc; cases h; exact ⟨hc, fun _ _ _ _ => dat_int⟩
  · cases h
theorem opd_mod : OpD X Ex (rI (fun _ j => 0 < j) fun i j => .int (i % j)) (fI gMod) := opd_int fun i j d h => by
  unfold gMod at h; split at h
  · rename_i hc; cases h; exact ⟨hc, fun _ _ _ _ => dat_int⟩
  · cases h
theorem opd_pow : OpD X Ex (rI CPow fun i j => .int (i ^ j.toNat)) (fI gPow) := opd_int fun i j d h => by
  unfold gPow at h; split at h
  · rename_i hc; cases h; exact ⟨hc, fun _ _ _ _ => dat_int⟩
  · cases h
theorem opd_shl : OpD X Ex (rI CPow fun i j => .int (i * 2 ^ j.toNat)) (fI gShl) := opd_int fun i j d h => by
  unfold gShl at h; split at h
  · rename_i hc; cases h; exact ⟨hc, fun _ _ _ _ => dat_int⟩
  · cases h
def fLt : Ow → D → D → R D := fI (gB fun i j => decide (i < j))
def fLe : Ow → D → D → R D := fI (gB fun i j => decide (i ≤ j))
def fGe : Ow → D → D → R D := fI (gB fun i j => decide (j ≤ i))
theorem opd_lt : OpD X Ex (rI0 fun i j => .bl (decide (i < j))) fLt := opd_int0 fun i j d h _ _ _ _ => by cases h; exact dat_bl
theorem opd_le : OpD X Ex (rI0 fun i j => .bl (decide (i ≤ j))) fLe := opd_int0 fun i j d h _ _ _ _ => by cases h; exact dat_bl
theorem opd_ge : OpD X Ex (rI0 fun i j => .bl (decide (j ≤ i))) fGe := opd_int0 fun i j d h _ _ _ _ => by cases h; exact dat_bl
/-! is None -/
def isNon : D → Bool
  | .non => true
  | _ => false
def fIsN : Ow → D → D → R D := fun O x y => match y with
  | .non => .ok (.bl (isNon x)) O
  | _ => .bad
def fNotN : Ow → D → D → R D := fun O x y => match y with
  | .non => .ok (.bl (!isNon x)) O
  | _ => .bad
theorem dat_isN {K H hid μ} {x : D} {v : V} (h : Dat K H hid μ x v) : decide (v = .non) = isNon x := by
  cases x with
  | non => unfold Dat at h; subst h; rfl
  | bl _ => unfold Dat at h; subst h; rfl
  | int _ => unfold Dat at h; subst h; rfl
  | str _ => unfold Dat at h; subst h; rfl
  | lst _ => unfold Dat at h; obtain ⟨_, _, rfl, _⟩ := h; rfl
  | tup _ => unfold Dat at h; obtain ⟨_, _, rfl, _⟩ := h; rfl
  | own _ => unfold Dat at h; obtain ⟨_, rfl, _⟩ := h; rfl
  | dct => unfold Dat at h; obtain ⟨_, rfl, _⟩ := h; rfl
  | exn _ => unfold Dat at h; obtain ⟨_, _, rfl, _⟩ := h; rfl
  | tab _ => unfold Dat at h; obtain ⟨rfl, _⟩ := h; rfl
theorem opd_isN : OpD X Ex (fun x y H Q => y = .non ∧ Q (.bl (decide (x = .non))) H) fIsN := by
  intro H hid μ O x y v w Q c dx dy q
  cases y with
  | non =>
    unfold Dat at dy; subst dy
    refine ⟨rfl, ?_⟩
    rw [dat_isN dx]
    exact post.here (show postE Ex X.K H hid μ (.ok (.bl (isNon x)) O) Q from q) c dat_bl
  | _ => exact False.elim q
theorem opd_notN : OpD X Ex (fun x y H Q => y = .non ∧ Q (.bl (!decide (x = .non))) H) fNotN := by
  intro H hid μ O x y v w Q c dx dy q
  cases y with
  | non =>
    unfold Dat at dy; subst dy
    refine ⟨rfl, ?_⟩
    rw [dat_isN dx]
    exact post.here (show postE Ex X.K H hid μ (.ok (.bl (!isNon x)) O) Q from q) c dat_bl
  | _ => exact False.elim q
/-! ### and, or, not, if -/
def dAnd (t u : DE) : DE := fun σ O => (t σ O).bnd fun x O1 => match x with
  | .bl true => u σ O1
  | .bl false => .ok (.bl false) O1
  | _ => .bad
def dOr (t u : DE) : DE := fun σ O => (t σ O).bnd fun x O1 => match x with
  | .bl true => .ok (.bl true) O1
  | .bl false => u σ O1
  | _ => .bad
def dNot (t : DE) : DE := fun σ O => (t σ O).bnd fun x O1 => match x with
  | .bl b => .ok (.bl (!b)) O1
  | _ => .bad
def dAndT (t u : DT) : DT := fun σ O => (t σ O).bnd fun x O1 => if x = true then u σ O1 else .ok false O1
def dOrT (t u : DT) : DT := fun σ O => (t σ O).bnd fun x O1 => if x = true then .ok true O1 else u σ O1
def dNotT (t : DT) : DT := fun σ O => (t σ O).bnd fun x O1 => .ok (!x) O1
def dIf (t : DT) (u v : DE) : DE := fun σ O => (t σ O).bnd fun x O1 => if x = true then u σ O1 else v σ O1
theorem pd_one {op} (ha : PD X Ex a ta) : PD X Ex (.BoolOp op [a] pos) ta := ⟨pe_one ha.out⟩
theorem pd_and {rest : List Expr} (ha : PD X Ex a ta) (hb : PD X Ex (.BoolOp .And (b :: rest) pos) tb) : PD X Ex (.BoolOp .And (a :: b :: rest) pos) (dAnd ta tb) :=
  pd_of (pe_and ha.out hb.out) fun hid μ σ O σv H Q e1 c1 q => rd.go e1 c1 q fun d O1 v H1 μ1 e2 x c r p => by
    cases d with
    | bl k =>
      unfold Dat at r; subst r
      refine ⟨k, rfl, ?_⟩
      cases k with
      | true => rw [if_pos rfl]; exact ⟨hid, μ1, σ, O1, e2, c, p⟩
      | false => rw [if_neg Bool.false_ne_true]; exact post.here p c dat_bl
    | _ => exact False.elim p
theorem pd_or {rest : List Expr} (ha : PD X Ex a ta) (hb : PD X Ex (.BoolOp .Or (b :: rest) pos) tb) : PD X Ex (.BoolOp .Or (a :: b :: rest) pos) (dOr ta tb) :=
  pd_of (pe_or ha.out hb.out) fun hid μ σ O σv H Q e1 c1 q => rd.go e1 c1 q fun d O1 v H1 μ1 e2 x c r p => by
    cases d with
    | bl k =>
      unfold Dat at r; subst r
      refine ⟨k, rfl, ?_⟩
      cases k with
      | true => rw [if_pos rfl]; exact post.here p c dat_bl
      | false => rw [if_neg Bool.false_ne_true]; exact ⟨hid, μ1, σ, O1, e2, c, p⟩
    | _ => exact False.elim p
theorem pd_not (ha : PD X Ex a ta) : PD X Ex (.UnaryOp .Not a pos) (dNot ta) :=
  pd_of (pe_not ha.out) fun hid μ σ O σv H Q e1 c1 q => rd.go e1 c1 q fun d O1 v H1 μ1 e2 x c r p => by
    cases d with
    | bl k => unfold Dat at r; subst r; exact ⟨k, rfl, post.here p c dat_bl⟩
    | _ => exact False.elim p
structure PDW (X : Cx) (Ex : Nat → Hp → Prop) (e : Expr) (t : DT) : Prop where
  out : PW X e (rdT Ex X.K t)
theorem PDW.pt {e : Expr} {t : DT} (h : PDW X Ex e t) : PDT X Ex e t := ⟨L2.PW.pt h.out⟩
theorem pw_imp {e : Expr} {t : TT} {t' : DT} (h : PW X e t) (f : ∀ hid μ σ O σv H Q, EnvOk X.K H hid μ σ σv → Cells X.K H hid μ O → postT Ex X.K H hid μ (t' σ O) Q → t σv H Q) : PDW X Ex e t' :=
  ⟨PW.imp h fun σv H Q ⟨hid, μ, σ, O, e1, c1, q⟩ => f hid μ σ O σv H Q e1 c1 q⟩
theorem pwd_and {rest : List Expr} {tA tB : DT} (ha : PDT X Ex a tA) (hb : PDW X Ex (.BoolOp .And (b :: rest) pos) tB) : PDW X Ex (.BoolOp .And (a :: b :: rest) pos) (dAndT tA tB) :=
  pw_imp (pw_and ha.out hb.out) fun hid μ σ O σv H Q e1 c1 q => rdT.go e1 c1 q fun k O1 H1 μ1 e2 x c p => by
    cases k with
    | true => rw [if_pos rfl]; exact ⟨hid, μ1, σ, O1, e2, c, p⟩
    | false => rw [if_neg Bool.false_ne_true]; exact post.here p c rfl
theorem pwd_or {rest : List Expr} {tA tB : DT} (ha : PDT X Ex a tA) (hb : PDW X Ex (.BoolOp .Or (b :: rest) pos) tB) : PDW X Ex (.BoolOp .Or (a :: b :: rest) pos) (dOrT tA tB) :=
  pw_imp (pw_or ha.out hb.out) fun hid μ σ O σv H Q e1 c1 q => rdT.go e1 c1 q fun k O1 H1 μ1 e2 x c p => by
    cases k with
    | true => rw [if_pos rfl]; exact post.here p c rfl
    | false => rw [if_neg Bool.false_ne_true]; exact ⟨hid, μ1, σ, O1, e2, c, p⟩
theorem pwd_and1 {tA : DT} (ha : PDT X Ex a tA) : PDW X Ex (.BoolOp .And [a] pos) tA := ⟨pw_and1 ha.out⟩
theorem pwd_or1 {tA : DT} (ha : PDT X Ex a tA) : PDW X Ex (.BoolOp .Or [a] pos) tA := ⟨pw_or1 ha.out⟩
theorem pdt_not {tA : DT} (ha : PDT X Ex a tA) : PDT X Ex (.UnaryOp .Not a pos) (dNotT tA) :=
  pdt_of (pt_not ha.out) fun hid μ σ O σv H Q e1 c1 q => rdT.go e1 c1 q fun k O1 H1 μ1 e2 x c p => post.here p c rfl
theorem pd_ifExp {tA : DT} (hc : PDT X Ex c tA) (ha : PD X Ex a ta) (hb : PD X Ex b tb) : PD X Ex (.IfExp c a b pos) (dIf tA ta tb) :=
  pd_of (pe_ifExp hc.out ha.out hb.out) fun hid μ σ O σv H Q e1 c1 q => rdT.go e1 c1 q fun k O1 H1 μ1 e2 x c p => by
    cases k with
    | true => rw [if_pos rfl]; exact ⟨hid, μ1, σ, O1, e2, c, p⟩
    | false => rw [if_neg Bool.false_ne_true]; exact ⟨hid, μ1, σ, O1, e2, c, p⟩
/-- a <= b <= c as a value -/
def dChain (f g : Ow → D → D → R D) (ta tb tc : DE) : DE := fun σ O => (ta σ O).bnd fun x O1 => (tb σ O1).bnd fun y O2 => (f O2 x y).bnd fun z O3 => match z with
  | .bl true => (tc σ O3).bnd fun w O4 => g O4 y w
  | .bl false => .ok (.bl false) O3
  | _ => .bad
theorem pd_chain {op op' : CmpOp} {r r' : R2} {f g : Ow → D → D → R D} (ho : OpR X (compareOp op) r) (h : OpD X Ex r f) (ho' : OpR X (compareOp op') r') (h' : OpD X Ex r' g) (ha : PD X Ex a ta) (hb : PD X Ex b tb) (hc : PD X Ex c tc)
    (hm : lastMarks [op, op'] [b, c] = false := by with_unfolding_all rfl) : PD X Ex (.Compare a [op, op'] [b, c] pos) (dChain f g ta tb tc) :=
  pd_of (pe_chain ho ho' ha.out hb.out hc.out hm) fun hid μ σ O σv H Q e1 c1 q => rd.go e1 c1 q fun x O1 v H1 μ1 e2 x2 c2 d2 q2 => rd.go e2 c2 q2 fun y O2 w H2 μ2 e3 x3 c3 d3 q3 =>
    h H2 hid μ2 O2 x y v w _ c3 (d2.ext x3) d3 (post.bnd q3 fun z O3 u H3 μ3 x4 c4 r4 p => by
      cases z with
      | bl k =>
        unfold Dat at r4; subst r4
        refine ⟨k, rfl, ?_⟩
        cases k with
        | true => rw [if_pos rfl]; exact rd.go (e3.ext x4) c4 p fun w2 O4 v4 H4 μ4 e5 x5 c5 d5 q5 => h' H4 hid μ4 O4 y w2 w v4 Q c5 ((d3.ext x4).ext x5) d5 q5
        | false => rw [if_neg Bool.false_ne_true]; exact post.here p c4 dat_bl
      | _ => exact False.elim p)
/-! ### argument lists, displays -/
def dNil : DA := fun _ O => .ok [] O
def dCons (t : DE) (u : DA) : DA := fun σ O => (t σ O).bnd fun x O1 => (u σ O1).bnd fun xs O2 => .ok (x :: xs) O2
theorem pda_nil : PDA X Ex [] dNil := pda_of pa_nil fun hid μ σ O σv H Q e1 c1 q => post.here q c1 .nil
theorem pda_cons {es : List Expr} {t : DA} (ha : PD X Ex a ta) (hr : PDA X Ex es t) (hs : starEach (a :: es) X.env = (false, eval a X.env) :: starEach es X.env := by rfl) : PDA X Ex (a :: es) (dCons ta t) :=
  pda_of (pa_cons ha.out hr.out hs) fun hid μ σ O σv H Q e1 c1 q => rd.go e1 c1 q fun x O1 v H1 μ1 e2 x2 c2 d2 q2 => rdA.go e2 c2 q2 fun y O2 w H2 μ2 e3 x3 c3 d3 q3 => post.here q3 c3 (.cons (d2.ext x3) d3)
def dTup (t : DA) : DE := fun σ O => (t σ O).bnd fun xs O1 => if xs.length ≤ 100000 then .ok (.tup xs) O1 else .bad
def dLst (t : DA) : DE := fun σ O => (t σ O).bnd fun xs O1 => if xs.length ≤ 100000 then .ok (.lst xs) O1 else .bad
/-- a list that is a cell -/
def dLstO (t : DA) : DE := fun σ O => (t σ O).bnd fun xs O1 => if xs.length ≤ 100000 then .ok (.own O1.length) (O1 ++ [xs]) else .bad
theorem post.ite {α β : Type} {K : PySem.W.Frag} {H : Hp} {hid μ : List Addr} {rel : Hp → List Addr → α → β → Prop} {Q : β → Hp → Prop} {c : Prop} [Decidable c] {r : R α} (h : post Ex K rel H hid μ (if c then r else .bad) Q) : c ∧ post Ex K rel H hid μ r Q := by
  by_cases hc : c
  · rw [if_pos hc] at h; exact ⟨hc, h⟩
  · rw [if_neg hc] at h; exact False.elim h
theorem pd_tup {es : List Expr} {t : DA} {x1} (h : PDA X Ex es t) : PD X Ex (.Tuple es x1 pos) (dTup t) :=
  pd_of (pe_tup h.out) fun hid μ σ O σv H Q e1 c1 q => rdA.go e1 c1 q fun xs O1 vs H1 μ1 e2 x2 c2 d2 q2 => by
    obtain ⟨hl, q2⟩ := post.ite q2
    exact ⟨by rw [← d2.length]; exact small_line hl, fun p hp => post.ok q2 (.laid hp) (c2.laid hp) (Dat.newT c2 hp d2)⟩
theorem pd_lst {es : List Expr} {t : DA} (h : PDA X Ex es t) : PD X Ex (.List es pos) (dLst t) :=
  pd_of (pe_lst h.out) fun hid μ σ O σv H Q e1 c1 q => rdA.go e1 c1 q fun xs O1 vs H1 μ1 e2 x2 c2 d2 q2 => by
    obtain ⟨hl, q2⟩ := post.ite q2
    exact ⟨by rw [← d2.length]; exact small_line hl, fun p hp => post.ok q2 (.laid hp) (c2.laid hp) (Dat.newL c2 hp d2)⟩
theorem dat_own_last {K : PySem.W.Frag} {H : Hp} {hid μ : List Addr} {p : Addr} {n : Nat} (h : μ.length = n) : Dat K H hid (μ ++ [p]) (.own n) (.ref p) := by
  unfold Dat
  exact ⟨p, rfl, by rw [← h]; simp⟩
theorem pd_lstO {es : List Expr} {t : DA} (h : PDA X Ex es t) : PD X Ex (.List es pos) (dLstO t) :=
  pd_of (pe_lst h.out) fun hid μ σ O σv H Q e1 c1 q => rdA.go e1 c1 q fun xs O1 vs H1 μ1 e2 x2 c2 d2 q2 => by
    obtain ⟨hl, q2⟩ := post.ite q2
    exact ⟨by rw [← d2.length]; exact small_line hl, fun p hp => post.ok q2 (.cell hp) (c2.cell hp d2) (dat_own_last c2.len)⟩
end
end DL

namespace DL
open PySem L2

/-! ### what is walked -/
inductive Src where
  | val (ds : List D)
  | own (k : Nat)
  | zip (a b : Src)
  deriving Repr, Inhabited
def Src.get : Src → Ow → Nat → Option D
  | .val ds, _, i => ds[i]?
  | .own k, O, i => match O[k]? with
    | some ds => ds[i]?
    | none => none
  | .zip a b, O, i => match a.get O i, b.get O i with
    | some x, some y => some (.tup [x, y])
    | _, _ => none
def Src.size : Src → Ow → Nat
  | .val ds, _ => ds.length
  | .own k, O => match O[k]? with
    | some ds => ds.length
    | none => 0
  | .zip a b, O => min (a.size O) (b.size O)
abbrev DI := Sg → Ow → R Src
/-- the iterator J walks src, now and later -/
def SrcAt (K : PySem.W.Frag) (J : It) (src : Src) (H : Hp) (hid μ : List Addr) : Prop := ∀ hid' H' μ' O', Mv H hid μ H' hid' μ' → Cells K H' hid' μ' O' → ∀ i,
  match src.get O' i with
  | some d => J.go i H' ∧ ∀ x H'', J.yld i H' x H'' → Ext H' μ' H'' μ' ∧ Cells K H'' hid' μ' O' ∧ Dat K H'' hid' μ' d x
  | none => J.stop i H'
def rdI (Ex : Nat → Hp → Prop) (K : PySem.W.Frag) (t : DI) : TI := fun σv H Rr => ∃ hid μ σ O, EnvOk K H hid μ σ σv ∧ Cells K H hid μ O ∧ post Ex K (fun H' μ' s J => SrcAt K J s H' hid μ') H hid μ (t σ O) Rr
structure PDI (X : Cx) (Ex : Nat → Hp → Prop) (tg iter : Expr) (t : DI) : Prop where
  out : PI X tg iter (rdI Ex X.K t)
theorem SrcAt.mv {K : PySem.W.Frag} {J : It} {src : Src} {H H1 : Hp} {hid hid1 μ μ1 : List Addr} (h : SrcAt K J src H hid μ) (e : Mv H hid μ H1 hid1 μ1) : SrcAt K J src H1 hid1 μ1 :=
  fun hid' H' μ' O' m c => h hid' H' μ' O' (e.trans m) c
theorem SrcAt.val {K : PySem.W.Frag} {H : Hp} {hid μ : List Addr} {ds : List D} {vs : List V} {a : Addr} (l : LstAt K H hid μ a vs) (q : Dats K H hid μ ds vs) : SrcAt K (Itl K a) (.val ds) H hid μ := by
  intro hid' H' μ' O' m c i
  have sq := (l.mv m).sq
  have q' := q.mv m
  show match ds[i]? with | some d => _ | none => _
  cases e : ds[i]? with
  | some d =>
    obtain ⟨v, h1, h2⟩ := q'.get e
    refine ⟨⟨vs, v, sq, h1⟩, fun x H'' y => ?_⟩
    obtain ⟨rfl, y⟩ := y
    have := y vs sq
    rw [h1] at this; cases this
    exact ⟨.refl, c, h2⟩
  | none =>
    refine ⟨vs, sq, ?_⟩
    have := List.getElem?_eq_none_iff.mp e
    rw [← q.length]; exact this
theorem SrcAt.tup {K : PySem.W.Frag} {H : Hp} {hid μ : List Addr} {ds : List D} {vs : List V} {a : Addr} (l : TupAt K H hid μ a vs) (q : Dats K H hid μ ds vs) : SrcAt K (Itt K a) (.val ds) H hid μ := by
  intro hid' H' μ' O' m c i
  have sq := (l.mv m).sq
  have q' := q.mv m
  show match ds[i]? with | some d => _ | none => _
  cases e : ds[i]? with
  | some d =>
    obtain ⟨v, h1, h2⟩ := q'.get e
    refine ⟨⟨vs, v, sq, h1⟩, fun x H'' y => ?_⟩
    obtain ⟨rfl, y⟩ := y
    have := y vs sq
    rw [h1] at this; cases this
    exact ⟨.refl, c, h2⟩
  | none =>
    refine ⟨vs, sq, ?_⟩
    have := List.getElem?_eq_none_iff.mp e
    rw [← q.length]; exact this
theorem SrcAt.own {K : PySem.W.Frag} {H : Hp} {hid μ : List Addr} {k : Nat} {a : Addr} (hk : μ[k]? = some a) : SrcAt K (Itl K a) (.own k) H hid μ := by
  intro hid' H' μ' O' m c i
  obtain ⟨ν, rfl⟩ := m.pre
  have hk' : (μ ++ ν)[k]? = some a := by rw [List.getElem?_append_left (List.getElem?_eq_some_iff.mp hk).1]; exact hk
  obtain ⟨ds, vs, h1, h2, h3⟩ := c.at_ k a hk'
  have sq : SqL K H' a vs := .of h2
  show match (match O'[k]? with | some ds => ds[i]? | none => none) with | some d => _ | none => _
  rw [h1]
  show match ds[i]? with | some d => _ | none => _
  cases e : ds[i]? with
  | some d =>
    obtain ⟨v, g1, g2⟩ := h3.get e
    refine ⟨⟨vs, v, sq, g1⟩, fun x H'' y => ?_⟩
    obtain ⟨rfl, y⟩ := y
    have := y vs sq
    rw [g1] at this; cases this
    exact ⟨.refl, c, g2⟩
  | none =>
    refine ⟨vs, sq, ?_⟩
    have := List.getElem?_eq_none_iff.mp e
    rw [← h3.length]; exact this
/-- a text's signs -/
def Its (x : Str) : It := ⟨fun i _ => i < x.cps.size, fun i H v H' => H' = H ∧ ∃ c, x.cps[i]? = some c ∧ v = .str ⟨#[c]⟩, fun i _ => x.cps.size ≤ i⟩
theorem SrcAt.str {K : PySem.W.Frag} {H : Hp} {hid μ : List Addr} {cs : List Nat} : SrcAt K (Its ⟨cs.toArray⟩) (.val (cs.map fun c => .str [c])) H hid μ := by
  intro hid' H' μ' O' m c i
  show match (cs.map fun c => D.str [c])[i]? with | some d => _ | none => _
  rw [List.getElem?_map]
  cases e : cs[i]? with
  | some d =>
    have hi := (List.getElem?_eq_some_iff.mp e).1
    refine ⟨by show i < cs.toArray.size; simpa using hi, fun x H'' y => ?_⟩
    obtain ⟨rfl, z, h1, rfl⟩ := y
    have h1' : cs.toArray[i]? = some z := h1
    rw [List.getElem?_toArray, e] at h1'
    cases h1'
    refine ⟨.refl, c, ?_⟩
    unfold Dat
    rfl
  | none =>
    have := List.getElem?_eq_none_iff.mp e
    show cs.toArray.size ≤ i
    simpa using this
theorem SrcAt.rng {K : PySem.W.Frag} {H : Hp} {hid μ : List Addr} {lo : Int} {n : Nat} : SrcAt K (Itr lo n) (.val ((List.range n).map fun i => .int (lo + (i : Nat)))) H hid μ := by
  intro hid' H' μ' O' m c i
  show match ((List.range n).map fun i => D.int (lo + (i : Nat)))[i]? with | some d => _ | none => _
  rw [List.getElem?_map]
  by_cases hi : i < n
  · rw [List.getElem?_range hi]
    refine ⟨hi, fun x H'' y => ?_⟩
    obtain ⟨rfl, rfl⟩ := y
    exact ⟨.refl, c, dat_int⟩
  · rw [List.getElem?_eq_none_iff.mpr (by simpa using hi)]
    exact Nat.not_lt.mp hi
theorem turn_str {P : Program} {w : World} {K : PySem.W.Frag} {tg : Expr} (x : Str) (t : Tok) (it : Addr) : Turn P w K tg (Its x) [it] it (fun i h => h.IsStrIter it (strIterType x) x t i) where
  mem := by simp
  obj := fun i h st b hb => by
    have e : b = it := by simpa using hb
    subst e
    obtain ⟨o, e, c, d⟩ := st
    exact ⟨o, e, fun v z => by rw [d] at z; cases z⟩
  keep := fun i h h' st k => by
    obtain ⟨o, e, c, d⟩ := st
    exact ⟨o, k it (by simp) o e, c, d⟩
  item := by
    intro X hP hw hK hc i pins s σ H E I hf st hg
    subst hP hw hK
    obtain ⟨f0, f1, f2, f3, f4, f5⟩ := hf it (by simp)
    obtain ⟨ch, hx⟩ : ∃ c, x.cps[i]? = some c := ⟨_, Array.getElem?_eq_getElem (show i < x.cps.size from hg)⟩
    have go : ∀ (ty : String), (["enumerate", "zip", "dict_itemiterator", "dict_reverseitemiterator", "odict_iterator", "itertools.zip_longest", "itertools.pairwise"].contains ty = false) → strIterType x = ty → ∀ h', h'.IsStrIter it ty x t (i + 1) → Heap.SameBut it s.heap h' →
        ∃ u, some (Value.str ⟨#[ch]⟩ s.toks) = some u ∧ wpAny (model X.prog X.w) X.A (letOwnedTupleGo tg (.ref it) u) (fun _ s2 => ∃ y H', Inv X pins σ H' s2 ∧ RelV y u ∧ (Its x).yld i H y H' ∧ s2.heap.IsStrIter it (strIterType x) x t (i + 1) ∧ ∀ b ∈ [it], H' b = none) E { s with heap := h', toks := s.toks + 1 } := by
      intro ty hn et h' st' sb
      have I1 : Inv X pins σ H { s with heap := h', toks := s.toks + 1 } := I.turned (t' := s.toks + 1) (fun b o hb e => (sb.2 b hb).trans e) f0 f1 f3 f4 f5
      obtain ⟨o, e, c, d⟩ := id st'
      refine ⟨_, rfl, go_of (s := { s with heap := h', toks := s.toks + 1 }) e c d hn ⟨.str ⟨#[ch]⟩, H, I1, ⟨_, rfl⟩, ⟨rfl, _, hx, rfl⟩, ?_, fun b hb => (hf b hb).1⟩⟩
      rw [et]; exact st'
    unfold strIterType at st go ⊢
    split at st
    · rename_i ha
      exact wpAny_pyNext_ascii_item st hx fun h' st' sb => go "str_ascii_iterator" (by decide) (by rw [if_pos ha]) h' st' sb
    · rename_i ha
      exact wpAny_pyNext_wide_item st hx fun h' st' sb => go "str_iterator" (by decide) (by rw [if_neg ha]) h' st' sb
  done := by
    intro X hP hw hK hc i pins s σ H E I hf st hg
    subst hP hw hK
    obtain ⟨f0, f1, f2, f3, f4, f5⟩ := hf it (by simp)
    have hx : x.cps[i]? = none := by
      have : x.cps.size ≤ i := hg
      simp [this]
    unfold strIterType at st
    split at st
    · exact wpAny_pyNext_ascii_end (I.ok.hd hc) st hx fun h' eb => ⟨rfl, I.turned (t' := s.toks) (fun b o hb e => eb b o hb e) f0 f1 f3 f4 f5⟩
    · exact wpAny_pyNext_wide_end (I.ok.hd hc) st hx fun h' eb => ⟨rfl, I.turned (t' := s.toks) (fun b o hb e => eb b o hb e) f0 f1 f3 f4 f5⟩
  self := fun _ _ s _ _ st h => by
    unfold strIterType at st
    split at st
    · exact wpAny_pyIter_striter_ascii st h
    · exact wpAny_pyIter_striter_wide st h
end DL

namespace DL
open PySem L2

section
variable {X : Cx} {Ex : Nat → Hp → Prop} {pos : Pos} {a b c tg : Expr} {ta tb tc : DE}
/-! ### iterables -/
def srcOf (O : Ow) : D → R Src
  | .lst ds => .ok (.val ds) O
  | .tup ds => .ok (.val ds) O
  | .str cs => .ok (.val (cs.map fun c => .str [c])) O
  | .own k => .ok (.own k) O
  | _ => .bad
def dIt (t : DE) : DI := fun σ O => (t σ O).bnd fun x O1 => srcOf O1 x
theorem pdi_seq (ha : PD X Ex a ta) : PDI X Ex tg a (dIt ta) := by
  refine ⟨?_⟩
  rintro pins s σv H Rr I ⟨hid, μ, σ, O, e1, c1, q⟩
  refine thn (ha.out pins s σv H _ I (rd.go e1 c1 q (Q1 := fun v H1 => ∃ hid μ1 O1 d, Cells X.K H1 hid μ1 O1 ∧ Dat X.K H1 hid μ1 d v ∧ post Ex X.K (fun H' μ' s J => SrcAt X.K J s H' hid μ') H1 hid μ1 (srcOf O1 d) Rr)
    fun d O1 v H1 μ1 e2 x c r p => ⟨hid, μ1, O1, d, c, r, p⟩)) fun u s1 ⟨v, H1, I1, ru, hid, μ1, O1, d, c, r, p⟩ => ?_
  have new : ∀ (b : Addr), b ∈ [s1.heap.objs.size] → FpOk X pins H1 b := fun b hb => by
    have e : b = s1.heap.objs.size := by simpa using hb
    subst e
    exact I1.fpOk (Nat.le_refl _) (I1.hok.fresh (Nat.le_refl _))
  cases d with
  | lst ds =>
    unfold Dat at r
    obtain ⟨a, vs, rfl, l, q⟩ := r
    cases ru
    obtain ⟨its, rv, p1, hz⟩ := I1.list l.sq
    refine wpAny_pyIter_list p1.isList ?_
    exact ⟨s1.heap.objs.size, [s1.heap.objs.size], _, _, H1, rfl, I1.kept (t' := s1.toks) fun b o e => Heap.get?_push_of_some _ e, turn_list a _, ⟨_, Heap.get?_push_size _ rfl, rfl, rfl⟩, new, post.here p c (.val l q)⟩
  | tup ds =>
    unfold Dat at r
    obtain ⟨a, vs, rfl, l, q⟩ := r
    cases ru
    obtain ⟨its, rv, p1, hz⟩ := I1.tuple l.sq
    refine wpAny_pyIter_tuple (show s1.heap.IsTuple a its.toArray from p1) ?_
    exact ⟨s1.heap.objs.size, [s1.heap.objs.size], _, _, H1, rfl, I1.kept (t' := s1.toks) fun b o e => Heap.get?_push_of_some _ e, turn_tuple a _, ⟨_, Heap.get?_push_size _ rfl, rfl, rfl⟩, new, post.here p c (.tup l q)⟩
  | str cs =>
    unfold Dat at r
    subst r
    obtain ⟨t, rfl⟩ := ru
    refine wpAny_pyIter_strU ?_
    exact ⟨s1.heap.objs.size, [s1.heap.objs.size], _, _, H1, rfl, I1.kept (t' := s1.toks) fun b o e => Heap.get?_push_of_some _ e, turn_str ⟨cs.toArray⟩ t _, ⟨_, Heap.get?_push_size _ rfl, rfl, rfl⟩, new, post.here p c .str⟩
  | own k =>
    unfold Dat at r
    obtain ⟨a, rfl, hk⟩ := r
    cases ru
    obtain ⟨ds, vs, h1, h2, h3⟩ := c.at_ k a hk
    obtain ⟨its, rv, p1, hz⟩ := I1.list (.of h2)
    refine wpAny_pyIter_list p1.isList ?_
    exact ⟨s1.heap.objs.size, [s1.heap.objs.size], _, _, H1, rfl, I1.kept (t' := s1.toks) fun b o e => Heap.get?_push_of_some _ e, turn_list a _, ⟨_, Heap.get?_push_size _ rfl, rfl, rfl⟩, new, post.here p c (.own hk)⟩
  | _ => exact False.elim p
def rngSrc (lo hi : Int) : Src := .val ((List.range (hi - lo).toNat).map fun i => .int (lo + (i : Nat)))
def dRng1 (t : DA) : DI := fun σ O => (t σ O).bnd fun xs O1 => match xs with
  | [.int j] => if -1000000 ≤ j ∧ j ≤ 1000000 then .ok (rngSrc 0 j) O1 else .bad
  | _ => .bad
theorem PI.imp {iter : Expr} {t t' : TI} (h : PI X tg iter t) (f : ∀ σ H Q, t' σ H Q → t σ H Q) : PI X tg iter t' := fun pins s σ H Q I q => h pins s σ H Q I (f σ H Q q)
theorem dats1 {K : PySem.W.Frag} {H : Hp} {hid μ : List Addr} {d : D} {vs : List V} (h : Dats K H hid μ [d] vs) : ∃ v, vs = [v] ∧ Dat K H hid μ d v := by
  unfold Dats at h
  obtain ⟨v, r, rfl, h1, h2⟩ := h
  unfold Dats at h2
  subst h2
  exact ⟨v, rfl, h1⟩
theorem dats2 {K : PySem.W.Frag} {H : Hp} {hid μ : List Addr} {d e : D} {vs : List V} (h : Dats K H hid μ [d, e] vs) : ∃ v w, vs = [v, w] ∧ Dat K H hid μ d v ∧ Dat K H hid μ e w := by
  unfold Dats at h
  obtain ⟨v, r, rfl, h1, h2⟩ := h
  obtain ⟨w, rfl, h3⟩ := dats1 h2
  exact ⟨v, w, rfl, h1, h3⟩
theorem pdi_range1 {t : DA} {p pos : Pos} (hg : Gl X "range") (hm : X.mg "range" = none) (ha : PDA X Ex [a] t) (hs : starEach [a] X.env = [(false, eval a X.env)] := by rfl) : PDI X Ex tg (.Call (.Name "range" p) [a] [] pos) (dRng1 t) :=
  PDI.mk <| PI.imp (pi_range1 hg hm ha.out hs) fun σv H Q ⟨hid, μ, σ, O, e1, c1, q⟩ => rdA.go e1 c1 q fun d O1 vs H1 μ1 e2 x c r p => by
    split at p
    · rename_i j
      obtain ⟨⟨h1, h2⟩, p⟩ := post.ite p
      obtain ⟨v, rfl, hv⟩ := dats1 r
      unfold Dat at hv; subst hv
      refine ⟨j, rfl, by omega, by omega, ?_⟩
      have := post.here p c (SrcAt.rng (lo := 0) (n := (j - 0).toNat))
      simpa using this
    · exact False.elim p
end
/-! ### statements -/
inductive RS where
  | nx (σ : Sg) (O : Ow)
  | rt (d : D) (O : Ow)
  | bk (σ : Sg) (O : Ow)
  | ct (σ : Sg) (O : Ow)
  | exc (c : Nat) (O : Ow)
  | bad
  deriving Repr, Inhabited
abbrev DS := Sg → Ow → RS
def R.bnS {α : Type} (r : R α) (k : α → Ow → RS) : RS := match r with
  | .ok a O => k a O
  | .exc c O => .exc c O
  | .bad => .bad
section
variable (Ex : Nat → Hp → Prop) (K : PySem.W.Frag)
def postS (H : Hp) (hid μ : List Addr) (r : RS) (E : Ends) : Prop := match r with
  | .nx σ O => ∀ σv H' μ', Ext H μ H' μ' → EnvOk K H' hid μ' σ σv → Cells K H' hid μ' O → E.nx σv H'
  | .rt d O => ∀ v H' μ', Ext H μ H' μ' → Cells K H' hid μ' O → Dat K H' hid μ' d v → E.rt v H'
  | .bk σ O => ∀ σv H' μ', Ext H μ H' μ' → EnvOk K H' hid μ' σ σv → Cells K H' hid μ' O → E.bk σv H'
  | .ct σ O => ∀ σv H' μ', Ext H μ H' μ' → EnvOk K H' hid μ' σ σv → Cells K H' hid μ' O → E.ct σv H'
  | .exc c O => ∀ H' μ', Ext H μ H' μ' → Cells K H' hid μ' O → Ex c H'
  | .bad => False
def rds (t : DS) : TS := fun E σv H => ∃ hid μ σ O, EnvOk K H hid μ σ σv ∧ Cells K H hid μ O ∧ postS Ex K H hid μ (t σ O) E
end
structure PDS (X : Cx) (Ex : Nat → Hp → Prop) (st : Stmt) (t : DS) : Prop where
  out : PS X st (rds Ex X.K t)
structure PDSs (X : Cx) (Ex : Nat → Hp → Prop) (st : List Stmt) (t : DS) : Prop where
  out : PSs X st (rds Ex X.K t)
theorem PS.imp {X : Cx} {st : Stmt} {t t' : TS} (h : PS X st t) (f : ∀ E σ H, t' E σ H → t E σ H) : PS X st t' := fun pins s σ H D I q => h pins s σ H D I (f D σ H q)
theorem PSs.imp {X : Cx} {st : List Stmt} {t t' : TS} (h : PSs X st t) (f : ∀ E σ H, t' E σ H → t E σ H) : PSs X st t' := fun pins s σ H D I q => h pins s σ H D I (f D σ H q)
section
variable {Ex : Nat → Hp → Prop} {K : PySem.W.Frag} {H H1 : Hp} {hid μ μ1 : List Addr}
theorem postS.ext {r : RS} {E : Ends} (h : postS Ex K H hid μ r E) (e : Ext H μ H1 μ1) : postS Ex K H1 hid μ1 r E := by
  cases r with
  | nx σ O => exact fun σv H' μ' e' a b => h σv H' μ' (e.trans e') a b
  | bk σ O => exact fun σv H' μ' e' a b => h σv H' μ' (e.trans e') a b
  | ct σ O => exact fun σv H' μ' e' a b => h σv H' μ' (e.trans e') a b
  | rt d O => exact fun v H' μ' e' a b => h v H' μ' (e.trans e') a b
  | exc c O => exact fun H' μ' e' a => h H' μ' (e.trans e') a
  | bad => exact h
theorem postS.bnS {α β : Type} {rel : Hp → List Addr → α → β → Prop} {r : R α} {k : α → Ow → RS} {E : Ends} {Q1 : β → Hp → Prop} (h : postS Ex K H hid μ (r.bnS k) E)
    (hk : ∀ d O1 v H1 μ1, Ext H μ H1 μ1 → Cells K H1 hid μ1 O1 → rel H1 μ1 d v → postS Ex K H1 hid μ1 (k d O1) E → Q1 v H1) : post Ex K rel H hid μ r Q1 := by
  cases r with
  | ok d O' => exact fun v H' μ' e c q => hk d O' v H' μ' e c q (postS.ext (show postS Ex K H hid μ (k d O') E from h) e)
  | exc c O' => exact h
  | bad => exact h
end
section
variable {X : Cx} {Ex : Nat → Hp → Prop} {pos : Pos} {a b c e tg : Expr} {ta tb tc te : DE} {tA : DT}
theorem pds_of {st : Stmt} {t : TS} {t' : DS} (h : PS X st t) (f : ∀ hid μ σ O E σv H, EnvOk X.K H hid μ σ σv → Cells X.K H hid μ O → postS Ex X.K H hid μ (t' σ O) E → t E σv H) : PDS X Ex st t' :=
  ⟨PS.imp h fun E σv H ⟨hid, μ, σ, O, e1, c1, q⟩ => f hid μ σ O E σv H e1 c1 q⟩
theorem pdss_of {st : List Stmt} {t : TS} {t' : DS} (h : PSs X st t) (f : ∀ hid μ σ O E σv H, EnvOk X.K H hid μ σ σv → Cells X.K H hid μ O → postS Ex X.K H hid μ (t' σ O) E → t E σv H) : PDSs X Ex st t' :=
  ⟨PSs.imp h fun E σv H ⟨hid, μ, σ, O, e1, c1, q⟩ => f hid μ σ O E σv H e1 c1 q⟩
theorem rd.goS {t : DE} {hid μ : List Addr} {σ : Sg} {O : Ow} {σv : St} {H : Hp} {Q1 : VK} {k : D → Ow → RS} {E : Ends} (e1 : EnvOk X.K H hid μ σ σv) (c1 : Cells X.K H hid μ O)
    (q : postS Ex X.K H hid μ ((t σ O).bnS k) E)
    (f : ∀ d O1 v H1 μ1, EnvOk X.K H1 hid μ1 σ σv → Ext H μ H1 μ1 → Cells X.K H1 hid μ1 O1 → Dat X.K H1 hid μ1 d v → postS Ex X.K H1 hid μ1 (k d O1) E → Q1 v H1) : rd Ex X.K t σv H Q1 :=
  ⟨hid, μ, σ, O, e1, c1, postS.bnS q fun d O1 v H1 μ1 x c r p => f d O1 v H1 μ1 (e1.ext x) x c r p⟩
theorem rdT.goS {t : DT} {hid μ : List Addr} {σ : Sg} {O : Ow} {σv : St} {H : Hp} {Q1 : Bool → Hp → Prop} {k : Bool → Ow → RS} {E : Ends} (e1 : EnvOk X.K H hid μ σ σv) (c1 : Cells X.K H hid μ O)
    (q : postS Ex X.K H hid μ ((t σ O).bnS k) E)
    (f : ∀ v O1 H1 μ1, EnvOk X.K H1 hid μ1 σ σv → Ext H μ H1 μ1 → Cells X.K H1 hid μ1 O1 → postS Ex X.K H1 hid μ1 (k v O1) E → Q1 v H1) : rdT Ex X.K t σv H Q1 :=
  ⟨hid, μ, σ, O, e1, c1, postS.bnS q fun d O1 v H1 μ1 x c r p => by
    have r : d = v := r
    subst r
    exact f d O1 H1 μ1 (e1.ext x) x c p⟩
def sNil : DS := fun σ O => .nx σ O
def sSeq (t u : DS) : DS := fun σ O => match t σ O with
  | .nx σ' O' => u σ' O'
  | r => r
theorem pdss_nil : PDSs X Ex [] sNil := pdss_of pss_nil fun hid μ σ O E σv H e1 c1 q => q σv H μ .refl e1 c1
theorem pdss_cons {st : Stmt} {rest : List Stmt} {t u : DS} (h1 : PDS X Ex st t) (h2 : PDSs X Ex rest u) : PDSs X Ex (st :: rest) (sSeq t u) :=
  pdss_of (pss_cons h1.out h2.out) fun hid μ σ O E σv H e1 c1 q => by
    refine ⟨hid, μ, σ, O, e1, c1, ?_⟩
    unfold sSeq at q
    cases ht : t σ O with
    | nx σ' O' =>
      rw [ht] at q
      exact fun σv' H' μ' e2 a b => ⟨hid, μ', σ', O', a, b, q.ext e2⟩
    | rt d O' => rw [ht] at q; exact q
    | bk σ' O' => rw [ht] at q; exact q
    | ct σ' O' => rw [ht] at q; exact q
    | exc c O' => rw [ht] at q; exact q
    | bad => rw [ht] at q; exact q
theorem pdss_one {st : Stmt} {t : DS} (h1 : PDS X Ex st t) : PDSs X Ex [st] t := ⟨pss_one h1.out⟩
def sRet (t : DE) : DS := fun σ O => (t σ O).bnS fun d O1 => .rt d O1
theorem pds_ret (he : PD X Ex e te) : PDS X Ex (.Return (some e) pos) (sRet te) :=
  pds_of (ps_ret he.out) fun hid μ σ O E σv H e1 c1 q => rd.goS e1 c1 q fun d O1 v H1 μ1 e2 x c r p => p v H1 μ1 .refl c r
def sIf (c : DT) (t u : DS) : DS := fun σ O => (c σ O).bnS fun b O1 => if b = true then t σ O1 else u σ O1
theorem pds_if {c : Expr} {x y : List Stmt} {tc : DT} {t u : DS} (hc : PDT X Ex c tc) (ha : PDSs X Ex x t) (hb : PDSs X Ex y u) : PDS X Ex (.If c x y pos) (sIf tc t u) :=
  pds_of (ps_if hc.out ha.out hb.out) fun hid μ σ O E σv H e1 c1 q => rdT.goS e1 c1 q fun k O1 H1 μ1 e2 x c p => by
    cases k with
    | true => rw [if_pos rfl]; exact ⟨hid, μ1, σ, O1, e2, c, p⟩
    | false => rw [if_neg Bool.false_ne_true]; exact ⟨hid, μ1, σ, O1, e2, c, p⟩
def sBad : DS := fun _ _ => .bad
theorem pdss_bad {st : List Stmt} : PDSs X Ex st sBad := pdss_of pss_never fun hid μ σ O E σv H e1 c1 q => q
def sDrop (t : DE) : DS := fun σ O => (t σ O).bnS fun _ O1 => .nx σ O1
theorem pds_expr (he : PD X Ex e te) (hs : swapsWith e none pos.line X.env = pure false := by rfl) : PDS X Ex (.Expr e pos) (sDrop te) :=
  pds_of (ps_expr he.out hs) fun hid μ σ O E σv H e1 c1 q => rd.goS e1 c1 q fun d O1 v H1 μ1 e2 x c r p => p σv H1 μ1 .refl e2 c
def sSet (i : Nat) (t : DE) : DS := fun σ O => (t σ O).bnS fun d O1 => .nx (σ.set i (some d)) O1
theorem pds_set {i : Nat} {x : Str} {pos' : Pos} (hN : X.N.Nodup) (hi : X.N[i]? = some x) (hx : Loc X.env.scope x) (he : PD X Ex e te) (hs : swapsWith e (some (.Name x pos')) pos.line X.env = pure false := by rfl)
    (hf : X.fn x = true ∨ X.env.scope.names.lookup x = some .local := by first | exact .inl rfl | exact .inr rfl) : PDS X Ex (.Assign [.Name x pos'] e pos) (sSet i te) :=
  pds_of (ps_set hN hi hx he.out hs hf) fun hid μ σ O E σv H e1 c1 q => rd.goS e1 c1 q fun d O1 v H1 μ1 e2 x c r p => p (σv.set i (some v)) H1 μ1 .refl (e2.set r i) c
/-! targets -/
inductive Tg where
  | one (i : Nat)
  | two (i j : Nat)
def Tg.put : Tg → D → Sg → Option Sg
  | .one i, d, σ => some (σ.set i (some d))
  | .two i j, d, σ => match d with
    | .tup [x, y] => some ((σ.set i (some x)).set j (some y))
    | _ => none
def Tg.rd (K : PySem.W.Frag) : Tg → TG
  | .one i => gName i
  | .two i j => gTup K 2 (gCons (gName i) (gCons (gName j) gNil))
def Tg.slots : Tg → List Nat
  | .one i => [i]
  | .two i j => [i, j]
theorem Tg.ok2 {K : PySem.W.Frag} {H : Hp} {hid μ : List Addr} {σ σ' : Sg} {σv : St} {d : D} {v : V} {Q : St → Hp → Prop} (g : Tg) (e1 : EnvOk K H hid μ σ σv) (q : Dat K H hid μ d v) (h : g.put d σ = some σ')
    (k : ∀ σv', EnvOk K H hid μ σ' σv' → (∀ i, i ∉ g.slots → σv'[i]? = σv[i]?) → Q σv' H) : g.rd K v σv H Q := by
  cases g with
  | one i =>
    cases h
    exact k _ (e1.set q i) fun j hj => List.getElem?_set_ne (fun e => hj (by simp [Tg.slots, e]))
  | two i j =>
    unfold Tg.put at h
    dsimp only at h
    split at h
    · rename_i x y
      cases h
      unfold Dat at q
      obtain ⟨a, vs, rfl, l, q⟩ := q
      obtain ⟨u, w, rfl, q1, q2⟩ := dats2 q
      refine ⟨a, [u, w], rfl, l.sq, rfl, u, [w], rfl, w, [], rfl, rfl, k _ ((e1.set q1 i).set q2 j) fun m hm => ?_⟩
      rw [List.getElem?_set_ne (fun e => hm (by simp [Tg.slots, e])), List.getElem?_set_ne (fun e => hm (by simp [Tg.slots, e]))]
    · cases h
theorem Tg.ok {K : PySem.W.Frag} {H : Hp} {hid μ : List Addr} {σ σ' : Sg} {σv : St} {d : D} {v : V} {Q : St → Hp → Prop} (g : Tg) (e1 : EnvOk K H hid μ σ σv) (q : Dat K H hid μ d v) (h : g.put d σ = some σ') (k : ∀ σv', EnvOk K H hid μ σ' σv' → Q σv' H) : g.rd K v σv H Q := by
  cases g with
  | one i => cases h; exact k _ (e1.set q i)
  | two i j =>
    unfold Tg.put at h
    dsimp only at h
    split at h
    · rename_i x y
      cases h
      unfold Dat at q
      obtain ⟨a, vs, rfl, l, q⟩ := q
      obtain ⟨u, w, rfl, q1, q2⟩ := dats2 q
      exact ⟨a, [u, w], rfl, l.sq, rfl, u, [w], rfl, w, [], rfl, rfl, k _ ((e1.set q1 i).set q2 j)⟩
    · cases h
theorem pg_one {i : Nat} {x : Str} (hN : X.N.Nodup) (hi : X.N[i]? = some x) (hx : Loc X.env.scope x) (hf : X.fn x = true ∨ X.env.scope.names.lookup x = some .local := by first | exact .inl rfl | exact .inr rfl | assumption) : PG X (.Name x pos) ((Tg.one i).rd X.K) := pg_name hN hi hx hf
/-! for -/
def loopS (src : Src) (step : D → Sg → Ow → RS) : Nat → Nat → Sg → Ow → RS
  | 0, i, σ, O => match src.get O i with
    | none => .nx σ O
    | some _ => .bad
  | f + 1, i, σ, O => match src.get O i with
    | none => .nx σ O
    | some d => match step d σ O with
      | .nx σ' O' => loopS src step f (i + 1) σ' O'
      | .ct σ' O' => loopS src step f (i + 1) σ' O'
      | .bk σ' O' => .nx σ' O'
      | r => r
def sFor (it : DI) (g : Tg) (body : DS) : DS := fun σ O => (it σ O).bnS fun src O1 => loopS src (fun d σ O => match g.put d σ with | some σ' => body σ' O | none => .bad) (src.size O1) 0 σ O1
theorem pds_for {iter : Expr} {body : List Stmt} {it : DI} {g : Tg} {tb : DS} (hp : PassesOwn (model X.prog X.w) X.A X.env X.xe) (hc : X.calm = true) (hi : PDI X Ex tg iter it) (hg : PG X tg (g.rd X.K)) (hb : PDSs X Ex body tb)
    (hs : ∀ x, foldedSetIterable iter X.env x = pure x := by intro _; rfl) : PDS X Ex (.For tg iter body [] pos) (sFor it g tb) :=
  pds_of (ps_for hp hc hi.out hg hb.out hs) fun hid μ σ O E σv H e1 c1 q => by
    refine ⟨hid, μ, σ, O, e1, c1, postS.bnS q fun src O1 J H1 μ1 x1 c2 sa p => ?_⟩
    generalize hst : (fun (d : D) (σ : Sg) (O : Ow) => match g.put d σ with | some σ' => tb σ' O | none => RS.bad) = step at p
    refine ⟨fun i m σv' H' => ∃ μ' σ' O', Ext H1 μ1 H' μ' ∧ EnvOk X.K H' hid μ' σ' σv' ∧ Cells X.K H' hid μ' O' ∧ postS Ex X.K H' hid μ' (loopS src step m i σ' O') E, ⟨_, μ1, σ, O1, .refl, e1.ext x1, c2, p⟩, ?_⟩
    rintro i m σv2 H2 ⟨μ2, σ2, O2, x2, e2, c3, p2⟩
    have sa2 := sa hid H2 μ2 O2 x2.mv c3 i
    cases hget : src.get O2 i with
    | none =>
      rw [hget] at sa2
      refine .inl ⟨sa2, ?_⟩
      cases m with
      | zero =>
        have p3 : postS Ex X.K H2 hid μ2 (match src.get O2 i with | none => .nx σ2 O2 | some _ => .bad) E := p2
        rw [hget] at p3
        exact p3 σv2 H2 μ2 .refl e2 c3
      | succ f =>
        unfold loopS at p2
        rw [hget] at p2
        exact p2 σv2 H2 μ2 .refl e2 c3
    | some d =>
      rw [hget] at sa2
      obtain ⟨go, yl⟩ := sa2
      cases m with
      | zero =>
        have p3 : postS Ex X.K H2 hid μ2 (match src.get O2 i with | none => .nx σ2 O2 | some _ => .bad) E := p2
        rw [hget] at p3
        exact False.elim p3
      | succ f =>
        refine .inr ⟨go, fun σv' H' => ∃ μ' σ' O', Ext H1 μ1 H' μ' ∧ EnvOk X.K H' hid μ' σ' σv' ∧ Cells X.K H' hid μ' O' ∧ postS Ex X.K H' hid μ' (loopS src step f (i + 1) σ' O') E, fun σ' H' h => ⟨f, Nat.lt_succ_self f, h⟩, fun v H3 y => ?_⟩
        obtain ⟨x3, c4, r⟩ := yl v H3 y
        unfold loopS at p2
        rw [hget] at p2
        have p3 : postS Ex X.K H3 hid μ2 (match step d σ2 O2 with
          | .nx σ' O' => loopS src step f (i + 1) σ' O'
          | .ct σ' O' => loopS src step f (i + 1) σ' O'
          | .bk σ' O' => .nx σ' O'
          | r => r) E := postS.ext p2 x3
        cases hput : g.put d σ2 with
        | none =>
          rw [← hst] at p3
          simp only [hput] at p3
          exact False.elim p3
        | some σ3 =>
          refine Tg.ok g (e2.ext x3) r hput fun σv3 e3 => ⟨hid, μ2, σ3, O2, e3, c4, ?_⟩
          have hs1 : step d σ2 O2 = tb σ3 O2 := by rw [← hst]; simp only [hput]
          rw [hs1] at p3
          have x4 := x2.trans x3
          cases ht : tb σ3 O2 with
          | nx σ4 O4 => rw [ht] at p3; exact fun σv' H' μ' e5 a b => ⟨μ', σ4, O4, x4.trans e5, a, b, p3.ext e5⟩
          | ct σ4 O4 => rw [ht] at p3; exact fun σv' H' μ' e5 a b => ⟨μ', σ4, O4, x4.trans e5, a, b, p3.ext e5⟩
          | bk σ4 O4 => rw [ht] at p3; exact p3
          | rt d4 O4 => rw [ht] at p3; exact p3
          | exc c4 O4 => rw [ht] at p3; exact p3
          | bad => rw [ht] at p3; exact p3
end
end DL

namespace DL
open PySem L2

/-! ### comprehensions, by data -/
structure Cl where
  it : DI
  g : Tg
  ifs : List DT
def slotsOf : List Cl → List Nat
  | [] => []
  | c :: cs => c.g.slots ++ slotsOf cs
def clr {α : Type} (σ : List (Option α)) : List Nat → List (Option α)
  | [] => σ
  | i :: r => clr (σ.set i none) r
def dAll : List DT → DT
  | [] => fun _ O => .ok true O
  | c :: cs => fun σ O => (c σ O).bnd fun b O1 => if b = true then dAll cs σ O1 else .ok false O1
def walkD (src : Src) (step : D → Ow → List D → R (List D)) : Nat → Nat → Ow → List D → R (List D)
  | 0, i, O, acc => match src.get O i with
    | none => .ok acc O
    | some _ => .bad
  | f + 1, i, O, acc => match src.get O i with
    | none => .ok acc O
    | some d => (step d O acc).bnd fun acc' O' => walkD src step f (i + 1) O' acc'
def compD : List Cl → DE → Sg → Ow → List D → R (List D)
  | [], elt, σ, O, acc => (elt σ O).bnd fun v O1 => if acc.length < 100000 then .ok (acc ++ [v]) O1 else .bad
  | c :: cs, elt, σ, O, acc => (c.it σ O).bnd fun src O1 => walkD src (fun d O2 acc => match c.g.put d (clr σ (slotsOf (c :: cs))) with
      | some σ1 => (dAll c.ifs σ1 O2).bnd fun b O3 => if b = true then compD cs elt σ1 O3 acc else .ok acc O3
      | none => .bad) (src.size O1) 0 O1 acc
/-- a step of the loop -/
def stepD (c : Cl) (cs : List Cl) (elt : DE) (σ : Sg) : D → Ow → List D → R (List D) := fun d O2 acc => match c.g.put d (clr σ (slotsOf (c :: cs))) with
      | some σ1 => (dAll c.ifs σ1 O2).bnd fun b O3 => if b = true then compD cs elt σ1 O3 acc else .ok acc O3
      | none => .bad
theorem clr_len {α : Type} : ∀ (l : List Nat) (σ : List (Option α)), (clr σ l).length = σ.length
  | [], _ => rfl
  | i :: r, σ => by unfold clr; rw [clr_len r]; simp
theorem clr_out {α : Type} : ∀ (l : List Nat) (σ : List (Option α)) (i : Nat), i ∉ l → (clr σ l)[i]? = σ[i]?
  | [], σ, i, h => rfl
  | j :: r, σ, i, h => by
    unfold clr
    rw [clr_out r _ i fun z => h (List.mem_cons_of_mem _ z), List.getElem?_set_ne fun z => h (by simp [z])]
theorem clr_get {α : Type} : ∀ (l : List Nat) (σ : List (Option α)) (i : Nat) (d : α), (clr σ l)[i]? = some (some d) → σ[i]? = some (some d) ∧ i ∉ l
  | [], σ, i, d, h => ⟨h, by simp⟩
  | j :: r, σ, i, d, h => by
    unfold clr at h
    obtain ⟨h1, h2⟩ := clr_get r _ i d h
    by_cases e : j = i
    · subst e
      by_cases hl : j < σ.length
      · rw [List.getElem?_set_self hl] at h1; cases h1
      · rw [List.getElem?_eq_none_iff.mpr (by simp; omega)] at h1; cases h1
    · rw [List.getElem?_set_ne e] at h1
      exact ⟨h1, by simp [h2]; exact fun z => e z.symm⟩
/-- all but the one at A is kept -/
structure Ea (A : Addr) (H : Hp) (μ : List Addr) (H' : Hp) (μ' : List Addr) : Prop where
  pre : ∃ ν, μ' = μ ++ ν
  kept : ∀ b o, H b = some o → b ∉ μ → b ≠ A → NoTab o → H' b = some o
  fresh : ∀ b ∈ μ', b ∈ μ ∨ H b = none
  there : ∀ b, H b ≠ none → H' b ≠ none
  tab : ∀ P, Tidy H P → Tidy H' P
section
variable {K : PySem.W.Frag} {A : Addr} {H H' H1 H2 : Hp} {hid μ μ' μ1 μ2 : List Addr}
theorem Ext.ea (e : Ext H μ H' μ') : Ea A H μ H' μ' := ⟨e.pre, fun b o h n _ ht => e.kept b o h n ht, e.fresh, e.there, e.tab⟩
theorem Ea.refl : Ea A H μ H μ := Ext.refl.ea
theorem Ea.trans (a : Ea A H μ H1 μ1) (b : Ea A H1 μ1 H2 μ2) : Ea A H μ H2 μ2 := by
  have nn : ∀ c, H1 c = none → H c = none := fun c h => by
    cases e : H c with
    | none => rfl
    | some o => exact absurd h (a.there c (by rw [e]; simp))
  refine ⟨?_, fun c o h n1 n2 ht => ?_, fun c h => ?_, fun c h => b.there c (a.there c h), fun P t => b.tab P (a.tab P t)⟩
  · obtain ⟨x, rfl⟩ := a.pre
    obtain ⟨y, rfl⟩ := b.pre
    exact ⟨x ++ y, by simp⟩
  · refine b.kept c o (a.kept c o h n1 n2 ht) (fun m => ?_) n2 ht
    rcases a.fresh c m with z | z
    · exact n1 z
    · rw [z] at h; cases h
  · rcases b.fresh c h with z | z
    · exact a.fresh c z
    · exact .inr (nn c z)
theorem Ea.mv (e : Ea A H μ H' μ') : Mv H (A :: hid) μ H' (A :: hid) μ' := ⟨e.pre, fun b o h n1 n2 ht => e.kept b o h n1 (fun z => n2 (by simp [z])) ht, e.fresh, fun _ m => .inl m, e.there, e.tab⟩
theorem Ea.put {o : HO} (hl : ∃ vs, H A = some (.lst vs)) : Ea A H μ (upd H A o) μ := ⟨⟨[], by simp⟩, fun b u h _ n _ => by rw [upd_ne n]; exact h, fun _ m => .inl m, upd_there, fun _ t => t.upd (.inr hl)⟩
theorem Cells.putA {o : HO} {O : Ow} (c : Cells K H (A :: hid) μ O) (hl : ∃ vs, H A = some (.lst vs)) : Cells K (upd H A o) (A :: hid) μ O := by
  refine ⟨c.len, c.nd, c.nh, fun a m => upd_there a (c.ht a m), fun k a e => ?_⟩
  obtain ⟨ds, vs, h1, h2, h3⟩ := c.at_ k a e
  have ne : a ≠ A := fun z => c.nh a (List.mem_of_getElem? e) (by simp [z])
  exact ⟨ds, vs, h1, by rw [upd_ne ne]; exact h2, h3.mv (Ea.put (A := A) hl).mv⟩
theorem Cells.unhide (c : Cells K H (A :: hid) μ O) : Cells K H hid μ O :=
  ⟨c.len, c.nd, fun a m z => c.nh a m (List.mem_cons_of_mem _ z), fun a m => c.ht a (List.mem_cons_of_mem _ m), fun k a e =>
    let ⟨ds, vs, h1, h2, h3⟩ := c.at_ k a e
    ⟨ds, vs, h1, h2, h3.mv .unhide⟩⟩
end
abbrev Ex0 : Nat → Hp → Prop := fun _ _ => False
/-- the clauses of a block -/
inductive ClsOk (X : Cx) : List Comprehension → List Cl → Prop where
  | nil : ClsOk X [] []
  | cons {tg iter : Expr} {ifs : List Expr} {gs : List Comprehension} {c : Cl} {cs : List Cl} (hi : PDI X Ex0 tg iter c.it) (hs : ∀ x, foldedSetIterable iter X.env x = pure x) (hg : PG X tg (c.g.rd X.K))
      (hf : PySem.Paired (fun e t => PDT X Ex0 e t) ifs c.ifs) (r : ClsOk X gs cs) : ClsOk X (⟨tg, iter, ifs, 0⟩ :: gs) (c :: cs)
section
variable {X : Cx}
theorem any_of_nox {α : Type} {M : Model} {A : Around} {t : Sem α} {Q Q' : α → Shared → Prop} {E : Value → Shared → Prop} {s : Shared} (hx : X.xe = fun _ _ => False) (h : wpAny M A t Q X.xe s) (k : ∀ a s', Q a s' → Q' a s') : wpAny M A t Q' E s :=
  wpAny_mono h k fun e s' z => by rw [hx] at z; exact z.elim
theorem tests_false {env : Env} {M : Model} {A : Around} {E : Value → Shared → Prop} {s : Shared} {Q : Bool → Shared → Prop} (h : Q false s) : ∀ (ifs : List Expr), wpAny M A (forIn ifs false fun c r => if r = true then do let ok ← isTrue c env (eval c env); pure (ForInStep.yield ok) else pure (ForInStep.yield r)) Q E s
  | [] => wpAny_pure h
  | c :: cs => by
    simp only [List.forIn_cons, Bool.false_eq_true, if_false]
    exact wpAny_bind (wpAny_pure (tests_false h cs))
theorem tests_ok {E : Value → Shared → Prop} {hid : List Addr} (hx : X.xe = fun _ _ => False) : ∀ {ifs : List Expr} {ts : List DT}, PySem.Paired (fun e t => PDT X Ex0 e t) ifs ts → ∀ (pins : List (Addr × Obj)) (s : Shared) (σv : St) (H : Hp) (μ : List Addr) (σ : Sg) (O : Ow) (Q : Bool → Shared → Prop),
    L2.Inv X pins σv H s → EnvOk X.K H hid μ σ σv → Cells X.K H hid μ O →
    postT Ex0 X.K H hid μ (dAll ts σ O) (fun b H' => ∀ s', L2.Inv X pins σv H' s' → Q b s') →
    wpAny (model X.prog X.w) X.A (forIn ifs true fun c r => if r = true then do let ok ← isTrue c X.env (eval c X.env); pure (ForInStep.yield ok) else pure (ForInStep.yield r)) Q E s
  | _, _, .nil, pins, s, σv, H, μ, σ, O, Q, I, e1, c1, q => wpAny_pure (post.here (v := true) q c1 rfl s I)
  | _ :: ifs, _ :: ts, .cons hc hr, pins, s, σv, H, μ, σ, O, Q, I, e1, c1, q => by
    simp only [List.forIn_cons, if_true]
    refine wpAny_bind (wpAny_bind (any_of_nox hx (hc.out pins s σv H _ I (rdT.go e1 c1 q (Q1 := fun b H1 => ∃ μ1 O1, EnvOk X.K H1 hid μ1 σ σv ∧ Cells X.K H1 hid μ1 O1 ∧ postT Ex0 X.K H1 hid μ1 (if b = true then dAll ts σ O1 else .ok false O1) (fun b H' => ∀ s', L2.Inv X pins σv H' s' → Q b s'))
      fun b O1 H1 μ1 e2 x c p => ⟨μ1, O1, e2, c, p⟩)) fun b s1 ⟨H1, I1, μ1, O1, e2, c2, p⟩ => wpAny_pure ?_))
    show wpAny _ _ (forIn ifs b _) _ _ _
    cases b with
    | true => rw [if_pos rfl] at p; exact tests_ok hx hr pins s1 σv H1 μ1 σ O1 Q I1 e2 c2 p
    | false => rw [if_neg Bool.false_ne_true] at p; exact tests_false (post.here (v := false) p c2 rfl s1 I1) ifs
/-- the block between two steps: the list that grows stands at A -/
structure Bs (X : Cx) (A : Addr) (hid : List Addr) (pins : List (Addr × Obj)) (s : Shared) (σv : St) (H : Hp) (μ : List Addr) (σ : Sg) (O : Ow) (acc : List D) : Prop where
  inv : L2.Inv X pins σv H s
  env : EnvOk X.K H (A :: hid) μ σ σv
  cells : Cells X.K H (A :: hid) μ O
  grown : ∃ vs, H A = some (.lst vs) ∧ Dats X.K H (A :: hid) μ acc vs
/-- what is wanted behind the rest of the clauses -/
def BsEnd (X : Cx) (A : Addr) (hid : List Addr) (pins : List (Addr × Obj)) (σv : St) (H : Hp) (μ : List Addr) (sl : List Nat) (acc : List D) (O : Ow) (Q : Shared → Prop) : Prop :=
  ∀ s' σv' H' μ', L2.Inv X pins σv' H' s' → Ea A H μ H' μ' → Cells X.K H' (A :: hid) μ' O → (∃ vs, H' A = some (.lst vs) ∧ Dats X.K H' (A :: hid) μ' acc vs) → σv'.length = σv.length → (∀ i, i ∉ sl → σv'[i]? = σv[i]?) → Q s'
def BsPost (X : Cx) (A : Addr) (hid : List Addr) (pins : List (Addr × Obj)) (σv : St) (H : Hp) (μ : List Addr) (sl : List Nat) (r : R (List D)) (Q : Shared → Prop) : Prop := match r with
  | .ok acc O => BsEnd X A hid pins σv H μ sl acc O Q
  | _ => False
def emitC (elt : Expr) (acc : Value) (env : Env) : Sem Unit := do let _ ← call (.builtin "list.append") [acc, ← eval elt env]
def bodyC (e : Expr) (elt : Expr) (gens : List Comprehension) (k : Nat) (acc : Value) (env : Env) : Sem Unit := match gens[k]? with
  | some g' => do
    let x ← eval g'.iter env
    standAt g'.iter.pos
    let x ← if g'.is_async != 0 then foldedIterable g'.iter x else foldedSetIterable g'.iter env x
    let _ ← runOwn (.compStart e k (← holding [x] (if g'.is_async != 0 then asyncIter x else pyIter x)) acc env) env
  | none => emitC elt acc env
theorem compTurn_eq (elt : Expr) (gens : List Comprehension) (scope : Scope) (pos : Pos) (k : Nat) (it acc : Value) (env : Env) {tg iter : Expr} {ifs : List Expr} (hk : gens[k]? = some ⟨tg, iter, ifs, 0⟩)
    (hn : gens[k + 1]? = none ∨ ∃ tg' iter' ifs', gens[k + 1]? = some ⟨tg', iter', ifs', 0⟩) :
    compTurn (.ListComp elt gens scope pos) k it acc env = (do
      standAt iter.pos
      match ← pyNext it with
      | none => pure (.done .next)
      | some v =>
        letOwnedTupleGo tg it v
        assign tg env v
        let mut ok := true
        for c in ifs do
          if ok then ok ← isTrue c env (eval c env)
        if ok then bodyC (.ListComp elt gens scope pos) elt gens (k + 1) acc env
        again (.compLoop (.ListComp elt gens scope pos) k it acc env)) := by
  unfold compTurn bodyC emitC
  rcases hn with hn | ⟨tg', iter', ifs', hn⟩
  · simp only [hk, hn]
    rfl
  · simp only [hk, hn, bne_self_eq_false, Bool.false_eq_true, if_false, bind_assoc, pure_bind]
    first | rfl | congr 1
section
variable {A : Addr} {hid : List Addr} {elt : Expr} {gens : List Comprehension} {scope : Scope} {pos : Pos} {te : DE}
/-- the claim for the rest of the clauses -/
def BodyOk (X : Cx) (A : Addr) (hid : List Addr) (e elt : Expr) (gens : List Comprehension) (te : DE) (k : Nat) (cls : List Cl) : Prop := ∀ (pins : List (Addr × Obj)) (s : Shared) (σv : St) (H : Hp) (μ : List Addr) (σ : Sg) (O : Ow) (acc : List D) (Q : Shared → Prop) (E : Value → Shared → Prop),
  Bs X A hid pins s σv H μ σ O acc → BsPost X A hid pins σv H μ (slotsOf cls) (compD cls te σ O acc) Q → wpAny (model X.prog X.w) X.A (bodyC e elt gens k (.ref A) X.env) (fun _ s' => Q s') E s
theorem body_nil {k : Nat} {e : Expr} (hx : X.xe = fun _ _ => False) (he : PD X Ex0 elt te) (hk : gens[k]? = none) : BodyOk X A hid e elt gens te k [] := by
  intro pins s σv H μ σ O acc Q E B q
  unfold bodyC
  rw [hk]
  show wpAny _ _ (emitC elt (.ref A) X.env) _ _ s
  unfold emitC
  obtain ⟨vs, hA, dA⟩ := B.grown
  cases hte : te σ O with
  | ok d O1 =>
    have q2 : BsPost X A hid pins σv H μ (slotsOf []) (if acc.length < 100000 then .ok (acc ++ [d]) O1 else .bad) Q := by
      have := q
      unfold compD at this
      rw [hte] at this
      exact this
    by_cases hl : acc.length < 100000
    · rw [if_pos hl] at q2
      refine wpAny_bind (any_of_nox hx (he.out pins s σv H (fun v H1 => ∃ μ1, Ext H μ H1 μ1 ∧ Cells X.K H1 (A :: hid) μ1 O1 ∧ Dat X.K H1 (A :: hid) μ1 d v) B.inv ⟨A :: hid, μ, σ, O, B.env, B.cells, by rw [hte]; exact fun v H' μ' x c r => ⟨μ', x, c, r⟩⟩)
        fun u s1 ⟨v, H1, I1, ru, μ1, x, c, r⟩ => ?_)
      have nA : A ∉ μ := fun m => B.cells.nh A m (by simp)
      have hA1 : H1 A = some (.lst vs) := x.keep A _ hA nA
      have dA1 := dA.ext x
      refine wpAny_bind (any_of_nox hx (mt_append pins s1 σv H1 (.ref A) [v] (.ref A) [u] (fun _ H2 => H2 = upd H1 A (.lst (vs ++ [v]))) I1 rfl (.cons ru .nil)
        ⟨A, vs, v, rfl, rfl, hA1, Nat.lt_of_lt_of_le (by rw [← dA1.length]; exact hl) (by decide), rfl⟩) fun u2 s2 ⟨v2, H2, I2, r2, e2⟩ => ?_)
      subst e2
      refine wpAny_pure (q2 s2 σv _ μ1 I2 (x.ea.trans (.put ⟨_, hA1⟩)) (c.putA ⟨_, hA1⟩) ⟨_, upd_same, ?_⟩ rfl fun _ _ => rfl)
      exact (dA1.append (.cons r .nil)).mv (Ea.put ⟨_, hA1⟩).mv
    · rw [if_neg hl] at q2; exact q2.elim
  | exc c O1 =>
    unfold compD at q; rw [hte] at q; exact q.elim
  | bad =>
    unfold compD at q; rw [hte] at q; exact q.elim
/-- the loop of one clause -/
theorem loop_ok {k : Nat} {tg iter : Expr} {ifs : List Expr} {c : Cl} {cs : List Cl} (hx : X.xe = fun _ _ => False) (hcalm : X.calm = true) (hk : gens[k]? = some ⟨tg, iter, ifs, 0⟩) (hg : PG X tg (c.g.rd X.K)) (hf : PySem.Paired (fun e t => PDT X Ex0 e t) ifs c.ifs)
    (hb : BodyOk X A hid (.ListComp elt gens scope pos) elt gens te (k + 1) cs) (hn : gens[k + 1]? = none ∨ ∃ tg' iter' ifs', gens[k + 1]? = some ⟨tg', iter', ifs', 0⟩) {it : Addr} {fp : List Addr} {tn : Nat → Heap → Prop} {J : It} {src : Src} (T : Turn X.prog X.w X.K tg J fp it tn)
    (pins : List (Addr × Obj)) (s : Shared) (σv : St) (H : Hp) (μ : List Addr) (σ : Sg) (O : Ow) (acc : List D) (n : Nat) (Q : Shared → Prop) (st : tn 0 s.heap) (hfp : ∀ b ∈ fp, FpOk X pins H b) (sa : SrcAt X.K J src H (A :: hid) μ)
    (B : Bs X A hid pins s σv H μ σ O acc) (q : BsPost X A hid pins σv H μ (slotsOf (c :: cs)) (walkD src (stepD c cs te σ) n 0 O acc) Q) :
    codeAny (model X.prog X.w) X.A (.compLoop (.ListComp elt gens scope pos) k (.ref it) (.ref A) X.env) (fun r s' => ∃ f, r = .ok f ∧ Q s') s := by
  have stat : ∀ {H' : Hp}, (∀ b ∈ fp, H' b = none) → ∀ b ∈ fp, FpOk X pins H' b := fun hn b hb => ⟨hn b hb, (hfp b hb).2⟩
  let P : Nat → Shared → Prop := fun m s' => ∃ i σv' H' μ' O' acc', L2.Inv X pins σv' H' s' ∧ tn i s'.heap ∧ (∀ b ∈ fp, H' b = none) ∧ Ea A H μ H' μ' ∧ Cells X.K H' (A :: hid) μ' O' ∧ (∃ vs, H' A = some (.lst vs) ∧ Dats X.K H' (A :: hid) μ' acc' vs) ∧
    σv'.length = σv.length ∧ (∀ i, i ∉ slotsOf (c :: cs) → σv'[i]? = σv[i]?) ∧ BsPost X A hid pins σv H μ (slotsOf (c :: cs)) (walkD src (stepD c cs te σ) m i O' acc') Q
  refine codeAny_loop rfl P (fun m s1 hP => ?_) n ⟨0, σv, H, μ, O, acc, B.inv, st, fun b hb => (hfp b hb).1, .refl, B.cells, B.grown, rfl, fun _ _ => rfl, q⟩
  show wpAny _ X.A ((compTurn (.ListComp elt gens scope pos) k (.ref it) (.ref A) X.env).onRaise (fun x => do noteFrame x X.env; theTreesLotGoes x)) _ _ s1
  refine wpAny_noted ?_
  rw [compTurn_eq _ _ _ _ _ _ _ _ hk hn]
  obtain ⟨i, σv1, H1, μ1, O1, acc1, I1, st1, fr1, x1, c1, g1, l1, k1, q1⟩ := hP
  have sa1 := sa (A :: hid) H1 μ1 O1 x1.mv c1 i
  -- the names that stand
  have env1 : EnvOk X.K H1 (A :: hid) μ1 (clr σ (slotsOf (c :: cs))) σv1 := by
    refine ⟨by rw [clr_len, B.env.len, l1], fun j d hj => ?_⟩
    obtain ⟨h1, h2⟩ := clr_get _ _ _ _ hj
    obtain ⟨v, h3, h4⟩ := B.env.at_ j d h1
    exact ⟨v, by rw [k1 j h2]; exact h3, h4.mv x1.mv⟩
  cases hget : src.get O1 i with
  | none =>
    rw [hget] at sa1
    have q2 : BsEnd X A hid pins σv H μ (slotsOf (c :: cs)) acc1 O1 Q := by
      cases m with
      | zero => unfold walkD at q1; rw [hget] at q1; exact q1
      | succ f => unfold walkD at q1; rw [hget] at q1; exact q1
    refine wpAny_bind (wpAny_standAt (wpAny_bind (thn (T.done X rfl rfl rfl hcalm i pins s1 σv1 H1 _ I1 (stat fr1) st1 sa1) fun r s2 ⟨hr, I2⟩ => ?_)))
    subst hr
    exact wpAny_pure ⟨_, rfl, q2 s2 σv1 H1 μ1 I2 x1 c1 g1 l1 k1⟩
  | some d =>
    rw [hget] at sa1
    obtain ⟨go, yl⟩ := sa1
    cases m with
    | zero =>
      unfold walkD at q1; rw [hget] at q1; exact q1.elim
    | succ f =>
      have q2 : BsPost X A hid pins σv H μ (slotsOf (c :: cs)) ((stepD c cs te σ d O1 acc1).bnd fun acc' O' => walkD src (stepD c cs te σ) f (i + 1) O' acc') Q := by
        have := q1
        unfold walkD at this
        rw [hget] at this
        exact this
      refine wpAny_bind (wpAny_standAt (wpAny_bind (thn (T.item X rfl rfl rfl hcalm i pins s1 σv1 H1 _ I1 (stat fr1) st1 go) fun r s2 ⟨u, hr, h2⟩ => ?_)))
      subst hr
      refine wpAny_bind (thn h2 fun _ s3 ⟨v, H3, I3, r3, y3, st3, fr3⟩ => ?_)
      obtain ⟨x3, c3, d3⟩ := yl v H3 y3
      have I3' := I3.pinned (stat fr3) (T.obj _ _ st3)
      cases hput : c.g.put d (clr σ (slotsOf (c :: cs))) with
      | none =>
        unfold stepD at q2; rw [hput] at q2; exact q2.elim
      | some σ3 =>
        have hstep : stepD c cs te σ d O1 acc1 = ((dAll c.ifs σ3 O1).bnd fun b O3 => if b = true then compD cs te σ3 O3 acc1 else .ok acc1 O3) := by
          unfold stepD; rw [hput]
        rw [hstep] at q2
        refine wpAny_bind (any_of_nox hx (hg _ s3 σv1 H3 v u (fun σv4 H4 => H4 = H3 ∧ EnvOk X.K H3 (A :: hid) μ1 σ3 σv4 ∧ ∀ j, j ∉ c.g.slots → σv4[j]? = σv1[j]?) I3' r3 (Tg.ok2 c.g (env1.ext x3) d3 hput fun σv4 e4 k4 => ⟨rfl, e4, k4⟩)) fun _ s4 ⟨σv4, H4, I4, e4, env4, k4⟩ => ?_)
        subst e4
        have l4 : σv4.length = σv.length := by rw [I4.len, ← I3.len, l1]
        have k4' : ∀ j, j ∉ slotsOf (c :: cs) → σv4[j]? = σv[j]? := fun j hj => by
          rw [k4 j fun z => hj (List.mem_append_left _ z)]; exact k1 j hj
        have nA : A ∉ μ1 := fun m => c1.nh A m (by simp)
        obtain ⟨vs, hA, dA⟩ := g1
        have x13 : Ea A H μ H4 μ1 := x1.trans x3.ea
        have hA3 : H4 A = some (.lst vs) := x3.keep A _ hA nA
        have dA3 := dA.ext x3
        -- behind the step: the next turn
        have again : ∀ {s' : Shared} {σv' : St} {H' : Hp} {μ' : List Addr} {O' : Ow} {acc' : List D}, L2.Inv X (pins ++ pinsAt fp s3.heap) σv' H' s' → Ea A H μ H' μ' → Cells X.K H' (A :: hid) μ' O' → (∃ vs, H' A = some (.lst vs) ∧ Dats X.K H' (A :: hid) μ' acc' vs) → σv'.length = σv.length →
            (∀ i, i ∉ slotsOf (c :: cs) → σv'[i]? = σv[i]?) → BsPost X A hid pins σv H μ (slotsOf (c :: cs)) (walkD src (stepD c cs te σ) f (i + 1) O' acc') Q → ∃ m, m < f + 1 ∧ P m s' := by
          intro s' σv' H' μ' O' acc' I' x' c' g' l' k' p'
          refine ⟨f, Nat.lt_succ_self f, i + 1, σv', H', μ', O', acc', I'.unpinned, T.keep _ _ _ st3 fun b hb o e => (I'.pin (b, o) (List.mem_append_right _ (List.mem_append_right _ (mem_pinsAt hb e)))).1, fun b hb => ?_, x', c', g', l', k', p'⟩
          obtain ⟨o, e, d⟩ := T.obj _ _ st3 b hb
          exact (I'.pin (b, o) (List.mem_append_right _ (List.mem_append_right _ (mem_pinsAt hb e)))).2.1
        cases hall : dAll c.ifs σ3 O1 with
        | exc c' O' => rw [hall] at q2; exact q2.elim
        | bad => rw [hall] at q2; exact q2.elim
        | ok b O3 =>
          rw [hall] at q2
          have q3 : BsPost X A hid pins σv H μ (slotsOf (c :: cs)) ((if b = true then compD cs te σ3 O3 acc1 else .ok acc1 O3).bnd fun acc' O' => walkD src (stepD c cs te σ) f (i + 1) O' acc') Q := q2
          refine wpAny_bind (tests_ok (hid := A :: hid) hx hf _ s4 σv4 H4 μ1 σ3 O1 _ I4 env4 c3 ?_)
          rw [hall]
          intro b' H5 μ5 x5 c5 eb s5 I5
          have eb : b = b' := eb
          subst eb
          have hA5 : H5 A = some (.lst vs) := x5.keep A _ hA3 nA
          have x15 : Ea A H μ H5 μ5 := x13.trans x5.ea
          cases b with
          | false =>
            rw [if_neg Bool.false_ne_true] at q3
            exact wpAny_pure ⟨rfl, again I5 x15 c5 ⟨vs, hA5, dA3.ext x5⟩ l4 k4' q3⟩
          | true =>
            rw [if_pos rfl] at q3
            refine wpAny_bind (hb _ s5 σv4 H5 μ5 σ3 O3 acc1 _ _ ⟨I5, env4.ext x5, c5, vs, hA5, dA3.ext x5⟩ ?_)
            cases hcd : compD cs te σ3 O3 acc1 with
            | exc c' O' => rw [hcd] at q3; exact q3.elim
            | bad => rw [hcd] at q3; exact q3.elim
            | ok acc6 O6 =>
              rw [hcd] at q3
              intro s6 σv6 H6 μ6 I6 x6 c6 g6 l6 k6
              refine wpAny_pure ⟨rfl, again I6 (x15.trans x6) c6 g6 (l6.trans l4) (fun j hj => ?_) q3⟩
              rw [k6 j fun z => hj (List.mem_append_right _ z)]
              exact k4' j hj
end
end
end DL

namespace DL
open PySem L2

section
variable {X : Cx} {A : Addr} {hid : List Addr} {elt : Expr} {gens : List Comprehension} {scope : Scope} {pos : Pos} {te : DE}
/-- the start of a clause's loop -/
theorem start_ok {k : Nat} {tg iter : Expr} {ifs : List Expr} {it : Addr} {fp : List Addr} {tn : Nat → Heap → Prop} {J : It} {env : Env} {P : Result → Shared → Prop} {s : Shared} {acc : Value} (hk : gens[k]? = some ⟨tg, iter, ifs, 0⟩) (T : Turn X.prog X.w X.K tg J fp it tn) (i : Nat) (st : tn i s.heap)
    (h : codeAny (model X.prog X.w) X.A (.compLoop (.ListComp elt gens scope pos) k (.ref it) acc env) P s) :
    codeAny (model X.prog X.w) X.A (.compStart (.ListComp elt gens scope pos) k (.ref it) acc env) P s := by
  refine codeAny_of_tree ?_
  show wpAny _ _ ((compStart (.ListComp elt gens scope pos) k (.ref it) acc env).onRaise (fun x => do noteFrame x env; standAt theWindowsPlace)) _ _ s
  refine wpAny_notedAt ?_
  unfold compStart
  have hcl : clausesOf (.ListComp elt gens scope pos) = gens := rfl
  simp only [hcl, hk, Option.elim, bne_self_eq_false, Bool.false_eq_true, if_false]
  refine wpAny_bind (wpAny_askSetting (wpAny_ite ?_))
  split
  · exact wpAny_pure (And.intro rfl h)
  · refine wpAny_bind (wpAny_rule ?_)
    exact wpAny_bind (wpAny_standAt (wpAny_bind (T.self _ i s _ _ st (wpAny_pure (And.intro rfl h)))))
theorem body_ok (hx : X.xe = fun _ _ => False) (hcalm : X.calm = true) (he : PD X Ex0 elt te) : ∀ {rest : List Comprehension} {cls : List Cl}, ClsOk X rest cls → ∀ k, gens.drop k = rest → BodyOk X A hid (.ListComp elt gens scope pos) elt gens te k cls
  | _, _, .nil, k, hd => body_nil hx he (by
      have := congrArg List.length hd
      simp at this
      exact List.getElem?_eq_none_iff.mpr (by omega))
  | ⟨tg, iter, ifs, _⟩ :: gs, c :: cs, .cons hi hs hg hf r, k, hd => by
    have hk : gens[k]? = some ⟨tg, iter, ifs, 0⟩ := by
      have : (gens.drop k)[0]? = some ⟨tg, iter, ifs, 0⟩ := by rw [hd]; rfl
      simpa using this
    have hd' : gens.drop (k + 1) = gs := by
      have := congrArg (List.drop 1) hd
      simpa [List.drop_drop, Nat.add_comm] using this
    have hb := body_ok hx hcalm he r (k + 1) hd'
    have hn : gens[k + 1]? = none ∨ ∃ tg' iter' ifs', gens[k + 1]? = some ⟨tg', iter', ifs', 0⟩ := by
      have e : gens[k + 1]? = gs[0]? := by rw [← hd']; simp
      cases r with
      | nil => exact .inl (by rw [e]; rfl)
      | cons _ _ _ _ _ => exact .inr ⟨_, _, _, by rw [e]; rfl⟩
    intro pins s σv H μ σ O acc Q E B q
    unfold bodyC
    rw [hk]
    simp only [bne_self_eq_false, Bool.false_eq_true, if_false]
    cases hit : c.it σ O with
    | exc c' O' => unfold compD at q; rw [hit] at q; exact q.elim
    | bad => unfold compD at q; rw [hit] at q; exact q.elim
    | ok src O1 =>
      have q1 : BsPost X A hid pins σv H μ (slotsOf (c :: cs)) (walkD src (stepD c cs te σ) (src.size O1) 0 O1 acc) Q := by
        have := q
        unfold compD at this
        rw [hit] at this
        exact this
      refine wpAny_bind (any_of_nox hx (hi.out pins s σv H (fun J H1 => ∃ μ1, Ext H μ H1 μ1 ∧ Cells X.K H1 (A :: hid) μ1 O1 ∧ SrcAt X.K J src H1 (A :: hid) μ1) B.inv ⟨A :: hid, μ, σ, O, B.env, B.cells, by rw [hit]; exact fun J H1 μ1 x c sa => ⟨μ1, x, c, sa⟩⟩) fun v s1 h1 => ?_)
      refine wpAny_bind (wpAny_standAt ?_)
      refine wpAny_bind (wpAny_of_eq (hs v) ?_)
      refine wpAny_bind (wpAny_holding (any_of_nox hx h1 fun itv s2 h2 => ?_))
      obtain ⟨it, fp, tn, J, H2, e, I2, T, st2, f2, μ2, x2, c2, sa⟩ := h2
      subst e
      refine wpAny_bind (wpAny_runOwn (h := none) ?_)
      show codeAny _ X.A _ _ _
      obtain ⟨vs, hA, dA⟩ := B.grown
      have nA : A ∉ μ := fun m => B.cells.nh A m (by simp)
      refine start_ok hk T 0 st2 ?_
      refine codeAny_mono (loop_ok (A := A) (hid := hid) (te := te) (c := c) (cs := cs) hx hcalm hk hg hf hb hn T pins s2 σv H2 μ2 σ O1 acc (src.size O1) (fun s' => Q s') st2 f2 sa ⟨I2, B.env.ext x2, c2, vs, x2.keep A _ hA nA, dA.ext x2⟩ ?_) fun r s' hr => ?_
      · cases hw : walkD src (stepD c cs te σ) (src.size O1) 0 O1 acc with
        | exc c' O' => rw [hw] at q1; exact q1.elim
        | bad => rw [hw] at q1; exact q1.elim
        | ok acc' O' =>
          rw [hw] at q1
          exact fun s' σv' H' μ' I' x' c' g' l' k' => q1 s' σv' H' μ' I' (x2.ea.trans x') c' g' l' k'
      · obtain ⟨f, rfl, hq⟩ := hr
        exact wpAny_pure hq
end
end DL

namespace DL
open PySem L2

/-! ### the block of a comprehension -/
def cxB (X : Cx) (N' : List Str) (scope : Scope) (cells : List (Str × Addr)) (C : Addr) (s : Shared) (H : Hp) (fp : List Addr) : Cx :=
  { X with
    N := N', s₀ := s, H₀ := H
    env := { scope := relabel scope X.env, locals := C, globals := X.env.globals, cells := cells, qual := X.env.qual, func := none, code := X.env.code, frame := X.env.frame, builtins := X.env.builtins }
    outer := X.stack, ex := fp, fn := fun x => scope.names.lookup x == some .cell, pn := [], xe := fun _ _ => False }
/-- what of the names can be seen -/
structure BOk (sc scope : Scope) (N' : List Str) (sl : List Nat) : Prop where
  kind : scope.kind = .function
  nd : (scope.names.map (·.1)).Nodup
  frees : ∀ y ∈ scope.names, y.2 = .free → sc.names.lookup y.1 = some .cell ∨ sc.names.lookup y.1 = some .free
  own : ∀ (i : Nat) x, N'[i]? = some x → (x, NameKind.local) ∈ scope.names ∨ (x, NameKind.cell) ∈ scope.names → i ∈ sl
theorem lookup_mem {β : Type} : ∀ {l : List (Str × β)} {x : Str} {b : β}, (l.map (·.1)).Nodup → (x, b) ∈ l → l.lookup x = some b
  | [], _, _, _, h => by cases h
  | (y, c) :: r, x, b, nd, h => by
    obtain ⟨n1, n2⟩ := List.nodup_cons.mp nd
    rcases List.mem_cons.mp h with e | h
    · cases e; simp [List.lookup_cons]
    · have ne : x ≠ y := fun e => n1 (List.mem_map.mpr ⟨(x, b), h, e⟩)
      rw [List.lookup_cons]
      have : (x == y) = false := by simpa using ne
      rw [this]
      exact lookup_mem n2 h
theorem lookup_relabel (env : Env) (x : Str) : ∀ (names : List (Str × NameKind)), (names.map fun (n, k) => if (k == NameKind.free && env.scope.kind == .function && env.kindOf n == some .cell) then (n, NameKind.cell) else (n, k)).lookup x =
    (names.lookup x).map fun k => if (k == NameKind.free && env.scope.kind == .function && env.kindOf x == some .cell) then NameKind.cell else k
  | [] => rfl
  | (n, k) :: r => by
    show List.lookup x ((if (k == NameKind.free && env.scope.kind == .function && env.kindOf n == some .cell) = true then (n, NameKind.cell) else (n, k)) :: _) = _
    cases hx : x == n with
    | true =>
      have e : x = n := by simpa using hx
      subst e
      simp only [List.lookup_cons, hx, Option.map_some]
      split
      · rename_i h; simp [List.lookup_cons, h]
      · rename_i h; simp [List.lookup_cons, h]
    | false =>
      have ih := lookup_relabel env x r
      simp only [List.lookup_cons, hx]
      rw [← ih]
      split <;> simp only [List.lookup_cons, hx]
theorem vis_relabel {scope : Scope} {env : Env} {x : Str} (h : Vis (relabel scope env) x) : (x, NameKind.local) ∈ scope.names ∨ (x, NameKind.cell) ∈ scope.names ∨ (x, NameKind.free) ∈ scope.names := by
  unfold Vis relabel at h
  simp only [lookup_relabel] at h
  cases e : scope.names.lookup x with
  | none => rw [e] at h; simp at h
  | some k =>
    have m := PySem.mem_of_lookup e
    cases k with
    | «local» => exact .inl m
    | cell => exact .inr (.inl m)
    | free => exact .inr (.inr m)
    | _ => rw [e] at h; simp at h
/-! closures -/
def clFold (cells : List (Str × Addr)) : List (Str × NameKind) → List (Str × Addr) → List (Str × Addr)
  | [], acc => acc
  | (n, k) :: r, acc => if k == .free then clFold cells r ((n, (cells.lookup n).getD 0) :: acc) else clFold cells r acc
theorem closureFor_eq {scope : Scope} {env : Env} (h : ∀ y ∈ scope.names, y.2 = .free → ∃ c, env.cells.lookup y.1 = some c) : closureFor scope env = pure (clFold env.cells scope.names []) := by
  have key : ∀ (names : List (Str × NameKind)) (acc : List (Str × Addr)), (∀ y ∈ names, y.2 = .free → ∃ c, env.cells.lookup y.1 = some c) →
      (forIn names acc fun (x : Str × NameKind) (cs : List (Str × Addr)) => (if x.2 == .free then (do let a ← cellOf env x.1; pure (ForInStep.yield ((x.1, a) :: cs))) else pure (ForInStep.yield cs) : Sem _)) = pure (clFold env.cells names acc) := by
    intro names
    induction names with
    | nil => intro acc _; rfl
    | cons y r ih =>
      intro acc hn
      obtain ⟨n, k⟩ := y
      rw [List.forIn_cons]
      unfold clFold
      by_cases hk : (k == NameKind.free) = true
      · obtain ⟨c, hc⟩ := hn (n, k) List.mem_cons_self (by simpa using hk)
        have e1 : cellOf env n = pure c := by unfold cellOf; rw [hc]
        simp only [hk, if_true, e1, pure_bind, hc, Option.getD_some]
        exact ih _ fun y hy => hn y (List.mem_cons_of_mem _ hy)
      · simp only [hk, if_false, pure_bind, Bool.false_eq_true]
        exact ih _ fun y hy => hn y (List.mem_cons_of_mem _ hy)
  have := key scope.names [] h
  unfold closureFor
  refine Eq.trans ?_ (congrArg (fun m => m >>= fun cs => pure cs) this)
  congr 1
theorem clFold_mem {cells : List (Str × Addr)} {x : Str} {c : Addr} : ∀ (names : List (Str × NameKind)) (acc : List (Str × Addr)), (x, c) ∈ clFold cells names acc → (x, c) ∈ acc ∨ ((x, NameKind.free) ∈ names ∧ c = (cells.lookup x).getD 0)
  | [], acc, h => .inl h
  | (n, k) :: r, acc, h => by
    unfold clFold at h
    by_cases hk : (k == NameKind.free) = true
    · rw [if_pos hk] at h
      rcases clFold_mem r _ h with m | ⟨m, e⟩
      · rcases List.mem_cons.mp m with m | m
        · cases m
          have : k = .free := by simpa using hk
          subst this
          exact .inr ⟨List.mem_cons_self, rfl⟩
        · exact .inl m
      · exact .inr ⟨List.mem_cons_of_mem _ m, e⟩
    · rw [if_neg hk] at h
      rcases clFold_mem r _ h with m | ⟨m, e⟩
      · exact .inl m
      · exact .inr ⟨List.mem_cons_of_mem _ m, e⟩
theorem clFold_acc {cells : List (Str × Addr)} {p : Str × Addr} : ∀ (names : List (Str × NameKind)) (acc : List (Str × Addr)), p ∈ acc → p ∈ clFold cells names acc
  | [], acc, h => h
  | (n, k) :: r, acc, h => by
    unfold clFold
    split
    · exact clFold_acc r _ (List.mem_cons_of_mem _ h)
    · exact clFold_acc r _ h
theorem clFold_has {cells : List (Str × Addr)} {x : Str} : ∀ (names : List (Str × NameKind)) (acc : List (Str × Addr)), (x, NameKind.free) ∈ names → (x, (cells.lookup x).getD 0) ∈ clFold cells names acc
  | (n, k) :: r, acc, h => by
    unfold clFold
    rcases List.mem_cons.mp h with e | h
    · cases e
      rw [if_pos (by decide)]
      exact clFold_acc r _ List.mem_cons_self
    · split
      · exact clFold_has r _ h
      · exact clFold_has r _ h
/-! the cells of a block -/
theorem cf_mem {x : Str} {c : Addr} : ∀ (names : List (Str × NameKind)) (n : Nat) (acc : List (Str × Addr)), (x, c) ∈ cellsFrom n names acc → (x, c) ∈ acc ∨ ((x, NameKind.cell) ∈ names ∧ n ≤ c)
  | [], n, acc, h => .inl h
  | (y, k) :: r, n, acc, h => by
    unfold cellsFrom at h
    by_cases hk : (k == NameKind.cell) = true
    · rw [if_pos hk] at h
      rcases cf_mem r _ _ h with m | ⟨m, e⟩
      · rcases List.mem_cons.mp m with m | m
        · cases m
          have : k = .cell := by simpa using hk
          subst this
          exact .inr ⟨List.mem_cons_self, Nat.le_refl _⟩
        · exact .inl m
      · exact .inr ⟨List.mem_cons_of_mem _ m, Nat.le_of_succ_le e⟩
    · rw [if_neg hk] at h
      rcases cf_mem r _ _ h with m | ⟨m, e⟩
      · exact .inl m
      · exact .inr ⟨List.mem_cons_of_mem _ m, e⟩
theorem cf_acc {p : Str × Addr} : ∀ (names : List (Str × NameKind)) (n : Nat) (acc : List (Str × Addr)), p ∈ acc → p ∈ cellsFrom n names acc
  | [], _, _, h => h
  | (y, k) :: r, n, acc, h => by
    unfold cellsFrom
    split
    · exact cf_acc r _ _ (List.mem_cons_of_mem _ h)
    · exact cf_acc r _ _ h
theorem cf_apart : ∀ (names : List (Str × NameKind)) (n : Nat) (acc : List (Str × Addr)), (acc.Pairwise fun x y => x.2 ≠ y.2) → (∀ p ∈ acc, p.2 < n) → (cellsFrom n names acc).Pairwise fun x y => x.2 ≠ y.2
  | [], _, _, h, _ => h
  | (y, k) :: r, n, acc, h, hl => by
    unfold cellsFrom
    split
    · refine cf_apart r (n + 1) _ (List.pairwise_cons.mpr ⟨fun p hp => ?_, h⟩) fun p hp => ?_
      · exact fun e => absurd (hl p hp) (by show ¬ p.2 < n; rw [← e]; exact Nat.lt_irrefl _)
      · rcases List.mem_cons.mp hp with rfl | hp
        · exact Nat.lt_succ_self _
        · exact Nat.lt_succ_of_lt (hl p hp)
    · exact cf_apart r n acc h hl
theorem cf_names : ∀ (names : List (Str × NameKind)) (n : Nat) (acc : List (Str × Addr)), ((names.map (·.1)).Nodup) → (acc.map (·.1)).Nodup → (∀ p ∈ acc, ∀ k, (p.1, k) ∈ names → k ≠ NameKind.cell) → ((cellsFrom n names acc).map (·.1)).Nodup
  | [], _, _, _, h, _ => h
  | (y, k) :: r, n, acc, nd, h, hl => by
    obtain ⟨n1, n2⟩ := List.nodup_cons.mp nd
    unfold cellsFrom
    by_cases hk : (k == NameKind.cell) = true
    · rw [if_pos hk]
      have hk' : k = .cell := by simpa using hk
      refine cf_names r (n + 1) _ n2 (List.nodup_cons.mpr ⟨fun m => ?_, h⟩) fun p hp k' hk2 => ?_
      · obtain ⟨p, hp, e⟩ := List.mem_map.mp m
        exact hl p hp k (by rw [e]; exact List.mem_cons_self) hk'
      · rcases List.mem_cons.mp hp with rfl | hp
        · exact absurd (List.mem_map.mpr ⟨(y, k'), hk2, rfl⟩) n1
        · exact hl p hp k' (List.mem_cons_of_mem _ hk2)
    · rw [if_neg hk]
      exact cf_names r n acc n2 h fun p hp k' hk2 => hl p hp k' (List.mem_cons_of_mem _ hk2)
theorem clFold_nodup {cells : List (Str × Addr)} : ∀ (names : List (Str × NameKind)) (acc : List (Str × Addr)), ((names.map (·.1)).Nodup) → (acc.map (·.1)).Nodup → (∀ p ∈ acc, p.1 ∉ names.map (·.1)) → ((clFold cells names acc).map (·.1)).Nodup
  | [], _, _, h, _ => h
  | (y, k) :: r, acc, nd, h, hl => by
    obtain ⟨n1, n2⟩ := List.nodup_cons.mp nd
    unfold clFold
    split
    · refine clFold_nodup r _ n2 (List.nodup_cons.mpr ⟨fun m => ?_, h⟩) fun p hp => ?_
      · obtain ⟨p, hp, e⟩ := List.mem_map.mp m
        exact hl p hp (by rw [e]; simp)
      · rcases List.mem_cons.mp hp with rfl | hp
        · exact n1
        · exact fun m => hl p hp (List.mem_cons_of_mem _ m)
    · exact clFold_nodup r acc n2 h fun p hp m => hl p hp (List.mem_cons_of_mem _ m)
end DL

namespace DL
open PySem L2

theorem cf_cell {x : Str} {c : Addr} : ∀ (names : List (Str × NameKind)) (h : Heap) (acc : List (Str × Addr)), (x, c) ∈ cellsFrom h.objs.size names acc → (x, c) ∈ acc ∨ (pushCells h names).IsCell c none
  | [], _, _, m => .inl m
  | (y, k) :: r, h, acc, m => by
    unfold cellsFrom at m
    unfold pushCells
    by_cases hk : (k == NameKind.cell) = true
    · rw [if_pos hk] at m ⊢
      have e : h.objs.size + 1 = (h.push { cls := .type "cell", data := .cell none }).objs.size := (Heap.size_push ..).symm
      rw [e] at m
      rcases cf_cell r _ _ m with m | m
      · rcases List.mem_cons.mp m with m | m
        · cases m
          exact .inr ⟨_, pushCells_keeps _ _ _ _ (Heap.get?_push_size _ rfl), rfl⟩
        · exact .inl m
      · exact .inr m
    · rw [if_neg hk] at m ⊢
      exact cf_cell r _ _ m
theorem pairwise_snd {l : List (Str × Addr)} (nd : (l.map (·.1)).Nodup) (inj : ∀ p ∈ l, ∀ q ∈ l, p.2 = q.2 → p.1 = q.1) : l.Pairwise fun x y => x.2 ≠ y.2 := by
  induction l with
  | nil => exact .nil
  | cons p r ih =>
    obtain ⟨n1, n2⟩ := List.nodup_cons.mp nd
    refine List.pairwise_cons.mpr ⟨fun q hq e => n1 ?_, ih n2 fun a ha b hb => inj a (List.mem_cons_of_mem _ ha) b (List.mem_cons_of_mem _ hb)⟩
    exact List.mem_map.mpr ⟨q, hq, (inj p List.mem_cons_self q (List.mem_cons_of_mem _ hq) e).symm⟩
abbrev lstObj : Obj := { cls := .type "list", dict := none, data := .seq ([] : List Value).toArray }
abbrev dctObj : Obj := { cls := .type "dict", data := .dict #[] }
section
variable {X : Cx} {pins : List (Addr × Obj)} {σv : St} {H : Hp} {s : Shared}
abbrev bHeap (h : Heap) (names : List (Str × NameKind)) : Heap := pushCells ((h.push lstObj).push dctObj) names
theorem bHeap_keeps (h : Heap) (names : List (Str × NameKind)) (b : Addr) (o : Obj) (e : h.get? b = some o) : (bHeap h names).get? b = some o := pushCells_keeps _ _ _ _ (Heap.get?_push_of_some _ (Heap.get?_push_of_some _ e))
theorem bsize (h : Heap) : ((h.push lstObj).push dctObj).objs.size = h.objs.size + 2 := by rw [Heap.size_push, Heap.size_push]
theorem inv_block {scope : Scope} {ext : List Str} {sl : List Nat} {fp : List Addr} (I : L2.Inv X pins σv H s) (hfp : ∀ b ∈ fp, FpOk X pins H b) (hlt : ∀ b ∈ fp, b < s.heap.objs.size) (hb : BOk X.env.scope scope (X.N ++ ext) sl) :
    L2.Inv (cxB X (X.N ++ ext) scope (cellsFrom (s.heap.objs.size + 2) scope.names (clFold X.env.cells scope.names [])) (s.heap.objs.size + 1) s H fp) [] (clr (σv ++ List.replicate ext.length none) sl)
      (upd H s.heap.objs.size (.lst [])) { s with heap := bHeap s.heap scope.names } := by
  have hclt : ∀ x c, X.env.cells.lookup x = some c → c < s.heap.objs.size := fun x c e => by
    obtain ⟨v, z⟩ := I.cell x c e
    exact z.lt
  -- a free name of the block has its cell around
  have hfree : ∀ x, (x, NameKind.free) ∈ scope.names → ∃ c, X.env.cells.lookup x = some c := fun x hx => I.ok.has x (hb.frees _ hx rfl)
  have hcl : ∀ x c, (x, c) ∈ clFold X.env.cells scope.names [] → (x, NameKind.free) ∈ scope.names ∧ X.env.cells.lookup x = some c := fun x c hm => by
    rcases clFold_mem _ _ hm with m | ⟨m, e⟩
    · cases m
    · obtain ⟨c', hc'⟩ := hfree x m
      rw [hc'] at e
      exact ⟨m, by rw [e]; exact hc'⟩
  have hlc : ∀ x, (x, NameKind.free) ∈ scope.names → ∀ c, X.env.cells.lookup x = some c → (x, c) ∈ clFold X.env.cells scope.names [] := fun x hx c e => by
    have := clFold_has (cells := X.env.cells) scope.names [] hx
    rw [e] at this
    exact this
  have ndcl : ((clFold X.env.cells scope.names []).map (·.1)).Nodup := clFold_nodup _ _ hb.nd (by simp) (by intro p hp; cases hp)
  have ndc : ((cellsFrom (s.heap.objs.size + 2) scope.names (clFold X.env.cells scope.names [])).map (·.1)).Nodup := cf_names _ _ _ hb.nd ndcl fun p hp k hk e => by
    subst e
    have h1 := (hcl p.1 p.2 hp).1
    have := lookup_mem hb.nd h1
    rw [lookup_mem hb.nd hk] at this
    cases this
  have apart : (cellsFrom (s.heap.objs.size + 2) scope.names (clFold X.env.cells scope.names [])).Pairwise fun x y => x.2 ≠ y.2 := by
    refine cf_apart _ _ _ (pairwise_snd ndcl fun p hp q hq e => ?_) fun p hp => Nat.lt_of_lt_of_le (hclt _ _ (hcl p.1 p.2 hp).2) (Nat.le_add_right _ _)
    refine I.ok.inj p.1 q.1 p.2 (hcl p.1 p.2 hp).2 ?_
    rw [e]; exact (hcl q.1 q.2 hq).2
  have hsplit : ∀ x c, (cellsFrom (s.heap.objs.size + 2) scope.names (clFold X.env.cells scope.names [])).lookup x = some c → ((x, NameKind.free) ∈ scope.names ∧ X.env.cells.lookup x = some c) ∨ ((x, NameKind.cell) ∈ scope.names ∧ s.heap.objs.size + 2 ≤ c) := fun x c e => by
    rcases cf_mem _ _ _ (PySem.mem_of_lookup e) with m | m
    · exact .inl (hcl x c m)
    · exact .inr m
  have fresh : ∀ a, s.heap.objs.size ≤ a → H a = none := fun a ha => I.hok.fresh ha
  have kp := bHeap_keeps s.heap scope.names
  have oldc : ∀ x, (x, NameKind.free) ∈ scope.names → ∀ c, X.env.cells.lookup x = some c → (cellsFrom (s.heap.objs.size + 2) scope.names (clFold X.env.cells scope.names [])).lookup x = some c := fun x hx c e =>
    lookup_mem ndc (cf_acc _ _ _ (hlc x hx c e))
  refine ⟨⟨I.ok.mod, hb.kind, I.ok.glob, I.ok.blt, Nat.le_succ _, fun x y c h1 h2 => name_of_addr apart (PySem.mem_of_lookup h1) (PySem.mem_of_lookup h2), fun x hx => ?_, fun x c hx h => ?_, I.ok.hd, I.ok.frames, .inl rfl, fun b hbm => ⟨?_, fun x c e => ?_⟩, I.bs, ?_, fun b o e hbm => ?_, fun b hbm z => ?_, I.stack, I.stkFree⟩,
    rfl, I.bare, Un.laid kp (Nat.le_refl _) (fresh _ (Nat.le_refl _)), ?_, fun x c e => ?_, ?_, fun x c e => ?_, fun p hp => absurd (show p ∈ ([] : List (Addr × Obj)) from hp) (by simp), I.hok.laid kp (Nat.le_refl _) ?_, ?_⟩
  · -- has
    have hx : Vis (relabel scope X.env) x := .inr hx
    rcases vis_relabel hx with m | m | m
    · exfalso
      have e := lookup_mem hb.nd m
      have e2 : (relabel scope X.env).names.lookup x = some .local := lookup_relabel_local e
      rcases (show (relabel scope X.env).names.lookup x = some .cell ∨ (relabel scope X.env).names.lookup x = some .free by rename_i h0; exact h0) with q | q
      · rw [e2] at q; cases q
      · rw [e2] at q; cases q
    · exact Option.isSome_iff_exists.mp (PySem.W.cellsFrom_some scope.names _ _ (.inl (lookup_mem hb.nd m)))
    · obtain ⟨c, hc⟩ := hfree x m
      exact ⟨c, oldc x m c hc⟩
  · -- cab
    have hx : (scope.names.lookup x == some .cell) = true := hx
    rcases hsplit x c h with ⟨m, _⟩ | ⟨_, m⟩
    · rw [lookup_mem hb.nd m] at hx; cases hx
    · exact Nat.le_trans (Nat.le_add_right _ _) m
  · exact Nat.ne_of_lt (Nat.lt_succ_of_lt (hlt b hbm))
  · rcases hsplit x c e with ⟨_, m⟩ | ⟨_, m⟩
    · exact (hfp b hbm).2.2.2.2.1 x c m
    · have h0 : b < s.heap.objs.size := hlt b hbm
      exact fun z => by
        rw [z] at m
        exact absurd (Nat.lt_of_lt_of_le h0 (Nat.le_trans (Nat.le_add_right _ 2) m)) (Nat.lt_irrefl _)
  · exact Nat.le_trans I.ok.bsz I.sz
  · rcases (hfp b hbm).2.2.2.1 with z | z
    · exact I.ok.noex b o e z
    · exact absurd (Nat.lt_of_lt_of_le (Heap.lt_size e) (Nat.le_trans I.ok.bsz z)) (Nat.lt_irrefl _)
  · rcases List.mem_cons.mp (I.stkSub b z) with q | q
    · exact (hfp b hbm).2.1 q
    · exact (hfp b hbm).2.2.1 q
  · -- loc
    refine ⟨fun _ => none, ?_, fun i x v h1 h2 h3 => ?_⟩
    · have z := (Heap.Ns.new (s.heap.push lstObj) (.type "dict")).keeps (pushCells_keeps scope.names _)
      rw [Heap.size_push] at z
      exact z
    · obtain ⟨g1, g2⟩ := clr_get _ _ _ _ h2
      have hi : i < σv.length := by
        by_cases hi : i < σv.length
        · exact hi
        · rw [List.getElem?_append_right (by omega), List.getElem?_replicate] at g1
          split at g1 <;> cases g1
      rw [List.getElem?_append_left hi] at g1
      have hxN : X.N[i]? = some x := by
        have h1 : (X.N ++ ext)[i]? = some x := h1
        rw [List.getElem?_append_left (by rw [← I.len]; exact hi)] at h1
        exact h1
      rcases vis_relabel h3 with m | m | m
      · exact absurd (hb.own i x h1 (.inl m)) g2
      · exact absurd (hb.own i x h1 (.inr m)) g2
      · obtain ⟨m0, hn, hl⟩ := I.loc
        have kx := hb.frees _ m rfl
        obtain ⟨u, ru, lk⟩ := hl i x v hxN g1 (.inr kx)
        refine ⟨u, ru, ?_⟩
        rcases lk with ⟨q, _⟩ | ⟨q, c, hc, z⟩
        · exfalso
          have q : X.env.scope.names.lookup x = some .local := q
          rcases kx with k | k <;> (rw [q] at k; cases k)
        · refine .inr ⟨?_, c, oldc x m c hc, z.keeps kp⟩
          have e := lookup_mem hb.nd m
          show (relabel scope X.env).names.lookup x = some .cell ∨ (relabel scope X.env).names.lookup x = some .free
          unfold relabel
          simp only [lookup_relabel, e, Option.map_some]
          split
          · exact .inl rfl
          · exact .inr rfl
  · -- cell
    rcases cf_cell scope.names ((s.heap.push lstObj).push dctObj) (clFold X.env.cells scope.names []) (x := x) (c := c) (by rw [bsize]; exact PySem.mem_of_lookup e) with m | m
    · obtain ⟨v, z⟩ := I.cell x c (hcl x c m).2
      exact ⟨v, z.keeps kp⟩
    · exact ⟨none, m⟩
  · show upd H s.heap.objs.size (HO.lst []) (s.heap.objs.size + 1) = none
    rw [upd_ne (Nat.ne_of_gt (Nat.lt_succ_self _))]
    exact fresh _ (Nat.le_succ _)
  · rcases hsplit x c e with ⟨_, m⟩ | ⟨_, m⟩
    · rw [upd_ne (Nat.ne_of_lt (hclt x c m))]
      exact I.freeC x c m
    · have ne : c ≠ s.heap.objs.size := fun z => by
        rw [z] at m
        exact absurd m (by omega)
      rw [upd_ne ne]
      exact fresh c (Nat.le_trans (Nat.le_add_right _ 2) m)
  · exact ⟨Nat.zero_le _, [], 0, .nil, pushCells_keeps _ _ _ _ (Heap.get?_push_of_some _ (Heap.get?_push_size _ rfl))⟩
  · show _ = (X.N ++ ext).length
    rw [clr_len, List.length_append, List.length_replicate, List.length_append, I.len]
end
end DL

namespace DL
open PySem L2

def noX {α : Type} : R α → R α
  | .ok a O => .ok a O
  | _ => .bad
def compAll (ext : Nat) (it0 : DI) (g : Tg) (ts : List DT) (cs : List Cl) (te : DE) : Sg → Ow → R (List D) := fun σ O => (it0 σ O).bnd fun src O1 =>
  noX (walkD src (stepD ⟨it0, g, ts⟩ cs te (clr (σ ++ List.replicate ext none) (slotsOf (⟨it0, g, ts⟩ :: cs)))) (src.size O1) 0 O1 [])
section
variable {X : Cx} {Ex : Nat → Hp → Prop} {M : Model} {A : Around} {E : Value → Shared → Prop} {s : Shared}
theorem newEnv_block {scope : Scope} {globals : Addr} {cl : List (Str × Addr)} {qual : Str} {env : Env} {Q : Env → Shared → Prop}
    (h : Q { scope, locals := s.heap.objs.size, globals, cells := cellsFrom (s.heap.objs.size + 1) scope.names cl, qual, func := none, code := env.code, frame := env.frame, builtins := env.builtins } { s with heap := pushCells (s.heap.push dctObj) scope.names }) :
    wpAny M A (newFunctionEnv scope globals cl [] qual none .none (some env)) Q E s := by
  simp only [newFunctionEnv, Option.isSome_some, if_true]
  refine wpAny_bind (wpAny_alloc ?_)
  refine wpAny_bind (wpAny_layCells _ (fun name kind cells => by cases hkc : kind == NameKind.cell <;> simp [hkc]) _ _ _ _ ?_)
  rw [show ({ s with heap := s.heap.push dctObj } : Shared).heap.objs.size = s.heap.objs.size + 1 from Heap.size_push ..]
  simp only [List.forIn_nil, pure_bind]
  exact wpAny_pure h
/-- what stands behind the block: the list at L, the block's names at C -/
structure Behind (X : Cx) (pins : List (Addr × Obj)) (σv : St) (H : Hp) (hid μ : List Addr) (L C : Addr) (acc : List D) (O : Ow) (s' : Shared) : Prop where
  inv : ∃ H' μ', L2.Inv X pins σv H' s' ∧ Ext H μ H' μ' ∧ Cells X.K H' (L :: hid) μ' O ∧ H L = none ∧ H' C = none ∧ ∃ vs, H' L = some (.lst vs) ∧ Dats X.K H' (L :: hid) μ' acc vs
  ns : ∃ m, s'.heap.Ns C m
  loc : C ≠ X.env.locals
  young : X.s₀.heap.objs.size ≤ C
  cel : ∀ x c, X.env.cells.lookup x = some c → c ≠ C
  pns : ∀ p ∈ X.pn ++ pins, p.1 ≠ C
theorem Inv.bare {pins : List (Addr × Obj)} {σv : St} {H : Hp} {s' : Shared} {C : Addr} {h' : Heap} (I : L2.Inv X pins σv H s') (hs : Heap.SameBut C s'.heap h') (hn : H C = none) (loc : C ≠ X.env.locals) (young : X.s₀.heap.objs.size ≤ C) (cel : ∀ x c, X.env.cells.lookup x = some c → c ≠ C)
    (pns : ∀ p ∈ X.pn ++ pins, p.1 ≠ C) : L2.Inv X pins σv H { s' with heap := h' } := I.turned (t' := s'.toks) (fun b o hb e => (hs.2 b hb).trans e) hn loc (.inr young) cel pns
theorem comp_block {elt tg iter : Expr} {ifs : List Expr} {gs : List Comprehension} {scope : Scope} {pos : Pos} {ext : List Str} {it0 : DI} {g : Tg} {ts : List DT} {cs : List Cl} {te : DE} {pins : List (Addr × Obj)} {σv : St} {H : Hp} {hid μ : List Addr} {σ : Sg} {O : Ow} {src : Src} {acc : List D} {O2 : Ow}
    {it : Addr} {fp : List Addr} {tn : Nat → Heap → Prop} {J : It} {RR : Value → Addr → Result → Shared → Prop}
    (hcalm : X.calm = true) (hb : BOk X.env.scope scope (X.N ++ ext) (slotsOf (⟨it0, g, ts⟩ :: cs)))
    (blk : ∀ cells C s H fp, PG (cxB X (X.N ++ ext) scope cells C s H fp) tg (g.rd X.K) ∧ PySem.Paired (fun e t => PDT (cxB X (X.N ++ ext) scope cells C s H fp) Ex0 e t) ifs ts ∧ ClsOk (cxB X (X.N ++ ext) scope cells C s H fp) gs cs ∧ PD (cxB X (X.N ++ ext) scope cells C s H fp) Ex0 elt te)
    (I : L2.Inv X pins σv H s) (e1 : EnvOk X.K H hid μ σ σv) (c1 : Cells X.K H hid μ O) (T : Turn X.prog X.w X.K tg J fp it tn) (st : tn 0 s.heap) (hfp : ∀ b ∈ fp, FpOk X pins H b) (sa : SrcAt X.K J src H hid μ)
    (hw : walkD src (stepD ⟨it0, g, ts⟩ cs te (clr (σ ++ List.replicate ext.length none) (slotsOf (⟨it0, g, ts⟩ :: cs)))) (src.size O) 0 O [] = .ok acc O2)
    (hRR : ∀ f s', Behind X pins σv H hid μ s.heap.objs.size (s.heap.objs.size + 1) acc O2 s' → RR (.ref s.heap.objs.size) (s.heap.objs.size + 1) (.ok f) s') :
    wpAny (model X.prog X.w) X.A (newList []) (fun ac s₃ => wpAny (model X.prog X.w) X.A (newFunctionEnv scope X.env.globals (clFold X.env.cells scope.names []) [] X.env.qual none .none (some X.env)) (fun cenv s₄ =>
      codeAny (model X.prog X.w) X.A (.compStart (.ListComp elt (⟨tg, iter, ifs, 0⟩ :: gs) scope pos) 0 (.ref it) ac { cenv with scope := relabel scope X.env }) (RR ac cenv.locals) s₄) E s₃) E s := by
  refine wpAny_newObj_type ?_
  refine newEnv_block ?_
  have hsz : (s.heap.push lstObj).objs.size = s.heap.objs.size + 1 := Heap.size_push ..
  have hlt : ∀ b ∈ fp, b < s.heap.objs.size := fun b hb => by
    obtain ⟨o, ho, _⟩ := T.obj 0 _ st b hb
    exact Heap.lt_size ho
  have IB := inv_block I hfp hlt hb
  have nL : H s.heap.objs.size = none := I.hok.fresh (Nat.le_refl _)
  have hne : ∀ b ∈ fp, b ≠ s.heap.objs.size := fun b hb => Nat.ne_of_lt (hlt b hb)
  obtain ⟨b1, b2, b3, b4⟩ := blk (cellsFrom (s.heap.objs.size + 2) scope.names (clFold X.env.cells scope.names [])) (s.heap.objs.size + 1) s H fp
  generalize hX' : cxB X (X.N ++ ext) scope (cellsFrom (s.heap.objs.size + 2) scope.names (clFold X.env.cells scope.names [])) (s.heap.objs.size + 1) s H fp = X' at IB b1 b2 b3 b4
  have eP : X'.prog = X.prog := by rw [← hX']; rfl
  have eW : X'.w = X.w := by rw [← hX']; rfl
  have eK : X'.K = X.K := by rw [← hX']; rfl
  have eA : X'.A = X.A := by rw [← hX']; rfl
  have ex : X'.xe = fun _ _ => False := by rw [← hX']; rfl
  have ec : X'.calm = true := by rw [← hX']; exact hcalm
  have eenv : X'.env = { scope := relabel scope X.env, locals := s.heap.objs.size + 1, globals := X.env.globals, cells := cellsFrom (s.heap.objs.size + 2) scope.names (clFold X.env.cells scope.names []), qual := X.env.qual, func := none, code := X.env.code, frame := X.env.frame, builtins := X.env.builtins } := by rw [← hX']; rfl
  have eenv2 : ({ ({ scope, locals := (s.heap.push lstObj).objs.size, globals := X.env.globals, cells := cellsFrom ((s.heap.push lstObj).objs.size + 1) scope.names (clFold X.env.cells scope.names []), qual := X.env.qual, func := none, code := X.env.code, frame := X.env.frame, builtins := X.env.builtins } : Env) with scope := relabel scope X.env } : Env) = X'.env := by
    rw [eenv, hsz]
  show codeAny _ _ (.compStart _ 0 _ _ ({ ({ scope, locals := (s.heap.push lstObj).objs.size, globals := X.env.globals, cells := cellsFrom ((s.heap.push lstObj).objs.size + 1) scope.names (clFold X.env.cells scope.names []), qual := X.env.qual, func := none, code := X.env.code, frame := X.env.frame, builtins := X.env.builtins } : Env) with scope := relabel scope X.env } : Env)) (RR _ (s.heap.push lstObj).objs.size) _
  rw [eenv2, hsz]
  have mv0 : Mv H hid μ (upd H s.heap.objs.size (.lst [])) (s.heap.objs.size :: hid) μ := (Mv.hide nL).trans ⟨⟨[], by simp⟩, fun b o h _ n2 _ => by rw [upd_ne (fun z => n2 (by simp [z]))]; exact h, fun _ m => .inl m, fun _ m => .inl m, upd_there, fun _ t => t.upd (.inl nL)⟩
  have c2 : Cells X.K (upd H s.heap.objs.size (.lst [])) (s.heap.objs.size :: hid) μ O := by
    refine ⟨c1.len, c1.nd, fun a m z => ?_, fun a m => ?_, fun k a e => ?_⟩
    · rcases List.mem_cons.mp z with rfl | z
      · exact (c1.not_in nL).2 m
      · exact c1.nh a m z
    · rcases List.mem_cons.mp m with rfl | m
      · rw [upd_same]; simp
      · exact upd_there a (c1.ht a m)
    · obtain ⟨ds, vs, h1, h2, h3⟩ := c1.at_ k a e
      exact ⟨ds, vs, h1, by rw [upd_ne (ne_of_none h2 nL)]; exact h2, h3.mv mv0⟩
  have e2 : EnvOk X.K (upd H s.heap.objs.size (.lst [])) (s.heap.objs.size :: hid) μ (clr (σ ++ List.replicate ext.length none) (slotsOf (⟨it0, g, ts⟩ :: cs))) (clr (σv ++ List.replicate ext.length none) (slotsOf (⟨it0, g, ts⟩ :: cs))) := by
    refine ⟨by rw [clr_len, clr_len, List.length_append, List.length_append, e1.len]; simp, fun i d h => ?_⟩
    obtain ⟨g1, g2⟩ := clr_get _ _ _ _ h
    have hi : i < σ.length := by
      by_cases hi : i < σ.length
      · exact hi
      · rw [List.getElem?_append_right (by omega), List.getElem?_replicate] at g1
        split at g1 <;> cases g1
    rw [List.getElem?_append_left hi] at g1
    obtain ⟨v, h1, h2⟩ := e1.at_ i d g1
    exact ⟨v, by rw [clr_out _ _ _ g2, List.getElem?_append_left (by rw [← e1.len]; exact hi)]; exact h1, h2.mv mv0⟩
  have hfp' : ∀ b ∈ fp, FpOk X' [] (upd H s.heap.objs.size (.lst [])) b := fun b hbm => by
    obtain ⟨f0, f1, f2, f3, f4, f5⟩ := hfp b hbm
    have h1 := IB.ok.exf
    refine ⟨by rw [upd_ne (hne b hbm)]; exact f0, ?_, ?_, .inl ?_, ?_, ?_⟩
    · exact (h1 b (by rw [← hX']; exact hbm)).1
    · rw [← hX']
      exact fun z => IB.ok.exfs b (by rw [← hX']; exact hbm) (by rw [← hX']; exact z)
    · rw [← hX']; exact hbm
    · exact (h1 b (by rw [← hX']; exact hbm)).2
    · rw [← hX']
      exact fun p hp => absurd (show p ∈ ([] : List (Addr × Obj)) from hp) (by simp)
  have st' : tn 0 (bHeap s.heap scope.names) := T.keep _ _ _ st fun b _ o e => bHeap_keeps _ _ _ _ e
  have T' : Turn X'.prog X'.w X'.K tg J fp it tn := by rw [eP, eW, eK]; exact T
  have key := loop_ok (X := X') (A := s.heap.objs.size) (hid := hid) (elt := elt) (gens := ⟨tg, iter, ifs, 0⟩ :: gs) (scope := scope) (pos := pos) (te := te) (k := 0) (c := ⟨it0, g, ts⟩) (cs := cs) ex ec rfl (by rw [eK]; exact b1) b2 (body_ok ex ec b4 b3 1 rfl) (by
      cases b3 with
      | nil => exact .inl rfl
      | cons _ _ _ _ _ => exact .inr ⟨_, _, _, rfl⟩) T' [] { s with heap := bHeap s.heap scope.names } (clr (σv ++ List.replicate ext.length none) (slotsOf (⟨it0, g, ts⟩ :: cs))) (upd H s.heap.objs.size (.lst [])) μ (clr (σ ++ List.replicate ext.length none) (slotsOf (⟨it0, g, ts⟩ :: cs))) O [] (src.size O)
      (fun s' => Behind X pins σv H hid μ s.heap.objs.size (s.heap.objs.size + 1) acc O2 s') st' hfp' (by rw [eK]; exact sa.mv mv0) ⟨IB, by rw [eK]; exact e2, by rw [eK]; exact c2, [], upd_same, .nil⟩ ?_
  · have key2 := start_ok (X := X') (elt := elt) (gens := ⟨tg, iter, ifs, 0⟩ :: gs) (scope := scope) (pos := pos) (env := X'.env) rfl T' 0 st' key
    rw [eP, eW, eA] at key2
    exact codeAny_mono key2 fun r s' ⟨f, hr, q⟩ => by subst hr; exact hRR f s' q
  · rw [hw]
    intro s' σv' H' μ' I' x' c' g' l' k'
    rw [eK] at c'
    obtain ⟨vs, hv, dv⟩ := g'
    rw [eK] at dv
    have xe : Ext H μ H' μ' := ⟨x'.pre, fun b o h n ht => x'.kept b o (by rw [upd_ne (ne_of_none h nL)]; exact h) n (ne_of_none h nL) ht, fun b m => (x'.fresh b m).imp id fun z => by
      by_cases q : b = s.heap.objs.size
      · rw [q]; exact nL
      · rw [upd_ne q] at z; exact z, fun b h => x'.there b (upd_there b h), fun P t => x'.tab P (t.upd (.inl nL))⟩
    have un : Un (frs X.stack) fp H H' s.heap s'.heap := by
      have := I'.base
      rw [← hX'] at this
      exact this
    have os : s'.os = s.os := by
      have := I'.os
      rw [← hX'] at this
      exact this
    have hok : HOk X.prog X.w H' s'.heap := by
      have := I'.hok
      rw [eP, eW] at this
      exact this
    have IX : L2.Inv X pins σv H' s' := I.call' os un hok I'.bare fun b hbm => by
      obtain ⟨f0, f1, f2, f3, f4, f5⟩ := hfp b hbm
      exact ⟨f3, f1, f4, f5⟩
    have big : ∀ b, b < s.heap.objs.size → b ≠ s.heap.objs.size + 1 := fun b h => Nat.ne_of_lt (Nat.lt_succ_of_lt h)
    refine ⟨⟨H', μ', IX, xe, c', nL, ?_, vs, hv, dv⟩, ?_, ?_, ?_, fun x c e => ?_, fun p hp => ?_⟩
    · have := I'.free
      rw [eenv] at this
      exact this
    · obtain ⟨m, hn, _⟩ := I'.loc
      rw [eenv] at hn
      exact ⟨m, hn⟩
    · exact (big _ I.lt).symm
    · exact Nat.le_trans I.sz (Nat.le_succ _)
    · obtain ⟨v, z⟩ := I.cell x c e
      exact big _ z.lt
    · exact big _ (Heap.lt_size (I.pin p hp).1)
end
end DL

namespace DL
open PySem L2
section
variable {X : Cx} {Ex : Nat → Hp → Prop}
theorem noX_ok {α : Type} {r : R α} {a : α} {O : Ow} (h : noX r = .ok a O) : r = .ok a O := by
  cases r with
  | ok _ _ => exact h
  | exc _ _ => cases h
  | bad => cases h
theorem noX_exc {α : Type} {r : R α} {c : Nat} {O : Ow} (h : noX r = .exc c O) : False := by
  cases r <;> cases h
def postC (Ex : Nat → Hp → Prop) (K : PySem.W.Frag) (H : Hp) (hid μ : List Addr) (r : R (List D)) (Q : Addr → Hp → Prop) : Prop := match r with
  | .ok acc O' => ∀ L H' μ', H L = none → Ext H μ H' μ' → Cells K H' (L :: hid) μ' O' → (∃ vs, H' L = some (.lst vs) ∧ Dats K H' (L :: hid) μ' acc vs) → Q L H'
  | .exc c O' => ∀ H' μ', Ext H μ H' μ' → Cells K H' hid μ' O' → Ex c H'
  | .bad => False
theorem Ext.none {H H' : Hp} {μ μ' : List Addr} (e : Ext H μ H' μ') {L : Addr} (h : H' L = Option.none) : H L = Option.none := by
  cases q : H L with
  | none => rfl
  | some o => exact absurd h (e.there L (by rw [q]; simp))
/-- the common part: the first source, the block, and what is wanted behind -/
theorem comp_run {elt tg iter : Expr} {ifs : List Expr} {gs : List Comprehension} {scope : Scope} {pos cpos : Pos} {ext : List Str} {it0 : DI} {g : Tg} {ts : List DT} {cs : List Cl} {te : DE} {pins : List (Addr × Obj)} {σv : St} {H : Hp} {s : Shared} {hid μ : List Addr} {σ : Sg} {O : Ow}
    {use : Option (Value → Sem Unit)} {Q : Value → Shared → Prop} (hcalm : X.calm = true) (hi : PDI X Ex tg iter it0) (hb : BOk X.env.scope scope (X.N ++ ext) (slotsOf (⟨it0, g, ts⟩ :: cs)))
    (blk : ∀ cells C s H fp, PG (cxB X (X.N ++ ext) scope cells C s H fp) tg (g.rd X.K) ∧ PySem.Paired (fun e t => PDT (cxB X (X.N ++ ext) scope cells C s H fp) Ex0 e t) ifs ts ∧ ClsOk (cxB X (X.N ++ ext) scope cells C s H fp) gs cs ∧ PD (cxB X (X.N ++ ext) scope cells C s H fp) Ex0 elt te)
    (hs : ∀ x, foldedSetIterable iter X.env x = pure x) (I : L2.Inv X pins σv H s) (e1 : EnvOk X.K H hid μ σ σv) (c1 : Cells X.K H hid μ O)
    (q : postC Ex X.K H hid μ (compAll ext.length it0 g ts cs te σ O)
      (fun (L : Addr) H' => ∀ s' C, L2.Inv X pins σv H' s' → (∃ m, s'.heap.Ns C m) → H' C = none → C ≠ X.env.locals → X.s₀.heap.objs.size ≤ C → (∀ x c, X.env.cells.lookup x = some c → c ≠ C) → (∀ p ∈ X.pn ++ pins, p.1 ≠ C) →
        compPost (model X.prog X.w) X.A X.xe use Q (.ref L) C (.ok .next) s')) :
    wpAny (model X.prog X.w) X.A (comprehension (.ListComp elt (⟨tg, iter, ifs, 0⟩ :: gs) scope pos) scope X.env cpos (newList []) false (eval iter X.env) use) Q X.xe s := by
  have hfree : ∀ y ∈ scope.names, y.2 = .free → ∃ c, X.env.cells.lookup y.1 = some c := fun y hy hf => by
    obtain ⟨n, k⟩ := y
    subst hf
    exact I.ok.has n (hb.frees _ hy rfl)
  refine wpAny_comprehension_free (g := ⟨tg, iter, ifs, 0⟩) (gs := gs) rfl hs (closureFor_eq hfree) hb.kind (fun x hx hl => ?_) ?_
  · obtain ⟨n, k⟩ := x
    subst hl
    exact lookup_mem hb.nd hx
  unfold compAll at q
  cases hit : it0 σ O with
  | bad => rw [hit] at q; exact False.elim q
  | exc c' O' =>
    rw [hit] at q
    refine thn (hi.out pins s σv H (fun J H1 => False) I ⟨hid, μ, σ, O, e1, c1, by rw [hit]; exact q⟩) fun v s1 h1 => thn h1 fun itv s2 h2 => ?_
    obtain ⟨it, fp, tn, J, H2, e, I2, T, st2, f2, z⟩ := h2
    exact z.elim
  | ok src O2 =>
    rw [hit] at q
    refine thn (hi.out pins s σv H (fun J H1 => ∃ μ1, Ext H μ H1 μ1 ∧ Cells X.K H1 hid μ1 O2 ∧ SrcAt X.K J src H1 hid μ1) I ⟨hid, μ, σ, O, e1, c1, by rw [hit]; exact fun J H1 μ1 x c sa => ⟨μ1, x, c, sa⟩⟩) fun v s1 h1 => thn h1 fun itv s2 h2 => ?_
    obtain ⟨it, fp, tn, J, H2, e, I2, T, st2, f2, μ2, x2, c2, sa⟩ := h2
    subst e
    have p : postC Ex X.K H hid μ (noX (walkD src (stepD ⟨it0, g, ts⟩ cs te (clr (σ ++ List.replicate ext.length none) (slotsOf (⟨it0, g, ts⟩ :: cs)))) (src.size O2) 0 O2 [])) _ := q
    cases hw : noX (walkD src (stepD ⟨it0, g, ts⟩ cs te (clr (σ ++ List.replicate ext.length none) (slotsOf (⟨it0, g, ts⟩ :: cs)))) (src.size O2) 0 O2 []) with
    | bad => rw [hw] at p; exact False.elim p
    | exc c' O' => exact (noX_exc hw).elim
    | ok acc O3 =>
      rw [hw] at p
      refine comp_block (RR := fun ac C => compPost (model X.prog X.w) X.A X.xe use Q ac C) hcalm hb blk I2 (e1.ext x2) c2 T st2 f2 sa (noX_ok hw) fun f s' Bh => ?_
      obtain ⟨H', μ', I', x', c', nL, nC, vs, hv, dv⟩ := Bh.inv
      have := p (s2.heap.objs.size) H' μ' (x2.none nL) (x2.trans x') c' ⟨vs, hv, dv⟩ s' (s2.heap.objs.size + 1) I' Bh.ns nC Bh.loc Bh.young Bh.cel Bh.pns
      unfold compPost at this ⊢
      cases use <;> exact this
/-- a list that nobody else knows becomes data by value, or a cell -/
theorem dat_of_new {K : PySem.W.Frag} {H : Hp} {hid μ : List Addr} {O : Ow} {L : Addr} {vs : List V} {ds : List D} (c : Cells K H (L :: hid) μ O) (n1 : L ∉ hid) (h : H L = some (.lst vs)) (q : Dats K H (L :: hid) μ ds vs) : Dat K H hid μ (.lst ds) (.ref L) := by
  unfold Dat
  exact ⟨L, vs, rfl, .inl ⟨.inl h, n1, fun m => c.nh L m (by simp)⟩, q.mv .unhide⟩
mutual
theorem Dat.swap {K : PySem.W.Frag} {H : Hp} {hid μ : List Addr} {L : Addr} : ∀ {d : D} {v : V}, Dat K H (L :: hid) μ d v → Dat K H hid (μ ++ [L]) d v
  | .non, _, h => h
  | .bl _, _, h => h
  | .int _, _, h => h
  | .str _, _, h => h
  | .lst ds, v, h => by
    unfold Dat at h ⊢
    obtain ⟨a, vs, r, l, q⟩ := h
    refine ⟨a, vs, r, l.imp (fun z => ⟨z.1, fun m => z.2.1 (List.mem_cons_of_mem _ m), fun m => ?_⟩) id, Dats.swap q⟩
    rcases List.mem_append.mp m with m | m
    · exact z.2.2 m
    · exact z.2.1 (by simp at m; simp [m])
  | .tup ds, v, h => by
    unfold Dat at h ⊢
    obtain ⟨a, vs, r, l, q⟩ := h
    refine ⟨a, vs, r, l.imp (fun z => ⟨z.1, fun m => z.2.1 (List.mem_cons_of_mem _ m), fun m => ?_⟩) id, Dats.swap q⟩
    rcases List.mem_append.mp m with m | m
    · exact z.2.2 m
    · exact z.2.1 (by simp at m; simp [m])
  | .own k, v, h => by
    unfold Dat at h ⊢
    obtain ⟨a, r, q⟩ := h
    exact ⟨a, r, by rw [List.getElem?_append_left (List.getElem?_eq_some_iff.mp q).1]; exact q⟩
  | .dct, v, h => by
    unfold Dat at h ⊢
    obtain ⟨a, r, q, n1, n2⟩ := h
    refine ⟨a, r, q, fun m => n1 (List.mem_cons_of_mem _ m), fun m => ?_⟩
    rcases List.mem_append.mp m with m | m
    · exact n2 m
    · exact n1 (by simp at m; simp [m])
  | .exn C, v, h => by
    unfold Dat at h ⊢
    obtain ⟨a, φ, r, g, q, n1, n2⟩ := h
    refine ⟨a, φ, r, g, q, fun m => n1 (List.mem_cons_of_mem _ m), fun m => ?_⟩
    rcases List.mem_append.mp m with m | m
    · exact n2 m
    · exact n1 (by simp at m; simp [m])
  | .tab P, v, h => by
    unfold Dat at h ⊢
    exact h
theorem Dats.swap {K : PySem.W.Frag} {H : Hp} {hid μ : List Addr} {L : Addr} : ∀ {ds : List D} {vs : List V}, Dats K H (L :: hid) μ ds vs → Dats K H hid (μ ++ [L]) ds vs
  | [], _, h => h
  | d :: ds, vs, h => by
    unfold Dats at h ⊢
    obtain ⟨v, r, e1, h1, h2⟩ := h
    exact ⟨v, r, e1, Dat.swap h1, Dats.swap h2⟩
end
theorem Cells.swap {K : PySem.W.Frag} {H : Hp} {hid μ : List Addr} {O : Ow} {L : Addr} {vs : List V} {ds : List D} (c : Cells K H (L :: hid) μ O) (n1 : L ∉ hid) (h : H L = some (.lst vs)) (q : Dats K H (L :: hid) μ ds vs) : Cells K H hid (μ ++ [L]) (O ++ [ds]) := by
  have nm : L ∉ μ := fun m => c.nh L m (by simp)
  refine ⟨by simp [c.len], ?_, fun a m => ?_, fun a m => c.ht a (List.mem_cons_of_mem _ m), fun k a e => ?_⟩
  · rw [List.nodup_append]
    refine ⟨c.nd, by simp, fun a ha b hb => ?_⟩
    have : b = L := by simpa using hb
    subst this
    rintro rfl
    exact nm ha
  · rcases List.mem_append.mp m with m | m
    · exact fun z => c.nh a m (List.mem_cons_of_mem _ z)
    · have : a = L := by simpa using m
      subst this; exact n1
  · by_cases hk : k < μ.length
    · rw [List.getElem?_append_left hk] at e
      obtain ⟨ds', vs', h1, h2, h3⟩ := c.at_ k a e
      exact ⟨ds', vs', by rw [List.getElem?_append_left (by rw [← c.len]; exact hk)]; exact h1, h2, h3.swap⟩
    · rw [List.getElem?_append_right (by omega)] at e
      have e0 : k - μ.length = 0 := by
        have := (List.getElem?_eq_some_iff.mp e).1
        simp at this; omega
      rw [e0] at e
      simp at e; subst e
      refine ⟨ds, vs, ?_, h, q.swap⟩
      have : k = O.length := by have := c.len; omega
      subst this; simp
theorem Ext.grow {H H' : Hp} {μ μ' : List Addr} (e : Ext H μ H' μ') {L : Addr} (h : H L = Option.none) : Ext H μ H' (μ' ++ [L]) := by
  obtain ⟨ν, rfl⟩ := e.pre
  refine ⟨⟨ν ++ [L], by simp⟩, e.kept, fun b m => ?_, e.there, e.tab⟩
  rcases List.mem_append.mp m with m | m
  · exact e.fresh b m
  · have : b = L := by simpa using m
    subst this; exact .inr h
/-- how the outcome is handed on: by value (false) or as a cell (true) -/
def outC (o : Bool) (r : R (List D)) : R D := r.bnd fun acc O1 => if o = true then .ok (.own O1.length) (O1 ++ [acc]) else .ok (.lst acc) O1
theorem postC_of {K : PySem.W.Frag} {H : Hp} {hid μ : List Addr} {O : Ow} (c1 : Cells K H hid μ O) {r : R (List D)} {o : Bool} {Q : VK} (q : postE Ex K H hid μ (outC o r) Q) {Q1 : Addr → Hp → Prop} (h : ∀ L H', Q (.ref L) H' → Q1 L H') : postC Ex K H hid μ r Q1 := by
  cases r with
  | bad => exact q
  | exc c' O' => exact q
  | ok acc O' =>
    intro L H' μ' nL x c ⟨vs, hv, dv⟩
    have n1 : L ∉ hid := fun m => c1.ht L m nL
    cases o with
    | false => exact h L H' (post.ok (show postE Ex K H hid μ (.ok (.lst acc) O') Q from q) x c.unhide (dat_of_new c n1 hv dv))
    | true => exact h L H' (post.ok (show postE Ex K H hid μ (.ok (.own O'.length) (O' ++ [acc])) Q from q) (x.grow nL) (c.swap n1 hv dv) (dat_own_last c.len))
theorem postSC_of {K : PySem.W.Frag} {H : Hp} {hid μ : List Addr} {O : Ow} (c1 : Cells K H hid μ O) {σ : Sg} {σv : St} (e1 : EnvOk K H hid μ σ σv) {r : R (List D)} {o : Bool} {i : Nat} {E : Ends} (q : postS Ex K H hid μ ((outC o r).bnS fun d O1 => .nx (σ.set i (some d)) O1) E) {Q1 : Addr → Hp → Prop} (h : ∀ L H', E.nx (σv.set i (some (.ref L))) H' → Q1 L H') :
    postC Ex K H hid μ r Q1 := by
  cases r with
  | bad => exact q
  | exc c' O' => exact q
  | ok acc O' =>
    intro L H' μ' nL x c ⟨vs, hv, dv⟩
    have n1 : L ∉ hid := fun m => c1.ht L m nL
    cases o with
    | false =>
      have q : postS Ex K H hid μ (.nx (σ.set i (some (.lst acc))) O') E := q
      exact h L H' (q _ H' μ' x ((e1.ext x).set (dat_of_new c n1 hv dv) i) c.unhide)
    | true =>
      have q : postS Ex K H hid μ (.nx (σ.set i (some (.own O'.length))) (O' ++ [acc])) E := q
      exact h L H' (q _ H' (μ' ++ [L]) (x.grow nL) ((e1.ext (x.grow nL)).set (dat_own_last c.len) i) (c.swap n1 hv dv))
def dComp (o : Bool) (ext : Nat) (it0 : DI) (g : Tg) (ts : List DT) (cs : List Cl) (te : DE) : DE := fun σ O => outC o (compAll ext it0 g ts cs te σ O)
theorem pd_comp {elt tg iter : Expr} {ifs : List Expr} {gs : List Comprehension} {scope : Scope} {pos : Pos} (o : Bool) (ext : List Str) {it0 : DI} {g : Tg} {ts : List DT} {cs : List Cl} {te : DE} (hcalm : X.calm = true) (hi : PDI X Ex tg iter it0) (hb : BOk X.env.scope scope (X.N ++ ext) (slotsOf (⟨it0, g, ts⟩ :: cs)))
    (blk : ∀ cells C s H fp, PG (cxB X (X.N ++ ext) scope cells C s H fp) tg (g.rd X.K) ∧ PySem.Paired (fun e t => PDT (cxB X (X.N ++ ext) scope cells C s H fp) Ex0 e t) ifs ts ∧ ClsOk (cxB X (X.N ++ ext) scope cells C s H fp) gs cs ∧ PD (cxB X (X.N ++ ext) scope cells C s H fp) Ex0 elt te)
    (hs : ∀ x, foldedSetIterable iter X.env x = pure x := by intro _; rfl) : PD X Ex (.ListComp elt (⟨tg, iter, ifs, 0⟩ :: gs) scope pos) (dComp o ext.length it0 g ts cs te) := by
  refine ⟨?_⟩
  rintro pins s σv H Q I ⟨hid, μ, σ, O, e1, c1, q⟩
  rw [eval_ListComp]
  refine comp_run (use := none) hcalm hi hb blk hs I e1 c1 (postC_of c1 q fun L H' hQ s' C I' ns nC l1 y1 ce pn => ?_)
  obtain ⟨m, hn⟩ := ns
  exact ⟨m, hn, fun h' hs' => ⟨.ref L, H', Inv.bare I' hs' nC l1 y1 ce pn, rfl, hQ⟩⟩
/-- name = [..] on one row -/
theorem pds_setComp {elt tg iter : Expr} {ifs : List Expr} {gs : List Comprehension} {scope : Scope} {pos spos py : Pos} {y : Str} {i : Nat} (o : Bool) (ext : List Str) {it0 : DI} {g : Tg} {ts : List DT} {cs : List Cl} {te : DE} (hcalm : X.calm = true) (hN : X.N.Nodup) (hiy : X.N[i]? = some y) (hy : X.env.scope.names.lookup y = some .local)
    (hi : PDI X Ex tg iter it0) (hb : BOk X.env.scope scope (X.N ++ ext) (slotsOf (⟨it0, g, ts⟩ :: cs)))
    (blk : ∀ cells C s H fp, PG (cxB X (X.N ++ ext) scope cells C s H fp) tg (g.rd X.K) ∧ PySem.Paired (fun e t => PDT (cxB X (X.N ++ ext) scope cells C s H fp) Ex0 e t) ifs ts ∧ ClsOk (cxB X (X.N ++ ext) scope cells C s H fp) gs cs ∧ PD (cxB X (X.N ++ ext) scope cells C s H fp) Ex0 elt te)
    (hsw : swapsWith (.ListComp elt (⟨tg, iter, ifs, 0⟩ :: gs) scope pos) (some (.Name y py)) spos.line X.env = pure true)
    (hs : ∀ x, foldedSetIterable iter X.env x = pure x := by intro _; rfl) : PDS X Ex (.Assign [.Name y py] (.ListComp elt (⟨tg, iter, ifs, 0⟩ :: gs) scope pos) spos) (sSet i (dComp o ext.length it0 g ts cs te)) := by
  refine ⟨?_⟩
  rintro pins s σv H E I ⟨hid, μ, σ, O, e1, c1, q⟩
  rw [exec_Assign_Name_used _ _ _ _ hsw]
  refine wpAny_bind (wpAny_standAt (wpAny_bind ?_))
  show wpAny _ X.A (do let _ ← comprehension (.ListComp elt (⟨tg, iter, ifs, 0⟩ :: gs) scope pos) scope X.env _ (newList []) false (eval iter X.env) (some (assign (.Name y py) X.env))) _ _ s
  refine wpAny_bind (wpAny_mono (comp_run (use := some (assign (.Name y py) X.env)) (Q := fun _ s' => SP X pins E .next s') hcalm hi hb blk hs I e1 c1 (postSC_of c1 e1 q fun L H' hQ s' C I' ns nC l1 y1 ce pn => ?_)) (fun _ s' hq => wpAny_pure (wpAny_pure hq)) fun _ _ e => e)
  obtain ⟨m, hn⟩ := ns
  show wpAny _ _ (assign (.Name y py) X.env (.ref L)) _ _ s'
  refine wpAny_assign_Name (store_ok2 (v := .ref L) I' hN hiy (.inl hy) rfl (fun s'' I'' hsame => ?_) (.inr hy))
  obtain ⟨a, hsb, ha⟩ := hsame
  have hCa : C ≠ a := by
    rcases ha with z | z
    · rw [z]; exact l1
    · exact fun e => ce y a z e.symm
  refine ⟨m, hn.sameBut hsb hCa, fun h' hs' => ?_⟩
  exact ⟨_, H', Inv.bare I'' hs' nC l1 y1 ce pn, hQ⟩
end
end DL

namespace DL
open PySem L2

/-! ### == and in, by data -/
def mapO {α β : Type} (f : α → Option β) : List α → Option (List β)
  | [] => some []
  | x :: xs => match f x, mapO f xs with
    | some p, some ps => some (p :: ps)
    | _, _ => none
def strO (cs : List Nat) : Option PyData := if cs.all (· < 1114112) = true then some (.str ⟨cs.toArray⟩) else none
def toPy (O : Ow) : Nat → D → Option PyData
  | 0, d => match d with
    | .non => some .none
    | .bl b => some (.bool b)
    | .int i => some (.int i)
    | .str cs => strO cs
    | _ => none
  | n + 1, d => match d with
    | .non => some .none
    | .bl b => some (.bool b)
    | .int i => some (.int i)
    | .str cs => strO cs
    | .lst ds => (mapO (toPy O n) ds).map .list
    | .tup ds => (mapO (toPy O n) ds).map .tuple
    | .own k => match O[k]? with
      | some ds => (mapO (toPy O n) ds).map .list
      | none => none
    | .dct => none
    | .exn _ => none
    | .tab _ => none
section
variable {X : Cx} {pins : List (Addr × Obj)} {σv : St} {H : Hp} {s : Shared} {hid μ : List Addr} {O : Ow}
theorem toPys_reads {n : Nat} (I : L2.Inv X pins σv H s) (ih : ∀ (d : D) (v : V) (u : Value) (p : PyData), Dat X.K H hid μ d v → RelV v u → toPy O n d = some p → ∃ as, Reads s.heap u p as ∧ p.canLay0 = true ∧ p.depth ≤ n) :
    ∀ (ds : List D) (vs : List V) (us : List Value) (ps : List PyData), Dats X.K H hid μ ds vs → Vals vs us → mapO (toPy O n) ds = some ps → ∃ as, ReadsAll s.heap us ps as ∧ PyData.canLayAll0 ps = true ∧ PyData.depthAll ps ≤ n
  | [], vs, us, ps, h, r, e => by
    unfold Dats at h; subst h
    cases r
    cases e
    exact ⟨[], .nil, rfl, Nat.zero_le _⟩
  | d :: ds, vs, us, ps, h, r, e => by
    unfold Dats at h
    obtain ⟨v, t, rfl, h1, h2⟩ := h
    cases r with
    | cons r1 r2 =>
      unfold mapO at e
      split at e
      · rename_i p ps' e1 e2
        cases e
        obtain ⟨as, q1, q2, q3⟩ := ih d v _ p h1 r1 e1
        obtain ⟨bs, z1, z2, z3⟩ := toPys_reads I ih ds t _ ps' h2 r2 e2
        refine ⟨as ++ bs, .cons q1 z1, ?_, ?_⟩
        · unfold PyData.canLayAll0; rw [q2, z2]; rfl
        · unfold PyData.depthAll; exact Nat.max_le.mpr ⟨q3, z3⟩
      · cases e
theorem strO_reads {n : Nat} {cs : List Nat} {t : Tok} {p : PyData} (e : strO cs = some p) : ∃ as, Reads s.heap (.str ⟨cs.toArray⟩ t) p as ∧ p.canLay0 = true ∧ p.depth ≤ n := by
  unfold strO at e
  split at e
  · rename_i hc
    cases e
    exact ⟨[], .str _ _, by unfold PyData.canLay0 PyData.strOk; simpa using hc, Nat.zero_le _⟩
  · cases e
theorem toPy_reads (I : L2.Inv X pins σv H s) (c : Cells X.K H hid μ O) : ∀ (n : Nat) (d : D) (v : V) (u : Value) (p : PyData), Dat X.K H hid μ d v → RelV v u → toPy O n d = some p → ∃ as, Reads s.heap u p as ∧ p.canLay0 = true ∧ p.depth ≤ n := by
  intro n
  induction n with
  | zero =>
    intro d v u p h r e
    cases d with
    | non => unfold Dat at h; subst h; cases r; cases e; exact ⟨[], .none, rfl, Nat.zero_le _⟩
    | bl b => unfold Dat at h; subst h; cases r; cases e; exact ⟨[], .bool _, rfl, Nat.zero_le _⟩
    | int b => unfold Dat at h; subst h; obtain ⟨t, rfl⟩ := r; cases e; exact ⟨[], .int _ _, rfl, Nat.zero_le _⟩
    | str cs =>
      unfold Dat at h; subst h; obtain ⟨t, rfl⟩ := r
      exact strO_reads (show strO cs = some p from e)
    | _ => cases e
  | succ n ih =>
    intro d v u p h r e
    cases d with
    | non => unfold Dat at h; subst h; cases r; cases e; exact ⟨[], .none, rfl, Nat.zero_le _⟩
    | bl b => unfold Dat at h; subst h; cases r; cases e; exact ⟨[], .bool _, rfl, Nat.zero_le _⟩
    | int b => unfold Dat at h; subst h; obtain ⟨t, rfl⟩ := r; cases e; exact ⟨[], .int _ _, rfl, Nat.zero_le _⟩
    | str cs =>
      unfold Dat at h; subst h; obtain ⟨t, rfl⟩ := r
      exact strO_reads (show strO cs = some p from e)
    | lst ds =>
      unfold Dat at h
      obtain ⟨a, vs, rfl, l, q⟩ := h
      cases r
      have e : (mapO (toPy O n) ds).map PyData.list = some p := e
      cases e1 : mapO (toPy O n) ds with
      | none => rw [e1] at e; cases e
      | some ps =>
        rw [e1] at e; cases e
        obtain ⟨its, rv, ⟨o, k, ho, hc, hd, hdt⟩, hz⟩ := I.list l.sq
        obtain ⟨as, z1, z2, z3⟩ := toPys_reads I ih ds vs its ps q rv e1
        exact ⟨_, .list ho hc hdt (by simpa using z1), by unfold PyData.canLay0; exact z2, by unfold PyData.depth; omega⟩
    | tup ds =>
      unfold Dat at h
      obtain ⟨a, vs, rfl, l, q⟩ := h
      cases r
      have e : (mapO (toPy O n) ds).map PyData.tuple = some p := e
      cases e1 : mapO (toPy O n) ds with
      | none => rw [e1] at e; cases e
      | some ps =>
        rw [e1] at e; cases e
        obtain ⟨its, rv, ⟨o, ho, hc, k, hdt⟩, hz⟩ := I.tuple l.sq
        obtain ⟨as, z1, z2, z3⟩ := toPys_reads I ih ds vs its ps q rv e1
        exact ⟨_, .tuple ho hc hdt (by simpa using z1), by unfold PyData.canLay0; exact z2, by unfold PyData.depth; omega⟩
    | own k =>
      unfold Dat at h
      obtain ⟨a, rfl, hk⟩ := h
      cases r
      obtain ⟨ds, vs, h1, h2, h3⟩ := c.at_ k a hk
      have e : (match O[k]? with | some ds => (mapO (toPy O n) ds).map PyData.list | none => none) = some p := e
      rw [h1] at e
      cases e1 : mapO (toPy O n) ds with
      | none => simp only [e1] at e; cases e
      | some ps =>
        simp only [e1] at e; cases e
        obtain ⟨its, rv, ⟨o, k', ho, hc, hd, hdt⟩, hz⟩ := I.list (.of h2)
        obtain ⟨as, z1, z2, z3⟩ := toPys_reads I ih ds vs its ps h3 rv e1
        exact ⟨_, .list ho hc hdt (by simpa using z1), by unfold PyData.canLay0; exact z2, by unfold PyData.depth; omega⟩
    | dct => cases e
    | exn _ => cases e
    | tab _ => cases e
end
/-- eight deep is enough -/
def py (O : Ow) (d : D) : Option PyData := toPy O 8 d
def rPy (K : PySem.W.Frag) (f : PyData → PyData → Option Bool) : R2 := fun v w H Q => ∃ hid μ O x y a b k, Cells K H hid μ O ∧ Dat K H hid μ x v ∧ Dat K H hid μ y w ∧ py O x = some a ∧ py O y = some b ∧ f a b = some k ∧ Q (.bl k) H
def fPy (f : PyData → PyData → Option Bool) : Ow → D → D → R D := fun O x y => match py O x, py O y with
  | some a, some b => match f a b with
    | some k => .ok (.bl k) O
    | none => .bad
  | _, _ => .bad
section
variable {X : Cx} {Ex : Nat → Hp → Prop}
theorem opd_py {f : PyData → PyData → Option Bool} : OpD X Ex (rPy X.K f) (fPy f) := by
  intro H hid μ O x y v w Q c dx dy q
  unfold fPy at q
  split at q
  · rename_i a b e1 e2
    split at q
    · rename_i k e3
      exact ⟨hid, μ, O, x, y, a, b, k, c, dx, dy, e1, e2, e3, post.here q c dat_bl⟩
    · exact False.elim q
  · exact False.elim q
def eqF : PyData → PyData → Option Bool := fun a b => some (PyData.eqv a b)
def neF : PyData → PyData → Option Bool := fun a b => some (!PyData.eqv a b)
def inF : PyData → PyData → Option Bool := fun a b => match b with
  | .list xs => some (xs.any fun y => PyData.eqv y a)
  | .tuple xs => some (xs.any fun y => PyData.eqv y a)
  | _ => none
def ninF : PyData → PyData → Option Bool := fun a b => match b with
  | .list xs => some (!xs.any fun y => PyData.eqv y a)
  | .tuple xs => some (!xs.any fun y => PyData.eqv y a)
  | _ => none
theorem shaped8 {p : PyData} (h1 : p.canLay0 = true) (h2 : p.depth ≤ 8) : SeqAt.shaped p = true := by
  unfold SeqAt.shaped
  rw [h1, decide_eq_true (show p.depth ≤ 64 by omega)]; rfl
theorem op_eqPy (hu : X.A.units + 64 < cLine) : OpR X (compareOp .Eq) (rPy X.K eqF) := by
  intro pins s σ H x y v u Q I rx ry h
  obtain ⟨hid, μ, O, dx, dy, a, b, k, c, h1, h2, e1, e2, e3, q⟩ := h
  obtain ⟨as, z1, z2, z3⟩ := toPy_reads I c 8 dx x v a h1 rx e1
  obtain ⟨bs, y1, y2, y3⟩ := toPy_reads I c 8 dy y u b h2 ry e2
  cases e3
  exact PyProof.Rows.eq_dataH z1 y1 (shaped8 z2 z3) (shaped8 y2 y3) hu ⟨.bl _, H, I, rfl, q⟩
theorem op_nePy (hu : X.A.units + 64 < cLine) : OpR X (compareOp .NotEq) (rPy X.K neF) := by
  intro pins s σ H x y v u Q I rx ry h
  obtain ⟨hid, μ, O, dx, dy, a, b, k, c, h1, h2, e1, e2, e3, q⟩ := h
  obtain ⟨as, z1, z2, z3⟩ := toPy_reads I c 8 dx x v a h1 rx e1
  obtain ⟨bs, y1, y2, y3⟩ := toPy_reads I c 8 dy y u b h2 ry e2
  cases e3
  exact PyProof.Rows.ne_dataH z1 y1 (shaped8 z2 z3) (shaped8 y2 y3) hu ⟨.bl _, H, I, rfl, q⟩
theorem room8 {A : Around} {n m : Nat} (h : m ≤ 8) (hu : A.units + 64 < cLine) : A.units + 1 + min n m < cLine := by
  have := Nat.min_le_right n m
  omega
theorem op_inPy (hu : X.A.units + 64 < cLine) : OpR X (compareOp .In) (rPy X.K inF) := by
  intro pins s σ H x y v u Q I rx ry h
  obtain ⟨hid, μ, O, dx, dy, a, b, k, c, h1, h2, e1, e2, e3, q⟩ := h
  obtain ⟨as, z1, z2, z3⟩ := toPy_reads I c 8 dx x v a h1 rx e1
  obtain ⟨bs, y1, y2, y3⟩ := toPy_reads I c 8 dy y u b h2 ry e2
  cases b with
  | list xs => cases e3; exact SeqAt.in_list_reads y1 z1 y2 z2 (room8 z3 hu) ⟨.bl _, H, I, rfl, q⟩
  | tuple xs => cases e3; exact SeqAt.in_tuple_reads y1 z1 y2 z2 (room8 z3 hu) ⟨.bl _, H, I, rfl, q⟩
  | _ => cases e3
theorem op_ninPy (hu : X.A.units + 64 < cLine) : OpR X (compareOp .NotIn) (rPy X.K ninF) := by
  intro pins s σ H x y v u Q I rx ry h
  obtain ⟨hid, μ, O, dx, dy, a, b, k, c, h1, h2, e1, e2, e3, q⟩ := h
  obtain ⟨as, z1, z2, z3⟩ := toPy_reads I c 8 dx x v a h1 rx e1
  obtain ⟨bs, y1, y2, y3⟩ := toPy_reads I c 8 dy y u b h2 ry e2
  cases b with
  | list xs => cases e3; exact SeqAt.notIn_list_reads y1 z1 y2 z2 (room8 z3 hu) ⟨.bl _, H, I, rfl, q⟩
  | tuple xs => cases e3; exact SeqAt.notIn_tuple_reads y1 z1 y2 z2 (room8 z3 hu) ⟨.bl _, H, I, rfl, q⟩
  | _ => cases e3
end
end DL

namespace DL
open PySem L2
section
variable {X : Cx} {Ex : Nat → Hp → Prop} {pos : Pos} {a b c e : Expr} {ta tb tc te : DE}
/-! ### sequences as they are read -/
/-- the items of a list or a cell; of a tuple -/
def lsV (O : Ow) : D → Option (List D)
  | .lst ds => some ds
  | .own k => O[k]?
  | _ => none
def tpV : D → Option (List D)
  | .tup ds => some ds
  | _ => none
theorem lsV_at {K : PySem.W.Frag} {H : Hp} {hid μ : List Addr} {O : Ow} {d : D} {v : V} {ds : List D} (cl : Cells K H hid μ O) (h : Dat K H hid μ d v) (e : lsV O d = some ds) : ∃ p vs, v = .ref p ∧ SqL K H p vs ∧ Dats K H hid μ ds vs := by
  cases d with
  | lst xs =>
    unfold Dat at h
    obtain ⟨p, vs, rfl, l, q⟩ := h
    cases e
    exact ⟨p, vs, rfl, l.sq, q⟩
  | own k =>
    unfold Dat at h
    obtain ⟨p, rfl, hk⟩ := h
    obtain ⟨ds', vs, h1, h2, h3⟩ := cl.at_ k p hk
    have e : O[k]? = some ds := e
    rw [h1] at e; cases e
    exact ⟨p, vs, rfl, .of h2, h3⟩
  | _ => cases e
theorem tpV_at {K : PySem.W.Frag} {H : Hp} {hid μ : List Addr} {d : D} {v : V} {ds : List D} (h : Dat K H hid μ d v) (e : tpV d = some ds) : ∃ p vs, v = .ref p ∧ SqT K H p vs ∧ Dats K H hid μ ds vs := by
  cases d with
  | tup xs =>
    unfold Dat at h
    obtain ⟨p, vs, rfl, l, q⟩ := h
    cases e
    exact ⟨p, vs, rfl, l.sq, q⟩
  | _ => cases e
/-! x + y: ints, texts, lists by value -/
def fAddS : Ow → D → D → R D := fun O x y => match x, y with
  | .str s, .str t => if s.length + t.length ≤ 100000 then .ok (.str (s ++ t)) O else .bad
  | _, _ => .bad
end
/-! ### a[i] -/
theorem dats_atI {K : PySem.W.Frag} {H : Hp} {hid μ : List Addr} {ds : List D} {vs : List V} (h : Dats K H hid μ ds vs) {i : Int} {d : D} (e : atI ds i = some d) : ∃ v, atI vs i = some v ∧ Dat K H hid μ d v := by
  unfold atI at e ⊢
  rw [← h.length]
  cases q : ixN ds.length i with
  | none => rw [q] at e; cases e
  | some j => rw [q] at e; exact h.get e
def fIx : Ow → D → D → R D := fun O x y => match y with
  | .int i => match lsV O x with
    | some ds => match atI ds i with
      | some d => .ok d O
      | none => .bad
    | none => match tpV x with
      | some ds => match atI ds i with
        | some d => .ok d O
        | none => .bad
      | none => match x with
        | .str cs => if cs.length ≤ 100000 then match atI cs i with
            | some ch => .ok (.str [ch]) O
            | none => .bad
          else .bad
        | _ => .bad
  | _ => .bad
section
variable {X : Cx} {Ex : Nat → Hp → Prop} {pos : Pos} {a b c e : Expr} {ta tb tc te : DE}
theorem opd_ix : OpD X Ex (rIx X.K) fIx := by
  intro H hid μ O x y v w Q c dx dy q
  unfold fIx at q
  split at q
  · rename_i i
    unfold Dat at dy; subst dy
    split at q
    · rename_i ds e
      obtain ⟨p, vs, rfl, sq, dd⟩ := lsV_at c dx e
      split at q
      · rename_i d ed
        obtain ⟨z, h1, h2⟩ := dats_atI dd ed
        exact .inl ⟨p, vs, i, z, rfl, rfl, sq, h1, post.here q c h2⟩
      · exact False.elim q
    · split at q
      · rename_i ds e
        obtain ⟨p, vs, rfl, sq, dd⟩ := tpV_at dx e
        split at q
        · rename_i d ed
          obtain ⟨z, h1, h2⟩ := dats_atI dd ed
          exact .inr (.inl ⟨p, vs, i, z, rfl, rfl, sq, h1, post.here q c h2⟩)
        · exact False.elim q
      · split at q
        · rename_i cs _ _
          unfold Dat at dx; subst dx
          obtain ⟨hl, q⟩ := post.ite q
          split at q
          · rename_i ch ed
            refine .inr (.inr ⟨_, i, ch, rfl, rfl, ?_, ?_, post.here q c dat_str⟩)
            · show cs.toArray.size ≤ _
              rw [List.size_toArray]; exact small_line hl
            · simpa using ed
          · exact False.elim q
        · exact False.elim q
  · exact False.elim q
theorem pd_ix (ha : PD X Ex a ta) (hb : PD X Ex b tb) (hs : PlainIx b) : PD X Ex (.Subscript a b pos) (dOp fIx ta tb) := pd_of (pe_ix ix_seq ha.out hb.out hs) (tOp_of opd_ix)
/-! ### calls -/
def dCall (f : Ow → List D → R D) (t : DA) : DE := fun σ O => (t σ O).bnd fun xs O1 => f O1 xs
def CallD (X : Cx) (Ex : Nat → Hp → Prop) (r : List V → Hp → VK → Prop) (f : Ow → List D → R D) : Prop := ∀ (H : Hp) (hid μ : List Addr) (O : Ow) (xs : List D) (vs : List V) (Q : VK), Cells X.K H hid μ O → Dats X.K H hid μ xs vs → postE Ex X.K H hid μ (f O xs) Q → r vs H Q
theorem tCB_of {r : List V → Hp → VK → Prop} {f : Ow → List D → R D} {t : DA} (h : CallD X Ex r f) (hid μ : List Addr) (σ : Sg) (O : Ow) (σv : St) (H : Hp) (Q : VK) (e1 : EnvOk X.K H hid μ σ σv) (c1 : Cells X.K H hid μ O) (q : postE Ex X.K H hid μ (dCall f t σ O) Q) : tCB r (rdA Ex X.K t) σv H Q :=
  rdA.go e1 c1 q fun xs O1 vs H1 μ1 e2 x c d p => h H1 hid μ1 O1 xs vs Q c d p
theorem pd_callB {x : Str} {id : String} {p : Pos} {es : List Expr} {r : List V → Hp → VK → Prop} {f : Ow → List D → R D} {t : DA} (hc : CallR X (.builtin id) r) (h : CallD X Ex r f) (hg : Gl X x) (hm : X.mg x = none) (hv : bootBuiltins x = some (.builtin id)) (ha : PDA X Ex (e :: es) t)
    (hn : x ≠ "__name__" := by decide) (hdb : (x == ("__debug__" : Str)) = false := by decide) (he : starEach (e :: es) X.env = (false, eval e X.env) :: starEach es X.env := by rfl) (hpl : (backTo pos (starEach es X.env)).any (·.1) = false := by rfl) :
    PD X Ex (.Call (.Name x p) (e :: es) [] pos) (dCall f t) := pd_of (pe_callB hc hg hm hv ha.out hn hdb he hpl) (tCB_of h)
theorem pd_callTy {x : Str} {T : String} {p : Pos} {es : List Expr} {r : List V → Hp → VK → Prop} {f : Ow → List D → R D} {t : DA} (hc : CallR X (.type T) r) (h : CallD X Ex r f) (hg : Gl X x) (hm : X.mg x = none) (hv : bootBuiltins x = some (.type T)) (ha : PDA X Ex (e :: es) t)
    (hn : x ≠ "__name__" := by decide) (hdb : (x == ("__debug__" : Str)) = false := by decide) (he : starEach (e :: es) X.env = (false, eval e X.env) :: starEach es X.env := by rfl) (hpl : (backTo pos (starEach es X.env)).any (·.1) = false := by rfl) :
    PD X Ex (.Call (.Name x p) (e :: es) [] pos) (dCall f t) := pd_of (pe_callTy hc hg hm hv ha.out hn hdb he hpl) (tCB_of h)
/-! len -/
def fLen : Ow → List D → R D := fun O xs => match xs with
  | [x] => match lsV O x with
    | some ds => .ok (.int ds.length) O
    | none => match tpV x with
      | some ds => .ok (.int ds.length) O
      | none => match x with
        | .str cs => if cs.length ≤ 100000 then .ok (.int cs.length) O else .bad
        | _ => .bad
  | _ => .bad
theorem cd_len : CallD X Ex (fun xs H Q => ∃ x n, xs = [x] ∧ LenV X.K x H n ∧ Q (.int n) H) fLen := by
  intro H hid μ O xs vs Q c d q
  unfold fLen at q
  split at q
  · rename_i x
    obtain ⟨v, rfl, dx⟩ := dats1 d
    split at q
    · rename_i ds e
      obtain ⟨p, ws, rfl, sq, dd⟩ := lsV_at c dx e
      exact ⟨_, ds.length, rfl, .inl ⟨ws, sq, dd.length⟩, post.here q c dat_int⟩
    · split at q
      · rename_i ds e
        obtain ⟨p, ws, rfl, sq, dd⟩ := tpV_at dx e
        exact ⟨_, ds.length, rfl, .inr ⟨ws, sq, dd.length⟩, post.here q c dat_int⟩
      · split at q
        · rename_i cs _ _
          unfold Dat at dx; subst dx
          obtain ⟨hl, q⟩ := post.ite q
          refine ⟨_, cs.length, rfl, ⟨?_, ?_⟩, post.here q c dat_int⟩
          · show cs.toArray.size ≤ _
            rw [List.size_toArray]; exact small_line hl
          · show cs.length = cs.toArray.size
            rw [List.size_toArray]
        · exact False.elim q
  · exact False.elim q
/-! int, str, tuple, list -/
def fInt : Ow → List D → R D := fun O xs => match xs with
  | [.int i] => .ok (.int i) O
  | [.bl k] => .ok (.int (if k then 1 else 0)) O
  | _ => .bad
theorem cd_int : CallD X Ex (fun xs H Q => (∃ i, xs = [.int i] ∧ Q (.int i) H) ∨ ∃ k, xs = [.bl k] ∧ Q (.int (if k then 1 else 0)) H) fInt := by
  intro H hid μ O xs vs Q c d q
  unfold fInt at q
  split at q
  · obtain ⟨v, rfl, dx⟩ := dats1 d
    unfold Dat at dx; subst dx
    exact .inl ⟨_, rfl, post.here q c dat_int⟩
  · obtain ⟨v, rfl, dx⟩ := dats1 d
    unfold Dat at dx; subst dx
    exact .inr ⟨_, rfl, post.here q c dat_int⟩
  · exact False.elim q
/-! max, min of two ints -/
def fMax2 : Ow → List D → R D := fun O xs => match xs with
  | [.int i, .int j] => .ok (.int (if j > i then j else i)) O
  | _ => .bad
def fMin2 : Ow → List D → R D := fun O xs => match xs with
  | [.int i, .int j] => .ok (.int (if j < i then j else i)) O
  | _ => .bad
theorem cd_max2 : CallD X Ex (fun xs H Q => ∃ i j, xs = [.int i, .int j] ∧ Q (.int (if j > i then j else i)) H) fMax2 := by
  intro H hid μ O xs vs Q c d q
  unfold fMax2 at q
  split at q
  · obtain ⟨v, w, rfl, d1, d2⟩ := dats2 d
    unfold Dat at d1 d2; subst d1; subst d2
    exact ⟨_, _, rfl, post.here q c dat_int⟩
  · exact False.elim q
theorem cd_min2 : CallD X Ex (fun xs H Q => ∃ i j, xs = [.int i, .int j] ∧ Q (.int (if j < i then j else i)) H) fMin2 := by
  intro H hid μ O xs vs Q c d q
  unfold fMin2 at q
  split at q
  · obtain ⟨v, w, rfl, d1, d2⟩ := dats2 d
    unfold Dat at d1 d2; subst d1; subst d2
    exact ⟨_, _, rfl, post.here q c dat_int⟩
  · exact False.elim q
end
/-! ### defs of the text -/
/-- what a def promises, by data; exceptions: E of the class by number -/
def DSp (K : PySem.W.Frag) (Ec : XK → Nat → Hp → Prop) (n : Nat) (F : List D → Ow → R D) : Sp := fun vs H Q E => vs.length = n ∧ ∃ hid μ ds O, Dats K H hid μ ds vs ∧ Cells K H hid μ O ∧ postE (Ec E) K H hid μ (F ds O) Q
abbrev Ec0 : XK → Nat → Hp → Prop := fun _ _ _ => False
section
variable {X : Cx} {CX : CXT} {k : Nat} {f : Addr} {fd : FuncData} {ps : List Str} {E : XK} {Ec : XK → Nat → Hp → Prop} {x : Str} {p pos : Pos} {e : Expr} {es : List Expr} {t : DA} {F : List D → Ow → R D} {n : Nat}
def dFn (n : Nat) (F : List D → Ow → R D) (t : DA) : DE := fun σ O => (t σ O).bnd fun ds O1 => if ds.length = n then F ds O1 else .bad
theorem pd_fn (G : FnOk X.prog X.w X.K X.mg X.base CX k f fd ps (DSp X.K Ec n F)) (hr : Room k X.A) (hg : Gl X x) (hm : X.mg x = some (.ref f)) (hk : PySem.W.keepIn X.K (.ref f) = true) (hb : Binds X.K fd ps []) (hx : Passes CX X E) (ha : PDA X (Ec E) (e :: es) t)
    (hdb : (x == ("__debug__" : Str)) = false := by decide) (he : starEach (e :: es) X.env = (false, eval e X.env) :: starEach es X.env := by rfl) (hpl : (backTo pos (starEach es X.env)).any (·.1) = false := by rfl) :
    PD X (Ec E) (.Call (.Name x p) (e :: es) [] pos) (dFn n F t) :=
  pd_of (pe_call (dvs := []) (ds := []) G hr hg hm hk hb .nil hx ha.out hdb he hpl) fun hid μ σ O σv H Q e1 c1 q => rdA.go e1 c1 q fun ds O1 vs H1 μ1 e2 x2 c2 d2 q2 => by
    obtain ⟨hl, q2⟩ := post.ite q2
    refine ⟨by rw [List.append_nil, ← d2.length]; exact hl, hid, μ1, ds, O1, ?_, c2, q2⟩
    rw [List.append_nil]; exact d2
end
/-- a body's outcome as a def's -/
def fin (r : RS) : R D := match r with
  | .nx _ O => .ok .non O
  | .rt d O => .ok d O
  | .exc c O => .exc c O
  | _ => .bad
def runF (n : Nat) (t : DS) : List D → Ow → R D := fun ds O => fin (t (ds.map some ++ List.replicate (n - ds.length) none) O)
theorem envOk_start {K : PySem.W.Frag} {H : Hp} {hid μ : List Addr} {ds : List D} {vs : List V} (h : Dats K H hid μ ds vs) (N : List Str) : EnvOk K H hid μ (ds.map some ++ List.replicate (N.length - ds.length) none) (L2.start N vs) := by
  unfold L2.start
  have hl := h.length
  refine ⟨by simp [hl], fun i d e => ?_⟩
  have hi : i < ds.length := by
    by_cases hi : i < ds.length
    · exact hi
    · rw [List.getElem?_append_right (by simpa using hi), List.getElem?_replicate] at e
      split at e <;> cases e
  rw [List.getElem?_append_left (by simpa using hi), List.getElem?_map] at e
  cases q : ds[i]? with
  | none => rw [q] at e; cases e
  | some d' =>
    rw [q] at e; cases e
    obtain ⟨v, h1, h2⟩ := h.get q
    exact ⟨v, by rw [List.getElem?_append_left (by simp; omega), List.getElem?_map, h1]; rfl, h2⟩
end DL

namespace DL
open PySem L2
/-! ### isinstance -/
def kindD : D → String
  | .non => "NoneType"
  | .bl _ => "bool"
  | .int _ => "int"
  | .str _ => "str"
  | .lst _ => "list"
  | .own _ => "list"
  | .tup _ => "tuple"
  | .dct => "dict"
  | .exn _ => "exception"
  | .tab _ => "bool"
/-- of the built-in kinds -/
def isiB (t c : String) : Bool := t == c || (t == "bool" && c == "int")
section
variable {X : Cx} {Ex : Nat → Hp → Prop} {pos : Pos} {a b c e : Expr} {ta tb tc te : DE} {pins : List (Addr × Obj)} {σv : St} {H : Hp} {s : Shared} {hid μ : List Addr} {O : Ow}
def kinds : List String := ["NoneType", "bool", "int", "str", "list", "tuple", "dict"]
theorem kit_all (K : PySem.W.Frag) {t c : String} (ht : t ∈ kinds) (hc : c ∈ ["int", "bool", "str", "list", "tuple", "dict"]) : PySem.W.kitOne K (.type t) (.type c) = some (isiB t c) := by
  simp only [kinds, List.mem_cons, List.not_mem_nil, or_false] at ht hc
  rcases ht with rfl | rfl | rfl | rfl | rfl | rfl | rfl <;> rcases hc with rfl | rfl | rfl | rfl | rfl | rfl <;> first | rfl | decide
/-- the value's kind, as the library asks for it -/
theorem kitx_of_dat {v : V} {u : Value} {d : D} (I : L2.Inv X pins σv H s) (cl : Cells X.K H hid μ O) (h : Dat X.K H hid μ d v) (r : RelV v u) : ∃ (T : Value) (Hh : Heap → Prop), PySem.W.KitX X.K u T Hh ∧ Hh s.heap ∧ u ≠ .builtin "__main__.__loader__#opaque" ∧ ∀ c ∈ (["int", "bool", "str", "list", "tuple", "dict"] : List String), PySem.W.kitOne X.K T (.type c) = some (isiB (kindD d) c) := by
  cases d with
  | non => unfold Dat at h; subst h; cases r; exact ⟨.type "NoneType", _, PySem.W.kitx_none, True.intro, (fun z => nomatch z), fun c hc => kit_all X.K (t := "NoneType") (by simp [kinds]) hc⟩
  | bl _ => unfold Dat at h; subst h; cases r; exact ⟨.type "bool", _, PySem.W.kitx_bool, True.intro, (fun z => nomatch z), fun c hc => kit_all X.K (t := "bool") (by simp [kinds]) hc⟩
  | int _ => unfold Dat at h; subst h; obtain ⟨t, rfl⟩ := r; exact ⟨.type "int", _, PySem.W.kitx_int, True.intro, (fun z => nomatch z), fun c hc => kit_all X.K (t := "int") (by simp [kinds]) hc⟩
  | str _ => unfold Dat at h; subst h; obtain ⟨t, rfl⟩ := r; exact ⟨.type "str", _, PySem.W.kitx_str, True.intro, (fun z => nomatch z), fun c hc => kit_all X.K (t := "str") (by simp [kinds]) hc⟩
  | lst ds =>
    unfold Dat at h
    obtain ⟨p, vs, rfl, l, q⟩ := h
    cases r
    obtain ⟨its, rv, ⟨o, n, h1, h2, _⟩, _⟩ := I.list l.sq
    exact ⟨.type "list", _, PySem.W.kitx_list, ⟨o, h1, h2⟩, (fun z => nomatch z), fun c hc => kit_all X.K (t := "list") (by simp [kinds]) hc⟩
  | own k =>
    unfold Dat at h
    obtain ⟨p, rfl, hk⟩ := h
    cases r
    obtain ⟨ds, vs, _, h2, _⟩ := cl.at_ k p hk
    obtain ⟨its, rv, ⟨o, n, h1, h2, _⟩, _⟩ := I.list (.of h2)
    exact ⟨.type "list", _, PySem.W.kitx_list, ⟨o, h1, h2⟩, (fun z => nomatch z), fun c hc => kit_all X.K (t := "list") (by simp [kinds]) hc⟩
  | tup ds =>
    unfold Dat at h
    obtain ⟨p, vs, rfl, l, q⟩ := h
    cases r
    obtain ⟨its, rv, ⟨o, h1, h2, _⟩, _⟩ := I.tuple l.sq
    exact ⟨.type "tuple", _, PySem.W.kitx_tuple, ⟨o, h1, h2⟩, (fun z => nomatch z), fun c hc => kit_all X.K (t := "tuple") (by simp [kinds]) hc⟩
  | dct =>
    unfold Dat at h
    obtain ⟨p, rfl, hr, _⟩ := h
    cases r
    obtain ⟨_, _, vs, _, o, es, ep, h1, h2, _⟩ := Rd.ok hr I.hok
    exact ⟨.type "dict", _, PySem.W.kitx_dict, ⟨o, h1, h2.1⟩, (fun z => nomatch z), fun c hc => kit_all X.K (t := "dict") (by simp [kinds]) hc⟩
  | tab _ => unfold Dat at h; obtain ⟨rfl, _⟩ := h; cases r; exact ⟨.type "bool", _, PySem.W.kitx_bool, True.intro, (fun z => nomatch z), fun c hc => kit_all X.K (t := "bool") (by simp [kinds]) hc⟩
  | exn C =>
    unfold Dat at h
    obtain ⟨p, φ, rfl, ⟨k, g⟩, hr, _⟩ := h
    cases r
    obtain ⟨y, _⟩ := Rd.ok hr I.hok
    refine ⟨_, _, kitx_x k, g _ y, (fun z => nomatch z), fun c hc => ?_⟩
    rw [k.kit c hc]
    simp only [List.mem_cons, List.not_mem_nil, or_false] at hc
    rcases hc with rfl | rfl | rfl | rfl | rfl | rfl <;> rfl
def kOk : List String := ["int", "bool", "str", "list", "tuple", "dict"]
theorem call_isi1 : CallR X (.builtin "isinstance") (fun xs H Q => ∃ x C hid μ O d, xs = [x, .ty C] ∧ C ∈ kOk ∧ Cells X.K H hid μ O ∧ Dat X.K H hid μ d x ∧ Q (.bl (isiB (kindD d) C)) H) := by
  intro pins s σ H xs us Q I r h
  obtain ⟨x, C, hid, μ, O, d, rfl, hC, cl, dx, q⟩ := h
  obtain ⟨u, w', rfl, rx, rc⟩ := vals2 r
  cases rc
  obtain ⟨T, Hh, Z, p, hx, hk⟩ := kitx_of_dat I cl dx rx
  exact PySem.W.kia_one Z I.kIn p (hk _ hC) hx fun tk => ⟨.bl _, H, I.tok tk, rfl, q⟩
/-- isinstance(x, T) -/
def dIsi (C : String) (t : DE) : DE := fun σ O => (t σ O).bnd fun d O1 => .ok (.bl (isiB (kindD d) C)) O1
theorem pd_isi {C : Str} {n : String} {p p' : Pos} (ha : PD X Ex a ta) (hn : n ∈ kOk) (hg : Gl X "isinstance") (hm : X.mg "isinstance" = none) (hv : bootBuiltins "isinstance" = some (.builtin "isinstance")) (hgC : Gl X C) (hmC : X.mg C = none) (hvC : bootBuiltins C = some (.type n)) (hCn : C ≠ "__name__" := by decide)
    (hCd : (C == ("__debug__" : Str)) = false := by decide) (he : starEach [a, .Name C p'] X.env = (false, eval a X.env) :: starEach [.Name C p'] X.env := by rfl) (he2 : starEach [.Name C p'] X.env = [(false, eval (.Name C p') X.env)] := by rfl) (hpl : (backTo pos (starEach [.Name C p'] X.env)).any (·.1) = false := by rfl) :
    PD X Ex (.Call (.Name "isinstance" p) [a, .Name C p'] [] pos) (dIsi n ta) :=
  pd_of (pe_callB (call_isi1 (X := X)) hg hm hv (pa_cons ha.out (pa_cons (pe_bltn (v := .ty n) hgC hmC hvC rfl hCn hCd) pa_nil he2) he) (by decide) (by decide) he hpl) fun hid μ σ O σv H Q e1 c1 q => rd.go e1 c1 q fun d O1 v H1 μ1 e2 x cl r p2 =>
    ⟨v, n, hid, μ1, O1, d, rfl, hn, cl, r, post.here p2 cl dat_bl⟩
/-! ### x.append(e) -/
def dApp (to : DE) (t : DA) : DE := fun σ O => (to σ O).bnd fun x O1 => match x with
  | .own k => (t σ O1).bnd fun ys O2 => match ys, O2[k]? with
    | [y], some ds => if ds.length < 100000 then .ok .non (O2.set k (ds ++ [y])) else .bad
    | _, _ => .bad
  | _ => .bad
theorem pd_append {o : Expr} {to : DE} {t : DA} {es : List Expr} {apos cpos : Pos} (ho : PD X Ex o to) (ha : PDA X Ex (e :: es) t) (hbase : attributeBase o "append" X.env (eval o X.env) = eval o X.env := by rfl)
    (hfew : ((backTo cpos (starEach (e :: es) X.env)).all (fun x => !x.1) && (backToKw cpos (keywordEach [] X.env)).all (fun x => x.1.isSome) && decide ((e :: es).length + ([] : List Keyword).length + (if ([] : List Keyword).isEmpty then 0 else 1) < 30)) = true := by rfl)
    (hline : (apos.endLine == cpos.line) = true := by rfl) (hs : starEach (e :: es) X.env = (false, eval e X.env) :: starEach es X.env := by rfl) (hplain : (backTo cpos (starEach es X.env)).any (·.1) = false := by rfl) :
    PD X Ex (.Call (.Attribute o "append" apos) (e :: es) [] cpos) (dApp to t) :=
  pd_of (pe_bm PySem.F.plainAttrs_list PySem.F.slot_list_append PySem.F.type_list_append mt_append ho.out ha.out hbase hfew hline hs hplain) fun hid μ σ O σv H Q e1 c1 q => rd.go e1 c1 q fun d O1 v H1 μ1 e2 x cl r p => by
    cases d with
    | own k =>
      have hr := r
      unfold Dat at r
      obtain ⟨A, rfl, hk⟩ := r
      obtain ⟨ds, vs, h1, h2, h3⟩ := cl.at_ k A hk
      refine ⟨.inl ⟨rfl, vs, .of h2⟩, rdA.go e2 cl p fun ys O2 ws H2 μ2 e3 x3 c3 d3 p3 => ?_⟩
      split at p3
      · rename_i y es' hds
        obtain ⟨hl, p3⟩ := post.ite p3
        obtain ⟨w, rfl, dw⟩ := dats1 d3
        have hk2 : μ2[k]? = some A := by
          have := hr.ext x3
          unfold Dat at this
          obtain ⟨A', e', hk'⟩ := this
          cases e'; exact hk'
        obtain ⟨ds2, vs2, g1, g2, g3⟩ := c3.at_ k A hk2
        rw [hds] at g1; cases g1
        refine ⟨A, vs2, w, rfl, rfl, g2, Nat.lt_of_lt_of_le (by rw [← g3.length]; exact hl) (by decide), ?_⟩
        exact post.ok p3 (.put (List.mem_of_getElem? hk2) ⟨_, g2⟩) (c3.put hk2 (g3.append (.cons dw .nil))) dat_non
      · exact False.elim p3
    | _ => exact False.elim p
/-! ### x[i] = e -/
def sPut (te to ti : DE) : DS := fun σ O => (te σ O).bnS fun y O1 => (to σ O1).bnS fun x O2 => (ti σ O2).bnS fun i O3 => match x, i with
  | .own k, .int i => match O3[k]? with
    | some ds => match ixN ds.length i with
      | some j => .nx σ (O3.set k (ds.set j y))
      | none => .bad
    | none => .bad
  | _, _ => .bad
theorem pds_put {o i : Expr} {to ti : DE} {spos : Pos} (he : PD X Ex e te) (ho : PD X Ex o to) (hi : PD X Ex i ti) (ha : ∀ v, assign (.Subscript o i pos) X.env v = (do
      let ov ← holding [v] (eval o X.env)
      let iv ← holding [v, ov] (eval i X.env)
      standAt pos
      holding [v, ov, iv] (setItem ov iv v)
      release [v, ov, iv] []) := by intro _; rfl) (hs : swapsWithSole [.Subscript o i pos] e spos.line X.env = pure false := by rfl) (hw : swappedStores [.Subscript o i pos] e X.env = pure none := by rfl)
    (h1 : (assignEach [.Subscript o i pos] X.env).map (·.2) = [assign (.Subscript o i pos) X.env] := by rfl) : PDS X Ex (.Assign [.Subscript o i pos] e spos) (sPut te to ti) :=
  pds_of (ps_asg he.out (pg_sub ho.out hi.out set_list ha) hs hw h1) fun hid μ σ O E σv H e1 c1 q => rd.goS e1 c1 q fun y O1 v H1 μ1 e2 x1 c2 d2 q2 => rd.goS e2 c2 q2 fun x O2 u H2 μ2 e3 x2 c3 d3 q3 => rd.goS e3 c3 q3 fun ii O3 w H3 μ3 e4 x3 c4 d4 q4 => by
    split at q4
    · rename_i k j
      split at q4
      · rename_i ds hds
        split at q4
        · rename_i m hm
          have d3' := d3.ext x3
          unfold Dat at d3' d4
          obtain ⟨A, rfl, hk⟩ := d3'
          subst d4
          obtain ⟨ds2, vs2, g1, g2, g3⟩ := c4.at_ k A hk
          rw [hds] at g1; cases g1
          refine ⟨A, vs2, j, m, rfl, rfl, g2, by rw [← g3.length]; exact hm, ?_⟩
          exact q4 σv _ μ3 (.put (List.mem_of_getElem? hk) ⟨_, g2⟩) (e4.ext (.put (List.mem_of_getElem? hk) ⟨_, g2⟩)) (c4.put hk (g3.set ((d2.ext x2).ext x3) m))
        · exact False.elim q4
      · exact False.elim q4
    · exact False.elim q4
/-! ### all, any of truths -/
def bls : List D → Option (List Bool)
  | [] => some []
  | .bl b :: r => (bls r).map (b :: ·)
  | _ => none
theorem bls_at {K : PySem.W.Frag} : ∀ {ds : List D} {vs : List V} {bs : List Bool}, Dats K H hid μ ds vs → bls ds = some bs → vs = bs.map V.bl
  | [], vs, bs, h, e => by unfold Dats at h; subst h; cases e; rfl
  | d :: ds, vs, bs, h, e => by
    unfold Dats at h
    obtain ⟨v, r, rfl, h1, h2⟩ := h
    cases d with
    | bl b =>
      unfold bls at e
      cases q : bls ds with
      | none => rw [q] at e; cases e
      | some cs =>
        rw [q] at e; cases e
        unfold Dat at h1; subst h1
        rw [bls_at h2 q]; rfl
    | _ => cases e
def fAll : Ow → List D → R D := fun O xs => match xs with
  | [x] => match lsV O x with
    | some ds => match bls ds with
      | some bs => .ok (.bl (bs.all id)) O
      | none => .bad
    | none => .bad
  | _ => .bad
def fAny : Ow → List D → R D := fun O xs => match xs with
  | [x] => match lsV O x with
    | some ds => match bls ds with
      | some bs => .ok (.bl (bs.any id)) O
      | none => .bad
    | none => .bad
  | _ => .bad
theorem cd_all : CallD X Ex (fun xs H Q => ∃ (p : Addr) (bs : List Bool), xs = [.ref p] ∧ SqL X.K H p (bs.map V.bl) ∧ Q (.bl (bs.all id)) H) fAll := by
  intro H hid μ O xs vs Q c d q
  unfold fAll at q
  split at q
  · rename_i x
    obtain ⟨v, rfl, dx⟩ := dats1 d
    split at q
    · rename_i ds e
      obtain ⟨p, ws, rfl, sq, dd⟩ := lsV_at c dx e
      split at q
      · rename_i bs eb
        refine ⟨p, bs, rfl, ?_, post.here q c dat_bl⟩
        rw [← bls_at dd eb]; exact sq
      · exact False.elim q
    · exact False.elim q
  · exact False.elim q
theorem range_all (bs : List Bool) : (List.range bs.length).all (fun i => bs.getD i true) = bs.all id := by
  rw [Bool.eq_iff_iff, List.all_eq_true, List.all_eq_true]
  constructor
  · intro h b hb
    obtain ⟨i, hi, e⟩ := List.mem_iff_getElem.mp hb
    have := h i (by simpa using hi)
    rw [List.getD_eq_getElem?_getD, List.getElem?_eq_getElem hi, e] at this
    exact this
  · intro h i hi
    have hi : i < bs.length := by simpa using hi
    rw [List.getD_eq_getElem?_getD, List.getElem?_eq_getElem hi]
    exact h _ (List.getElem_mem hi)
theorem bool_at {bs : List Bool} {its : List Value} (r : Vals (bs.map V.bl) its) {i : Nat} {v : Value} (h : its.toArray[i]? = some v) : v = .bool (bs.getD i true) := by
  have h : its[i]? = some v := by simpa using h
  have hi : i < bs.length := by
    have := r.length
    have := (List.getElem?_eq_some_iff.mp h).1
    simp at *; omega
  obtain ⟨u, h1, h2⟩ := r.get (i := i) (x := .bl bs[i]) (by rw [List.getElem?_map, List.getElem?_eq_getElem hi]; rfl)
  rw [h] at h1; cases h1
  cases h2
  rw [List.getD_eq_getElem?_getD, List.getElem?_eq_getElem hi]; rfl
theorem call_allB (hc : X.calm = true) : CallR X (.builtin "all") (fun xs H Q => ∃ (p : Addr) (bs : List Bool), xs = [.ref p] ∧ SqL X.K H p (bs.map V.bl) ∧ Q (.bl (bs.all id)) H) := by
  intro pins s σ H xs us Q I r h
  obtain ⟨p, bs, rfl, sq, q⟩ := h
  obtain ⟨u, rfl, ru⟩ := vals1 r
  cases ru
  obtain ⟨its, rv, pl, hz⟩ := I.list sq
  have hl : its.toArray.size = bs.length := by have := rv.length; simp at *; omega
  have hne : p ≠ s.heap.objs.size := by obtain ⟨o, n, e, _⟩ := pl; exact Nat.ne_of_lt (Heap.lt_size e)
  refine call_all_walk (wpAny_pyIter_list pl.isList ?_)
  refine ⟨s.heap.objs.size, _, _, its.toArray.size, _, _, fun i => bs.getD i true, rfl, Walks.list (show X.A.in1.handled = none from I.ok.hd hc) _ p hne its.toArray, ⟨⟨_, Heap.get?_push_size _ rfl, rfl, rfl⟩, pl.isList.push _⟩, fun i v s' Q' E' hP hQ => ?_, fun h' tk hk => ?_⟩
  · rw [bool_at rv hP]; exact wpAny_truthy_bool hQ
  · rw [hl, range_all]
    exact ⟨.bl _, H, I.kept (t' := tk) fun b o e => hk b o (by simpa using Nat.ne_of_lt (Heap.lt_size e)) (Heap.get?_push_of_some _ e), rfl, q⟩
end
end DL

namespace DL
open PySem L2
section
variable {X : Cx} {Ex : Nat → Hp → Prop} {pos : Pos} {a b c e o : Expr} {ta tb tc te to : DE} {pins : List (Addr × Obj)} {σv : St} {H : Hp} {s : Shared} {hid μ : List Addr} {O : Ow}
/-! ### x + y -/
def rCatL (K : PySem.W.Frag) : R2 := fun x y H Q => ∃ l b xs zs, x = .ref l ∧ y = .ref b ∧ SqL K H l xs ∧ SqL K H b zs ∧ xs.length + zs.length ≤ sizeLine ∧ ∀ p, H p = none → Q (.ref p) (upd H p (.lst (xs ++ zs)))
theorem op_catL : OpR X (binaryOp .Add) (rCatL X.K) := by
  intro pins s σ H x y v u Q I rx ry h
  obtain ⟨l, b, xs, zs, rfl, rfl, h1, h2, hz, q⟩ := h
  cases rx
  cases ry
  obtain ⟨its, r1, p1, z1⟩ := I.list h1
  obtain ⟨its2, r2, p2, z2⟩ := I.list h2
  obtain ⟨⟨c1, d1, t1, s1⟩, n1, g1, k1, m1, w1⟩ := p1
  obtain ⟨⟨c2, d2, t2, s2⟩, n2, g2, k2, m2, w2⟩ := p2
  simp only at k1 m1 w1 k2 m2 w2
  subst k1 m1 w1 k2 m2 w2
  have ea : its.toArray ++ its2.toArray = (its ++ its2).toArray := by simp
  have l1 := r1.length
  have l2 := r2.length
  refine PySem.concat_meets ⟨_, g1, rfl⟩ ⟨_, g2, rfl⟩ PySem.noFill_list_add PySem.seq_list_add PySem.F.slot_list_add PySem.F.entry_list_add (PySem.F.args_list_add_2 _ _)
    (PyProof.Rows.list_addW l b its.toArray its2.toArray n1 n2 none none s1 s2 (by simp only [List.size_toArray]; omega)) ⟨g1, g2, ?_⟩
  rw [ea]
  exact ⟨.ref _, _, I.lnew (t' := s.toks) (r1.append r2) (by rw [List.length_append]; omega), rfl, q _ I.fresh⟩
/-- ints, texts, lists, tuples (the left one not empty) -/
def fAdd : Ow → D → D → R D := fun O x y => match x, y with
  | .int i, .int j => .ok (.int (i + j)) O
  | .str p, .str q => if p.length + q.length ≤ 100000 then .ok (.str (p ++ q)) O else .bad
  | .tup xs, .tup ys => if xs ≠ [] ∧ xs.length + ys.length ≤ 100000 then .ok (.tup (xs ++ ys)) O else .bad
  | x, y => match lsV O x, lsV O y with
    | some xs, some ys => if xs.length + ys.length ≤ 100000 then .ok (.lst (xs ++ ys)) O else .bad
    | _, _ => .bad
def rAdd' (K : PySem.W.Frag) : R2 := fun x y H Q => (∃ i j, x = .int i ∧ y = .int j ∧ Q (.int (i + j)) H) ∨ (∃ i j, x = .str i ∧ y = .str j ∧ i.length + j.length ≤ sizeLine ∧ Q (.str (i ++ j)) H) ∨ rCatT K x y H Q ∨ rCatL K x y H Q
theorem op_addA : OpR X (binaryOp .Add) (rAdd' X.K) := OpR.or op_add (OpR.or op_add_str (OpR.or op_catT op_catL))
theorem opd_add : OpD X Ex (rAdd' X.K) fAdd := by
  intro H hid μ O x y v w Q c dx dy q
  unfold fAdd at q
  split at q
  · unfold Dat at dx dy; subst dx; subst dy
    exact .inl ⟨_, _, rfl, rfl, post.here q c dat_int⟩
  · rename_i p q'
    unfold Dat at dx dy; subst dx; subst dy
    obtain ⟨hl, q⟩ := post.ite q
    refine .inr (.inl ⟨_, _, rfl, rfl, ?_, ?_⟩)
    · show p.toArray.size + q'.toArray.size ≤ _
      simp only [List.size_toArray]; exact small_line hl
    · have e : ((⟨p.toArray⟩ : Str) ++ (⟨q'.toArray⟩ : Str)) = ⟨(p ++ q').toArray⟩ := by
        show (⟨p.toArray ++ q'.toArray⟩ : Str) = _
        simp
      rw [e]
      exact post.here q c dat_str
  · rename_i xs ys
    have dx0 := dx
    unfold Dat at dx dy
    obtain ⟨p, vs, rfl, l1, q1⟩ := dx
    obtain ⟨p', vs', rfl, l2, q2⟩ := dy
    obtain ⟨⟨hn, hl⟩, q⟩ := post.ite q
    have e1 := q1.length
    have e2 := q2.length
    refine .inr (.inr (.inl ⟨p, p', vs, vs', rfl, rfl, l1.sq, l2.sq, ?_, small_line (by omega), ?_, ?_⟩))
    · rintro rfl
      exact hn (List.length_eq_zero_iff.mp e1)
    · rintro rfl
      have : ys = [] := List.length_eq_zero_iff.mp e2
      subst this
      rw [List.append_nil] at q
      exact post.here q c dx0
    · intro _ l hl0
      exact post.ok q (.laid hl0) (c.laid hl0) (Dat.newT c hl0 (q1.append q2))
  · split at q
    · rename_i xs ys e1 e2
      obtain ⟨p, vs, rfl, s1, q1⟩ := lsV_at c dx e1
      obtain ⟨p', vs', rfl, s2, q2⟩ := lsV_at c dy e2
      obtain ⟨hl, q⟩ := post.ite q
      have l1 := q1.length
      have l2 := q2.length
      exact .inr (.inr (.inr ⟨p, p', vs, vs', rfl, rfl, s1, s2, small_line (by omega), fun l hl0 => post.ok q (.laid hl0) (c.laid hl0) (Dat.newL c hl0 (q1.append q2))⟩))
    · exact False.elim q
theorem pd_add (ha : PD X Ex a ta) (hb : PD X Ex b tb) : PD X Ex (.BinOp a .Add b pos) (dOp fAdd ta tb) := pd_op op_addA opd_add ha hb
/-! ### str(i) -/
def txtI (i : Int) : List Nat := ((toString i : Str)).cps.toList
def fStrI : Ow → List D → R D := fun O xs => match xs with
  | [.int i] => if i.natAbs < 2 ^ 64 then .ok (.str (txtI i)) O else .bad
  | _ => .bad
theorem log2_small {n : Nat} (h : n < 2 ^ 64) : n.log2 < 1920 := by
  by_cases hn : n = 0
  · subst hn; decide
  · have := (Nat.log2_lt hn (k := 64)).mpr h
    omega
theorem str_eta (x : Str) : (⟨x.cps.toList.toArray⟩ : Str) = x := by
  cases x; simp
theorem cd_strI : CallD X Ex (fun xs H Q => ∃ i, xs = [.int i] ∧ i.natAbs.log2 < 1920 ∧ Q (.str (toString i)) H) fStrI := by
  intro H hid μ O xs vs Q c d q
  unfold fStrI at q
  split at q
  · rename_i i
    obtain ⟨v, rfl, dx⟩ := dats1 d
    unfold Dat at dx; subst dx
    obtain ⟨hl, q⟩ := post.ite q
    refine ⟨i, rfl, log2_small hl, post.here q c ?_⟩
    unfold Dat txtI
    rw [str_eta]
  · exact False.elim q
/-! ### methods of texts: one text more -/
def rS1 (g : Str → Str → Option V) : V → List V → Hp → VK → Prop := fun x xs H Q => ∃ i j v, x = .str i ∧ xs = [.str j] ∧ g i j = some v ∧ Q v H
def dS1 (g : List Nat → List Nat → Option D) (to : DE) (t : DA) : DE := fun σ O => (to σ O).bnd fun x O1 => match x with
  | .str i => (t σ O1).bnd fun ys O2 => match ys with
    | [.str j] => match g i j with
      | some d => .ok d O2
      | none => .bad
    | _ => .bad
  | _ => .bad
theorem pd_s1 {t : DA} {es : List Expr} {apos cpos : Pos} {name : Str} {id : String} {gv : Str → Str → Option V} {g : List Nat → List Nat → Option D} (slot : Slot "str" name id) (hty : typeOf (.builtin id) = pure (.type "method_descriptor")) (hm : MtR X id (rS1 gv))
    (hgg : ∀ i j d, g i j = some d → ∃ v, gv ⟨i.toArray⟩ ⟨j.toArray⟩ = some v ∧ ∀ K H hid μ, Dat K H hid μ d v) (ho : PD X Ex o to) (ha : PDA X Ex (e :: es) t) (hbase : attributeBase o name X.env (eval o X.env) = eval o X.env := by rfl)
    (hfew : ((backTo cpos (starEach (e :: es) X.env)).all (fun x => !x.1) && (backToKw cpos (keywordEach [] X.env)).all (fun x => x.1.isSome) && decide ((e :: es).length + ([] : List Keyword).length + (if ([] : List Keyword).isEmpty then 0 else 1) < 30)) = true := by rfl)
    (hline : (apos.endLine == cpos.line) = true := by rfl) (hs : starEach (e :: es) X.env = (false, eval e X.env) :: starEach es X.env := by rfl) (hplain : (backTo cpos (starEach es X.env)).any (·.1) = false := by rfl) :
    PD X Ex (.Call (.Attribute o name apos) (e :: es) [] cpos) (dS1 g to t) :=
  pd_of (pe_bm PySem.F.plainAttrs_str slot hty hm ho.out ha.out hbase hfew hline hs hplain) fun hid μ σ O σv H Q e1 c1 q => rd.go e1 c1 q fun d O1 v H1 μ1 e2 x cl r p => by
    cases d with
    | str i =>
      unfold Dat at r
      subst r
      refine ⟨rfl, rdA.go e2 cl p fun ys O2 ws H2 μ2 e3 x3 c3 d3 p3 => ?_⟩
      split at p3
      · rename_i j
        obtain ⟨w, rfl, dw⟩ := dats1 d3
        unfold Dat at dw; subst dw
        split at p3
        · rename_i d hd
          obtain ⟨v, h1, h2⟩ := hgg _ _ _ hd
          exact ⟨_, _, v, rfl, rfl, h1, post.here p3 c3 (h2 _ _ _ _)⟩
        · exact False.elim p3
      · exact False.elim p3
    | _ => exact False.elim p
/-! ### sep.join(list of texts) -/
def strsD : List D → Option (List Str)
  | [] => some []
  | .str cs :: r => (strsD r).map (⟨cs.toArray⟩ :: ·)
  | _ => none
theorem strs_at {K : PySem.W.Frag} : ∀ {ds : List D} {vs : List V} {ys : List Str}, Dats K H hid μ ds vs → strsD ds = some ys → vs = ys.map V.str
  | [], vs, ys, h, e => by unfold Dats at h; subst h; cases e; rfl
  | d :: ds, vs, ys, h, e => by
    unfold Dats at h
    obtain ⟨v, r, rfl, h1, h2⟩ := h
    cases d with
    | str cs =>
      unfold strsD at e
      cases q : strsD ds with
      | none => rw [q] at e; cases e
      | some zs =>
        rw [q] at e; cases e
        unfold Dat at h1; subst h1
        rw [strs_at h2 q]; rfl
    | _ => cases e
theorem strsAre_of : ∀ {ys : List Str} {us : List Value}, Vals (ys.map V.str) us → PyProof.Rows.StrsAre us ys := by
  intro ys
  induction ys with
  | nil => intro us r; rw [List.map_nil] at r; cases r; exact .nil
  | cons y ys ih =>
    intro us r
    rw [List.map_cons] at r
    cases r with
    | cons r1 r2 =>
      obtain ⟨t, e⟩ := r1
      subst e
      exact .cons y t (ih r2)
def rJoin (K : PySem.W.Frag) : V → List V → Hp → VK → Prop := fun x xs H Q => ∃ i p ys, x = .str i ∧ xs = [.ref p] ∧ (SqL K H p (ys.map V.str) ∨ SqT K H p (ys.map V.str)) ∧ i.length ≤ 16 ∧ (ys.map (·.length)).sum + ys.length ≤ 1048576 ∧ Q (.str (Txt.join i ys)) H
theorem mt_join : MtR X "str.join" (rJoin X.K) := by
  intro pins s σ H x xs v us Q I rx rs h
  obtain ⟨i, p, ys, rfl, rfl, sq, hi, hw, q⟩ := h
  obtain ⟨t, rfl⟩ := rx
  obtain ⟨u, rfl, ru⟩ := vals1 rs
  cases ru
  rcases sq with sq | sq
  · obtain ⟨its, r1, p1, z1⟩ := I.list sq
    exact PyProof.Rows.join_listW p1.isList (strsAre_of r1) hi hw fun t' k => ⟨.str _, H, I.tok k, ⟨_, rfl⟩, q⟩
  · obtain ⟨its, r1, p1, z1⟩ := I.tuple sq
    exact PyProof.Rows.join_tupleW p1 (strsAre_of r1) hi hw fun t' k => ⟨.str _, H, I.tok k, ⟨_, rfl⟩, q⟩
def dJoin (to : DE) (t : DA) : DE := fun σ O => (to σ O).bnd fun x O1 => match x with
  | .str i => (t σ O1).bnd fun ys O2 => match ys with
    | [z] => match (match lsV O2 z with | some ds => some ds | none => tpV z) with
      | some ds => match strsD ds with
        | some zs => if i.length ≤ 16 ∧ (zs.map (·.length)).sum + zs.length ≤ 1048576 then .ok (.str (Txt.join ⟨i.toArray⟩ zs).cps.toList) O2 else .bad
        | none => .bad
      | none => .bad
    | _ => .bad
  | _ => .bad
theorem pd_join {t : DA} {es : List Expr} {apos cpos : Pos} (ho : PD X Ex o to) (ha : PDA X Ex (e :: es) t) (hbase : attributeBase o "join" X.env (eval o X.env) = eval o X.env := by rfl)
    (hfew : ((backTo cpos (starEach (e :: es) X.env)).all (fun x => !x.1) && (backToKw cpos (keywordEach [] X.env)).all (fun x => x.1.isSome) && decide ((e :: es).length + ([] : List Keyword).length + (if ([] : List Keyword).isEmpty then 0 else 1) < 30)) = true := by rfl)
    (hline : (apos.endLine == cpos.line) = true := by rfl) (hs : starEach (e :: es) X.env = (false, eval e X.env) :: starEach es X.env := by rfl) (hplain : (backTo cpos (starEach es X.env)).any (·.1) = false := by rfl) :
    PD X Ex (.Call (.Attribute o "join" apos) (e :: es) [] cpos) (dJoin to t) :=
  pd_of (pe_bm PySem.F.plainAttrs_str PySem.F.slot_str_join PySem.F.type_str_join mt_join ho.out ha.out hbase hfew hline hs hplain) fun hid μ σ O σv H Q e1 c1 q => rd.go e1 c1 q fun d O1 v H1 μ1 e2 x cl r p => by
    cases d with
    | str i =>
      unfold Dat at r
      subst r
      refine ⟨rfl, rdA.go e2 cl p fun ys O2 ws H2 μ2 e3 x3 c3 d3 p3 => ?_⟩
      split at p3
      · rename_i z
        obtain ⟨w, rfl, dw⟩ := dats1 d3
        split at p3
        · rename_i ds hds
          split at p3
          · rename_i zs hzs
            obtain ⟨⟨h1, h2⟩, p3⟩ := post.ite p3
            have h : ∃ p ws, w = .ref p ∧ (SqL X.K H2 p ws ∨ SqT X.K H2 p ws) ∧ Dats X.K H2 hid μ2 ds ws := by
              cases e1 : lsV O2 z with
              | some es =>
                rw [e1] at hds; cases hds
                obtain ⟨p, ws, h1, sq, dd⟩ := lsV_at c3 dw e1
                exact ⟨p, ws, h1, .inl sq, dd⟩
              | none =>
                rw [e1] at hds
                obtain ⟨p, ws, h1, sq, dd⟩ := tpV_at dw hds
                exact ⟨p, ws, h1, .inr sq, dd⟩
            obtain ⟨pp, ws, rfl, sq, dd⟩ := h
            have ev := strs_at dd hzs
            subst ev
            refine ⟨_, pp, zs, rfl, rfl, sq, ?_, h2, post.here p3 c3 ?_⟩
            · show i.toArray.size ≤ 16
              simpa using h1
            · unfold Dat; rw [str_eta]
          · exact False.elim p3
        · exact False.elim p3
      · exact False.elim p3
    | _ => exact False.elim p
/-! ### slices of texts, lists -/
abbrev DO := Sg → Ow → R (Option Int)
def rdO (Ex : Nat → Hp → Prop) (K : PySem.W.Frag) (t : DO) : TO := fun σv H Q => ∃ hid μ σ O, EnvOk K H hid μ σ σv ∧ Cells K H hid μ O ∧ post Ex K (fun _ _ (d v : Option Int) => d = v) H hid μ (t σ O) Q
structure PDO (X : Cx) (Ex : Nat → Hp → Prop) (e : Option Expr) (t : DO) : Prop where
  out : PO X e (rdO Ex X.K t)
def oNone : DO := fun _ O => .ok none O
def oSome (t : DE) : DO := fun σ O => (t σ O).bnd fun d O1 => match d with
  | .int i => .ok (some i) O1
  | _ => .bad
theorem PO.imp {e : Option Expr} {t t' : TO} (h : PO X e t) (f : ∀ σ H Q, t' σ H Q → t σ H Q) : PO X e t' := fun pins s σ H Q I q => h pins s σ H Q I (f σ H Q q)
theorem pdo_none : PDO X Ex none oNone := PDO.mk <| PO.imp po_none fun σv H Q ⟨hid, μ, σ, O, e1, c1, q⟩ => post.here (v := none) q c1 rfl
theorem pdo_some (h : PD X Ex e te) : PDO X Ex (some e) (oSome te) := PDO.mk <| PO.imp (po_some h.out) fun σv H Q ⟨hid, μ, σ, O, e1, c1, q⟩ => rd.go e1 c1 q fun d O1 v H1 μ1 e2 x cl r p => by
  cases d with
  | int i => unfold Dat at r; subst r; exact ⟨i, rfl, post.here (v := some i) p cl rfl⟩
  | _ => exact False.elim p
theorem rdO.go {α' β' : Type} {rel' : Hp → List Addr → α' → β' → Prop} {t : DO} {hid μ : List Addr} {σ : Sg} {O : Ow} {σv : St} {H : Hp} {Q1 : Option Int → Hp → Prop} {k : Option Int → Ow → R α'} {Q : β' → Hp → Prop} (e1 : EnvOk X.K H hid μ σ σv) (c1 : Cells X.K H hid μ O)
    (q : post Ex X.K rel' H hid μ ((t σ O).bnd k) Q)
    (f : ∀ v O1 H1 μ1, EnvOk X.K H1 hid μ1 σ σv → Ext H μ H1 μ1 → Cells X.K H1 hid μ1 O1 → post Ex X.K rel' H1 hid μ1 (k v O1) Q → Q1 v H1) : rdO Ex X.K t σv H Q1 :=
  ⟨hid, μ, σ, O, e1, c1, post.bnd q fun d O1 v H1 μ1 x c r p => by
    have r : d = v := r
    subst r
    exact f d O1 H1 μ1 (e1.ext x) x c p⟩
def rSlS : V → Option Int → Option Int → Hp → VK → Prop := fun x lo hi H Q => ∃ i, x = .str i ∧ i.length ≤ sizeLine ∧ Q (.str (Txt.slice i lo hi)) H
theorem isSlice_of {h : Heap} {sl : Addr} {vl vu : Value} {lo hi : Option Int} (hs : h.IsSliceOf sl vl vu .none) (pl : IsPart vl lo) (pu : IsPart vu hi) : ∃ l u : Option (Int × Tok), h.IsSlice sl l u none ∧ l.map (·.1) = lo ∧ u.map (·.1) = hi := by
  obtain ⟨ob, g, k1, k2⟩ := hs
  cases pl with
  | none =>
    cases pu with
    | none => exact ⟨none, none, ⟨ob, g, k1, k2⟩, rfl, rfl⟩
    | int j t => exact ⟨none, some (j, t), ⟨ob, g, k1, k2⟩, rfl, rfl⟩
  | int i t =>
    cases pu with
    | none => exact ⟨some (i, t), none, ⟨ob, g, k1, k2⟩, rfl, rfl⟩
    | int j t' => exact ⟨some (i, t), some (j, t'), ⟨ob, g, k1, k2⟩, rfl, rfl⟩
theorem sl_str : SlR X rSlS := by
  intro pins s σ H x v vl vu lo hi sl Q I rx hs pl pu h
  obtain ⟨i, rfl, hz, q⟩ := h
  obtain ⟨t, rfl⟩ := rx
  obtain ⟨l, u, hs2, rfl, rfl⟩ := isSlice_of hs pl pu
  refine ⟨"str", _, PySem.F.slot_str_getitem.lookup, typeIs_str s i t, ?_⟩
  exact wpAny_getItem_str_slice (l := l) (u := u) (st := none) hs2 rfl (post_val_or_str ⟨Nat.le_trans (Txt.slice_le i _ _) hz, fun t' k => ⟨.str _, H, I.tok k, ⟨_, rfl⟩, q⟩⟩)
def cutD (xs : List D) (lo hi : Option Int) : List D := (xs.drop (HT.sIx xs.length 0 lo)).take (HT.sIx xs.length xs.length hi - HT.sIx xs.length 0 lo)
def fSl (O : Ow) (x : D) (lo hi : Option Int) : R D := match x with
  | .str i => if i.length ≤ 100000 then .ok (.str (Txt.slice ⟨i.toArray⟩ lo hi).cps.toList) O else .bad
  | .tup ds => if HT.sIx ds.length 0 lo = 0 ∧ HT.sIx ds.length ds.length hi = ds.length then .bad else .ok (.tup (cutD ds lo hi)) O
  | x => match lsV O x with
    | some ds => .ok (.lst (cutD ds lo hi)) O
    | none => .bad
def dSl (te : DE) (tl th : DO) : DE := fun σ O => (te σ O).bnd fun x O1 => (tl σ O1).bnd fun lo O2 => (th σ O2).bnd fun hi O3 => fSl O3 x lo hi
def rSlA (K : PySem.W.Frag) : V → Option Int → Option Int → Hp → VK → Prop := fun x lo hi H Q => rSlS x lo hi H Q ∨ rSlT K x lo hi H Q ∨ rSlL K x lo hi H Q
theorem dats_cut {K : PySem.W.Frag} {ds : List D} {vs : List V} (h : Dats K H hid μ ds vs) (lo hi : Option Int) : Dats K H hid μ (cutD ds lo hi) (cutV vs lo hi) := by
  unfold cutD cutV
  rw [h.length]
  exact Dats.take _ (Dats.drop _ h)
theorem pd_sl {lo hi : Option Expr} {tl th : DO} {p2 : Pos} (he : PD X Ex e te) (hl : PDO X Ex lo tl) (hu : PDO X Ex hi th) : PD X Ex (.Subscript e (.Slice lo hi none p2) pos) (dSl te tl th) :=
  pd_of (pe_slice (r := rSlA X.K) (SlR.or sl_str (SlR.or sl_tup sl_list)) he.out hl.out hu.out) fun hid μ σ O σv H Q e1 c1 q => rd.go e1 c1 q fun d O1 v H1 μ1 e2 x cl r p => rdO.go e2 cl p fun l O2 H2 μ2 e3 x3 c3 p3 => rdO.go e3 c3 p3 fun u O3 H3 μ3 e4 x4 c4 p4 => by
    have r' := (r.ext x3).ext x4
    unfold fSl at p4
    split at p4
    · rename_i i
      unfold Dat at r'; subst r'
      obtain ⟨hl.out, p4⟩ := post.ite p4
      refine .inl ⟨_, rfl, ?_, post.here p4 c4 ?_⟩
      · show i.toArray.size ≤ _
        rw [List.size_toArray]; exact small_line hl.out
      · unfold Dat; rw [str_eta]
    · rename_i ds
      unfold Dat at r'
      obtain ⟨pa, vs, rfl, la, q1⟩ := r'
      split at p4
      · exact False.elim p4
      · rename_i hw
        refine .inr (.inl ⟨pa, vs, rfl, la.sq, by rw [← q1.length]; exact hw, fun l' hl' => post.ok p4 (.laid hl') (c4.laid hl') (Dat.newT c4 hl' (dats_cut q1 l u))⟩)
    · split at p4
      · rename_i ds eds
        obtain ⟨pa, vs, rfl, sq, q1⟩ := lsV_at c4 r' eds
        exact .inr (.inr ⟨pa, vs, rfl, sq, fun l' hl' => post.ok p4 (.laid hl') (c4.laid hl') (Dat.newL c4 hl' (dats_cut q1 l u))⟩)
      · exact False.elim p4
/-! ### a text in a text -/
def fInS : Ow → D → D → R D := fun O x y => match x, y with
  | .str i, .str j => .ok (.bl (!(PySem.Builtin.Str.occurrences ⟨j.toArray⟩ ⟨i.toArray⟩ 0 j.length 1).isEmpty)) O
  | _, _ => .bad
theorem opd_inS : OpD X Ex (fun x y H Q => ∃ i j, x = .str i ∧ y = .str j ∧ Q (.bl (!(Builtin.Str.occurrences j i 0 j.length 1).isEmpty)) H) fInS := by
  intro H hid μ O x y v w Q c dx dy q
  unfold fInS at q
  split at q
  · rename_i i j
    unfold Dat at dx dy; subst dx; subst dy
    refine ⟨_, _, rfl, rfl, post.here q c ?_⟩
    have e : (⟨j.toArray⟩ : Str).length = j.length := by show j.toArray.size = _; simp
    rw [e]; exact dat_bl
  · exact False.elim q
/-! ### a, b = x, y -/
end
end DL

namespace DL
open PySem L2
/-! ### defs of the text, by name -/
def FunAt (K : PySem.W.Frag) (mg : Str → Option Value) (x : Str) (st : Stmt) : Prop := ∃ f fd, mg x = some (.ref f) ∧ L2.Fun K x x st f fd
structure Callee (P : Program) (w : World) (K : PySem.W.Frag) (mg : Str → Option Value) (base : Heap) (x : Str) (k n : Nat) (F : List D → Ow → R D) : Prop where
  ex : ∃ f fd ps, mg x = some (.ref f) ∧ PySem.W.keepIn K (.ref f) = true ∧ Binds K fd ps [] ∧ FnOk P w K mg base CX0 k f fd ps (DSp K Ec0 n F)
theorem Callee.imp {P : Program} {w : World} {K : PySem.W.Frag} {mg : Str → Option Value} {base : Heap} {k n : Nat} {x : Str} {F G : List D → Ow → R D} (c : Callee P w K mg base x k n F)
    (h : ∀ ds O H hid μ Q, Cells K H hid μ O → postE Ex0 K H hid μ (G ds O) Q → postE Ex0 K H hid μ (F ds O) Q) : Callee P w K mg base x k n G := by
  obtain ⟨f, fd, ps, hm, hkp, hb, Fo⟩ := c.ex
  refine ⟨f, fd, ps, hm, hkp, hb, Fo.imp fun vs H Q E ⟨hl, hid, μ, ds, O, d, cl, q⟩ => ⟨hl, hid, μ, ds, O, d, cl, h ds O H hid μ Q cl q⟩⟩
theorem Callee.bad {P : Program} {w : World} {K : PySem.W.Frag} {mg : Str → Option Value} {base : Heap} {k n : Nat} {x : Str} {F : List D → Ow → R D} (c : Callee P w K mg base x k n F) : Callee P w K mg base x k n (fun _ _ => .bad) :=
  c.imp fun _ _ _ _ _ _ _ q => False.elim q
/-! ### lists that nobody changes any more are data by value -/
def frz (O : Ow) (n : Nat) : Nat → D → Option D
  | 0, d => match d with
    | .own k => if k < n then some (.own k) else none
    | .lst _ => none
    | .tup _ => none
    | d => some d
  | f + 1, d => match d with
    | .own k => if k < n then some (.own k) else match O[k]? with
      | some ds => (mapO (frz O n f) ds).map .lst
      | none => none
    | .lst ds => (mapO (frz O n f) ds).map .lst
    | .tup ds => (mapO (frz O n f) ds).map .tup
    | d => some d
/-- the cells from n on are given up -/
def frzR (n : Nat) (r : R D) : R D := match r with
  | .ok d O => match frz O n 8 d, mapO (mapO (frz O n 8)) (O.take n) with
    | some d', some O' => .ok d' O'
    | _, _ => .bad
  | r => r
section
variable {K : PySem.W.Frag} {H : Hp} {hid μ ν : List Addr} {O : Ow} {n : Nat}
theorem mapO_dats {f : D → Option D} {μ' : List Addr} (ih : ∀ d d' v, f d = some d' → Dat K H hid μ d v → Dat K H hid μ' d' v) : ∀ (ds ds' : List D) (vs : List V), mapO f ds = some ds' → Dats K H hid μ ds vs → Dats K H hid μ' ds' vs
  | [], ds', vs, e, h => by cases e; unfold Dats at h ⊢; exact h
  | d :: ds, ds', vs, e, h => by
    unfold mapO at e
    split at e
    · rename_i p ps e1 e2
      cases e
      unfold Dats at h
      obtain ⟨v, r, rfl, h1, h2⟩ := h
      exact .cons (ih d p v e1 h1) (mapO_dats ih ds ps r e2 h2)
    · cases e
theorem frz_ok (c : Cells K H hid (μ ++ ν) O) (hn : μ.length = n) : ∀ (f : Nat) (d d' : D) (v : V), frz O n f d = some d' → Dat K H hid (μ ++ ν) d v → Dat K H hid μ d' v := by
  have sub : ∀ {a : Addr}, a ∉ μ ++ ν → a ∉ μ := fun h m => h (List.mem_append_left _ m)
  have low : ∀ {k : Nat} {v : V}, k < n → Dat K H hid (μ ++ ν) (.own k) v → Dat K H hid μ (.own k) v := fun {k v} hk h => by
    unfold Dat at h ⊢
    obtain ⟨a, rfl, e⟩ := h
    rw [List.getElem?_append_left (by omega)] at e
    exact ⟨a, rfl, e⟩
  have dc : ∀ {v : V}, Dat K H hid (μ ++ ν) .dct v → Dat K H hid μ .dct v := fun {v} h => by
    unfold Dat at h ⊢
    obtain ⟨a, rfl, r, n1, n2⟩ := h
    exact ⟨a, rfl, r, n1, sub n2⟩
  have xc : ∀ {C : Nat} {v : V}, Dat K H hid (μ ++ ν) (.exn C) v → Dat K H hid μ (.exn C) v := fun {C v} h => by
    unfold Dat at h ⊢
    obtain ⟨a, φ, rfl, g, r, n1, n2⟩ := h
    exact ⟨a, φ, rfl, g, r, n1, sub n2⟩
  intro f
  induction f with
  | zero =>
    intro d d' v e h
    cases d with
    | own k =>
      unfold frz at e; dsimp only at e
      split at e
      · rename_i hk; cases e; exact low hk h
      · cases e
    | lst ds => cases e
    | tup ds => cases e
    | dct => cases e; exact dc h
    | exn C => cases e; exact xc h
    | tab P => cases e; unfold Dat at h ⊢; exact h
    | non => cases e; unfold Dat at h ⊢; exact h
    | bl b => cases e; unfold Dat at h ⊢; exact h
    | int i => cases e; unfold Dat at h ⊢; exact h
    | str i => cases e; unfold Dat at h ⊢; exact h
  | succ f ih =>
    intro d d' v e h
    cases d with
    | own k =>
      unfold frz at e; dsimp only at e
      split at e
      · rename_i hk; cases e; exact low hk h
      · rename_i hk
        unfold Dat at h
        obtain ⟨a, rfl, hk2⟩ := h
        obtain ⟨ds, vs, h1, h2, h3⟩ := c.at_ k a hk2
        rw [h1] at e
        dsimp only at e
        cases e1 : mapO (frz O n f) ds with
        | none => rw [e1] at e; cases e
        | some ps =>
          rw [e1] at e; cases e
          unfold Dat
          refine ⟨a, vs, rfl, .inl ⟨.inl h2, c.nh a (List.mem_of_getElem? hk2), fun m => ?_⟩, mapO_dats ih ds ps vs e1 h3⟩
          obtain ⟨j, hj, ej⟩ := List.mem_iff_getElem.mp m
          have q1 : (μ ++ ν)[j]? = some a := by rw [List.getElem?_append_left hj, List.getElem?_eq_getElem hj, ej]
          obtain ⟨w1, z1⟩ := List.getElem?_eq_some_iff.mp q1
          obtain ⟨w2, z2⟩ := List.getElem?_eq_some_iff.mp hk2
          have := (List.getElem_inj c.nd).mp (z1.trans z2.symm)
          omega
    | lst ds =>
      unfold frz at e; dsimp only at e
      unfold Dat at h
      obtain ⟨a, vs, rfl, l, q⟩ := h
      cases e1 : mapO (frz O n f) ds with
      | none => rw [e1] at e; cases e
      | some ps =>
        rw [e1] at e; cases e
        unfold Dat
        exact ⟨a, vs, rfl, l.imp (fun z => ⟨z.1, z.2.1, sub z.2.2⟩) id, mapO_dats ih ds ps vs e1 q⟩
    | tup ds =>
      unfold frz at e; dsimp only at e
      unfold Dat at h
      obtain ⟨a, vs, rfl, l, q⟩ := h
      cases e1 : mapO (frz O n f) ds with
      | none => rw [e1] at e; cases e
      | some ps =>
        rw [e1] at e; cases e
        unfold Dat
        exact ⟨a, vs, rfl, l.imp (fun z => ⟨z.1, z.2.1, sub z.2.2⟩) id, mapO_dats ih ds ps vs e1 q⟩
    | dct => cases e; exact dc h
    | exn C => cases e; exact xc h
    | tab P => cases e; unfold Dat at h ⊢; exact h
    | non => cases e; unfold Dat at h ⊢; exact h
    | bl b => cases e; unfold Dat at h ⊢; exact h
    | int i => cases e; unfold Dat at h ⊢; exact h
    | str i => cases e; unfold Dat at h ⊢; exact h
theorem mapO_len {α β : Type} {f : α → Option β} : ∀ {l : List α} {r : List β}, mapO f l = some r → r.length = l.length
  | [], r, e => by cases e; rfl
  | x :: l, r, e => by
    unfold mapO at e
    split at e
    · rename_i p ps e1 e2; cases e; simp [mapO_len e2]
    · cases e
theorem mapO_get {α β : Type} {f : α → Option β} : ∀ {l : List α} {r : List β} {k : Nat} {y : β}, mapO f l = some r → r[k]? = some y → ∃ x, l[k]? = some x ∧ f x = some y
  | [], r, k, y, e, h => by cases e; simp at h
  | x :: l, r, k, y, e, h => by
    unfold mapO at e
    split at e
    · rename_i p ps e1 e2
      cases e
      cases k with
      | zero => simp at h; subst h; exact ⟨x, by simp, e1⟩
      | succ k => obtain ⟨z, h1, h2⟩ := mapO_get (k := k) e2 (by simpa using h); exact ⟨z, by simpa using h1, h2⟩
    · cases e
theorem post_frz {Ex : Nat → Hp → Prop} {r : R D} {Q : VK} (hn : μ.length = n) (q : postE Ex K H hid μ (frzR n r) Q) : postE Ex K H hid μ r Q := by
  cases r with
  | bad => exact q
  | exc c O' => exact q
  | ok d O' =>
    intro v H' μ' x c h
    obtain ⟨ν, rfl⟩ := x.pre
    have q1 : postE Ex K H hid μ (match frz O' n 8 d, mapO (mapO (frz O' n 8)) (O'.take n) with | some d', some O2 => .ok d' O2 | _, _ => .bad) Q := q
    cases e1 : frz O' n 8 d with
    | none => rw [e1] at q1; exact False.elim q1
    | some d' =>
      cases e2 : mapO (mapO (frz O' n 8)) (O'.take n) with
      | none => rw [e1, e2] at q1; exact False.elim q1
      | some O2 =>
        rw [e1, e2] at q1
        have xe : Ext H μ H' μ := ⟨⟨[], by simp⟩, x.kept, fun _ m => .inl m, x.there, x.tab⟩
        have hl : O'.length = (μ ++ ν).length := c.len.symm
        have c2 : Cells K H' hid μ O2 := by
          refine ⟨?_, (List.nodup_append.mp c.nd).1, fun a m => c.nh a (List.mem_append_left _ m), c.ht, fun k a e => ?_⟩
          · rw [mapO_len e2, List.length_take, hl, List.length_append, hn]; omega
          · have hk : k < μ.length := (List.getElem?_eq_some_iff.mp e).1
            obtain ⟨ds, vs, h1, h2, h3⟩ := c.at_ k a (by rw [List.getElem?_append_left hk]; exact e)
            have hk2 : k < O2.length := by rw [mapO_len e2, List.length_take, hl, List.length_append, hn]; omega
            obtain ⟨ds', g1, g2⟩ := mapO_get e2 (List.getElem?_eq_getElem hk2)
            have : ds' = ds := by
              rw [List.getElem?_take, if_pos (by omega), h1] at g1
              cases g1; rfl
            subst this
            exact ⟨_, vs, List.getElem?_eq_getElem hk2, h2, mapO_dats (frz_ok c hn 8) _ _ vs g2 h3⟩
        exact q1 v H' μ xe c2 (frz_ok c hn 8 d d' v e1 h)
end
def frzF (F : List D → Ow → R D) : List D → Ow → R D := fun ds O => frzR O.length (F ds O)
theorem Callee.frz {P : Program} {w : World} {K : PySem.W.Frag} {mg : Str → Option Value} {base : Heap} {k n : Nat} {x : Str} {F : List D → Ow → R D} (c : Callee P w K mg base x k n F) : Callee P w K mg base x k n (frzF F) :=
  c.imp fun ds O H hid μ Q cl q => post_frz cl.len q
/-! ### the names of a block, checked -/
def bokB (sc scope : Scope) (N' : List Str) (sl : List Nat) : Bool :=
  (match scope.kind with | .function => true | _ => false) && decide ((scope.names.map (·.1)).Nodup) && (scope.names.all fun y => !(y.2 == .free) || sc.names.lookup y.1 == some .cell || sc.names.lookup y.1 == some .free) &&
  (N'.zipIdx.all fun p => !((scope.names.any fun y => y.1 == p.1 && y.2 == .local) || (scope.names.any fun y => y.1 == p.1 && y.2 == .cell)) || sl.contains p.2)
theorem bok_of {sc scope : Scope} {N' : List Str} {sl : List Nat} (h : bokB sc scope N' sl = true) : BOk sc scope N' sl := by
  unfold bokB at h
  simp only [Bool.and_eq_true, decide_eq_true_eq, List.all_eq_true] at h
  obtain ⟨⟨⟨h1, h2⟩, h3⟩, h4⟩ := h
  refine ⟨?_, h2, fun y hy hf => ?_, fun i x hx hm => ?_⟩
  · cases e : scope.kind <;> rw [e] at h1 <;> first | rfl | cases h1
  · have := h3 y hy
    rw [hf] at this
    simpa using this
  · have hp : (x, i) ∈ N'.zipIdx := by
      rw [List.mem_zipIdx_iff_getElem?]; exact hx
    have h := h4 _ hp
    have hany : ((scope.names.any fun y => y.1 == x && y.2 == .local) || (scope.names.any fun y => y.1 == x && y.2 == .cell)) = true := by
      rw [Bool.or_eq_true]
      exact hm.imp (fun m => List.any_eq_true.mpr ⟨_, m, by simp⟩) fun m => List.any_eq_true.mpr ⟨_, m, by simp⟩
    have h : (!((scope.names.any fun y => y.1 == x && y.2 == .local) || (scope.names.any fun y => y.1 == x && y.2 == .cell)) || sl.contains i) = true := h
    rw [hany] at h
    simpa using h
/-! ### a module's text -/
structure GStr (mg : Str → Option Value) (x : Str) (cs : List Nat) : Prop where
  ex : ∃ t, mg x = some (.str ⟨cs.toArray⟩ t)
section
variable {X : Cx} {Ex : Nat → Hp → Prop} {pos : Pos} {a b c e o : Expr} {ta tb tc te to : DE} {pins : List (Addr × Obj)} {σv : St} {H : Hp} {s : Shared} {hid μ : List Addr} {O : Ow}
theorem pd_gstr {x : Str} {cs : List Nat} (h : GStr X.mg x cs) (hg : Gl X x := by rfl) (hd : (x == ("__debug__" : Str)) = false := by decide) : PD X Ex (.Name x pos) (dC (.str cs)) := by
  obtain ⟨t, h⟩ := h.ex
  exact pd_globS cs hg h rfl hd
/-! ### isinstance(x, (T, U)) -/
def dIsi2 (C C' : String) (t : DE) : DE := fun σ O => (t σ O).bnd fun d O1 => .ok (.bl (isiB (kindD d) C || isiB (kindD d) C')) O1
theorem call_isi2 : CallR X (.builtin "isinstance") (fun xs H Q => ∃ x p C C' hid μ O d, xs = [x, .ref p] ∧ SqT X.K H p [.ty C, .ty C'] ∧ C ∈ kOk ∧ C' ∈ kOk ∧ Cells X.K H hid μ O ∧ Dat X.K H hid μ d x ∧ Q (.bl (isiB (kindD d) C || isiB (kindD d) C')) H) := by
  intro pins s σ H xs us Q I r h
  obtain ⟨x, tp, C, C', hid, μ, O, d, rfl, sq, hC, hC', cl, dx, q⟩ := h
  obtain ⟨u, w', rfl, rx, rc⟩ := vals2 r
  cases rc
  obtain ⟨T, Hh, Z, p, hx, hk⟩ := kitx_of_dat I cl dx rx
  obtain ⟨its, rv, ⟨⟨c1, d1, t1, s1⟩, h1, h2, n, h3⟩, hz⟩ := I.tuple sq
  simp only at h2 h3
  subst h2 h3
  obtain ⟨v1, v2, rfl, r1, r2⟩ := vals2 rv
  cases r1; cases r2
  refine PySem.W.kia_tup (b := isiB (kindD d) C || isiB (kindD d) C') Z I.kIn p h1 ?_ hx fun tk => ⟨.bl _, H, I.tok tk, rfl, q⟩
  unfold PySem.W.kitAny
  rw [hk _ hC]
  cases isiB (kindD d) C with
  | true => rfl
  | false =>
    dsimp only
    unfold PySem.W.kitAny
    rw [hk _ hC']
    cases isiB (kindD d) C' <;> rfl
theorem pd_isi2 {C C' : Str} {n n' : String} {p p' p'' pt : Pos} {kt} (ha : PD X Ex a ta) (hn : n ∈ kOk) (hn' : n' ∈ kOk) (hg : Gl X "isinstance") (hm : X.mg "isinstance" = none) (hv : bootBuiltins "isinstance" = some (.builtin "isinstance")) (hgC : Gl X C) (hmC : X.mg C = none) (hvC : bootBuiltins C = some (.type n))
    (hgC' : Gl X C') (hmC' : X.mg C' = none) (hvC' : bootBuiltins C' = some (.type n')) (hCn : C ≠ "__name__" := by decide) (hCd : (C == ("__debug__" : Str)) = false := by decide) (hCn' : C' ≠ "__name__" := by decide) (hCd' : (C' == ("__debug__" : Str)) = false := by decide)
    (he : starEach [a, .Tuple [.Name C p', .Name C' p''] kt pt] X.env = (false, eval a X.env) :: starEach [.Tuple [.Name C p', .Name C' p''] kt pt] X.env := by rfl) (he2 : starEach [.Tuple [.Name C p', .Name C' p''] kt pt] X.env = [(false, eval (.Tuple [.Name C p', .Name C' p''] kt pt) X.env)] := by rfl)
    (hpl : (backTo pos (starEach [.Tuple [.Name C p', .Name C' p''] kt pt] X.env)).any (·.1) = false := by rfl) (h3 : starEach [.Name C p', .Name C' p''] X.env = (false, eval (.Name C p') X.env) :: starEach [.Name C' p''] X.env := by rfl) (h4 : starEach [.Name C' p''] X.env = [(false, eval (.Name C' p'') X.env)] := by rfl) :
    PD X Ex (.Call (.Name "isinstance" p) [a, .Tuple [.Name C p', .Name C' p''] kt pt] [] pos) (dIsi2 n n' ta) :=
  pd_of (pe_callB (call_isi2 (X := X)) hg hm hv (pa_cons ha.out (pa_cons (pe_tup (pa_cons (pe_bltn (v := .ty n) hgC hmC hvC rfl hCn hCd) (pa_cons (pe_bltn (v := .ty n') hgC' hmC' hvC' rfl hCn' hCd') pa_nil h4) h3)) pa_nil he2) he) (by decide) (by decide) he hpl) fun hid μ σ O σv H Q e1 c1 q => rd.go e1 c1 q fun d O1 v H1 μ1 e2 x cl r p2 =>
    ⟨by show 2 ≤ sizeLine; decide, fun l hl => ⟨v, l, n, n', hid, μ1, O1, d, rfl, .of upd_same, hn, hn', cl.laid hl, r.ext (.laid hl), post.ok p2 (.laid hl) (cl.laid hl) dat_bl⟩⟩
/-! ### not, minus -/
def fNeg (O : Ow) : D → R D
  | .int i => .ok (.int (-i)) O
  | _ => .bad
def dNeg (t : DE) : DE := fun σ O => (t σ O).bnd fun x O1 => fNeg O1 x
theorem pd_neg (ha : PD X Ex a ta) : PD X Ex (.UnaryOp .USub a pos) (dNeg ta) :=
  pd_of (pe_un un_neg ha.out) fun hid μ σ O σv H Q e1 c1 q => rd.go e1 c1 q fun d O1 v H1 μ1 e2 x cl r p => by
    cases d with
    | int i => unfold Dat at r; subst r; exact ⟨i, rfl, post.here p cl dat_int⟩
    | _ => exact False.elim p
/-! ### x in y: texts, lists, tuples -/
def fIn : Ow → D → D → R D := fun O x y => match y with
  | .str _ => fInS O x y
  | _ => fPy inF O x y
def fNin : Ow → D → D → R D := fun O x y => match y with
  | .str _ => match fInS O x y with
    | .ok (.bl b) O1 => .ok (.bl (!b)) O1
    | _ => .bad
  | _ => fPy ninF O x y
theorem op_inA (hu : X.A.units + 64 < cLine) : OpR X (compareOp .In) (fun x y H Q => rPy X.K inF x y H Q ∨ ∃ i j, x = .str i ∧ y = .str j ∧ Q (.bl (!(Builtin.Str.occurrences j i 0 j.length 1).isEmpty)) H) := OpR.or (op_inPy hu) op_in_str
theorem opd_in : OpD X Ex (fun x y H Q => rPy X.K inF x y H Q ∨ ∃ i j, x = .str i ∧ y = .str j ∧ Q (.bl (!(Builtin.Str.occurrences j i 0 j.length 1).isEmpty)) H) fIn := by
  intro H hid μ O x y v w Q c dx dy q
  unfold fIn at q
  split at q
  · exact .inr (opd_inS H hid μ O _ _ v w Q c dx dy q)
  · exact .inl (opd_py H hid μ O x y v w Q c dx dy q)
theorem op_ninA (hu : X.A.units + 64 < cLine) : OpR X (compareOp .NotIn) (fun x y H Q => rPy X.K ninF x y H Q ∨ ∃ i j, x = .str i ∧ y = .str j ∧ Q (.bl (!(!(Builtin.Str.occurrences j i 0 j.length 1).isEmpty))) H) := OpR.or (op_ninPy hu) op_notin_str
theorem opd_nin : OpD X Ex (fun x y H Q => rPy X.K ninF x y H Q ∨ ∃ i j, x = .str i ∧ y = .str j ∧ Q (.bl (!(!(Builtin.Str.occurrences j i 0 j.length 1).isEmpty))) H) fNin := by
  intro H hid μ O x y v w Q c dx dy q
  unfold fNin at q
  split at q
  · rename_i cs
    cases x with
    | str i =>
      unfold Dat at dx dy; subst dx; subst dy
      refine .inr ⟨_, _, rfl, rfl, post.here (d := D.bl (!(!(PySem.Builtin.Str.occurrences ⟨cs.toArray⟩ ⟨i.toArray⟩ 0 cs.length 1).isEmpty))) q c ?_⟩
      have e : (⟨cs.toArray⟩ : Str).length = cs.length := by show cs.toArray.size = _; simp
      rw [e]; exact dat_bl
    | _ => exact False.elim q
  · exact .inl (opd_py H hid μ O x y v w Q c dx dy q)
end
end DL

namespace DL
open PySem L2
section
variable {X : Cx} {pins : List (Addr × Obj)} {σv : St} {H : Hp} {s : Shared}
/-- records of ours have turned -/
theorem Inv.turns {h' : Heap} {t' : Nat} (ch : List Addr) (I : L2.Inv X pins σv H s) (k : ∀ b o, b ∉ ch → s.heap.get? b = some o → h'.get? b = some o) (hf : ∀ b ∈ ch, FpOk X pins H b) : L2.Inv X pins σv H { s with heap := h', toks := t' } := by
  have nit : ∀ b u, H b = some u → b ∉ ch := fun b u e z => by rw [(hf b z).1] at e; cases e
  have un : Un (frs X.stack) ch H H s.heap h' := ⟨fun b o e _ _ n => k b o n e, fun b o e _ _ n => ⟨o.slots, k b o n e⟩, fun _ _ _ n _ => n, fun b o e n => ⟨o, k b o n e⟩, fun _ _ e => e, fun _ _ _ e => e, fun b ps e => ⟨#[], by rw [e]; simp⟩⟩
  have hok : HOk X.prog X.w H h' := fun b u e => (I.hok b u e).stay (fun c v hc q => k c v (by
    rcases hc with z | z
    · rw [z]; exact nit b u e
    · exact nit c _ z) q) (fun _ q => q) fun _ _ q => q
  exact I.call (t' := t') (d' := s.drawn) un hok I.bare fun b hb => let ⟨_, f1, _, f3, f4, f5⟩ := hf b hb; ⟨f3, f1, f4, f5⟩
end
/-! ### zip of two lists -/
def Itz (K : PySem.W.Frag) (l m : Addr) : It :=
  ⟨fun i H => ∃ xs ys x y, SqL K H l xs ∧ SqL K H m ys ∧ xs[i]? = some x ∧ ys[i]? = some y,
   fun i H v H' => ∃ p x y, H p = none ∧ v = .ref p ∧ (∀ xs, SqL K H l xs → xs[i]? = some x) ∧ (∀ ys, SqL K H m ys → ys[i]? = some y) ∧ H' = upd H p (.tup [x, y]),
   fun i H => ∃ xs ys, SqL K H l xs ∧ SqL K H m ys ∧ (xs.length ≤ i ∨ ys.length ≤ i)⟩
def ZipSt (z t o i j l m : Addr) (n : Nat) (h : Heap) : Prop := IsZip h z t o .none ∧ IsPair h t (.ref i) (.ref j) ∧ (∃ a b, IsPair h o a b) ∧ h.IsListIter i l n ∧ h.IsListIter j m n
theorem turn_zip {P : Program} {w : World} {K : PySem.W.Frag} {es : List Expr} {kt} {pt : Pos} (z t o i j l m : Addr) (ap : [z, t, o, i, j].Nodup) : Turn P w K (.Tuple es kt pt) (Itz K l m) [z, t, o, i, j] z (ZipSt z t o i j l m) := by
  have apart : ∀ {X : Cx} {pins : List (Addr × Obj)} {s : Shared} {σ : St} {H : Hp} {xs ys : List V}, X.K = K → L2.Inv X pins σ H s → (∀ b ∈ [z, t, o, i, j], FpOk X pins H b) → ZipSt z t o i j l m 0 s.heap ∨ True → SqL K H l xs → SqL K H m ys →
      (∃ k, ZipSt z t o i j l m k s.heap) → ZipApart z t o i j l m := by
    intro X pins s σ H xs ys hK I hf _ h1 h2 ⟨k, hz, ht, ⟨a, b, ho⟩, hi, hj⟩
    subst hK
    simp only [List.nodup_cons, List.mem_cons, List.not_mem_nil, or_false, not_or, List.nodup_nil, and_true] at ap
    obtain ⟨⟨a1, a2, a3, a4⟩, ⟨b1, b2, b3⟩, ⟨c1, c2⟩, d1, _⟩ := ap
    obtain ⟨its, _, p1, _⟩ := I.list h1
    obtain ⟨its2, _, p2, _⟩ := I.list h2
    have cz : ∀ {q : Addr} {vs : Array Value}, s.heap.IsList q vs → q ≠ z := fun {q vs} hl e => by
      subst e
      obtain ⟨ob, g, k1, _⟩ := hl
      have hz : s.heap.get? q = some _ := hz
      rw [hz] at g; cases g; simp at k1
    have co : ∀ {q : Addr} {vs : Array Value}, s.heap.IsList q vs → q ≠ o := fun {q vs} hl e => by
      subst e
      obtain ⟨ob, g, k1, _⟩ := hl
      have ho : s.heap.get? q = some _ := ho
      rw [ho] at g; cases g; simp at k1
    have ci : ∀ {q x : Addr} {n : Nat} {vs : Array Value} {y : Addr}, s.heap.IsList q vs → s.heap.IsListIter x y n → q ≠ x := fun {q x n vs y} hl hx e => by
      subst e
      obtain ⟨ob, g, k1, _⟩ := hl
      obtain ⟨ob2, g2, k2, _⟩ := hx
      rw [g] at g2; cases g2; rw [k1] at k2; injection k2 with h; exact absurd h (by decide)
    exact ⟨Ne.symm a1, Ne.symm a2, Ne.symm a3, Ne.symm a4, b1, b2, b3, c1, c2, d1, cz p1.isList, co p1.isList, ci p1.isList hi, ci p1.isList hj, cz p2.isList, co p2.isList, ci p2.isList hi, ci p2.isList hj⟩
  refine ⟨by simp, fun n h st b hb => ?_, fun n h h' st k => ?_, ?_, ?_, fun A n s Q E st q => wpAny_pyIter_zip st.1 q⟩
  · obtain ⟨hz, ht, ⟨a, b', ho⟩, ⟨o1, g1, k1, m1⟩, ⟨o2, g2, k2, m2⟩⟩ := st
    simp only [List.mem_cons, List.not_mem_nil, or_false] at hb
    rcases hb with rfl | rfl | rfl | rfl | rfl
    · exact ⟨_, hz, fun v e => by cases e⟩
    · exact ⟨_, ht, fun v e => by cases e⟩
    · exact ⟨_, ho, fun v e => by cases e⟩
    · exact ⟨_, g1, fun v e => by rw [m1] at e; cases e⟩
    · exact ⟨_, g2, fun v e => by rw [m2] at e; cases e⟩
  · obtain ⟨hz, ht, ⟨a, b', ho⟩, ⟨o1, g1, k1, m1⟩, ⟨o2, g2, k2, m2⟩⟩ := st
    exact ⟨k z (by simp) _ hz, k t (by simp) _ ht, ⟨a, b', k o (by simp) _ ho⟩, ⟨o1, k i (by simp) _ g1, k1, m1⟩, ⟨o2, k j (by simp) _ g2, k2, m2⟩⟩
  · intro X hP hw hK hc n pins s σ H E I hf st hg
    have hK0 := hK
    subst hP hw hK
    obtain ⟨xs, ys, x, y, h1, h2, e1, e2⟩ := hg
    have D := apart rfl I hf (.inr trivial) h1 h2 ⟨n, st⟩
    obtain ⟨hz, ht, ⟨a, b, ho⟩, hi, hj⟩ := st
    obtain ⟨its, r1, p1, z1⟩ := I.list h1
    obtain ⟨its2, r2, p2, z2⟩ := I.list h2
    obtain ⟨u, g1, q1⟩ := r1.get e1
    obtain ⟨v, g2, q2⟩ := r2.get e2
    refine wpAny_pyNext_zip_item D hz ht ho hi hj p1.isList p2.isList (by simpa using g1) (by simpa using g2) fun h' b1 b2 b3 b4 b5 b6 hk => ⟨_, rfl, ?_⟩
    refine wpAny_letOwnedTupleGo_zip b1 fun h'' c1 c2 => ?_
    have nb : ∀ q ∈ [z, t, o, i, j], s.heap.objs.size ≠ q := fun q hq e => by
      have : ∃ ob, s.heap.get? q = some ob := by
        simp only [List.mem_cons, List.not_mem_nil, or_false] at hq
        rcases hq with rfl | rfl | rfl | rfl | rfl
        · exact ⟨_, hz⟩
        · exact ⟨_, ht⟩
        · exact ⟨_, ho⟩
        · obtain ⟨ob, g, _⟩ := hi; exact ⟨_, g⟩
        · obtain ⟨ob, g, _⟩ := hj; exact ⟨_, g⟩
      obtain ⟨ob, g⟩ := this
      exact absurd (Heap.lt_size g) (by rw [e]; exact Nat.lt_irrefl _)
    have keep : ∀ c ob, c ∉ [z, t, o, i, j] → s.heap.get? c = some ob → h''.get? c = some ob := fun c ob hc e => by
      simp only [List.mem_cons, List.not_mem_nil, or_false, not_or] at hc
      exact c2.extBut _ _ hc.1 (hk c ob hc.1 hc.2.2.1 hc.2.2.2.1 hc.2.2.2.2 e)
    have I1 : L2.Inv X pins σ H { s with heap := h'', toks := s.toks } := Inv.turns [z, t, o, i, j] I keep hf
    have hnew : h''.get? s.heap.objs.size = some { cls := .type "tuple", data := .seq #[u, v] } := c2.extBut _ _ (nb z (by simp)) b5
    have fr : H s.heap.objs.size = none := I.hok.fresh (Nat.le_refl _)
    -- the pair is laid: all stands already
    have I2 : L2.Inv X pins σ (upd H s.heap.objs.size (.tup [x, y])) { s with heap := h'', toks := s.toks } := by
      have un : Un (frs X.stack) [z, t, o, i, j] H (upd H s.heap.objs.size (.tup [x, y])) s.heap h'' := by
        refine ⟨fun c ob e _ _ hc => keep c ob hc e, fun c ob e _ _ hc => ⟨ob.slots, keep c ob hc e⟩, fun c ob e hn _ => ?_, fun c ob e hc => ⟨ob, keep c ob hc e⟩, fun c zs e => ?_, fun c ob u e => ?_, fun c ps e => ⟨#[], ?_⟩⟩
        · rw [upd_ne (Nat.ne_of_lt (Heap.lt_size e))]; exact hn
        · rw [upd_ne (ne_of_none e fr)]; exact e
        · rw [upd_ne (ne_of_none e fr)]; exact e
        · rw [upd_ne (ne_of_none e fr), e]; simp
      have hok : HOk X.prog X.w (upd H s.heap.objs.size (.tup [x, y])) h'' := by
        intro c u' e
        by_cases hc : c = s.heap.objs.size
        · subst hc
          rw [upd_same] at e; cases e
          exact ⟨by show 2 ≤ sizeLine; decide, [u, v], .cons q1 (.cons q2 .nil), ⟨_, hnew, rfl, _, rfl⟩⟩
        · rw [upd_ne hc] at e
          refine (I1.hok c u' e).stay (fun _ _ _ q => q) (fun p q => ?_) fun p zs q => ?_
          · by_cases hp : p = s.heap.objs.size
            · subst hp; rw [fr] at q; cases q
            · rw [upd_ne hp]; exact q
          · by_cases hp : p = s.heap.objs.size
            · subst hp; rw [fr] at q; cases q
            · rw [upd_ne hp]; exact q
      exact I.call (t' := s.toks) (d' := s.drawn) un hok I.bare fun b hb => let ⟨_, f1, _, f3, f4, f5⟩ := hf b hb; ⟨f3, f1, f4, f5⟩
    refine ⟨.ref s.heap.objs.size, _, I2, rfl, ⟨_, x, y, fr, rfl, fun zs hz => ?_, fun zs hz => ?_, rfl⟩, ⟨c1, ?_, ⟨_, _, c2.extBut _ _ D.TOz b2⟩, b3.extBut c2.extBut D.i1z, b4.extBut c2.extBut D.i2z⟩, fun b hb => ?_⟩
    · rw [I.list_inj hz h1]; exact e1
    · rw [I.list_inj hz h2]; exact e2
    · exact c2.extBut _ _ D.TIz (hk _ _ D.TIz D.TITO D.TIi1 D.TIi2 ht)
    · rw [upd_ne (Ne.symm (nb b hb))]; exact (hf b hb).1
  · intro X hP hw hK hc n pins s σ H E I hf st hg
    subst hP hw hK
    obtain ⟨xs, ys, h1, h2, e1⟩ := hg
    have D := apart rfl I hf (.inr trivial) h1 h2 ⟨n, st⟩
    obtain ⟨hz, ht, ⟨a, b, ho⟩, hi, hj⟩ := st
    obtain ⟨its, r1, p1, z1⟩ := I.list h1
    obtain ⟨its2, r2, p2, z2⟩ := I.list h2
    have l1 := r1.length
    have l2 := r2.length
    refine wpAny_pyNext_zip_end (I.ok.hd hc) D hz ht ho hi hj p1.isList p2.isList (e1.imp (fun z => ?_) fun z => ?_) fun h' hk => ⟨rfl, ?_⟩
    · simp; omega
    · simp; omega
    · refine Inv.turns (t' := s.toks) [z, t, o, i, j] I (fun c ob hc e => ?_) hf
      simp only [List.mem_cons, List.not_mem_nil, or_false, not_or] at hc
      exact hk c ob hc.1 hc.2.2.1 hc.2.2.2.1 hc.2.2.2.2 e
/-- a list, as it is read now and later -/
def LsAt (K : PySem.W.Frag) (src : Src) (a : Addr) (H : Hp) (hid μ : List Addr) : Prop := ∀ hid' H' μ' O', Mv H hid μ H' hid' μ' → Cells K H' hid' μ' O' → ∃ ds vs, SqL K H' a vs ∧ Dats K H' hid' μ' ds vs ∧ ∀ i, src.get O' i = ds[i]?
section
variable {K : PySem.W.Frag} {H : Hp} {hid μ : List Addr}
theorem LsAt.val {ds : List D} {vs : List V} {a : Addr} (l : LstAt K H hid μ a vs) (q : Dats K H hid μ ds vs) : LsAt K (.val ds) a H hid μ := fun hid' H' μ' O' m c => ⟨ds, vs, (l.mv m).sq, q.mv m, fun _ => rfl⟩
theorem LsAt.own {k : Nat} {a : Addr} (hk : μ[k]? = some a) : LsAt K (.own k) a H hid μ := by
  intro hid' H' μ' O' m c
  obtain ⟨ν, rfl⟩ := m.pre
  have hk' : (μ ++ ν)[k]? = some a := by rw [List.getElem?_append_left (List.getElem?_eq_some_iff.mp hk).1]; exact hk
  obtain ⟨ds, vs, h1, h2, h3⟩ := c.at_ k a hk'
  exact ⟨ds, vs, .of h2, h3, fun i => by show (match O'[k]? with | some ds => ds[i]? | none => none) = _; rw [h1]⟩
theorem SrcAt.zip {a b : Addr} {s1 s2 : Src} (h1 : LsAt K s1 a H hid μ) (h2 : LsAt K s2 b H hid μ) : SrcAt K (Itz K a b) (.zip s1 s2) H hid μ := by
  intro hid' H' μ' O' m c i
  obtain ⟨ds, vs, q1, d1, g1⟩ := h1 hid' H' μ' O' m c
  obtain ⟨es, ws, q2, d2, g2⟩ := h2 hid' H' μ' O' m c
  show match (match s1.get O' i, s2.get O' i with | some x, some y => some (D.tup [x, y]) | _, _ => none) with | some d => _ | none => _
  rw [g1, g2]
  cases e1 : ds[i]? with
  | none =>
    dsimp only
    exact ⟨vs, ws, q1, q2, .inl (by rw [← d1.length]; exact List.getElem?_eq_none_iff.mp e1)⟩
  | some x =>
    cases e2 : es[i]? with
    | none =>
      dsimp only
      exact ⟨vs, ws, q1, q2, .inr (by rw [← d2.length]; exact List.getElem?_eq_none_iff.mp e2)⟩
    | some y =>
      dsimp only
      obtain ⟨v, w1, r1⟩ := d1.get e1
      obtain ⟨w, w2, r2⟩ := d2.get e2
      refine ⟨⟨vs, ws, v, w, q1, q2, w1, w2⟩, fun z H'' yl => ?_⟩
      obtain ⟨p, v', w', hp, rfl, f1, f2, rfl⟩ := yl
      have t1 := f1 vs q1
      rw [w1] at t1; cases t1
      have t2 := f2 ws q2
      rw [w2] at t2; cases t2
      exact ⟨.laid hp, c.laid hp, Dat.newT c hp (.cons r1 (.cons r2 .nil))⟩
end
def lsSrc : D → Option Src
  | .lst ds => some (.val ds)
  | .own k => some (.own k)
  | _ => none
theorem lsSrc_at {K : PySem.W.Frag} {H : Hp} {hid μ : List Addr} {O : Ow} {d : D} {v : V} {src : Src} (c : Cells K H hid μ O) (h : Dat K H hid μ d v) (e : lsSrc d = some src) : ∃ a vs, v = .ref a ∧ SqL K H a vs ∧ LsAt K src a H hid μ := by
  cases d with
  | lst ds =>
    unfold Dat at h
    obtain ⟨a, vs, rfl, l, q⟩ := h
    cases e
    exact ⟨a, vs, rfl, l.sq, .val l q⟩
  | own k =>
    unfold Dat at h
    obtain ⟨a, rfl, hk⟩ := h
    cases e
    obtain ⟨ds, vs, h1, h2, h3⟩ := c.at_ k a hk
    exact ⟨a, vs, rfl, .of h2, .own hk⟩
  | _ => cases e
def dZip (t : DA) : DI := fun σ O => (t σ O).bnd fun xs O1 => match xs with
  | [x, y] => match lsSrc x, lsSrc y with
    | some p, some q => .ok (.zip p q) O1
    | _, _ => .bad
  | _ => .bad
section
variable {X : Cx} {Ex : Nat → Hp → Prop} {pos : Pos} {a b c e o : Expr} {ta tb tc te to : DE} {pins : List (Addr × Obj)} {σv : St} {H : Hp} {s : Shared} {hid μ : List Addr} {O : Ow}
theorem boot_zip : bootBuiltins "zip" = some (.type "zip") := by boot_by_name
theorem pdi_zip {es' : List Expr} {kt} {pt : Pos} {t : DA} {p : Pos} (hg : Gl X "zip") (hm : X.mg "zip" = none) (ha : PDA X Ex [a, b] t) (hs : starEach [a, b] X.env = [(false, eval a X.env), (false, eval b X.env)] := by rfl) (hs2 : starEach [b] X.env = [(false, eval b X.env)] := by rfl) :
    PDI X Ex (.Tuple es' kt pt) (.Call (.Name "zip" p) [a, b] [] pos) (dZip t) := by
  refine ⟨?_⟩
  rintro pins s σv H Rr I ⟨hid, μ, σ, O, e1, c1, q⟩
  refine PyProof.Rows.Call_ (ld_blt I hg hm boot_zip (PyProof.Rows.callWith_type1 (thn (ha.out pos pins s σv H _ I (rdA.go e1 c1 q (Q1 := fun vs H1 => ∃ hid μ1 O1 ds, Cells X.K H1 hid μ1 O1 ∧ Dats X.K H1 hid μ1 ds vs ∧
      post Ex X.K (fun H' μ' s J => SrcAt X.K J s H' hid μ') H1 hid μ1 (match ds with | [x, y] => (match lsSrc x, lsSrc y with | some p, some q => .ok (.zip p q) O1 | _, _ => .bad) | _ => .bad) Rr)
    fun ds O1 vs H1 μ1 e2 x cl d p => ⟨hid, μ1, O1, ds, cl, d, p⟩)) fun us s1 ⟨vs, H1, I1, r1, hid, μ1, O1, ds, cl, d, p⟩ => ?_) (by rw [hs, hs2]) (by rw [hs2]; rfl)))
  split at p
  · rename_i x y
    split at p
    · rename_i sp sq e1 e2
      obtain ⟨v, w, rfl, dx, dy⟩ := dats2 d
      obtain ⟨l, vs1, rfl, q1, la1⟩ := lsSrc_at cl dx e1
      obtain ⟨m, vs2, rfl, q2, la2⟩ := lsSrc_at cl dy e2
      obtain ⟨u1, u2, rfl, ru1, ru2⟩ := vals2 r1
      cases ru1; cases ru2
      obtain ⟨its, _, p1, _⟩ := I1.list q1
      obtain ⟨its2, _, p2, _⟩ := I1.list q2
      refine call_zip_2 p1.isList p2.isList fun h' g5 g3 g4 g1 g2 hz hk => ?_
      refine wpAny_pyIter_zip g5 ?_
      have I2 : L2.Inv X pins σv H1 { s1 with heap := h', toks := s1.toks } := I1.kept hk
      refine ⟨s1.heap.objs.size + 4, [s1.heap.objs.size + 4, s1.heap.objs.size + 2, s1.heap.objs.size + 3, s1.heap.objs.size, s1.heap.objs.size + 1], _, _, H1, rfl, I2, turn_zip _ _ _ _ _ l m ?_, ⟨g5, g3, ⟨_, _, g4⟩, g1, g2⟩, fun b hb => ?_, post.here p cl (.zip la1 la2)⟩
      · have nn : ∀ (n : Addr), [n + 4, n + 2, n + 3, n, n + 1].Nodup := fun n => by
          simp only [List.nodup_cons, List.mem_cons, List.not_mem_nil, or_false, not_or, List.nodup_nil, and_true]
          refine ⟨⟨?_, ?_, ?_, ?_⟩, ⟨?_, ?_, ?_⟩, ⟨?_, ?_⟩, ?_, not_false⟩ <;> simp [Addr] at * <;> omega
        exact nn _
      · have hb' : s1.heap.objs.size ≤ b := by
          simp only [List.mem_cons, List.not_mem_nil, or_false] at hb
          rcases hb with rfl | rfl | rfl | rfl | rfl <;> omega
        have f := I1.fpOk (H' := H1) hb' (I1.hok.fresh hb')
        exact f
    · exact False.elim p
  · exact False.elim p
theorem pg_two {i j : Nat} {x y : Str} {px py pt : Pos} {kt : Nat} (hc : X.calm = true) (hN : X.N.Nodup) (hi : X.N[i]? = some x) (hj : X.N[j]? = some y) (hx : Loc X.env.scope x) (hy : Loc X.env.scope y)
    (hf : X.fn x = true ∨ X.env.scope.names.lookup x = some .local) (hf2 : X.fn y = true ∨ X.env.scope.names.lookup y = some .local) : PG X (.Tuple [.Name x px, .Name y py] kt pt) ((Tg.two i j).rd X.K) :=
  pg_tup hc (pgs_cons (pg_name hN hi hx hf) (pgs_cons (pg_name hN hj hy hf2) pgs_nil))
/-! ### max, min of a list of ints -/
/-! ### int of a text -/
def fIntA : Ow → List D → R D := fun O xs => match xs with
  | [.str cs] => match PySem.intText? ⟨cs.toArray⟩ with
    | some n => if cs.length ≤ 640 then .ok (.int n) O else .bad
    | none => .bad
  | xs => fInt O xs
theorem call_intT : CallR X (.type "int") (fun xs H Q => ∃ x n, xs = [.str x] ∧ PySem.intText? x = some n ∧ x.length ≤ 640 ∧ Q (.int n) H) := by
  intro pins s σ H xs us Q I r h
  obtain ⟨x, n, rfl, hn, hl, q⟩ := h
  obtain ⟨u, rfl, t, rfl⟩ := vals1 r
  exact PySem.W.KIN.call_text hn hl ⟨.int _, H, I.tok _, ⟨_, rfl⟩, q⟩
def rIntA : List V → Hp → VK → Prop := fun xs H Q => ((∃ i, xs = [.int i] ∧ Q (.int i) H) ∨ ∃ k, xs = [.bl k] ∧ Q (.int (if k then 1 else 0)) H) ∨ ∃ x n, xs = [.str x] ∧ PySem.intText? x = some n ∧ x.length ≤ 640 ∧ Q (.int n) H
theorem call_intA : CallR X (.type "int") rIntA := CallR.or call_int1 call_intT
theorem cd_intA : CallD X Ex rIntA fIntA := by
  intro H hid μ O xs vs Q c d q
  unfold fIntA at q
  split at q
  · rename_i cs
    obtain ⟨v, rfl, dx⟩ := dats1 d
    unfold Dat at dx; subst dx
    split at q
    · rename_i n hn
      obtain ⟨hl, q⟩ := post.ite q
      refine .inr ⟨_, n, rfl, hn, ?_, post.here q c dat_int⟩
      show cs.toArray.size ≤ 640
      simpa using hl
    · exact False.elim q
  · exact .inl (cd_int H hid μ O _ vs Q c d q)
end
end DL

namespace DL
open PySem L2
section
variable {X : Cx} {Ex : Nat → Hp → Prop} {pos dpos : Pos} {a b c e o i : Expr} {ta tb tc te to ti : DE} {pins : List (Addr × Obj)} {σv : St} {H : Hp} {s : Shared} {hid μ : List Addr} {O : Ow}
/-! ### {}: a dict of its own -/
/-! ### {k: v, ..}[i], ints -/
/-! ### a module's dict of ints -/
def entB : List DictEntry → List (Int × Int) → Bool
  | [], [] => true
  | e :: es, (k, v) :: r => (match e.key with | .int i _ => i == k | _ => false) && (e.hash == hashInt k) && (match e.val with | .int i _ => i == v | _ => false) && entB es r
  | _, _ => false
def tabB (o : Obj) (tab : List (Int × Int)) : Bool := (match o.cls with | .type n => n == "dict" | _ => false) && o.dict.isNone && o.slots.isEmpty && decide ((tab.map (·.1)).Nodup) && (match o.data with | .dict es _ => entB es.toList tab | _ => false)
structure GTab (K : PySem.W.Frag) (mg : Str → Option Value) (x : Str) (tab : List (Int × Int)) : Prop where
  ex : ∃ e o, mg x = some (.ref e) ∧ K.lookup e = some o ∧ tabB o tab = true ∧ (e == sysModules) = false
end
end DL

namespace DL
open PySem L2 PyProof.Rows
/-! ### sorted(..) of a list of texts that is in order already, however long -/
section
variable {prog : Program} {w : World} {A : Around} {E : Value → Shared → Prop} {s : Shared} {a₀ : Array Keyed} {κ : PyProof.Rows.KeyKind}
end
section
variable {X : Cx} {Ex : Nat → Hp → Prop} {H : Hp} {hid μ : List Addr}
theorem bt_len : bootBuiltins "len" = some (.builtin "len") := by boot_by_name
theorem bt_all : bootBuiltins "all" = some (.builtin "all") := by boot_by_name
theorem bt_int : bootBuiltins "int" = some (.type "int") := by boot_by_name
theorem bt_str : bootBuiltins "str" = some (.type "str") := by boot_by_name
theorem bt_tuple : bootBuiltins "tuple" = some (.type "tuple") := by boot_by_name
theorem bt_list : bootBuiltins "list" = some (.type "list") := by boot_by_name
theorem bt_max : bootBuiltins "max" = some (.builtin "max") := by boot_by_name
theorem bt_min : bootBuiltins "min" = some (.builtin "min") := by boot_by_name
theorem bt_isinstance : bootBuiltins "isinstance" = some (.builtin "isinstance") := by boot_by_name
theorem bt_bool : bootBuiltins "bool" = some (.type "bool") := by boot_by_name
end
/-! ### an argument that is no star -/
theorem se_list {es r : List Expr} {pos : Pos} {env : Env} : starEach (.List es pos :: r) env = (false, eval (.List es pos) env) :: starEach r env := rfl
theorem se_tuple {es r : List Expr} {k} {pos : Pos} {env : Env} : starEach (.Tuple es k pos :: r) env = (false, eval (.Tuple es k pos) env) :: starEach r env := rfl
theorem se_comp {e : Expr} {gs} {sc : Scope} {r : List Expr} {pos : Pos} {env : Env} : starEach (.ListComp e gs sc pos :: r) env = (false, eval (.ListComp e gs sc pos) env) :: starEach r env := rfl
theorem se_call {f : Expr} {as kws} {r : List Expr} {pos : Pos} {env : Env} : starEach (.Call f as kws pos :: r) env = (false, eval (.Call f as kws pos) env) :: starEach r env := rfl
theorem se_sub {f g : Expr} {r : List Expr} {pos : Pos} {env : Env} : starEach (.Subscript f g pos :: r) env = (false, eval (.Subscript f g pos) env) :: starEach r env := rfl
theorem se_bin {f g : Expr} {o : Operator} {r : List Expr} {pos : Pos} {env : Env} : starEach (.BinOp f o g pos :: r) env = (false, eval (.BinOp f o g pos) env) :: starEach r env := rfl
theorem se_un {f : Expr} {o : UnaryOp} {r : List Expr} {pos : Pos} {env : Env} : starEach (.UnaryOp o f pos :: r) env = (false, eval (.UnaryOp o f pos) env) :: starEach r env := rfl
theorem se_name {f : Str} {r : List Expr} {pos : Pos} {env : Env} : starEach (.Name f pos :: r) env = (false, eval (.Name f pos) env) :: starEach r env := rfl
theorem se_const {f} {k} {r : List Expr} {pos : Pos} {env : Env} : starEach (.Constant f k pos :: r) env = (false, eval (.Constant f k pos) env) :: starEach r env := rfl
theorem se_cmp {f : Expr} {os fs} {r : List Expr} {pos : Pos} {env : Env} : starEach (.Compare f os fs pos :: r) env = (false, eval (.Compare f os fs pos) env) :: starEach r env := rfl
theorem se_if {a b c : Expr} {r : List Expr} {pos : Pos} {env : Env} : starEach (.IfExp a b c pos :: r) env = (false, eval (.IfExp a b c pos) env) :: starEach r env := rfl
/-! ### the law's own def, and its head -/
end DL

namespace DL
/-! ### data alone: walks -/
theorem get_mid {α : Type} (pre ds : List α) (d : α) : (pre ++ d :: ds)[pre.length]? = some d := by simp
theorem walkD_val {step : D → Ow → List D → R (List D)} {O : Ow} {g : D → List D} : ∀ (ds pre acc : List D) (f : Nat), ds.length ≤ f → (∀ d ∈ ds, ∀ acc : List D, acc.length < 100000 → step d O acc = .ok (acc ++ g d) O) → acc.length + (ds.flatMap g).length + ds.length < 100000 →
    walkD (.val (pre ++ ds)) step f pre.length O acc = .ok (acc ++ ds.flatMap g) O
  | [], pre, acc, f, _, _, _ => by
    cases f <;> (unfold walkD; simp [Src.get])
  | d :: ds, pre, acc, 0, h, _, _ => by simp at h
  | d :: ds, pre, acc, f + 1, h, hs, hl => by
    unfold walkD
    have e : Src.get (.val (pre ++ d :: ds)) O pre.length = some d := get_mid pre ds d
    rw [e]
    simp only [List.flatMap_cons, List.length_append, List.length_cons] at hl
    show ((step d O acc).bnd fun acc' O' => walkD (.val (pre ++ d :: ds)) step f (pre.length + 1) O' acc') = _
    rw [hs d List.mem_cons_self acc (by omega)]
    show walkD (.val (pre ++ d :: ds)) step f (pre.length + 1) O (acc ++ g d) = _
    have := walkD_val ds (pre ++ [d]) (acc ++ g d) f (by simpa using h) (fun d' h' => hs d' (List.mem_cons_of_mem _ h')) (by rw [List.length_append]; omega)
    rw [List.append_assoc, List.singleton_append, List.length_append, List.length_singleton] at this
    rw [this]; simp
/-- one clause, one name, by value -/
theorem dComp_one {ext : Nat} {it0 : DI} {i : Nat} {ts : List DT} {te : DE} {σ : Sg} {O : Ow} {ds : List D} {p : D → Bool} {e : D → D} (hi : it0 σ O = .ok (.val ds) O) (hl : ds.length < 50000)
    (hp : ∀ d ∈ ds, dAll ts ((clr (clr (σ ++ List.replicate ext none) [i]) [i]).set i (some d)) O = .ok (p d) O) (he : ∀ d ∈ ds, p d = true → te ((clr (clr (σ ++ List.replicate ext none) [i]) [i]).set i (some d)) O = .ok (e d) O) (o : Bool) :
    dComp o ext it0 (.one i) ts [] te σ O = outC o (.ok ((ds.filter p).map e) O) := by
  unfold dComp compAll
  rw [hi]
  show outC o (noX (walkD (.val ds) _ ds.length 0 O [])) = _
  have step : ∀ d ∈ ds, ∀ acc : List D, acc.length < 100000 → stepD ⟨it0, .one i, ts⟩ [] te (clr (σ ++ List.replicate ext none) (slotsOf [⟨it0, .one i, ts⟩])) d O acc = .ok (acc ++ (if p d = true then [e d] else [])) O := by
    intro d hd acc ha
    show (match Tg.put (.one i) d (clr (clr (σ ++ List.replicate ext none) [i]) [i]) with | some σ1 => (dAll ts σ1 O).bnd fun b O3 => if b = true then compD [] te σ1 O3 acc else .ok acc O3 | none => .bad) = _
    show (dAll ts ((clr (clr (σ ++ List.replicate ext none) [i]) [i]).set i (some d)) O).bnd _ = _
    rw [hp d hd]
    show (if p d = true then compD [] te _ O acc else .ok acc O) = _
    by_cases hpd : p d = true
    · rw [if_pos hpd, if_pos hpd]
      unfold compD
      rw [he d hd hpd]
      show (if acc.length < 100000 then _ else _) = _
      rw [if_pos ha]
    · rw [if_neg hpd, if_neg hpd]; simp
  have hb : ∀ l : List D, (l.flatMap fun d => if p d = true then [e d] else []) = (l.filter p).map e := by
    intro l
    induction l with
    | nil => rfl
    | cons x l ih =>
      rw [List.flatMap_cons, ih, List.filter_cons]
      by_cases hx : p x = true
      · rw [if_pos hx, if_pos hx]; rfl
      · rw [if_neg hx, if_neg hx]; rfl
  have hlen : ((ds.filter p).map e).length ≤ ds.length := by rw [List.length_map]; exact List.length_filter_le _ _
  have w := walkD_val (O := O) (g := fun d => if p d = true then [e d] else []) ds [] [] ds.length (Nat.le_refl _) step (by rw [hb]; simp at hlen ⊢; omega)
  rw [List.nil_append, hb, List.nil_append] at w
  have w' : walkD (.val ds) (stepD ⟨it0, .one i, ts⟩ [] te (clr (σ ++ List.replicate ext none) (slotsOf [⟨it0, .one i, ts⟩]))) ds.length 0 O [] = .ok ((ds.filter p).map e) O := w
  rw [w']; rfl
/-! ### loops -/
theorem loopS_inv {ds : List D} {step : D → Sg → Ow → RS} (I : Nat → Sg → Ow → Prop) (h : ∀ i σ O d, I i σ O → ds[i]? = some d → ∃ σ' O', step d σ O = .nx σ' O' ∧ I (i + 1) σ' O') :
    ∀ (f i : Nat) (σ : Sg) (O : Ow), I i σ O → ds.length ≤ i + f → i ≤ ds.length → ∃ σ' O', loopS (.val ds) step f i σ O = .nx σ' O' ∧ I ds.length σ' O'
  | 0, i, σ, O, hI, h1, h2 => by
    have : i = ds.length := by omega
    subst this
    refine ⟨σ, O, ?_, hI⟩
    unfold loopS
    have e : Src.get (.val ds) O ds.length = none := by simp [Src.get]
    rw [e]
  | f + 1, i, σ, O, hI, h1, h2 => by
    unfold loopS
    have eg : Src.get (.val ds) O i = ds[i]? := rfl
    rw [eg]
    cases e : ds[i]? with
    | none =>
      have : i = ds.length := by have := List.getElem?_eq_none_iff.mp e; omega
      subst this
      exact ⟨σ, O, rfl, hI⟩
    | some d =>
      obtain ⟨σ', O', e1, e2⟩ := h i σ O d hI e
      dsimp only
      rw [e1]
      exact loopS_inv I h f (i + 1) σ' O' e2 (by omega) (by have := (List.getElem?_eq_some_iff.mp e).1; omega)
/-- a walk that may change the cells -/
theorem walkD_inv {ds : List D} {step : D → Ow → List D → R (List D)} (I : Nat → Ow → List D → Prop) (h : ∀ i O acc d, I i O acc → ds[i]? = some d → ∃ acc' O', step d O acc = .ok acc' O' ∧ I (i + 1) O' acc') :
    ∀ (f i : Nat) (O : Ow) (acc : List D), I i O acc → ds.length ≤ i + f → i ≤ ds.length → ∃ acc' O', walkD (.val ds) step f i O acc = .ok acc' O' ∧ I ds.length O' acc'
  | 0, i, O, acc, hI, h1, h2 => by
    have : i = ds.length := by omega
    subst this
    refine ⟨acc, O, ?_, hI⟩
    unfold walkD
    have e : Src.get (.val ds) O ds.length = none := by simp [Src.get]
    rw [e]
  | f + 1, i, O, acc, hI, h1, h2 => by
    unfold walkD
    have eg : Src.get (.val ds) O i = ds[i]? := rfl
    rw [eg]
    cases e : ds[i]? with
    | none =>
      have : i = ds.length := by have := List.getElem?_eq_none_iff.mp e; omega
      subst this
      exact ⟨acc, O, rfl, hI⟩
    | some d =>
      obtain ⟨acc', O', e1, e2⟩ := h i O acc d hI e
      dsimp only
      rw [e1]
      exact walkD_inv I h f (i + 1) O' acc' e2 (by omega) (by have := (List.getElem?_eq_some_iff.mp e).1; omega)
/-! ### cells that hold no lists by value -/
def flatD (n : Nat) : D → Bool
  | .own k => decide (k < n)
  | .lst _ => false
  | .tup _ => false
  | _ => true
def Flat (O : Ow) : Prop := ∀ c ∈ O, ∀ d ∈ c, flatD O.length d = true
theorem frz_flat {O : Ow} {n f : Nat} {d : D} (h : flatD n d = true) : frz O n f d = some d := by
  cases d with
  | own k =>
    have h : k < n := by simpa [flatD] using h
    cases f <;> (unfold frz; dsimp only; rw [if_pos h])
  | lst ds => cases h
  | tup ds => cases h
  | _ => cases f <;> rfl
theorem mapO_id {α : Type} {f : α → Option α} : ∀ {l : List α}, (∀ x ∈ l, f x = some x) → mapO f l = some l
  | [], _ => rfl
  | x :: l, h => by
    unfold mapO
    rw [h x List.mem_cons_self, mapO_id fun y hy => h y (List.mem_cons_of_mem _ hy)]
theorem frzR_flat {O' : Ow} {d : D} {cs : List D} (hO : ∀ c ∈ O', ∀ d ∈ c, flatD O'.length d = true) (X : Ow) (h : frz (O' ++ X) O'.length 8 d = some (.lst cs)) : frzR O'.length (.ok d (O' ++ X)) = .ok (.lst cs) O' := by
  unfold frzR
  dsimp only
  rw [h]
  have : (O' ++ X).take O'.length = O' := by simp
  rw [this, mapO_id fun c hc => mapO_id fun d hd => frz_flat (hO c hc d hd)]
/-! ### reading terms -/
section
variable {σ σ' : Sg} {O O1 O2 O3 : Ow} {t u ta tb : DE} {tA : DA} {x y : D} {b : Bool} {ds : List D}
theorem dCons1 (h : t σ O = .ok x O1) : dCons t dNil σ O = .ok [x] O1 := by show ((t σ O).bnd _) = _; rw [h]; rfl
theorem dCons2 (h1 : t σ O = .ok x O1) (h2 : u σ O1 = .ok y O2) : dCons t (dCons u dNil) σ O = .ok [x, y] O2 := by
  show ((t σ O).bnd _) = _
  rw [h1]
  show ((dCons u dNil σ O1).bnd _) = _
  rw [dCons1 h2]; rfl
theorem dFn_eq {n : Nat} {F : List D → Ow → R D} (h : tA σ O = .ok ds O1) (hn : ds.length = n) : dFn n F tA σ O = F ds O1 := by show ((tA σ O).bnd _) = _; rw [h]; show (if ds.length = n then _ else _) = _; rw [if_pos hn]
theorem dCall_eq {f : Ow → List D → R D} (h : tA σ O = .ok ds O1) : dCall f tA σ O = f O1 ds := by show ((tA σ O).bnd _) = _; rw [h]; rfl
theorem dOp_eq {f : Ow → D → D → R D} (h1 : ta σ O = .ok x O1) (h2 : tb σ O1 = .ok y O2) : dOp f ta tb σ O = f O2 x y := by
  show ((ta σ O).bnd _) = _
  rw [h1]
  show ((tb σ O1).bnd _) = _
  rw [h2]; rfl
theorem dTst_eq (h : t σ O = .ok (.bl b) O1) : dTst t σ O = .ok b O1 := by show ((t σ O).bnd _) = _; rw [h]; rfl
theorem dTru_bl (h : t σ O = .ok (.bl b) O1) : dTru t σ O = .ok b O1 := by show ((t σ O).bnd _) = _; rw [h]; rfl
theorem dIt_lst (h : t σ O = .ok (.lst ds) O1) : dIt t σ O = .ok (.val ds) O1 := by show ((t σ O).bnd _) = _; rw [h]; rfl
theorem sSet_eq {i : Nat} (h : t σ O = .ok x O1) : sSet i t σ O = .nx (σ.set i (some x)) O1 := by show ((t σ O).bnS _) = _; rw [h]; rfl
theorem sRet_eq (h : t σ O = .ok x O1) : sRet t σ O = .rt x O1 := by show ((t σ O).bnS _) = _; rw [h]; rfl
theorem sIf_eq {c : DT} {a d : DS} (h : c σ O = .ok b O1) : sIf c a d σ O = if b = true then a σ O1 else d σ O1 := by show ((c σ O).bnS _) = _; rw [h]; rfl
theorem sSeq_nx {a d : DS} (h : a σ O = .nx σ' O1) : sSeq a d σ O = d σ' O1 := by show (match a σ O with | .nx σ' O' => _ | r => r) = _; rw [h]
theorem sSeq_rt {a d : DS} (h : a σ O = .rt x O1) : sSeq a d σ O = .rt x O1 := by show (match a σ O with | .nx σ' O' => _ | r => r) = _; rw [h]
theorem sFor_eq {it : DI} {g : Tg} {body : DS} {src : Src} (h : it σ O = .ok src O1) : sFor it g body σ O = loopS src (fun d σ O => match g.put d σ with | some σ' => body σ' O | none => .bad) (src.size O1) 0 σ O1 := by show ((it σ O).bnS _) = _; rw [h]; rfl
theorem dRng1_eq {n : Nat} (h : tA σ O = .ok [.int (n : Nat)] O1) (hn : n < 100000) : dRng1 tA σ O = .ok (.val ((List.range n).map fun (i : Nat) => D.int (i : Int))) O1 := by
  have hc : -1000000 ≤ ((n : Nat) : Int) ∧ ((n : Nat) : Int) ≤ 1000000 := by constructor <;> omega
  unfold dRng1
  rw [h]
  dsimp only [R.bnd]
  rw [if_pos hc]
  unfold rngSrc
  have e2 : (((n : Nat) : Int) - 0).toNat = n := by omega
  rw [e2]
  congr 2
  refine List.map_congr_left fun i _ => ?_
  rw [Int.zero_add]
theorem fLen_str {cs : List Nat} (h : cs.length ≤ 100000) : fLen O [.str cs] = .ok (.int cs.length) O := by
  show (if cs.length ≤ 100000 then R.ok (D.int cs.length) O else R.bad) = _
  rw [if_pos h]
theorem fIx_str {cs : List Nat} {i : Nat} (h : cs.length ≤ 100000) (hi : i < cs.length) : fIx O (.str cs) (.int (i : Int)) = .ok (.str [cs[i]]) O := by
  show (if cs.length ≤ 100000 then (match L2.atI cs (i : Int) with | some ch => R.ok (D.str [ch]) O | none => R.bad) else R.bad) = _
  rw [if_pos h, L2.atI_nat (List.getElem?_eq_getElem hi)]
theorem fIx_tup {i : Nat} (hi : i < ds.length) : fIx O (.tup ds) (.int (i : Int)) = .ok ds[i] O := by
  show (match L2.atI ds (i : Int) with | some d => R.ok d O | none => R.bad) = _
  rw [L2.atI_nat (List.getElem?_eq_getElem hi)]
theorem fIx_lst {i : Nat} (hi : i < ds.length) : fIx O (.lst ds) (.int (i : Int)) = .ok ds[i] O := by
  show (match L2.atI ds (i : Int) with | some d => R.ok d O | none => R.bad) = _
  rw [L2.atI_nat (List.getElem?_eq_getElem hi)]
end
theorem mapO_int (O : Ow) (n : Nat) : ∀ l : List Int, mapO (toPy O n) (l.map D.int) = some (l.map PySem.PyData.int)
  | [] => rfl
  | x :: l => by
    have e : toPy O n (.int x) = some (.int x) := by cases n <;> rfl
    show mapO (toPy O n) (D.int x :: l.map D.int) = _
    unfold mapO
    rw [e, mapO_int O n l]; rfl
theorem eq_nil (O : Ow) (l : List Int) : fPy eqF O (.lst (l.map D.int)) (.lst []) = .ok (.bl l.isEmpty) O := by
  unfold fPy py
  have e : toPy O 8 (.lst (l.map D.int)) = some (.list (l.map PySem.PyData.int)) := by
    show (mapO (toPy O 7) (l.map D.int)).map PySem.PyData.list = _
    rw [mapO_int]; rfl
  rw [e]
  cases l <;> rfl
end DL

namespace DL
/-! ### comprehensions over lists of anything -/
theorem walkD_of {α : Type} {src : Src} {step : D → Ow → List D → R (List D)} {O : Ow} {inj : α → D} {g : α → List D} {all : List α} (hg : ∀ i, src.get O i = (all.map inj)[i]?) : ∀ (ds pre : List α) (acc : List D) (f : Nat), all = pre ++ ds → ds.length ≤ f →
    (∀ a ∈ ds, ∀ acc : List D, acc.length < 100000 → step (inj a) O acc = .ok (acc ++ g a) O) → acc.length + (ds.flatMap g).length + ds.length < 100000 → walkD src step f pre.length O acc = .ok (acc ++ ds.flatMap g) O
  | [], pre, acc, f, ha, _, _, _ => by
    have e : src.get O pre.length = none := by rw [hg, ha]; simp
    cases f <;> (unfold walkD; rw [e]; simp)
  | d :: ds, pre, acc, 0, _, h, _, _ => by simp at h
  | d :: ds, pre, acc, f + 1, ha, h, hs, hl => by
    unfold walkD
    have e : src.get O pre.length = some (inj d) := by rw [hg, ha]; simp
    rw [e]
    simp only [List.flatMap_cons, List.length_append, List.length_cons] at hl
    show ((step (inj d) O acc).bnd fun acc' O' => walkD src step f (pre.length + 1) O' acc') = _
    rw [hs d List.mem_cons_self acc (by omega)]
    show walkD src step f (pre.length + 1) O (acc ++ g d) = _
    have := walkD_of hg ds (pre ++ [d]) (acc ++ g d) f (by rw [ha]; simp) (by simpa using h) (fun d' h' => hs d' (List.mem_cons_of_mem _ h')) (by rw [List.length_append]; omega)
    rw [List.length_append, List.length_singleton] at this
    rw [this]; simp
theorem flat_filter {α β : Type} (p : α → Bool) (e : α → β) : ∀ l : List α, (l.flatMap fun d => if p d = true then [e d] else []) = (l.filter p).map e
  | [] => rfl
  | x :: l => by
    rw [List.flatMap_cons, flat_filter p e l, List.filter_cons]
    by_cases hx : p x = true
    · rw [if_pos hx, if_pos hx]; rfl
    · rw [if_neg hx, if_neg hx]; rfl
theorem comp_src {α : Type} {ext : Nat} {it0 : DI} {g : Tg} {ts : List DT} {te : DE} {σ : Sg} {O O0 : Ow} {src : Src} {l : List α} {inj : α → D} {p : α → Bool} {e : α → D} {τ : α → Sg} {o : Bool} (hi : it0 σ O0 = .ok src O) (hg : ∀ i, src.get O i = (l.map inj)[i]?) (hsz : src.size O = l.length) (hl : l.length < 50000)
    (hτ : ∀ a ∈ l, g.put (inj a) (clr (clr (σ ++ List.replicate ext none) (g.slots ++ [])) (g.slots ++ [])) = some (τ a)) (hp : ∀ a ∈ l, dAll ts (τ a) O = .ok (p a) O) (he : ∀ a ∈ l, p a = true → te (τ a) O = .ok (e a) O) :
    dComp o ext it0 g ts [] te σ O0 = outC o (.ok ((l.filter p).map e) O) := by
  unfold dComp compAll
  rw [hi]
  show outC o (noX (walkD src _ (src.size O) 0 O [])) = _
  have step : ∀ a ∈ l, ∀ acc : List D, acc.length < 100000 → stepD ⟨it0, g, ts⟩ [] te (clr (σ ++ List.replicate ext none) (slotsOf [⟨it0, g, ts⟩])) (inj a) O acc = .ok (acc ++ (if p a = true then [e a] else [])) O := by
    intro a ha acc hacc
    show (match g.put (inj a) (clr (clr (σ ++ List.replicate ext none) (g.slots ++ [])) (g.slots ++ [])) with | some σ1 => (dAll ts σ1 O).bnd fun b O3 => if b = true then compD [] te σ1 O3 acc else .ok acc O3 | none => .bad) = _
    rw [hτ a ha]
    show (dAll ts (τ a) O).bnd _ = _
    rw [hp a ha]
    show (if p a = true then compD [] te _ O acc else .ok acc O) = _
    by_cases hpd : p a = true
    · rw [if_pos hpd, if_pos hpd]
      unfold compD
      rw [he a ha hpd]
      show (if acc.length < 100000 then _ else _) = _
      rw [if_pos hacc]
    · rw [if_neg hpd, if_neg hpd]; simp
  have hlen : ((l.filter p).map e).length ≤ l.length := by rw [List.length_map]; exact List.length_filter_le _ _
  have w := walkD_of (O := O) (inj := inj) (g := fun d => if p d = true then [e d] else []) hg l [] [] l.length rfl (Nat.le_refl _) step (by rw [flat_filter]; simp at hlen ⊢; omega)
  rw [flat_filter, List.nil_append] at w
  have w' : walkD src (stepD ⟨it0, g, ts⟩ [] te (clr (σ ++ List.replicate ext none) (slotsOf [⟨it0, g, ts⟩]))) (src.size O) 0 O [] = .ok ((l.filter p).map e) O := by rw [hsz]; exact w
  rw [w']; rfl
section
variable {α : Type} {ext : Nat} {it0 : DI} {i : Nat} {t : DT} {te : DE} {σ : Sg} {O O0 : Ow} {l : List α} {inj : α → D} {p : α → Bool} {e : α → D} {τ : α → Sg} {o : Bool}
theorem dAll_one {σ : Sg} {O : Ow} {b : Bool} (h : t σ O = .ok b O) : dAll [t] σ O = .ok b O := by
  show ((t σ O).bnd _) = _
  rw [h]; cases b <;> rfl
/-- [e for x in l if p] -/
theorem comp1 (hi : it0 σ O0 = .ok (.val (l.map inj)) O) (hl : l.length < 50000) (hτ : ∀ a, (clr (clr (σ ++ List.replicate ext none) [i]) [i]).set i (some (inj a)) = τ a) (hp : ∀ a ∈ l, t (τ a) O = .ok (p a) O) (he : ∀ a ∈ l, p a = true → te (τ a) O = .ok (e a) O) :
    dComp o ext it0 (.one i) [t] [] te σ O0 = outC o (.ok ((l.filter p).map e) O) :=
  comp_src (g := .one i) hi (fun _ => rfl) (by show (l.map inj).length = _; simp) hl (fun a _ => congrArg some (hτ a)) (fun a ha => dAll_one (hp a ha)) he
/-- [e for x in l] -/
theorem comp0 (hi : it0 σ O0 = .ok (.val (l.map inj)) O) (hl : l.length < 50000) (hτ : ∀ a, (clr (clr (σ ++ List.replicate ext none) [i]) [i]).set i (some (inj a)) = τ a) (he : ∀ a ∈ l, te (τ a) O = .ok (e a) O) :
    dComp o ext it0 (.one i) [] [] te σ O0 = outC o (.ok (l.map e) O) := by
  have := comp_src (o := o) (g := .one i) (ts := []) (p := fun _ => true) (te := te) hi (fun _ => rfl) (by show (l.map inj).length = _; simp) hl (fun a _ => congrArg some (hτ a)) (fun a ha => rfl) fun a ha _ => he a ha
  rw [this, List.filter_eq_self.mpr (fun _ _ => rfl)]
end
/-- for x in l, whatever the cells -/
theorem for_of {α : Type} {it : DI} {i : Nat} {body : DS} {σ : Sg} {O0 O : Ow} {l : List α} {inj : α → D} (hi : it σ O0 = .ok (.val (l.map inj)) O) (I : Nat → Sg → Ow → Prop) (h : ∀ (k : Nat) a σ O, l[k]? = some a → I k σ O → ∃ σ' O', body (σ.set i (some (inj a))) O = .nx σ' O' ∧ I (k + 1) σ' O') (h0 : I 0 σ O) :
    ∃ σ' O', sFor it (.one i) body σ O0 = .nx σ' O' ∧ I l.length σ' O' := by
  obtain ⟨σ', O', l1, l2⟩ := loopS_inv (ds := l.map inj) (step := fun d σ O => match Tg.put (.one i) d σ with | some σ' => body σ' O | none => .bad) I (fun j σ O d hI hd => by
    rw [List.getElem?_map] at hd
    cases e : l[j]? with
    | none => rw [e] at hd; cases hd
    | some a =>
      rw [e] at hd; cases hd
      exact h j a σ O e hI) (l.map inj).length 0 σ O h0 (by simp) (Nat.zero_le _)
  rw [List.length_map] at l2
  exact ⟨σ', O', (sFor_eq hi).trans l1, l2⟩
theorem bls_map' : ∀ l : List Bool, bls (l.map D.bl) = some l
  | [] => rfl
  | x :: l => by
    show (bls (l.map D.bl)).map (x :: ·) = _
    rw [bls_map' l]; rfl
theorem fAny_map {α : Type} (O : Ow) (l : List α) (p : α → Bool) : fAny O [.lst (l.map fun a => D.bl (p a))] = .ok (.bl (l.any p)) O := by
  show (match bls (l.map fun a => D.bl (p a)) with | some bs => R.ok (D.bl (bs.any id)) O | none => R.bad) = _
  have : (l.map fun a => D.bl (p a)) = (l.map p).map D.bl := by rw [List.map_map]; rfl
  rw [this, bls_map']
  show R.ok (D.bl _) O = _
  rw [List.any_map]; rfl
theorem fAll_map' {α : Type} (O : Ow) (l : List α) (p : α → Bool) : fAll O [.lst (l.map fun a => D.bl (p a))] = .ok (.bl (l.all p)) O := by
  show (match bls (l.map fun a => D.bl (p a)) with | some bs => R.ok (D.bl (bs.all id)) O | none => R.bad) = _
  have : (l.map fun a => D.bl (p a)) = (l.map p).map D.bl := by rw [List.map_map]; rfl
  rw [this, bls_map']
  show R.ok (D.bl _) O = _
  rw [List.all_map]; rfl
end DL

namespace DL
open PySem L2
/-! ### an exception on its way: its object, and the head of its traceback; both younger than h0, neither tracked -/
structure XAt (h0 : Heap) (H : Hp) (h : Heap) (a : Addr) (C : Value) : Prop where
  ex : ∃ oe vs, h.get? a = some oe ∧ (oe.cls = C ∧ oe.dict = none) ∧ oe.data = .fields vs ∧ 1 < vs.size ∧ (vs[1]? = some .none ∨ ∃ T oT ts, vs[1]? = some (.ref T) ∧ T ≠ a ∧ h0.get? T = none ∧ H T = none ∧ h.get? T = some oT ∧ oT.data = .fields ts ∧ ts[3]? = some .none)
  new : h0.get? a = none
  free : H a = none
theorem dict_mapF (o : Obj) (f) : (o.mapFields f).dict = o.dict := by
  obtain ⟨c, d, dt, sl⟩ := o; cases dt <;> rfl
/-- what of the heap is kept when a frame is noted -/
structure Kp (h0 : Heap) (H : Hp) (fs : List Addr) (h h' : Heap) : Prop where
  keep : ∀ b o, h.get? b = some o → b ∉ fs → (H b ≠ none ∨ h0.get? b ≠ none) → h'.get? b = some o
  slot : ∀ b o, h.get? b = some o → b ∈ fs → ∃ sl, h'.get? b = some { o with slots := sl }
  there : ∀ b o, h.get? b = some o → ∃ o', h'.get? b = some o'
  size : h.objs.size ≤ h'.objs.size
section
variable {M : Model} {A : Around} {E : Value → Shared → Prop} {s : Shared} {base h0 : Heap} {H : Hp} {env : Env} {outer : List Env} {L a : Addr} {C : Value} {Q : Unit → Shared → Prop}
theorem entry_x {oe : Obj} {vs : Array Value} {head : Value} {hn : Bool} (hfr : A.frames = some (env :: outer)) (hl : s.heap.FunFrames base (env :: outer)) (hf : env.frame = some L) (he : s.heap.get? a = some oe) (hC : oe.cls = C ∧ oe.dict = none) (hd : oe.data = .fields vs) (hsz : 1 < vs.size) (new : h0.get? a = none) (free : H a = none)
    (hH : ∀ b, s.heap.objs.size ≤ b → H b = none) (h0s : ∀ b, s.heap.objs.size ≤ b → h0.get? b = none) (h : ∀ h', Kp h0 H (frs (env :: outer)) s.heap h' → XAt h0 H h' a C → Q () { s with heap := h' }) :
    wpAny M A (do let f ← frameOf env; let pl ← entryPlaceOf L hn; let b ← EntryCells.newEntry head f .none (rawInt L) .none pl; setField (.ref a) 1 b) (fun _ s' => wpAny M A (setFlight (.ref a) none) Q E s') E s := by
  have nin : a ∉ frs (env :: outer) := fun hm => by
    obtain ⟨_, o, ho, hnf⟩ := hl.mem hm
    rw [he] at ho; cases ho
    exact hnf vs hd
  refine wpAny_bind (wpAny_frameOf_fun hfr hl hf fun h1 ⟨z1, k1, sl1⟩ => wpAny_bind (wpAny_entryPlaceOf fun pl hpl => ?_))
  unfold EntryCells.newEntry newFields
  refine wpAny_bind (wpAny_newObj_type ?_ (hpl.sizeOk5 _ _ _ _ _))
  have e1 : h1.get? a = some oe := (k1 a nin).trans he
  generalize hob : ({ cls := .type "traceback", dict := none, data := .fields ([head, .ref L, .none, rawInt L, .none] ++ (if pl.isEmpty then List.replicate 6 Value.none else pl)).toArray } : Obj) = ob
  have hobd : ob.data = .fields ([head, .ref L, .none, rawInt L, .none] ++ (if pl.isEmpty then List.replicate 6 Value.none else pl)).toArray := by rw [← hob]
  have e2 := Heap.get?_push_of_some (h := h1) ob e1
  refine wpAny_setField e2 hd hsz ?_
  have nT : h1.objs.size ≠ a := Nat.ne_of_gt (Heap.lt_size e1)
  have d3 := Obj.data_mapFields hd (·.setIfInBounds 1 (Value.ref h1.objs.size))
  have e3 := Heap.get?_update_self (Obj.mapFields (·.setIfInBounds 1 (Value.ref h1.objs.size))) e2 (Obj.isFreed_of_fields d3)
  have t3 : ((h1.push ob).update a (Obj.mapFields (·.setIfInBounds 1 (Value.ref h1.objs.size)))).get? h1.objs.size = some ob := (Heap.get?_update_other _ _ (Ne.symm nT)).trans (Heap.get?_push_size h1 (Obj.isFreed_of_fields hobd))
  unfold setFlight
  refine wpAny_bind (wpAny_field e3 d3 (x := .ref h1.objs.size) (by simp [hsz]) ?_)
  rw [if_pos (show (Value.ref h1.objs.size != Value.none) = true by simp)]
  have tsz : 3 < ([head, .ref L, .none, rawInt L, .none] ++ (if pl.isEmpty then List.replicate 6 Value.none else pl)).toArray.size := by simp only [List.size_toArray, List.length_append, List.length_cons, List.length_nil]; omega
  refine wpAny_setField t3 hobd tsz (h _ ?_ ?_)
  · have old : ∀ b o, b ≠ a → h1.get? b = some o → (((h1.push ob).update a (Obj.mapFields (·.setIfInBounds 1 (Value.ref h1.objs.size)))).update h1.objs.size (Obj.mapFields (·.setIfInBounds 3 ((none : Option Addr).elim Value.none fun f => rawInt f)))).get? b = some o := fun b o hb e => by
      rw [Heap.get?_update_other _ _ (Nat.ne_of_gt (Heap.lt_size e)), Heap.get?_update_other _ _ (Ne.symm hb)]
      exact Heap.get?_push_of_some _ e
    refine ⟨fun b o e hb hk => old b o (fun z => ?_) ((k1 b hb).trans e), fun b o e hb => ?_, fun b o e => ?_, ?_⟩
    · subst z
      rcases hk with q | q
      · exact q free
      · exact q new
    · obtain ⟨sl, q⟩ := sl1 b o e
      exact ⟨sl, old b _ (fun z => nin (z ▸ hb)) q⟩
    · by_cases hb : b = a
      · subst hb
        exact ⟨_, (Heap.get?_update_other _ _ nT).trans e3⟩
      · obtain ⟨sl, q⟩ := sl1 b o e
        exact ⟨_, old b _ hb q⟩
    · rw [Heap.size_update, Heap.size_update, Heap.size_push, z1]; exact Nat.le_succ _
  · refine ⟨⟨_, _, (Heap.get?_update_other _ _ nT).trans e3, ⟨(Obj.cls_mapFields _ _).trans hC.1, (dict_mapF _ _).trans hC.2⟩, d3, by simpa using hsz, .inr ⟨h1.objs.size, _, _, by simp [hsz], nT, ?_, hH _ (by rw [z1]; exact Nat.le_refl _), Heap.get?_update_self _ t3 (Obj.isFreed_of_fields (Obj.data_mapFields hobd _)), Obj.data_mapFields hobd _, ?_⟩⟩, new, free⟩
    · exact h0s _ (by rw [z1]; exact Nat.le_refl _)
    · rw [Array.getElem?_setIfInBounds_self]
      rw [if_pos tsz]; rfl
/-- a frame is noted and let go: leaving a def, or coming to an except -/
theorem note_x (hfr : A.frames = some (env :: outer)) (hl : s.heap.FunFrames base (env :: outer)) (hf : env.frame = some L) (x : XAt h0 H s.heap a C) (hH : ∀ b, s.heap.objs.size ≤ b → H b = none) (h0s : ∀ b, s.heap.objs.size ≤ b → h0.get? b = none)
    (h : ∀ h', Kp h0 H (frs (env :: outer)) s.heap h' → XAt h0 H h' a C → Q () { s with heap := h' }) : wpAny M A (noteFrame (.ref a) env) (fun _ s' => wpAny M A (setFlight (.ref a) none) Q E s') E s := by
  obtain ⟨⟨oe, vs, he, hC, hd, hsz, ht⟩, new, free⟩ := x
  unfold noteFrame
  simp only [hf]
  rcases ht with h1 | ⟨T, oT, ts, h1, nT, newT, freeT, hT, hdT, h3⟩
  · refine wpAny_bind (wpAny_field he hd h1 ?_)
    rw [if_neg (by decide)]
    exact entry_x hfr hl hf he hC hd hsz new free hH h0s h
  · refine wpAny_bind (wpAny_field he hd h1 ?_)
    rw [if_pos (show (Value.ref T != Value.none) = true by simp)]
    refine wpAny_bind (wpAny_field hT hdT h3 ?_)
    rw [if_neg (show ¬ ((Value.none == rawInt L) = true) by simp [rawInt])]
    refine wpAny_bind (wpAny_setField hT hdT (Array.getElem?_eq_some_iff.mp h3).1 ?_)
    have oth : ∀ b, b ≠ T → (s.heap.update T (Obj.mapFields (·.setIfInBounds 3 Value.none))).get? b = s.heap.get? b := fun b hb => Heap.get?_update_other _ _ (Ne.symm hb)
    have rec_ : ∀ b o, s.heap.get? b = some o → (∀ vs, o.data ≠ .fields vs) → b ≠ T := fun b o hb hnf z => by
      subst z; rw [hT] at hb; cases hb; exact hnf ts hdT
    have sz : (s.heap.update T (Obj.mapFields (·.setIfInBounds 3 Value.none))).objs.size = s.heap.objs.size := Heap.size_update ..
    refine entry_x (s := { s with heap := s.heap.update T (Obj.mapFields (·.setIfInBounds 3 Value.none)) }) hfr (hl.of_keeps fun b o hb hnf => ⟨o, (oth b (rec_ b o hb hnf)).trans hb, rfl⟩) hf ((oth a (Ne.symm nT)).trans he) hC hd hsz new free (fun b hb => hH b (by rw [← sz]; exact hb)) (fun b hb => h0s b (by rw [← sz]; exact hb)) fun h' kp xa => h h' ⟨fun b o e hb hk => ?_, fun b o e hb => ?_, fun b o e => ?_, by rw [← sz]; exact kp.size⟩ xa
    · refine kp.keep b o ((oth b fun z => ?_).trans e) hb hk
      subst z
      rcases hk with q | q
      · exact q freeT
      · exact q newT
    · refine kp.slot b o ((oth b fun z => ?_).trans e) hb
      subst z
      obtain ⟨_, o', ho', hnf⟩ := hl.mem hb
      rw [hT] at ho'; cases ho'
      exact hnf ts hdT
    · by_cases hb : b = T
      · subst hb
        exact kp.there b _ (Heap.get?_update_self _ hT (Obj.isFreed_of_fields (Obj.data_mapFields hdT _)))
      · exact kp.there b o ((oth b hb).trans e)
end
end DL

namespace DL
open PySem L2
open PyProof.Rows (AllBare)
/-! ### exceptions that leave a def: Cl names the classes by number -/
def CXr (P : Program) (w : World) (Cl : Nat → Value) : CXT := fun outer H s E e s' => ∃ a c H', e = .ref a ∧ s'.os = s.os ∧ AllBare s'.gens ∧ Un (frs outer) [] H H' s.heap s'.heap ∧ HOk P w H' s'.heap ∧ XAt s.heap H' s'.heap a (Cl c) ∧ E (Cl c) none H'
abbrev Xk (Cl : Nat → Value) (E : XK) : Nat → Hp → Prop := fun c H => E (Cl c) none H
/-- an exception that is on its way in the context X reaches what X wants of it -/
def XOk (X : Cx) (Ex : Nat → Hp → Prop) (Cl : Nat → Value) : Prop := ∀ (pins : List (Addr × Obj)) (σ : St) (H : Hp) (s : Shared) (a : Addr) (c : Nat), Inv X pins σ H s → XAt X.s₀.heap H s.heap a (Cl c) → Ex c H → X.xe (.ref a) s
theorem HOk.here {P : Program} {w : World} {H : Hp} {h : Heap} {a : Addr} (x : L2.HOk P w H h) (e : h.get? a = none) : H a = none := by
  cases q : H a with
  | none => rfl
  | some o =>
    exfalso
    have y := x a o q
    have no : ∀ u, h.get? a = some u → False := fun u z => by rw [e] at z; cases z
    cases o with
    | lst xs => obtain ⟨_, _, _, _, e⟩ := y; exact no _ e
    | tup xs => obtain ⟨_, _, _, _, e, _⟩ := y; exact no _ e
    | dK kvs => obtain ⟨_, _, _, _, o, _, _, e, _⟩ := y; exact no _ e
    | dT kvs => obtain ⟨_, _, _, _, o, _, _, e, _⟩ := y; exact no _ e
    | set S n => obtain ⟨o, _, _, _, e, _⟩ := y; exact no _ e
    | ins C dx fs => obtain ⟨_, _, _, e, _⟩ := y; exact no _ e
    | own y' => obtain ⟨_, e⟩ := y; exact no _ e
    | xd fs => obtain ⟨_, ⟨_, _, _, e, _⟩, _⟩ := y; exact no _ e
    | rng lo hi => obtain ⟨_, _, _, e⟩ := y; exact no _ e
    | frz ob u => obtain ⟨e, _⟩ := y; exact no _ e
    | tbl ps => exact no _ (show h.get? a = some _ from y)
    | met f y' => exact no _ (show h.get? a = some _ from y)
    | ext φ => obtain ⟨_, ⟨_, e⟩, _⟩ := y; exact no _ e
theorem Kp.hok {P : Program} {w : World} {H : Hp} {h0 h h' : Heap} {fs : List Addr} (k : Kp h0 H fs h h') (x : L2.HOk P w H h) (hf : ∀ b ∈ fs, H b = none) : L2.HOk P w H h' := fun a o e =>
  (x a o e).stay (fun b u hb q => k.keep b u q (fun z => by
    rcases hb with rfl | hb
    · rw [hf _ z] at e; cases e
    · rw [hf _ z] at hb; cases hb) (.inl (by
    rcases hb with rfl | hb
    · rw [e]; exact fun z => nomatch z
    · rw [hb]; exact fun z => nomatch z))) (fun _ q => q) fun _ _ q => q
/-- older -/
theorem XAt.older {h0 h1 : Heap} {H : Hp} {h : Heap} {a : Addr} {C : Value} (x : XAt h1 H h a C) (k : ∀ b o, h0.get? b = some o → ∃ o', h1.get? b = some o') : XAt h0 H h a C := by
  have old : ∀ b, h1.get? b = none → h0.get? b = none := fun b e => by
    cases q : h0.get? b with
    | none => rfl
    | some o => obtain ⟨o', z⟩ := k b o q; rw [e] at z; cases z
  obtain ⟨⟨oe, vs, he, hC, hd, hsz, ht⟩, new, free⟩ := x
  refine ⟨⟨oe, vs, he, hC, hd, hsz, ht.imp id fun ⟨T, oT, ts, h1, nT, newT, r⟩ => ⟨T, oT, ts, h1, nT, old T newT, r⟩⟩, old a new, free⟩
section
variable {P : Program} {w : World} {K : PySem.W.Frag} {mg : Str → Option Value} {base : Heap} {N : List Str} {qual : Str} {scope : Scope} {f : Addr} {cd : Value} {A : Around} {outer : List Env} {s : Shared} {H : Hp} {E : XK} {Cl : Nat → Value}
theorem xok_fn : XOk (cxOf (CXr P w Cl) P w K mg base N qual scope f cd A outer s H E) (Xk Cl E) Cl := by
  intro pins σ H1 s1 a c I x q
  generalize hX : cxOf (CXr P w Cl) P w K mg base N qual scope f cd A outer s H E = X at I x ⊢
  have hfr : (A.deeper (PyProof.Rows.envOfC qual scope s.heap.objs.size f cd)).frames = some (PyProof.Rows.envOfC qual scope s.heap.objs.size f cd :: outer) := by have := I.ok.frames; rw [← hX] at this; exact this
  have hst : s1.heap.FunFrames base (PyProof.Rows.envOfC qual scope s.heap.objs.size f cd :: outer) := by have := I.stack; rw [← hX] at this; exact this
  have hfree : ∀ b ∈ frs (PyProof.Rows.envOfC qual scope s.heap.objs.size f cd :: outer), H1 b = none := by have := I.stkFree; rw [← hX] at this; exact this
  have hok : HOk P w H1 s1.heap := by have := I.hok; rw [← hX] at this; exact this
  have hbase : Un (frs outer) [] H H1 s.heap s1.heap := by have := I.base; rw [← hX] at this; exact this
  have hos : s1.os = s.os := by have := I.os; rw [← hX] at this; exact this
  have hsz : s.heap.objs.size ≤ s1.heap.objs.size := by have := I.sz; rw [← hX] at this; exact this
  have hL : H1 s.heap.objs.size = none := by have := I.free; rw [← hX] at this; exact this
  have hx : XAt s.heap H1 s1.heap a (Cl c) := by rw [← hX] at x; exact x
  have hbare := I.bare
  rw [← hX]
  show wpAny (model P w) (A.deeper (PyProof.Rows.envOfC qual scope s.heap.objs.size f cd)) (leaving (PyProof.Rows.envOfC qual scope s.heap.objs.size f cd) (.ref a)) (fun _ s'' => CXr P w Cl outer H s E (.ref a) s'') (fun e' s'' => CXr P w Cl outer H s E e' s'') s1
  unfold leaving
  refine wpAny_bind (note_x hfr hst rfl hx (fun b hb => hok.fresh hb) (fun b hb => Heap.get?_none_of_le (Nat.le_trans hsz hb)) fun h' kp xa => ?_)
  refine ⟨a, c, H1, rfl, hos, hbare, ?_, kp.hok hok hfree, xa, q⟩
  refine ⟨fun b o e n hb hx => ?_, fun b o e n hb hx => ?_, fun b o e n hx => hbase.free b o e n hx, fun b o e hx => ?_, hbase.tups, hbase.frzs, hbase.tbls⟩
  · refine kp.keep b o (hbase.keep b o e n hb hx) (fun z => ?_) (.inr (by rw [e]; exact fun z => nomatch z))
    have z' : b ∈ s.heap.objs.size :: frs outer := z
    rcases List.mem_cons.mp z' with z2 | z2
    · exact absurd (Heap.lt_size e) (by rw [z2]; exact Nat.lt_irrefl _)
    · exact hb z2
  · obtain ⟨sl, e1⟩ := hbase.slot b o e n hb hx
    obtain ⟨sl', e2⟩ := kp.slot b _ e1 (show b ∈ s.heap.objs.size :: frs outer from List.mem_cons_of_mem _ hb)
    exact ⟨sl', e2⟩
  · obtain ⟨o', e1⟩ := hbase.there b o e hx
    exact kp.there b o' e1
end
section
variable {X : Cx} {Cl : Nat → Value} {E : XK}
/-- a callee's exception passes on -/
theorem passes_x (hex : X.ex = []) (h : XOk X (Xk Cl E) Cl) : Passes (CXr X.prog X.w Cl) X E := by
  rintro pins σ H s e s' I ⟨a, c, H', rfl, os, bare, un, hok, x, q⟩
  have I' : Inv X pins σ H' s' := I.call' (ch := []) os un hok bare (fun b z => absurd z (by simp))
  exact h pins σ H' s' a c I' (x.older fun b o e => I.base.there b o e (by rw [hex]; simp)) q
/-- .. none comes -/
theorem passes_0 : Passes (CXr X.prog X.w Cl) X E0 := by
  rintro pins σ H s e s' I ⟨a, c, H', rfl, os, bare, un, hok, x, q⟩
  exact False.elim q
end
end DL

namespace DL
open PySem L2
open PyProof.Rows (AllBare)
/-! ### raise of an own class over ValueError -/
abbrev bmVE : List Value := [.type "ValueError", .type "Exception", .type "BaseException", .type "object"]
abbrev OwnX (mg : Str → Option Value) (base : Heap) (x : Str) (C : Addr) : Prop := PyProof.Rows.OwnCls x C bmVE "ValueError.__new__" mg base
section
variable {X : Cx} {Ex : Nat → Hp → Prop} {Cl : Nat → Value}
def sRaise (c : Nat) (t : DA) : DS := fun σ O => (t σ O).bnS fun xs O1 => if xs.length ≤ 1000 then .exc c O1 else .bad
theorem xat_made {pins : List (Addr × Obj)} {σ : St} {H : Hp} {s : Shared} {h' : Heap} {a : Addr} {C : Value} {vs : List Value} (I : Inv X pins σ H s) (hex : X.ex = []) (m : Heap.MadeExcOf s.heap h' a C vs) : XAt X.s₀.heap H h' a C := by
  obtain ⟨t, h1, h2, h3⟩ := m.there
  refine ⟨⟨_, _, h1, ⟨rfl, rfl⟩, rfl, by simp, .inl rfl⟩, ?_, HOk.here I.hok m.new⟩
  cases q : X.s₀.heap.get? a with
  | none => rfl
  | some o =>
    obtain ⟨o', z⟩ := I.base.there a o q (by rw [hex]; simp)
    rw [m.new] at z; cases z
theorem pds_raise {x : Str} {C : Addr} {c : Nat} {np cpos pos : Pos} {e : Expr} {es : List Expr} {t : DA} (hX : XOk X Ex Cl) (hex : X.ex = []) (hcl : Cl c = .ref C) (own : OwnX X.mg X.base x C) (hc : X.calm = true) (hg : Gl X x) (ha : PDA X Ex (e :: es) t)
    (hdb : (x == ("__debug__" : Str)) = false := by decide) (he : starEach (e :: es) X.env = (false, eval e X.env) :: starEach es X.env := by rfl) (hpl : (backTo cpos (starEach (e :: es) X.env)).any (·.1) = false := by rfl) (hbk : ∃ y rest, backTo cpos (starEach (e :: es) X.env) = (false, y) :: rest := by exact ⟨_, _, rfl⟩) :
    PDS X Ex (.Raise (some (.Call (.Name x np) (e :: es) [] cpos)) none pos) (sRaise c t) := by
  refine ⟨?_⟩
  rintro pins s σv H D I ⟨hid, μ, σ, O, e1, c1, q⟩
  obtain ⟨bm, N, nm, qn, bs, hdct, sn, sub, ab, col, dd, k0, k1, k2, k3, k5, mN, hC, hN, hni, TL⟩ := own.obj
  refine wpAny_Raise_call_subU (nm := nm) (q := qn) (N := N) (bs := bs) (hdct := hdct) (sn := sn) (sub := sub) (ab := ab) (col := col) (dd := dd) (k0 := k0) (k1 := k1) (k2 := k2) (k3 := k3) (k5 := k5) PySem.F.excBase_ValueError (bmB := bmVE) (by rfl) PySem.F.excBase_ValueError (TL.hasType (by rfl)) (I.ok.hd hc) hpl hni (ld_glob I hg own.bound ⟨rfl, ?_⟩ hdb)
  have go := ha.out cpos pins s σv H (fun vs H1 => vs.length ≤ 1000 ∧ Ex c H1) I ⟨hid, μ, σ, O, e1, c1, postS.bnS (q : postS Ex X.K H hid μ (sRaise c t σ O) D) fun ds O1 vs H1 μ1 x2 c2 d2 q2 => by
    by_cases hl : ds.length ≤ 1000
    · rw [if_pos hl] at q2
      exact ⟨by rw [← d2.length]; exact hl, q2 H1 μ1 .refl c2⟩
    · rw [if_neg hl] at q2; exact False.elim q2⟩
  obtain ⟨y, rest, hb⟩ := hbk
  rw [hb] at go ⊢
  refine PySem.Calls.evalArgs_plain (thn go fun us s1 ⟨vs, H1, I1, r, hl, hx⟩ => ⟨rfl, Nat.le_trans (by rw [← r.length]; exact hl) (by decide), I1.bk _ _ hC, hN.keeps I1.bk, TL.keeps I1.bk, fun h' a m => ?_⟩)
  exact hX pins σv H1 { s1 with heap := h' } a c (I1.kept (t' := s1.toks) m.keeps) (by rw [hcl]; exact xat_made I1 hex m) hx
end
end DL

namespace DL
open PySem L2
open PyProof.Rows (AllBare)
/-! ### defs that may raise -/
abbrev cxX (Cl : Nat → Value) (P : Program) (w : World) (K : PySem.W.Frag) (mg : Str → Option Value) (base : Heap) (N : List Str) (qual : Str) (scope : Scope) (f : Addr) (cdv : Value) (A : Around) (outer : List Env) (s : Shared) (H : Hp) (E : XK) : Cx :=
  cxOf (CXr P w Cl) P w K mg base N qual scope f cdv A outer s H E
theorem own_cxX {Cl : Nat → Value} {P : Program} {w : World} {K : PySem.W.Frag} {mg : Str → Option Value} {base : Heap} {N : List Str} {qual : Str} {scope : Scope} {f : Addr} {cdv : Value} {A : Around} {outer : List Env} {s : Shared} {H : Hp} {E : XK} :
    PassesOwn (model P w) (cxX Cl P w K mg base N qual scope f cdv A outer s H E).A (cxX Cl P w K mg base N qual scope f cdv A outer s H E).env (cxX Cl P w K mg base N qual scope f cdv A outer s H E).xe :=
  PassesOwn.leaving (Q₁ := fun e s'' => CXr P w Cl outer H s E e s'') (E₁ := fun e' s'' => CXr P w Cl outer H s E e' s'')
theorem fn_okX {Cl : Nat → Value} {P : Program} {w : World} {K : PySem.W.Frag} {mg : Str → Option Value} {base : Heap} {k : Nat} {f : Addr} {name qual : Str} {params : Arguments} {body : List Stmt} {scope : Scope} {dV kV doc pm cdv ct oc : Value} {an od : Option Addr} {osl : Array (Option Value)} {N ps : List Str} {t : DS}
    (lk : K.lookup f = some ⟨oc, od, .func (PySem.W.fnOf name qual params body scope dV kV doc pm an cdv ct), osl⟩) (hcd : PySem.W.codeIn K cdv qual = true) (S : FnScope N ps scope)
    (hbody : ∀ (A : Around) (outer : List Env) (s : Shared) (H : Hp) (E : XK), Room k (A.deeper (PyProof.Rows.envOfC qual scope s.heap.objs.size f cdv)) → PDSs (cxX Cl P w K mg base N qual scope f cdv A outer s H E) (Xk Cl E) body t) :
    FnOk P w K mg base (CXr P w Cl) (k + 1) f (PySem.W.fnOf name qual params body scope dV kV doc pm an cdv ct) ps (DSp K (Xk Cl) ps.length (runF N.length t)) := by
  refine fn_of lk hcd S (fun vs H Q E h => h.1) fun A outer s H vs Q E hr h => ?_
  obtain ⟨hl, hid, μ, ds, O, d, c, q⟩ := h
  refine ⟨_, (hbody A outer s H E hr).out, hid, μ, _, O, envOk_start d N, c, ?_⟩
  unfold runF at q
  generalize t (ds.map some ++ List.replicate (N.length - ds.length) none) O = r at q
  cases r with
  | nx σ O' => exact fun σv H' μ' x e c' => q .non H' μ' x c' dat_non
  | rt d' O' => exact fun v H' μ' x c' r => q v H' μ' x c' r
  | bk σ O' => exact False.elim q
  | ct σ O' => exact False.elim q
  | exc c' O' => exact fun H' μ' x c2 => q H' μ' x c2
  | bad => exact False.elim q
structure CalleeX (Cl : Nat → Value) (P : Program) (w : World) (K : PySem.W.Frag) (mg : Str → Option Value) (base : Heap) (x : Str) (k n : Nat) (F : List D → Ow → R D) : Prop where
  ex : ∃ f fd ps, mg x = some (.ref f) ∧ PySem.W.keepIn K (.ref f) = true ∧ Binds K fd ps [] ∧ FnOk P w K mg base (CXr P w Cl) k f fd ps (DSp K (Xk Cl) n F)
theorem pd_fnX {Cl : Nat → Value} {X : Cx} {E : XK} {x : Str} {k j n : Nat} {F : List D → Ow → R D} {p pos : Pos} {e : Expr} {es : List Expr} {t : DA} (c : CalleeX Cl X.prog X.w X.K X.mg X.base x k n F) (hx : Passes (CXr X.prog X.w Cl) X E) (hr : Room j X.A) (hk : k ≤ j) (hg : Gl X x) (ha : PDA X (Xk Cl E) (e :: es) t)
    (hdb : (x == ("__debug__" : Str)) = false := by decide) (he : starEach (e :: es) X.env = (false, eval e X.env) :: starEach es X.env := by rfl) (hpl : (backTo pos (starEach es X.env)).any (·.1) = false := by rfl) :
    PD X (Xk Cl E) (.Call (.Name x p) (e :: es) [] pos) (dFn n F t) := by
  obtain ⟨f, fd, ps, hm, hkp, hb, G⟩ := c.ex
  exact pd_fn (Ec := Xk Cl) (E := E) (G.mono hk) hr hg hm hkp hb hx ha hdb he hpl
/-- within a comprehension's block: no exception -/
theorem pd_fnX0 {Cl : Nat → Value} {X : Cx} {x : Str} {k j n : Nat} {F : List D → Ow → R D} {p pos : Pos} {e : Expr} {es : List Expr} {t : DA} (c : CalleeX Cl X.prog X.w X.K X.mg X.base x k n F) (hr : Room j X.A) (hk : k ≤ j) (hg : Gl X x) (ha : PDA X Ex0 (e :: es) t)
    (hdb : (x == ("__debug__" : Str)) = false := by decide) (he : starEach (e :: es) X.env = (false, eval e X.env) :: starEach es X.env := by rfl) (hpl : (backTo pos (starEach es X.env)).any (·.1) = false := by rfl) :
    PD X Ex0 (.Call (.Name x p) (e :: es) [] pos) (dFn n F t) := pd_fnX (E := E0) c passes_0 hr hk hg ha hdb he hpl
theorem fnX {Cl : Nat → Value} {P : Program} {w : World} {K : PySem.W.Frag} {mg : Str → Option Value} {base : Heap} {k : Nat} {x : Str} {st : Stmt} {N ps : List Str} {t : DS} (h : FunAt K mg x st) (S : FnScope N ps (defScope st))
    (hb : ∀ (kV doc pm : Value) (an : Option Addr) (cdv ct : Value) (us : List Value), us.length = ps.length → bindArgs (PySem.W.fnOf x x (defArgs st) (defBody st) (defScope st) .none kV doc pm an cdv ct) ⟨us, []⟩ = pure (ps.zip us))
    (hbody : ∀ (f : Addr) (cdv : Value) (A : Around) (outer : List Env) (s : Shared) (H : Hp) (E : XK), Room k (A.deeper (PyProof.Rows.envOfC x (defScope st) s.heap.objs.size f cdv)) → PDSs (cxX Cl P w K mg base N x (defScope st) f cdv A outer s H E) (Xk Cl E) (defBody st) t) :
    CalleeX Cl P w K mg base x (k + 1) ps.length (runF N.length t) := by
  obtain ⟨f, fd, hm, F⟩ := h
  refine ⟨f, fd, ps, hm, F.kp, F.binds hb, ?_⟩
  obtain ⟨oc, od, kV, doc, pm, an, cdv, ct, osl, rfl, lk, hcd⟩ := F.ex
  exact fn_okX lk hcd S fun A outer s H E hr => hbody f cdv A outer s H E hr
section
variable {Cl : Nat → Value} {P : Program} {w : World} {K : PySem.W.Frag} {mg : Str → Option Value} {base : Heap} {k n : Nat} {x : Str} {F G : List D → Ow → R D}
theorem CalleeX.imp (c : CalleeX Cl P w K mg base x k n F) (h : ∀ ds O H hid μ Ex Q, Cells K H hid μ O → postE Ex K H hid μ (G ds O) Q → postE Ex K H hid μ (F ds O) Q) : CalleeX Cl P w K mg base x k n G := by
  obtain ⟨f, fd, ps, hm, hkp, hb, Fo⟩ := c.ex
  refine ⟨f, fd, ps, hm, hkp, hb, Fo.imp fun vs H Q E ⟨hl, hid, μ, ds, O, d, cl, q⟩ => ⟨hl, hid, μ, ds, O, d, cl, h ds O H hid μ _ Q cl q⟩⟩
theorem CalleeX.bad (c : CalleeX Cl P w K mg base x k n F) : CalleeX Cl P w K mg base x k n (fun _ _ => .bad) := c.imp fun _ _ _ _ _ _ _ _ q => False.elim q
theorem CalleeX.self (c : CalleeX Cl P w K mg base x k n F) : CalleeX Cl P w K mg base x k n F := c
end
end DL

namespace DL
open PySem L2
open PyProof.Rows (AllBare)
/-! ### isinstance(e, C): e None or an exception of an own class -/
def isxD (f : Nat → Option Bool) : D → Option Bool
  | .exn C => f C
  | .non => some false
  | _ => none
def dIsx (f : Nat → Option Bool) (t : DE) : DE := fun σ O => (t σ O).bnd fun d O1 => match isxD f d with
  | some b => .ok (.bl b) O1
  | none => .bad
section
variable {X : Cx} {Ex : Nat → Hp → Prop} {pos : Pos} {a : Expr} {ta : DE}
theorem call_isx {cv : V} {cval : Value} (f : Nat → Option Bool) (hc : ∀ u, RelV cv u → u = cval) (hn : PySem.W.kitOne X.K (.type "NoneType") cval = some false) (hf : ∀ C b, f C = some b → PySem.W.kitOne X.K (.ref C) cval = some b) :
    CallR X (.builtin "isinstance") (fun xs H Q => ∃ x hid μ O d b, xs = [x, cv] ∧ Cells X.K H hid μ O ∧ Dat X.K H hid μ d x ∧ isxD f d = some b ∧ Q (.bl b) H) := by
  intro pins s σ H xs us Q I r h
  obtain ⟨x, hid, μ, O, d, b, rfl, cl, dx, hb, q⟩ := h
  obtain ⟨u, w', rfl, rx, rc⟩ := vals2 r
  obtain rfl := hc _ rc
  cases d with
  | non =>
    unfold Dat at dx; subst dx; cases rx
    cases hb
    exact PySem.W.kia_one PySem.W.kitx_none I.kIn True.intro hn (fun z => nomatch z) fun tk => ⟨.bl _, H, I.tok tk, rfl, q⟩
  | exn C =>
    unfold Dat at dx
    obtain ⟨p, φ, rfl, ⟨k, g⟩, hr, _⟩ := dx
    cases rx
    obtain ⟨y, _⟩ := Rd.ok hr I.hok
    exact PySem.W.kia_one (kitx_x k) I.kIn (g _ y) (hf C b hb) (fun z => nomatch z) fun tk => ⟨.bl _, H, I.tok tk, rfl, q⟩
  | _ => cases hb
theorem dIsx_go {f : Nat → Option Bool} {cv : V} : ∀ hid μ σ O σv H Q, EnvOk X.K H hid μ σ σv → Cells X.K H hid μ O → postE Ex X.K H hid μ (dIsx f ta σ O) Q → rd Ex X.K ta σv H fun v H1 => ∃ x hid μ O d b, [v, cv] = [x, cv] ∧ Cells X.K H1 hid μ O ∧ Dat X.K H1 hid μ d x ∧ isxD f d = some b ∧ Q (.bl b) H1 :=
  fun hid μ σ O σv H Q e1 c1 q => rd.go e1 c1 q fun d O1 v H1 μ1 e2 x cl r p2 => by
    cases hb : isxD f d with
    | none => rw [hb] at p2; exact False.elim p2
    | some b => rw [hb] at p2; exact ⟨v, hid, μ1, O1, d, b, rfl, cl, r, hb, post.here p2 cl dat_bl⟩
/-- C an own class -/
theorem pd_isxO {x : Str} {C0 : Addr} {f : Nat → Option Bool} {p p' : Pos} (ha : PD X Ex a ta) (hg : Gl X "isinstance") (hm : X.mg "isinstance" = none) (hv : bootBuiltins "isinstance" = some (.builtin "isinstance")) (hgC : Gl X x) (hmC : X.mg x = some (.ref C0))
    (hn : PySem.W.kitOne X.K (.type "NoneType") (.ref C0) = some false) (hf : ∀ C b, f C = some b → PySem.W.kitOne X.K (.ref C) (.ref C0) = some b)
    (hCd : (x == ("__debug__" : Str)) = false := by decide) (he : starEach [a, .Name x p'] X.env = (false, eval a X.env) :: starEach [.Name x p'] X.env := by rfl) (he2 : starEach [.Name x p'] X.env = [(false, eval (.Name x p') X.env)] := by rfl) (hpl : (backTo pos (starEach [.Name x p'] X.env)).any (·.1) = false := by rfl) :
    PD X Ex (.Call (.Name "isinstance" p) [a, .Name x p'] [] pos) (dIsx f ta) :=
  pd_of (pe_callB (call_isx (X := X) (cv := .ref C0) (cval := .ref C0) f (fun u r => by cases r; rfl) hn hf) hg hm hv (pa_cons ha.out (pa_cons (pe_glob (v := .ref C0) hgC hmC rfl hCd) pa_nil he2) he) (by decide) (by decide) he hpl) dIsx_go
/-- C a built-in class -/
theorem pd_isxB {x : Str} {n : String} {f : Nat → Option Bool} {p p' : Pos} (ha : PD X Ex a ta) (hg : Gl X "isinstance") (hm : X.mg "isinstance" = none) (hv : bootBuiltins "isinstance" = some (.builtin "isinstance")) (hgC : Gl X x) (hmC : X.mg x = none) (hvC : bootBuiltins x = some (.type n))
    (hn : PySem.W.kitOne X.K (.type "NoneType") (.type n) = some false) (hf : ∀ C b, f C = some b → PySem.W.kitOne X.K (.ref C) (.type n) = some b) (hCn : x ≠ "__name__" := by decide)
    (hCd : (x == ("__debug__" : Str)) = false := by decide) (he : starEach [a, .Name x p'] X.env = (false, eval a X.env) :: starEach [.Name x p'] X.env := by rfl) (he2 : starEach [.Name x p'] X.env = [(false, eval (.Name x p') X.env)] := by rfl) (hpl : (backTo pos (starEach [.Name x p'] X.env)).any (·.1) = false := by rfl) :
    PD X Ex (.Call (.Name "isinstance" p) [a, .Name x p'] [] pos) (dIsx f ta) :=
  pd_of (pe_callB (call_isx (X := X) (cv := .ty n) (cval := .type n) f (fun u r => by cases r; rfl) hn hf) hg hm hv (pa_cons ha.out (pa_cons (pe_bltn (v := .ty n) hgC hmC hvC rfl hCn hCd) pa_nil he2) he) (by decide) (by decide) he hpl) dIsx_go
end
end DL

namespace DL
open PySem L2
open PyProof.Rows (AllBare IntsAre)
/-! ### a name that the text hasn't bears what is known of the table -/
section
variable {X : Cx} {pins : List (Addr × Obj)} {σ : St} {H : Hp} {s : Shared}
theorem Inv.fake {i : Nat} {x : Str} {v : V} (I : L2.Inv X pins σ H s) (hi : X.N[i]? = some x) (hx : ¬ Vis X.env.scope x) : L2.Inv X pins (σ.set i (some v)) H s := by
  obtain ⟨m, hn, hl⟩ := I.loc
  refine ⟨I.ok, I.os, I.bare, I.base, ⟨m, hn, fun j y w e1 e2 e3 => ?_⟩, I.cell, I.free, I.freeC, I.pin, I.hok, by rw [List.length_set]; exact I.len⟩
  by_cases hj : j = i
  · subst hj
    rw [hi] at e1; cases e1
    exact absurd e3 hx
  · rw [List.getElem?_set_ne (Ne.symm hj)] at e2
    exact hl j y w e1 e2 e3
theorem PSs.fake {i : Nat} {x : Str} {v : V} {body : List Stmt} {t : TS} (hi : X.N[i]? = some x) (hx : ¬ Vis X.env.scope x) (h : PSs X body t) : PSs X body fun D σ H => t D (σ.set i (some v)) H :=
  fun pins s σ H D I q => h pins s _ H D (Inv.fake I hi hx) q
end
theorem Tidy.empty {H : Hp} {P : Addr} (h : H P = some (.tbl #[])) : Tidy H P := ⟨#[], h, trivial, fun pos cv e => by cases e⟩
/-- what the law's def promises: with the table at P -/
def DSpT (K : PySem.W.Frag) (Ec : XK → Nat → Hp → Prop) (n : Nat) (P : Addr) (F : List D → Ow → R D) : Sp := fun vs H Q E => vs.length = n ∧ ∃ hid μ ds O, Dats K H hid μ ds vs ∧ Cells K H hid μ O ∧ Tidy H P ∧ postE (Ec E) K H hid μ (F ds O) Q
def runT (n i : Nat) (P : Nat) (t : DS) : List D → Ow → R D := fun ds O => fin (t ((ds.map some ++ List.replicate (n - ds.length) none).set i (some (.tab P))) O)
theorem fn_okT {Cl : Nat → Value} {P : Program} {w : World} {K : PySem.W.Frag} {mg : Str → Option Value} {base : Heap} {k i : Nat} {f Pt : Addr} {x : Str} {name qual : Str} {params : Arguments} {body : List Stmt} {scope : Scope} {dV kV doc pm cdv ct oc : Value} {an od : Option Addr} {osl : Array (Option Value)} {N ps : List Str} {t : DS}
    (lk : K.lookup f = some ⟨oc, od, .func (PySem.W.fnOf name qual params body scope dV kV doc pm an cdv ct), osl⟩) (hcd : PySem.W.codeIn K cdv qual = true) (S : FnScope N ps scope) (hi : N[i]? = some x) (hx : ¬ Vis scope x)
    (hbody : ∀ (A : Around) (outer : List Env) (s : Shared) (H : Hp) (E : XK), Room k (A.deeper (PyProof.Rows.envOfC qual scope s.heap.objs.size f cdv)) → PDSs (cxX Cl P w K mg base N qual scope f cdv A outer s H E) (Xk Cl E) body t) :
    FnOk P w K mg base (CXr P w Cl) (k + 1) f (PySem.W.fnOf name qual params body scope dV kV doc pm an cdv ct) ps (DSpT K (Xk Cl) ps.length Pt (runT N.length i Pt t)) := by
  refine fn_of lk hcd S (fun vs H Q E h => h.1) fun A outer s H vs Q E hr h => ?_
  obtain ⟨hl, hid, μ, ds, O, d, c, ti, qq⟩ := h
  refine ⟨_, PSs.fake (v := .bl false) hi hx (hbody A outer s H E hr).out, hid, μ, _, O, (envOk_start d N).set (d := .tab Pt) (v := .bl false) (by unfold Dat; exact ⟨rfl, ti⟩) i, c, ?_⟩
  unfold runT at qq
  generalize t ((ds.map some ++ List.replicate (N.length - ds.length) none).set i (some (.tab Pt))) O = r at qq
  cases r with
  | nx σ O' => exact fun σv H' μ' x e c' => qq .non H' μ' x c' dat_non
  | rt d' O' => exact fun v H' μ' x c' r => qq v H' μ' x c' r
  | bk σ O' => exact False.elim qq
  | ct σ O' => exact False.elim qq
  | exc c' O' => exact fun H' μ' x c2 => qq H' μ' x c2
  | bad => exact False.elim qq
/-- what the making of a lambda needs of the base -/
structure LamOk (mg : Str → Option Value) (base : Heap) (c Pt : Addr) : Prop where
  hd : PySem.W.CodeHd base c Pt
  bl : base.BuiltinsAt mg Pt
/-- THE HEAD, with the table of the law's own codes -/
theorem law_callT {P : Program} {w : World} {K : PySem.W.Frag} {mg mb : Str → Option Value} {CX : CXT} {k : Nat} {fa a c Pt : Addr} {fd : FuncData} {x : Str} {sp : Sp} {s₁ : Shared} {vs : List Value} {ns : List Int}
    (KX : K.In s₁.heap) (hns : s₁.heap.Ns mainGlobals mg) (hb : s₁.heap.Ns builtinsNs mb) (hbb : ∀ x : Str, x ≠ "__name__" → mb x = bootBuiltins x) (hlim : s₁.heap.NoLimit) (hg : s₁.gens = #[])
    (ha : s₁.heap.get? a = some { cls := .type "list", data := .seq vs.toArray }) (hi : IntsAre vs ns) (hl : ns.length ≤ sizeLine) (hr : Room k callerA)
    (hC : PySem.W.CodeHd s₁.heap c Pt) (hP : s₁.heap.get? Pt = some (PySem.W.tabObj #[])) (hK : PySem.W.noTabs K = true) (hB : s₁.heap.BuiltinsAt mg Pt)
    (F : ∀ base : Heap, K.In base → base.Ns mainGlobals mg → LamOk mg base c Pt → FnOk P w K mg base CX k fa fd [x] sp) (hbind : ∀ (s : Shared) (u : Value), BindsTo s fd ⟨[u], []⟩ [(x, u)])
    (hsp : ∀ H : Hp, H Pt = some (.tbl #[]) → SqL K H a (ns.map V.int) → sp [.ref a] H (fun v _ => v = .bl true) fun _ _ _ => False)
    (hCX : ∀ H e s', CX [] H s₁ (fun _ _ _ => False) e s' → False) :
    codeAny (model P w) callerA (.call (.ref fa) ⟨[.ref a], []⟩) (fun r s' => r = .ok (.ret (.bool true)) ∧ OldK s₁.heap s'.heap ∧ s'.os = s₁.os ∧ AllBare s'.gens) s₁ := by
  have rv := vals_ints hi
  have lenV := hi.length
  have naP : a ≠ Pt := by rintro rfl; rw [ha] at hP; cases hP
  have nKP : K.lookup Pt = none := by
    cases q : K.lookup Pt with
    | none => rfl
    | some o =>
      have e := KX Pt o q
      rw [hP] at e; cases e
      have h2 := List.all_eq_true.mp hK (Pt, _) (PySem.W.mem_of_lookupK q)
      exact absurd (show false = true from h2) Bool.false_ne_true
  -- H: the table, and the script where it is none of the module's objects
  have core : ∀ H : Hp, H Pt = some (.tbl #[]) → SqL K H a (ns.map V.int) → HOk P w H s₁.heap → (∀ b, H b ≠ none → b = a ∨ b = Pt) → (H a = none ∨ (K.lookup a = none ∧ ∃ o xs, H a = some (.frz o (.lst xs)))) →
      codeAny (model P w) callerA (.call (.ref fa) ⟨[.ref a], []⟩) (fun r s' => r = .ok (.ret (.bool true)) ∧ OldK s₁.heap s'.heap ∧ s'.os = s₁.os ∧ AllBare s'.gens) s₁ := by
    intro H hT hS hok hA hKa
    have base_of : ∀ {b : Addr} {o : Obj}, s₁.heap.get? b = some o → H b = none → (hidT s₁.heap H).get? b = some o := fun e n => hidT_get e n
    have noA : ∀ {b : Addr} {o : Obj} {es : Array DictEntry} {ep : Nat}, s₁.heap.get? b = some o → o.data = .dict es ep → H b = none := fun {b o es ep} e d => by
      cases q : H b with
      | none => rfl
      | some u =>
        rcases hA b (by rw [q]; simp) with e' | e'
        · subst e'
          rw [ha] at e; cases e
          have d' : Data.seq vs.toArray _ = Data.dict es ep := d
          cases d'
        · subst e'
          rw [hP] at e; cases e
          have d' : Data.fields #[] = Data.dict es ep := d
          cases d'
    have nsK : ∀ {b : Addr} {m : Str → Option Value}, s₁.heap.Ns b m → (hidT s₁.heap H).Ns b m := fun {b m} ⟨o, es, ep, e, d, r⟩ => ⟨o, es, ep, base_of e (noA e d), d, r⟩
    have hKb : K.In (hidT s₁.heap H) := fun b o e => base_of (KX b o e) (by
      cases q : H b with
      | none => rfl
      | some u =>
        rcases hA b (by rw [q]; simp) with e' | e'
        · subst e'
          rcases hKa with z | ⟨z, _⟩
          · rw [z] at q; cases q
          · rw [z] at e; cases e
        · subst e'
          rw [nKP] at e; cases e)
    have hM : Mod K mg (hidT s₁.heap H) := ⟨hKb, nsK hns, ⟨mb, nsK hb, hbb⟩, let ⟨mc, h1, h2⟩ := hlim; ⟨mc, nsK h1, h2⟩⟩
    have e0 : Env0 P w K mg (hidT s₁.heap H) callerA [] s₁ H := ⟨rfl, hM, fun b o e => of_hidT e, Nat.le_of_eq (hidT_size _ _), trivial, fun b hb => absurd (show b ∈ ([] : List Addr) from hb) (by simp), hok, .of_eq hg⟩
    have noC : ∀ {b : Addr} {o : Obj}, s₁.heap.get? b = some o → o.cls ≠ .none → (o.cls ≠ .type "list") → H b = none := fun {b o} e d1 d2 => by
      cases q : H b with
      | none => rfl
      | some u =>
        rcases hA b (by rw [q]; simp) with e' | e'
        · subst e'; rw [ha] at e; cases e; exact absurd rfl d2
        · subst e'; rw [hP] at e; cases e; exact absurd rfl d1
    have hL : LamOk mg (hidT s₁.heap H) c Pt := by
      obtain ⟨o, vs, file, tf, flags, tg, inF, text, tt, e1, r1, r⟩ := hC
      obtain ⟨bm, ob, b1, b2, b3, b4, b5, b6, b7, b8⟩ := hB
      exact ⟨⟨o, vs, file, tf, flags, tg, inF, text, tt, base_of e1 (noC e1 (by rw [r1]; exact fun z => nomatch z) (by rw [r1]; decide)), r1, r⟩, ⟨bm, ob, b1, b2, b3, b4, base_of b5 (noC b5 (by rw [b6]; exact fun z => nomatch z) (by rw [b6]; decide)), b6, b7, b8⟩⟩
    refine codeAny_mono ((F _ hKb (nsK hns) hL).run callerA [] s₁ H ⟨[.ref a], []⟩ [.ref a] [.ref a] _ _ hr e0 (hbind s₁ (.ref a)) (.cons rfl .nil) (hsp H hT hS)) fun r s' h => ?_
    cases r with
    | error e => exact (hCX H e s' h).elim
    | ok fl =>
      cases fl with
      | next => exact False.elim h
      | brk => exact False.elim h
      | cont => exact False.elim h
      | ret u =>
        obtain ⟨v, H', os, bare, un, hok', r', q⟩ := h
        have q' : v = .bl true := q
        subst q'
        obtain rfl : u = Value.bool true := r'
        obtain ⟨more, hT'⟩ := un.tbls Pt #[] hT
        have hP' : s'.heap.get? Pt = some { cls := .none, data := .fields (#[] ++ more) } := hok' Pt _ hT'
        refine ⟨rfl, ⟨fun b o e => ?_, fun b o e => ?_⟩, os, bare⟩
        · by_cases hbP : b = Pt
          · subst hbP
            rw [hP] at e; cases e
            exact .inr (.inl ⟨(hC.tab hP).isCodeTable, rfl, #[], more, rfl, hP'⟩)
          · cases q : H b with
            | none => exact .inl (un.keep b o e q (by intro z; exact absurd (show b ∈ ([] : List Addr) from z) (by simp)) (by simp))
            | some u =>
              rcases hA b (by rw [q]; simp) with e' | e'
              · subst e'
                rcases hKa with z | ⟨_, ob, xs, z⟩
                · rw [q] at z; cases z
                · have z2 := un.frzs b ob _ z
                  obtain ⟨e1, _⟩ := hok b _ z
                  obtain ⟨e2, _⟩ := hok' b _ z2
                  rw [e] at e1; cases e1
                  exact .inl e2
              · exact absurd e' hbP
        · exact un.there b o e (by simp)
  cases hk : K.lookup a with
  | some o =>
    have e := KX a o hk
    rw [ha] at e
    cases e
    refine core (fun b => if b = Pt then some (.tbl #[]) else none) (if_pos rfl) (.inr ⟨_, vs.toArray, _, hk, rfl, rfl, rfl, by rw [List.size_toArray, lenV]; exact hl, by simpa using rv⟩) (fun b u z => ?_) (fun b z => ?_) (.inl (if_neg naP))
    · by_cases hb : b = Pt
      · have z' := (if_pos hb).symm.trans z
        cases z'; subst hb; exact hP
      · have z' := (if_neg hb).symm.trans z
        cases z'
    · by_cases hb : b = Pt
      · exact .inr hb
      · exact absurd (if_neg hb) z
  | none =>
    refine core (fun b => if b = Pt then some (.tbl #[]) else if b = a then some (.frz { cls := .type "list", data := .seq vs.toArray } (.lst (ns.map V.int))) else none) (if_pos rfl) (.inl (.inr ⟨{ cls := .type "list", data := .seq vs.toArray }, (if_neg naP).trans (if_pos rfl)⟩)) (fun b u z => ?_) (fun b z => ?_) (.inr ⟨hk, _, _, (if_neg naP).trans (if_pos rfl)⟩)
    · by_cases hb : b = Pt
      · have z' := (if_pos hb).symm.trans z
        cases z'; subst hb; exact hP
      · by_cases hb2 : b = a
        · have z' := ((if_neg hb).trans (if_pos hb2)).symm.trans z
          cases z'
          subst hb2
          exact ⟨ha, by rw [List.length_map]; exact hl, vs, _, rv, ha⟩
        · have z' := ((if_neg hb).trans (if_neg hb2)).symm.trans z
          cases z'
    · by_cases hb : b = Pt
      · exact .inr hb
      · by_cases hb2 : b = a
        · exact .inl hb2
        · exact absurd ((if_neg hb).trans (if_neg hb2)) z
end DL

namespace DL
open PySem L2
open PyProof.Rows (AllBare)
theorem codeAmong_app {pos pos' : Pos} {c cv : Value} (l : List Value) (h : TriplesOk l) (e : codeAmong pos' (l ++ [rawInt pos.line, rawInt pos.col, c]) = some cv) : codeAmong pos' l = some cv ∨ cv = c := by
  fun_induction TriplesOk l with
  | case1 =>
    simp only [List.nil_append, codeAmong, rawInt] at e
    split at e
    · cases e; exact .inr rfl
    · cases e
  | case2 a t b u x rest ih =>
    simp only [List.cons_append, codeAmong] at e ⊢
    split at e
    · rename_i hc; rw [if_pos hc]; exact .inl e
    · rename_i hc; rw [if_neg hc]; exact ih h e
  | case3 l h1 h2 => exact h.elim
/-- the table bears one more code -/
theorem tidy_more {q : Str} {H : Hp} {P c : Addr} {pos : Pos} {ps : Array Value} (h1 : H P = some (.tbl ps)) (hc : H c = none) (P2 : Addr) (t2 : Tidy H P2) :
    Tidy (upd (upd H P (.tbl (ps ++ #[rawInt pos.line, rawInt pos.col, .ref c]))) c (.ext fun h => h.CodeRec (.ref c) q)) P2 := by
  have nc : ∀ {b : Addr} {o : HO}, H b = some o → b ≠ c := fun e => ne_of_none e hc
  obtain ⟨ps2, g1, g2, g3⟩ := t2
  have codes : ∀ {b : Addr} {φ : Heap → Prop}, H b = some (.ext φ) → upd (upd H P (.tbl (ps ++ #[rawInt pos.line, rawInt pos.col, .ref c]))) c (.ext fun h => h.CodeRec (.ref c) q) b = some (.ext φ) := fun {b φ} e => by
    rw [upd_ne (nc e), upd_ne (ne_of e h1 (fun z => nomatch z))]; exact e
  by_cases hP : P2 = P
  · subst hP
    rw [h1] at g1; cases g1
    refine ⟨_, by rw [upd_ne (nc h1), upd_same], ?_, fun p cv e => ?_⟩
    · rw [Array.toList_append]; exact TriplesOk_snoc _ _ _ _ g2
    · rw [Array.toList_append] at e
      rcases codeAmong_app _ g2 e with e | e
      · obtain ⟨c2, φ, rfl, k1, k2⟩ := g3 p cv e
        exact ⟨c2, φ, rfl, codes k1, k2⟩
      · exact ⟨c, _, e, upd_same, fun h z => ⟨q, z⟩⟩
  · refine ⟨ps2, by rw [upd_ne (nc g1), upd_ne hP]; exact g1, g2, fun p cv e => ?_⟩
    obtain ⟨c2, φ, rfl, k1, k2⟩ := g3 p cv e
    exact ⟨c2, φ, rfl, codes k1, k2⟩
section
variable {X : Cx} {pins : List (Addr × Obj)} {σv : St} {H : Hp} {s : Shared} {E : Value → Shared → Prop}
/-- one more code in the table: the abstract heap -/
abbrev codeH (H : Hp) (P c : Addr) (ps : Array Value) (pos : Pos) (q : Str) : Hp := upd (upd H P (.tbl (ps ++ #[rawInt pos.line, rawInt pos.col, .ref c]))) c (.ext fun h => h.CodeRec (.ref c) q)
theorem codeH_old {P c : Addr} {ps : Array Value} {pos : Pos} {q : Str} (h1 : H P = some (.tbl ps)) (hc : H c = none) {b : Addr} {o : HO} (e : H b = some o) (ht : NoTab o) : codeH H P c ps pos q b = some o := by
  have n1 : b ≠ P := by rintro rfl; rw [h1] at e; cases e; exact ht _ rfl
  show upd (upd H P _) c _ b = some o
  rw [upd_ne (ne_of_none e hc), upd_ne n1]; exact e
theorem codeH_ext {P c : Addr} {ps : Array Value} {pos : Pos} {q : Str} (h1 : H P = some (.tbl ps)) (hc : H c = none) (μ : List Addr) : Ext H μ (codeH H P c ps pos q) μ :=
  ⟨⟨[], by simp⟩, fun b o e _ ht => codeH_old h1 hc e ht, fun _ m => .inl m, fun b h => upd_there b (upd_there b h), fun P2 t2 => tidy_more h1 hc P2 t2⟩
theorem codeH_cells {K : PySem.W.Frag} {P c : Addr} {ps : Array Value} {pos : Pos} {q : Str} (h1 : H P = some (.tbl ps)) (hc : H c = none) {hid μ : List Addr} {O : Ow} (cl : Cells K H hid μ O) : Cells K (codeH H P c ps pos q) hid μ O := by
  refine ⟨cl.len, cl.nd, cl.nh, fun a m => upd_there a (upd_there a (cl.ht a m)), fun k a e => ?_⟩
  obtain ⟨ds, vs, g1, g2, g3⟩ := cl.at_ k a e
  exact ⟨ds, vs, g1, codeH_old h1 hc g2 (by intro ps z; cases z), g3.ext (codeH_ext h1 hc μ)⟩
theorem codeRec_keeps {h h' : Heap} {c : Addr} {q : Str} (x : h.CodeRec (.ref c) q) (k : ∀ o, h.get? c = some o → h'.get? c = some o) : h'.CodeRec (.ref c) q := by
  obtain ⟨c2, o, vs, t, e, ho, r⟩ := x
  cases e
  exact ⟨c, o, vs, t, rfl, k o ho, r⟩
/-- lambda: .. is made -/
theorem lam_ok {c P : Addr} {params : Arguments} {body : Expr} {scope : Scope} {pos : Pos} {clos : List (Str × Addr)} {Q : Value → Shared → Prop} (I : L2.Inv X pins σv H s) (L : LamOk X.mg X.base c P) (hcode : X.env.code = .ref c) (ti : Tidy H P)
    (hcl : closureFor scope X.env = pure clos) (hdef : defaultsOf params X.env = ([], []))
    (h : ∀ (lam : Addr) (cd ctv : Value) (h' : Heap) (tk : Tok) (H' : Hp), L2.Inv X pins σv H' { s with heap := h', toks := tk } → (∀ μ, Ext H μ H' μ) → (∀ hid μ O, Cells X.K H hid μ O → Cells X.K H' hid μ O) → H' lam = none → s.heap.objs.size ≤ lam →
      h'.get? lam = some { cls := .type "function", data := .func (PySem.W.kla_fn "<lambda>" (X.env.qual ++ "<lambda>") params body scope clos ((X.mg "__name__").getD .none) cd ctv) } → (∃ c φ, cd = .ref c ∧ H' c = some (.ext φ) ∧ ∀ h : Heap, φ h → ∃ q, h.CodeRec (.ref c) q) → Q (.ref lam) { s with heap := h', toks := tk }) :
    wpAny (model X.prog X.w) X.A (eval (.Lambda params body scope pos) X.env) Q E s := by
  obtain ⟨ps, h1, h2, h3⟩ := id ti
  have hP : s.heap.get? P = some (PySem.W.tabObj ps) := I.hok P _ h1
  have hg : s.heap.Ns mainGlobals X.mg := I.mod.glob.keeps I.bk
  have hgP : mainGlobals ≠ P := fun z => by
    obtain ⟨o, es, ep, e, hd, _⟩ := hg
    rw [z, hP] at e; cases e; cases hd
  have hb : s.heap.BuiltinsAt X.mg P := by
    obtain ⟨bm, ob, b1, b2, b3, b4, b5, r⟩ := L.bl
    exact ⟨bm, ob, b1, b2, b3, b4, I.bk _ _ b5, r⟩
  have hd := L.hd.keeps I.bk
  refine PySem.W.kla_eval hdef ?_
  cases hca : codeAmong pos ps.toList with
  | some cv =>
    obtain ⟨c', φ, rfl, k1, k2⟩ := h3 pos cv hca
    obtain ⟨q, k3⟩ := k2 _ (I.hok c' _ k1).1
    refine PySem.W.kla_makeFunctionHit (mg := X.mg) hcl I.ok.glob hg hcode hd hP h2 hca hb fun ctv h' tk hk hsz => ?_
    have kp : ∀ b u, s.heap.get? b = some u → (h'.push { cls := .type "function", data := .func (PySem.W.kla_fn "<lambda>" (X.env.qual ++ "<lambda>") params body scope clos ((X.mg "__name__").getD .none) (.ref c') ctv) }).get? b = some u := fun b u e => Heap.get?_push_of_some _ (hk b u e)
    exact h h'.objs.size (.ref c') ctv _ tk H (I.kept (t' := tk) kp) (fun μ => .refl) (fun _ _ _ z => z) (I.hok.fresh hsz) hsz (Heap.get?_push_size _ rfl) ⟨c', φ, rfl, k1, k2⟩
  | none =>
    refine PySem.W.kla_makeFunction (mg := X.mg) hcl I.ok.glob hg hcode hd hP h2 hca hgP hb fun c' ctv h' tk hx hge hlt hrec htb => ?_
    have hc : H c' = none := I.hok.fresh hge
    have nP : ∀ {b : Addr}, H b = none → b ≠ P := fun e => Ne.symm (ne_of_none h1 e)
    have kp : ∀ b u, b ≠ P → s.heap.get? b = some u → (h'.push (PySem.W.kla_obj "<lambda>" (X.env.qual ++ "<lambda>") params body scope clos ((X.mg "__name__").getD .none) c' ctv)).get? b = some u := fun b u n e => Heap.get?_push_of_some _ (hx b u n e)
    have hP' : (h'.push (PySem.W.kla_obj "<lambda>" (X.env.qual ++ "<lambda>") params body scope clos ((X.mg "__name__").getD .none) c' ctv)).get? P = some (PySem.W.tabObj (ps ++ #[rawInt pos.line, rawInt pos.col, .ref c'])) := Heap.get?_push_of_some _ htb
    have hrec' : (h'.push (PySem.W.kla_obj "<lambda>" (X.env.qual ++ "<lambda>") params body scope clos ((X.mg "__name__").getD .none) c' ctv)).CodeRec (.ref c') (X.env.qual ++ "<lambda>") := codeRec_keeps hrec fun o e => Heap.get?_push_of_some _ e
    have hnew : ∀ {b : Addr}, s.heap.objs.size ≤ b → b ≠ c' → codeH H P c' ps pos (X.env.qual ++ "<lambda>") b = none := fun {b} hb n => by
      have e := I.hok.fresh hb
      show upd (upd H P _) c' _ b = none
      rw [upd_ne n, upd_ne (nP e)]; exact e
    refine h h'.objs.size (.ref c') ctv _ tk (codeH H P c' ps pos (X.env.qual ++ "<lambda>")) ?_ (codeH_ext h1 hc) (fun _ _ _ z => codeH_cells h1 hc z) (hnew (Nat.le_of_lt (Nat.lt_of_le_of_lt hge hlt)) (Nat.ne_of_gt hlt)) (Nat.le_of_lt (Nat.lt_of_le_of_lt hge hlt)) (Heap.get?_push_size _ rfl) ⟨c', _, rfl, upd_same, fun h z => ⟨_, z⟩⟩
    have hfree : ∀ b o, s.heap.get? b = some o → H b = none → codeH H P c' ps pos (X.env.qual ++ "<lambda>") b = none := fun b o e n => by
      show upd (upd H P _) c' _ b = none
      rw [upd_ne (Nat.ne_of_lt (Nat.lt_of_lt_of_le (Heap.lt_size e) hge)), upd_ne (nP n)]; exact n
    refine I.step (g' := s.gens) (d' := s.drawn) (ch := []) (fun _ z => nomatch z) (fun b o _ _ _ e n => kp b o (nP n) e) (fun b o _ _ _ e n => ⟨o.slots, kp b o (nP n) e⟩) (fun b o _ e n => hfree b o e n) (fun b o _ e => ?_)
      (fun b xs e => codeH_old h1 hc e (by intro ps z; cases z)) (fun b o u e => codeH_old h1 hc e (by intro ps z; cases z)) (fun b ps2 e => ?_) (fun m hm => ?_) ?_ I.bare
    · by_cases hbP : b = P
      · subst hbP; exact ⟨_, hP'⟩
      · exact ⟨o, kp b o hbP e⟩
    · by_cases hbP : b = P
      · subst hbP
        rw [h1] at e; cases e
        exact ⟨_, by show upd (upd H b _) c' _ b = _; rw [upd_ne (ne_of_none h1 hc), upd_same]⟩
      · exact ⟨#[], by show upd (upd H P _) c' _ b = _; rw [upd_ne (ne_of_none e hc), upd_ne hbP, e]; simp⟩
    · obtain ⟨o, es, ep, e, r⟩ := hm
      exact ⟨o, es, ep, kp _ o (nP I.free) e, r⟩
    · intro b u e
      by_cases hbc : b = c'
      · subst hbc
        have e' : codeH H P b ps pos (X.env.qual ++ "<lambda>") b = _ := upd_same
        rw [e'] at e; cases e
        refine ⟨hrec', ?_, fun ha hb' za zk => codeRec_keeps za zk⟩
        obtain ⟨c2, o, vs, t, z, ho, _⟩ := hrec'
        cases z
        exact ⟨o, ho⟩
      · have e1 : upd H P (.tbl (ps ++ #[rawInt pos.line, rawInt pos.col, .ref c'])) b = some u := (upd_ne hbc).symm.trans e
        by_cases hbP : b = P
        · subst hbP
          rw [upd_same] at e1; cases e1
          exact hP'
        · have e2 : H b = some u := (upd_ne hbP).symm.trans e1
          refine (I.hok b u e2).stay (fun b2 u2 hb2 z => kp b2 u2 (fun zz => ?_) z) (fun b2 z => codeH_old h1 hc z (by intro ps z; cases z)) fun b2 xs z => codeH_old h1 hc z (by intro ps z; cases z)
          rcases hb2 with rfl | hb2
          · exact hbP zz
          · rw [zz, h1] at hb2; cases hb2
end
end DL

namespace DL
open PySem L2
open PyProof.Rows (AllBare)
abbrev envL (q : Str) (scope : Scope) (L f : Addr) (cd : Value) (cl : List (Str × Addr)) : Env := { scope, locals := L, globals := mainGlobals, cells := cl, qual := q ++ ".<locals>.", func := some f, code := cd, frame := some L, builtins := builtinsNs }
section
variable {prog : Program} {w : World} {A : Around} {s : Shared} {R : Result → Shared → Prop}
/-- a lambda without parameters is called -/
theorem lam_run {lam : Addr} {q name qual : Str} {params : Arguments} {body : Expr} {scope : Scope} {cl : List (Str × Addr)} {pm cd ct : Value} (hroom : A.depth < recursionLimit)
    (ho : s.heap.get? lam = some { cls := .type "function", data := .func (PySem.W.kla_fn name qual params body scope cl pm cd ct) }) (hcd : s.heap.CodeRec cd q) (hco : scope.isCoroutine = false) (hgen : scope.isGenerator = false) (hk : scope.kind = .function) (hcell : ∀ x ∈ scope.names, x.2 ≠ .cell)
    (hbind : bindArgs (PySem.W.kla_fn name qual params body scope cl pm cd ct) ⟨[], []⟩ = pure []) (hlim : s.heap.NoLimit)
    (h : ∀ h', h'.Ns s.heap.objs.size (fun _ => none) → (∀ b o, s.heap.get? b = some o → h'.get? b = some o) →
      wpAny (model prog w) (A.deeper (envL q scope s.heap.objs.size lam cd cl)) (eval body (envL q scope s.heap.objs.size lam cd cl)) (fun v s' => R (.ok (.ret v)) s')
        (fun e s' => wpAny (model prog w) (A.deeper (envL q scope s.heap.objs.size lam cd cl)) (leaving (envL q scope s.heap.objs.size lam cd cl) e) (fun _ s'' => R (.error e) s'') (fun e' s'' => R (.error e') s'') s') { s with heap := h' }) :
    codeAny (model prog w) A (.call (.ref lam) ⟨[], []⟩) R s := by
  refine codeAny_of_tree ?_
  show wpAny _ A.in1 (callAny (.ref lam) ⟨[], []⟩) _ _ s
  simp only [callAny]
  refine wpAny_bind (wpAny_load ho ?_)
  obtain ⟨c, oc, vs, tq, hc, hoc, hdc, hq⟩ := hcd
  subst hc
  simp only [callFunction, hco, hgen]
  refine wpAny_bind (m := field (.ref c) 1) (wpAny_field hoc hdc hq (wpAny_bind (wpAny_pure ?_)))
  rw [hbind]
  refine wpAny_bind (wpAny_pure (wpAny_bind ?_))
  refine wpAny_newFunctionEnv hcell (fun x hx => nomatch hx) (fun h₁ hns hsb => ?_) hk
  have kp : ∀ b o, s.heap.get? b = some o → h₁.get? b = some o := fun b o e => hsb.extBut b o (Nat.ne_of_lt (Heap.lt_size e)) (Heap.get?_push_of_some _ e)
  refine wpAny_bind (wpAny_enterFrame (hlim.keeps kp) hroom (wpAny_pure ⟨rfl, ?_⟩))
  exact PySem.W.kla_codeExpr (h h₁ hns kp)
end
end DL

namespace DL
open PySem L2
open PyProof.Rows (AllBare)
/-- an exception leaves a frame of its own -/
theorem xok_gen {X : Cx} {E : XK} {Cl : Nat → Value} (hxe : X.xe = fun e s' => wpAny (model X.prog X.w) X.A (leaving X.env e) (fun _ s'' => CXr X.prog X.w Cl X.outer X.H₀ X.s₀ E e s'') (fun e' s'' => CXr X.prog X.w Cl X.outer X.H₀ X.s₀ E e' s'') s')
    (hst : X.stack = X.env :: X.outer) (hf : X.env.frame = some X.env.locals) (hex : X.ex = []) : XOk X (Xk Cl E) Cl := by
  intro pins σ H1 s1 a c I x q
  have hfr : X.A.frames = some (X.env :: X.outer) := by rw [← hst]; exact I.ok.frames
  have hstk : s1.heap.FunFrames X.base (X.env :: X.outer) := by rw [← hst]; exact I.stack
  have hfree : ∀ b ∈ frs (X.env :: X.outer), H1 b = none := by rw [← hst]; exact I.stkFree
  have hbase : Un X.fs [] X.H₀ H1 X.s₀.heap s1.heap := by have := I.base; rw [hex] at this; exact this
  have hfs : frs (X.env :: X.outer) = X.env.locals :: X.fs := by unfold frs; rw [List.filterMap_cons, hf]; rfl
  rw [hxe]
  show wpAny (model X.prog X.w) X.A (leaving X.env (.ref a)) (fun _ s'' => CXr X.prog X.w Cl X.outer X.H₀ X.s₀ E (.ref a) s'') (fun e' s'' => CXr X.prog X.w Cl X.outer X.H₀ X.s₀ E e' s'') s1
  unfold leaving
  refine wpAny_bind (note_x hfr hstk hf x (fun b hb => I.hok.fresh hb) (fun b hb => Heap.get?_none_of_le (Nat.le_trans I.sz hb)) fun h' kp xa => ?_)
  refine ⟨a, c, H1, rfl, I.os, I.bare, ?_, kp.hok I.hok hfree, xa, q⟩
  refine ⟨fun b o e n hb hx => ?_, fun b o e n hb hx => ?_, fun b o e n hx => hbase.free b o e n hx, fun b o e hx => ?_, hbase.tups, hbase.frzs, hbase.tbls⟩
  · refine kp.keep b o (hbase.keep b o e n hb hx) (fun z => ?_) (.inr (by rw [e]; exact fun z => nomatch z))
    rw [hfs] at z
    rcases List.mem_cons.mp z with z2 | z2
    · exact absurd (Nat.lt_of_lt_of_le (Heap.lt_size e) I.ok.above) (by rw [z2]; exact Nat.lt_irrefl _)
    · exact hb z2
  · obtain ⟨sl, e1⟩ := hbase.slot b o e n hb hx
    obtain ⟨sl', e2⟩ := kp.slot b _ e1 (by rw [hfs]; exact List.mem_cons_of_mem _ hb)
    exact ⟨sl', e2⟩
  · obtain ⟨o', e1⟩ := hbase.there b o e hx
    exact kp.there b o' e1
/-! ### the context of a lambda's body -/
def cxL (CX : CXT) (P : Program) (w : World) (K : PySem.W.Frag) (mg : Str → Option Value) (base : Heap) (N : List Str) (env : Env) (A : Around) (outer : List Env) (s : Shared) (H : Hp) (E : XK) : Cx where
  prog := P
  w := w
  K := K
  mg := mg
  base := base
  A := A.deeper env
  N := N
  s₀ := s
  H₀ := H
  env := env
  outer := outer
  stack := env :: outer
  ex := []
  calm := true
  fn := fun _ => false
  pn := []
  xe := fun e s' => wpAny (model P w) (A.deeper env) (leaving env e) (fun _ s'' => CX outer H s E e s'') (fun e' s'' => CX outer H s E e' s'') s'
section
variable {CX : CXT} {P : Program} {w : World} {K : PySem.W.Frag} {mg : Str → Option Value} {base : Heap} {N : List Str} {A : Around} {outer : List Env} {s : Shared} {H : Hp} {E : XK} {Cl : Nat → Value} {q : Str} {scope : Scope} {lam : Addr} {cd : Value} {cl : List (Str × Addr)} {σ : St} {h' : Heap}
theorem xok_lam : XOk (cxL (CXr P w Cl) P w K mg base N (envL q scope s.heap.objs.size lam cd cl) A outer s H E) (Xk Cl E) Cl := xok_gen rfl rfl rfl rfl
theorem inv_lam (e0 : Env0 P w K mg base A outer s H) (hd : A.handled = none) (hk : scope.kind = .function) (hvis : ∀ x, Vis scope x → scope.names.lookup x = some .free)
    (cells : ∀ x c, cl.lookup x = some c → (∃ v, s.heap.IsCell c v) ∧ H c = none) (inj : ∀ x y c, cl.lookup x = some c → cl.lookup y = some c → x = y) (has : ∀ x, scope.names.lookup x = some .free → ∃ c, cl.lookup x = some c)
    (vals : ∀ (i : Nat) x v, N[i]? = some x → σ[i]? = some (some v) → scope.names.lookup x = some .free → ∃ u c, RelV v u ∧ cl.lookup x = some c ∧ s.heap.IsCell c (some u)) (len : σ.length = N.length)
    (hns : h'.Ns s.heap.objs.size (fun _ => none)) (kp : ∀ b o, s.heap.get? b = some o → h'.get? b = some o) :
    L2.Inv (cxL CX P w K mg base N (envL q scope s.heap.objs.size lam cd cl) A outer s H E) [] σ H { s with heap := h' } := by
  have cellK : ∀ {c : Addr} {v : Option Value}, s.heap.IsCell c v → h'.IsCell c v := fun {c v} ⟨o, ho, r⟩ => ⟨o, kp c o ho, r⟩
  have noA : ∀ b : Addr, b ∉ (cxL CX P w K mg base N (envL q scope s.heap.objs.size lam cd cl) A outer s H E).ex := fun b z => absurd (show b ∈ ([] : List Addr) from z) (by simp)
  refine ⟨⟨e0.mod, hk, rfl, rfl, Nat.le_refl _, inj, fun y hy => ?_, fun y c z _ => absurd (show false = true from z) (by decide), fun _ => hd, Around.frames_deeper e0.frames, .inr ⟨rfl, rfl⟩, fun b z => absurd z (noA b), e0.bs, e0.bsz, fun b _ _ => noA b, fun b z => absurd z (noA b), e0.funs, e0.frf⟩,
    rfl, e0.bare, Un.kept kp, ⟨_, hns, fun i y v g1 g2 g3 => ?_⟩, fun y c g => ?_, e0.hok.fresh (Nat.le_refl _), fun y c g => (cells y c g).2, fun p hp => absurd (show p ∈ ([] : List (Addr × Obj)) from hp) (by simp), e0.hok.kept kp, len⟩
  · have hy' : scope.names.lookup y = some .cell ∨ scope.names.lookup y = some .free := hy
    exact has y (hvis y (hy'.elim (fun z => .inr (.inl z)) fun z => .inr (.inr z)))
  · obtain ⟨u, c, r, g4, g5⟩ := vals i y v g1 g2 (hvis y g3)
    exact ⟨u, r, .inr ⟨.inr (hvis y g3), c, g4, cellK g5⟩⟩
  · obtain ⟨⟨v, z⟩, _⟩ := cells y c g
    exact ⟨v, cellK z⟩
/-- what the call of a lambda yields -/
theorem thunk {k : Nat} {name qual : Str} {params : Arguments} {body : Expr} {pm ct : Value} {t : DE} {hid μ : List Addr} {σd : Sg} {O : Ow} {Q : VK} (hr : Room (k + 1) A) (e0 : Env0 P w K mg base A outer s H)
    (ho : s.heap.get? lam = some { cls := .type "function", data := .func (PySem.W.kla_fn name qual params body scope cl pm cd ct) }) (hcd : s.heap.CodeRec cd q) (hco : scope.isCoroutine = false) (hgen : scope.isGenerator = false) (hk : scope.kind = .function) (hcell : ∀ x ∈ scope.names, x.2 ≠ .cell)
    (hbind : bindArgs (PySem.W.kla_fn name qual params body scope cl pm cd ct) ⟨[], []⟩ = pure []) (hvis : ∀ x, Vis scope x → scope.names.lookup x = some .free)
    (cells : ∀ x c, cl.lookup x = some c → (∃ v, s.heap.IsCell c v) ∧ H c = none) (inj : ∀ x y c, cl.lookup x = some c → cl.lookup y = some c → x = y) (has : ∀ x, scope.names.lookup x = some .free → ∃ c, cl.lookup x = some c)
    (vals : ∀ (i : Nat) x v, N[i]? = some x → σ[i]? = some (some v) → scope.names.lookup x = some .free → ∃ u c, RelV v u ∧ cl.lookup x = some c ∧ s.heap.IsCell c (some u)) (len : σ.length = N.length)
    (hbody : Room k (A.deeper (envL q scope s.heap.objs.size lam cd cl)) → PD (cxL (CXr P w Cl) P w K mg base N (envL q scope s.heap.objs.size lam cd cl) A outer s H E) (Xk Cl E) body t)
    (e1 : EnvOk K H hid μ σd σ) (c1 : Cells K H hid μ O) (qq : postE (Xk Cl E) K H hid μ (t σd O) Q) : codeAny (model P w) A (.call (.ref lam) ⟨[], []⟩) (CR (CXr P w Cl) outer P w H s Q E) s := by
  refine lam_run hr.depth ho hcd hco hgen hk hcell hbind (e0.mod.nolimit.keeps fun b o e => (e0.bs b o e).1) fun h' hns kp => ?_
  refine wpAny_mono ((hbody (hr.deeper _)).out [] _ σ H Q (inv_lam e0 hr.hd hk hvis cells inj has vals len hns kp) ⟨hid, μ, σd, O, e1, c1, qq⟩) (fun v s' ⟨v', H', J, rv, z⟩ => ?_) fun e s' z => z
  exact ⟨v', H', J.os, J.bare, J.base, J.hok, rv, z⟩
end
end DL

namespace DL
open PySem L2
open PyProof.Rows (AllBare)
section
variable {M : Model} {A : Around} {E : Value → Shared → Prop} {s : Shared} {base h0 : Heap} {H : Hp} {frames : List Env} {a : Addr} {C : Value} {Q : Unit → Shared → Prop}
theorem Kp.refl {h : Heap} {fs : List Addr} : Kp h0 H fs h h := ⟨fun _ _ e _ _ => e, fun b o e _ => ⟨o.slots, e⟩, fun _ o e => ⟨o, e⟩, Nat.le_refl _⟩
theorem Kp.trans {h h1 h2 : Heap} {fs : List Addr} (x : Kp h0 H fs h h1) (y : Kp h0 H fs h1 h2) : Kp h0 H fs h h2 :=
  ⟨fun b o e n k => y.keep b o (x.keep b o e n k) n k, fun b o e n => by
    obtain ⟨sl, e1⟩ := x.slot b o e n
    obtain ⟨sl', e2⟩ := y.slot b _ e1 n
    exact ⟨sl', e2⟩, fun b o e => by
    obtain ⟨o1, e1⟩ := x.there b o e
    exact y.there b o1 e1, Nat.le_trans x.size y.size⟩
/-- the exception lands once more -/
theorem flight_x (hl : s.heap.FunFrames base frames) (x : XAt h0 H s.heap a C) (h : ∀ h', Kp h0 H (frs frames) s.heap h' → XAt h0 H h' a C → Q () { s with heap := h' }) : wpAny M A (setFlight (.ref a) none) Q E s := by
  obtain ⟨⟨oe, vs, he, hC, hd, hsz, ht⟩, new, free⟩ := id x
  unfold setFlight
  rcases ht with h1 | ⟨T, oT, ts, h1, nT, newT, freeT, hT, hdT, h3⟩
  · refine wpAny_bind (wpAny_field he hd h1 ?_)
    rw [if_neg (by decide)]
    exact wpAny_pure (h s.heap .refl x)
  · refine wpAny_bind (wpAny_field he hd h1 ?_)
    rw [if_pos (show (Value.ref T != Value.none) = true by simp)]
    refine wpAny_setField hT hdT (Array.getElem?_eq_some_iff.mp h3).1 (h _ ?_ ?_)
    · have oth : ∀ b, b ≠ T → (s.heap.update T (Obj.mapFields (·.setIfInBounds 3 ((none : Option Addr).elim Value.none fun f => rawInt f)))).get? b = s.heap.get? b := fun b hb => Heap.get?_update_other _ _ (Ne.symm hb)
      refine ⟨fun b o e hb hk => (oth b fun z => ?_).trans e, fun b o e hb => ⟨o.slots, (oth b fun z => ?_).trans e⟩, fun b o e => ?_, by rw [Heap.size_update]; exact Nat.le_refl _⟩
      · subst z
        rcases hk with q | q
        · exact q freeT
        · exact q newT
      · subst z
        obtain ⟨_, o', ho', hnf⟩ := hl.mem hb
        rw [hT] at ho'; cases ho'
        exact hnf ts hdT
      · by_cases hb : b = T
        · subst hb; exact ⟨_, Heap.get?_update_self _ hT (Obj.isFreed_of_fields (Obj.data_mapFields hdT _))⟩
        · exact ⟨o, (oth b hb).trans e⟩
    · refine ⟨⟨oe, vs, (Heap.get?_update_other _ _ nT).trans he, hC, hd, hsz, .inr ⟨T, _, _, h1, nT, newT, freeT, Heap.get?_update_self _ hT (Obj.isFreed_of_fields (Obj.data_mapFields hdT _)), Obj.data_mapFields hdT _, ?_⟩⟩, new, free⟩
      rw [Array.getElem?_setIfInBounds_self, if_pos (Array.getElem?_eq_some_iff.mp h3).1]; rfl
end
section
variable {X : Cx} {pins : List (Addr × Obj)} {σ : St} {H H1 : Hp} {s s1 : Shared}
/-- within an except suite -/
abbrev Cx.mk' (X : Cx) (a : Addr) : Cx := { X with A := X.A.mark (some (.ref a)), calm := false, xe := fun _ _ => False }
theorem Inv.mk' (I : L2.Inv X pins σ H s) (a : Addr) : L2.Inv (Cx.mk' X a) pins σ H s :=
  ⟨⟨I.ok.mod, I.ok.kind, I.ok.glob, I.ok.blt, I.ok.above, I.ok.inj, I.ok.has, I.ok.cab, fun z => absurd (show false = true from z) (by decide), I.ok.frames, I.ok.stk, I.ok.exf, I.ok.bs, I.ok.bsz, I.ok.noex, I.ok.exfs, I.ok.funs, I.ok.frf⟩, I.os, I.bare, I.base, I.loc, I.cell, I.free, I.freeC, I.pin, I.hok, I.len⟩
theorem Inv.unmk' {a : Addr} (ok : X.Ok) (I : L2.Inv (Cx.mk' X a) pins σ H s) : L2.Inv X pins σ H s :=
  ⟨ok, I.os, I.bare, I.base, I.loc, I.cell, I.free, I.freeC, I.pin, I.hok, I.len⟩
/-- behind a call that raised, and what was noted since -/
theorem Inv.raised {h' : Heap} (I : L2.Inv X pins σ H s) (os : s1.os = s.os) (bare : AllBare s1.gens) (un : Un (frs X.stack) [] H H1 s.heap s1.heap) (hok : HOk X.prog X.w H1 s1.heap) (kp : Kp s.heap H1 (frs X.stack) s1.heap h') : L2.Inv X pins σ H1 { s1 with heap := h' } := by
  have I1 : L2.Inv X pins σ H1 s1 := I.call' (ch := []) os un hok bare (fun b z => absurd z (by simp))
  refine I.call' (s' := { s1 with heap := h' }) (ch := []) os ?_ (kp.hok hok I1.stkFree) bare (fun b z => absurd z (by simp))
  refine ⟨fun b o e n hb hx => kp.keep b o (un.keep b o e n hb hx) hb (.inr (by rw [e]; exact fun z => nomatch z)), fun b o e n hb hx => ?_, un.free, fun b o e hx => ?_, un.tups, un.frzs, un.tbls⟩
  · obtain ⟨sl, e1⟩ := un.slot b o e n hb hx
    obtain ⟨sl', e2⟩ := kp.slot b _ e1 hb
    exact ⟨sl', e2⟩
  · obtain ⟨o', e1⟩ := un.there b o e hx
    exact kp.there b o' e1
/-- an exception that was caught is an object like others -/
theorem Inv.track {a C : Addr} (I : L2.Inv X pins σ H1 s1) (x : XAt s.heap H1 s1.heap a (.ref C)) (I0 : L2.Inv X pins σ H s) : L2.Inv X pins σ (upd H1 a (.ext fun h => ∃ ox, PySem.W.InstAt h a ox C none)) s1 := by
  obtain ⟨⟨oe, vs, he, hC, hd, hsz, _⟩, new, free⟩ := x
  have neA : ∀ b o, s.heap.get? b = some o → b ≠ a := fun b o e z => by rw [z, new] at e; cases e
  have hinst : PySem.W.InstAt s1.heap a oe C none := ⟨he, hC.1, by unfold PySem.W.notCls; rw [hd], by rw [hC.2]; trivial⟩
  have old : ∀ {b : Addr} {u : HO}, H1 b = some u → upd H1 a (.ext fun h => ∃ ox, PySem.W.InstAt h a ox C none) b = some u := fun {b u} e => by rw [upd_ne (ne_of_none e free)]; exact e
  have fr : ∀ {b : Addr}, H1 b = none → b ≠ a → upd H1 a (.ext fun h => ∃ ox, PySem.W.InstAt h a ox C none) b = none := fun {b} e n => by rw [upd_ne n]; exact e
  have there : ∀ b, b ∉ X.ex → (∃ o, X.s₀.heap.get? b = some o) → b ≠ a := fun b hx ⟨o, e⟩ => by
    obtain ⟨o', e'⟩ := I0.base.there b o e hx
    exact neA b o' e'
  refine ⟨I.ok, I.os, I.bare, ⟨I.base.keep, I.base.slot, fun b o e n hx => fr (I.base.free b o e n hx) (there b hx ⟨o, e⟩), I.base.there, fun b xs e => old (I.base.tups b xs e), fun b o u e => old (I.base.frzs b o u e), fun b ps e => ?_⟩, I.loc, I.cell, ?_, fun x c e => ?_, fun p hp => ?_, fun b u e => ?_, I.len⟩
  · obtain ⟨m, e1⟩ := I.base.tbls b ps e
    exact ⟨m, old e1⟩
  · obtain ⟨m, ⟨o, _, _, ho, _⟩, _⟩ := I0.loc
    exact fr I.free (neA _ o ho)
  · obtain ⟨v, o, ho, _⟩ := I0.cell x c e
    exact fr (I.freeC x c e) (neA c o ho)
  · obtain ⟨e1, n1, r⟩ := I.pin p hp
    exact ⟨e1, fr n1 (neA _ _ (I0.pin p hp).1), r⟩
  · by_cases hb : b = a
    · subst hb
      rw [upd_same] at e; cases e
      exact ⟨⟨oe, hinst⟩, ⟨oe, he⟩, fun h1 h2 ⟨ox, z⟩ kk => ⟨ox, kk ox z.at_, z.cls, z.no, by
        have := z.dict
        revert this
        cases ox.dict with
        | none => exact fun _ => trivial
        | some _ => exact fun z => z.elim⟩⟩
    · rw [upd_ne hb] at e
      exact (I.hok b u e).stay (fun _ _ _ z => z) (fun _ z => old z) fun _ _ z => old z
end
end DL

namespace DL
open PySem L2
open PyProof.Rows (AllBare)
section
variable {X : Cx} {pins : List (Addr × Obj)} {σ : St} {H : Hp} {s : Shared} {M : Model} {A : Around} {E : Value → Shared → Prop}
/-- a local name is unbound -/
theorem unbind_ok {i : Nat} {x : Str} {v : V} {Q : Unit → Shared → Prop} (I : L2.Inv X pins σ H s) (hN : X.N.Nodup) (hi : X.N[i]? = some x) (hx : X.env.scope.names.lookup x = some .local) (hv : σ[i]? = some (some v))
    (h : ∀ s', L2.Inv X pins (σ.set i none) H s' → Q () s') : wpAny M A (unbindName X.env x) Q E s := by
  obtain ⟨m, hn, hl⟩ := id I.loc
  obtain ⟨u, _, lk⟩ := hl i x v hi hv (.inl hx)
  have hm : m x = some u := by
    rcases lk with ⟨_, z⟩ | ⟨z, _⟩
    · exact z
    · have z' : X.env.scope.names.lookup x = some .cell ∨ X.env.scope.names.lookup x = some .free := z
      rw [hx] at z'
      rcases z' with z' | z' <;> cases z'
  refine wpAny_unbindName_local hx hn hm (by rw [I.ok.kind]; rfl) fun h' u' hn' hs => h _ ?_
  have kp : ∀ b o, b ≠ X.env.locals → s.heap.get? b = some o → h'.get? b = some o := fun b o n e => (hs.2 b n).trans e
  have neL : ∀ b o, X.s₀.heap.get? b = some o → b ≠ X.env.locals := fun b o e => Nat.ne_of_lt (Nat.lt_of_lt_of_le (Heap.lt_size e) I.ok.above)
  have neH : ∀ b o, H b = some o → b ≠ X.env.locals := fun b o e => ne_of_none e I.free
  have cellK : ∀ y c, X.env.cells.lookup y = some c → ∀ w, s.heap.IsCell c w → h'.IsCell c w := fun y c e w ⟨o, ho, hd⟩ => ⟨o, kp c o (I.cne y c e) ho, hd⟩
  refine ⟨I.ok, I.os, I.bare, ⟨fun b o e n hb hx => kp b o (neL b o e) (I.base.keep b o e n hb hx), fun b o e n hb hx => ?_, I.base.free, fun b o e hx => ?_, I.base.tups, I.base.frzs, I.base.tbls⟩, ⟨_, hn', fun j y w e1 e2 e3 => ?_⟩, fun y c e => ?_, I.free, I.freeC, fun p hp => ?_, fun b o e => ?_, by rw [List.length_set]; exact I.len⟩
  · obtain ⟨sl, e1⟩ := I.base.slot b o e n hb hx
    exact ⟨sl, kp b _ (neL b o e) e1⟩
  · obtain ⟨o', e1⟩ := I.base.there b o e hx
    exact ⟨o', kp b o' (neL b o e) e1⟩
  · have hj : j ≠ i := by
      rintro rfl
      have hlt : j < σ.length := (List.getElem?_eq_some_iff.mp hv).1
      rw [List.getElem?_set_self hlt] at e2; cases e2
    rw [List.getElem?_set_ne (Ne.symm hj)] at e2
    have hy : y ≠ x := by rintro rfl; exact hj (nodup_ix hN e1 hi)
    obtain ⟨u2, r2, l2⟩ := hl j y w e1 e2 e3
    refine ⟨u2, r2, ?_⟩
    rcases l2 with ⟨k1, k2⟩ | ⟨k1, c, k2, k3⟩
    · exact .inl ⟨k1, by show (if y = x then u' else m y) = some u2; rw [if_neg hy]; exact k2⟩
    · exact .inr ⟨k1, c, k2, cellK y c k2 _ k3⟩
  · obtain ⟨w, z⟩ := I.cell y c e
    exact ⟨w, cellK y c e w z⟩
  · obtain ⟨e1, n1, n2, r⟩ := I.pin p hp
    exact ⟨kp _ _ n2 e1, n1, n2, r⟩
  · refine (I.hok b o e).stay (fun b2 u2 hb2 z => kp b2 u2 ?_ z) (fun _ z => z) fun _ _ z => z
    rcases hb2 with rfl | hb2
    · exact neH _ _ e
    · exact neH _ _ hb2
end
end DL

namespace DL
open PySem L2
open PyProof.Rows (AllBare)
section
variable {X : Cx} {pins : List (Addr × Obj)} {σ : St} {H H1 : Hp} {s s1 : Shared}
/-- except T as n: y = n -/
theorem handle_ok {a C T : Addr} {h2 : Heap} {xT n y : Str} {i j : Nat} {p4 p5 p6 p7 p8 : Pos} {Qf : Flow → Shared → Prop} (I : L2.Inv X pins σ H s) (os : s1.os = s.os) (bare : AllBare s1.gens) (un : Un (frs X.stack) [] H H1 s.heap s1.heap) (hok : HOk X.prog X.w H1 s1.heap)
    (kp : Kp s.heap H1 (frs X.stack) s1.heap h2) (x2 : XAt s.heap H1 h2 a (.ref C)) (hm : PySem.W.exmOne X.K (.ref C) (.ref T) = some true) (hgT : Gl X xT) (hmT : X.mg xT = some (.ref T))
    (hN : X.N.Nodup) (hi : X.N[i]? = some n) (hj : X.N[j]? = some y) (hij : i ≠ j) (hn : X.env.scope.names.lookup n = some .local) (hy : X.env.scope.names.lookup y = some .local)
    (h : ∀ s', L2.Inv X pins ((σ.set j (some (.ref a))).set i none) (upd H1 a (.ext fun h => ∃ ox, PySem.W.InstAt h a ox C none)) s' → Qf .next s')
    (hnd : (n == ("__debug__" : Str)) = false := by decide) (hncd : (n == ("__classdict__" : Str)) = false := by decide) (hTd : (xT == ("__debug__" : Str)) = false := by decide)
    (hs : swapsWithSole [.Name y p5] (.Name n p6) p7.line X.env = pure false := by rfl) (hw : swappedStores [.Name y p5] (.Name n p6) X.env = pure none := by rfl) :
    wpAny (model X.prog X.w) X.A (handleBy (.ref a) X.env [.ExceptHandler (some (.Name xT p4)) (some n) [.Assign [.Name y p5] (.Name n p6) p7] p8]) Qf X.xe { s1 with heap := h2 } := by
  have I2 : L2.Inv X pins σ H1 { s1 with heap := h2 } := Inv.raised I os bare un hok kp
  refine wpAny_handleBy_cons (codeAny_handlers_test (ld_glob (X := Cx.mk' X a) (Inv.mk' I2 a) hgT hmT ?_ hTd)) (by intro z; cases z)
  have LT : PySem.W.Looks (model X.prog X.w) h2 (typeOf (.ref a)) (.ref C) := by
    obtain ⟨⟨oe, vs, he, hC, _⟩, _⟩ := x2
    exact hC.1 ▸ (PySem.W.Looks.ld he).andThen .now
  refine (PySem.W.exm_one I2.kIn LT hm).at ?_
  show codeAny _ _ (.handlers (.ref a) [.ExceptHandler none (some n) [.Assign [.Name y p5] (.Name n p6) p7] p8] X.env) _ _
  refine codeAny_handlers_suite_as (flight_x (frames := X.stack) I2.stack x2 fun h3 kp3 x3 => ?_)
  have I3 : L2.Inv X pins σ H1 { s1 with heap := h3 } := Inv.raised I os bare un hok (kp.trans kp3)
  have I4 := Inv.track (s1 := { s1 with heap := h3 }) I3 x3 I
  refine store_ok (X := Cx.mk' X a) (v := .ref a) (Inv.mk' I4 a) hN hi (.inl hn) rfl (fun s5 I5 => ?_) (.inr hn)
  have ps : PSs (Cx.mk' X a) [.Assign [.Name y p5] (.Name n p6) p7] _ := pss_cons (ps_asg (pe_var (X := Cx.mk' X a) (pos := p6) hi (.inl hn) hnd hncd) (pg_name (X := Cx.mk' X a) (pos := p5) hN hj (.inl hy) (.inr hy)) hs hw) pss_nil
  refine wpAny_mono (ps pins s5 _ _ { nx := fun σ' H' => σ' = (σ.set i (some (.ref a))).set j (some (.ref a)) ∧ H' = upd H1 a (.ext fun h => ∃ ox, PySem.W.InstAt h a ox C none), rt := fun _ _ => False } I5 ?_) (fun fl s6 h6 => ?_) fun _ _ z => z.elim
  · refine ⟨.ref a, ?_, ?_⟩
    · rw [List.getElem?_set_self (by rw [I.len]; exact (List.getElem?_eq_some_iff.mp hi).1)]
    · exact ⟨rfl, rfl⟩
  cases fl with
  | ret u => obtain ⟨_, _, _, _, _, z⟩ := h6; exact z.elim
  | brk => obtain ⟨_, _, _, z⟩ := h6; exact z.elim
  | cont => obtain ⟨_, _, _, z⟩ := h6; exact z.elim
  | next =>
    obtain ⟨σ6, H6, I6, rfl, rfl⟩ := h6
    have I7 := Inv.unmk' I.ok I6
    show wpAny _ X.A (do bindName X.env n .none; unbindBehindTheSuite X.env n p8) _ _ s6
    unfold bindName unbindBehindTheSuite
    refine wpAny_bind (wpAny_bind (wpAny_holding (wpAny_point (wpAny_bind (store_ok (v := .non) I7 hN hi (.inl hn) rfl (fun s8 I8 => wpAny_point ?_) (.inr hn))))))
    refine wpAny_onRaise (unbind_ok (v := .non) I8 hN hi hn (List.getElem?_set_self (by rw [I7.len]; exact (List.getElem?_eq_some_iff.mp hi).1)) fun s9 I9 => h s9 ?_)
    refine I9.weak (by simp) fun k v e => ?_
    by_cases hk : k = i
    · subst hk
      have hlt : k < (σ.set j (some (.ref a))).length := by rw [List.length_set, I.len]; exact (List.getElem?_eq_some_iff.mp hi).1
      rw [List.getElem?_set_self hlt] at e; cases e
    · rw [List.getElem?_set_ne (Ne.symm hk)] at e ⊢
      rw [List.getElem?_set_ne (Ne.symm hk)]
      by_cases hkj : k = j
      · subst hkj
        have hlt : k < σ.length := by rw [I.len]; exact (List.getElem?_eq_some_iff.mp hj).1
        rw [List.getElem?_set_self hlt] at e
        rw [List.getElem?_set_self (by rw [List.length_set]; exact hlt)]
        exact e
      · rw [List.getElem?_set_ne (Ne.symm hkj)] at e ⊢
        rw [List.getElem?_set_ne (Ne.symm hk)]
        exact e
end
end DL

namespace DL
open PySem L2
open PyProof.Rows (AllBare)
section
variable {X : Cx} {pins : List (Addr × Obj)} {σ : St} {H H1 : Hp} {s s1 : Shared}
/-- try: f() except T as n: y = n -/
theorem try_ok {T lam : Addr} {Cl : Nat → Value} {nf xT n y : Str} {i j kf : Nat} {p1 p2 p3 p4 p5 p6 p7 p8 pos : Pos} {D : Ends} (I : L2.Inv X pins σ H s) (hex : X.ex = [])
    (hcall : codeAny (model X.prog X.w) X.A (.call (.ref lam) ⟨[], []⟩) (CR (CXr X.prog X.w Cl) X.stack X.prog X.w H s (fun _ H' => D.nx σ H')
      (fun Cv _ H1 => ∃ C, Cv = .ref C ∧ PySem.W.exmOne X.K (.ref C) (.ref T) = some true ∧ ∀ a, H1 a = none → D.nx ((σ.set j (some (.ref a))).set i none) (upd H1 a (.ext fun h => ∃ ox, PySem.W.InstAt h a ox C none)))) s)
    (hlam : PySem.W.FnAt lam s.heap) (hkf : X.N[kf]? = some nf) (hvf : σ[kf]? = some (some (.ref lam))) (hvis : Vis X.env.scope nf) (hgT : Gl X xT) (hmT : X.mg xT = some (.ref T)) (hstk : X.stack = X.env :: X.outer) (hfr : X.env.frame = some X.env.locals)
    (hN : X.N.Nodup) (hi : X.N[i]? = some n) (hj : X.N[j]? = some y) (hij : i ≠ j) (hn : X.env.scope.names.lookup n = some .local) (hy : X.env.scope.names.lookup y = some .local)
    (hfd : (nf == ("__debug__" : Str)) = false := by decide) (hfcd : (nf == ("__classdict__" : Str)) = false := by decide)
    (hnd : (n == ("__debug__" : Str)) = false := by decide) (hncd : (n == ("__classdict__" : Str)) = false := by decide) (hTd : (xT == ("__debug__" : Str)) = false := by decide)
    (hs0 : swapsWith (.Call (.Name nf p1) [] [] p2) none p3.line X.env = pure false := by rfl)
    (hs : swapsWithSole [.Name y p5] (.Name n p6) p7.line X.env = pure false := by rfl) (hw : swappedStores [.Name y p5] (.Name n p6) X.env = pure none := by rfl) :
    wpAny (model X.prog X.w) X.A (exec (.Try [.Expr (.Call (.Name nf p1) [] [] p2) p3] [.ExceptHandler (some (.Name xT p4)) (some n) [.Assign [.Name y p5] (.Name n p6) p7] p8] [] [] pos) X.env) (SP X pins D) X.xe s := by
  have load : ∀ (Q : Value → Shared → Prop) (E : Value → Shared → Prop), Q (.ref lam) s → wpAny (model X.prog X.w) X.A (eval (.Name nf p1) X.env) Q E s := fun Q E fin => by
    obtain ⟨m, hn', hl⟩ := I.loc
    obtain ⟨u, r, l⟩ := hl kf nf _ hkf hvf hvis
    cases r
    rcases l with ⟨hk, hm⟩ | ⟨hk, c, hc, hcell⟩
    · exact wpAny_Name (wpAny_loadName_local I.ok.kind hk hn' hm fin) hfd
    · rcases hk with hk | hk
      · exact wpAny_Name (wpAny_loadName_cell I.ok.kind hk hc hcell fin) hfd
      · exact wpAny_Name (wpAny_loadName_free I.ok.kind hk hc hcell fin hfcd) hfd
  refine wpAny_Try_except (wpAny_execs_cons (wpAny_Expr_any ?_ I.quiet hs0))
  refine wpAny_Call_Name_kw (load _ _ (PySem.W.callWith_F0 hlam (wpAny_call (codeAny_mono hcall fun r s1 hq => ?_))))
  cases r with
  | ok fl =>
    cases fl with
    | next => exact False.elim hq
    | brk => exact False.elim hq
    | cont => exact False.elim hq
    | ret u =>
      obtain ⟨v, H', J, _, q⟩ := I.after hq
      exact wpAny_execs_nil (wpAny_execs_nil ⟨σ, H', J, q⟩)
  | error e =>
    obtain ⟨a, c, H1, rfl, os, bare, un, hok, x, C, hC, hm, q⟩ := hq
    have I1 : L2.Inv X pins σ H1 s1 := I.call' (ch := []) os un hok bare (fun b z => absurd z (by simp))
    rw [hC] at x
    refine note_x (h0 := s.heap) (by rw [← hstk]; exact I.ok.frames) (by rw [← hstk]; exact I1.stack) hfr x (fun b hb => hok.fresh hb) ?_ fun h2 kp x2 => ?_
    · intro b hb
      cases z : s.heap.get? b with
      | none => rfl
      | some o =>
        obtain ⟨o', e'⟩ := un.there b o z (by simp)
        exact absurd (Heap.lt_size e') (Nat.not_lt.mpr hb)
    · rw [← hstk] at kp
      exact handle_ok I os bare un hok kp x2 hm hgT hmT hN hi hj hij hn hy (fun s' J => ⟨_, _, J, q a x.free⟩) hnd hncd hTd hs hw
end
end DL

namespace DL
open PySem L2
open PyProof.Rows (AllBare)
section
variable {X : Cx} {pins : List (Addr × Obj)} {σ : St} {H : Hp} {s : Shared}
/-- its body -/
theorem refused_body {Y : Cx} {σ1 : St} {H : Hp} {s1 : Shared} {Cl : Nat → Value} {lam T : Addr} {nf n y xT : Str} {rest : List Stmt} {i j : Nat} {Q : VK} {W : St → Hp → Prop} {t : TS} {p0 p1 p2 p3 p4 p5 p6 p7 p8 pq pc pos : Pos} {kc : _}
    (I1 : L2.Inv Y [] σ1 H s1) (hex : Y.ex = []) (hstk : Y.stack = Y.env :: Y.outer) (hfr : Y.env.frame = some Y.env.locals) (hlam : PySem.W.FnAt lam Y.s₀.heap) (hfree : Y.H₀ lam = none) (hnf : lam ∉ Y.fs) (hk0 : Y.N[0]? = some nf) (hv0 : σ1[0]? = some (some (.ref lam)))
    (hN : Y.N.Nodup) (hi : Y.N[i]? = some n) (hj : Y.N[j]? = some y) (hij : i ≠ j) (hj0 : j ≠ 0) (hn : Y.env.scope.names.lookup n = some .local) (hy : Y.env.scope.names.lookup y = some .local) (hvf : Vis Y.env.scope nf) (hgT : Gl Y xT) (hmT : Y.mg xT = some (.ref T))
    (hcall : ∀ s2 : Shared, L2.Inv Y [] (σ1.set j (some .non)) H s2 → codeAny (model Y.prog Y.w) Y.A (.call (.ref lam) ⟨[], []⟩) (CR (CXr Y.prog Y.w Cl) Y.stack Y.prog Y.w H s2 (fun _ H' => W (σ1.set j (some .non)) H')
        (fun Cv _ H1 => ∃ C, Cv = .ref C ∧ PySem.W.exmOne Y.K (.ref C) (.ref T) = some true ∧ ∀ a, H1 a = none → W (((σ1.set j (some .non)).set j (some (.ref a))).set i none) (upd H1 a (.ext fun h => ∃ ox, PySem.W.InstAt h a ox C none)))) s2)
    (hrest : PSs Y rest t) (hW : ∀ σ' H', W σ' H' → t { nx := fun _ H' => Q .non H', rt := Q } σ' H')
    (hfd : (nf == ("__debug__" : Str)) = false := by decide) (hfcd : (nf == ("__classdict__" : Str)) = false := by decide)
    (hnd : (n == ("__debug__" : Str)) = false := by decide) (hncd : (n == ("__classdict__" : Str)) = false := by decide) (hTd : (xT == ("__debug__" : Str)) = false := by decide)
    (hs0 : swapsWith (.Call (.Name nf p1) [] [] p2) none p3.line Y.env = pure false := by rfl)
    (hsA : swapsWith (.Constant .none kc pc) (some (.Name y pq)) p0.line Y.env = pure false := by rfl)
    (hs : swapsWithSole [.Name y p5] (.Name n p6) p7.line Y.env = pure false := by rfl) (hw : swappedStores [.Name y p5] (.Name n p6) Y.env = pure none := by rfl) :
    wpAny (model Y.prog Y.w) Y.A (execs (.Assign [.Name y pq] (.Constant .none kc pc) p0 :: .Try [.Expr (.Call (.Name nf p1) [] [] p2) p3] [.ExceptHandler (some (.Name xT p4)) (some n) [.Assign [.Name y p5] (.Name n p6) p7] p8] [] [] pos :: rest) Y.env) (SP Y [] { nx := fun _ H' => Q .non H', rt := Q }) Y.xe s1 := by
  refine wpAny_execs_cons ?_
  refine thn (ps_set (X := Y) (pos' := pq) (pos := p0) hN hj (.inl hy) (pe_non (j := kc) (pos := pc)) hsA (.inr hy) [] s1 σ1 H { nx := fun σ' H' => σ' = σ1.set j (some .non) ∧ H' = H, rt := fun _ _ => False } I1 ⟨rfl, rfl⟩) fun fl s2 h2 => ?_
  cases fl with
  | ret u => obtain ⟨_, _, _, _, _, z⟩ := h2; exact z.elim
  | brk => obtain ⟨_, _, _, z⟩ := h2; exact z.elim
  | cont => obtain ⟨_, _, _, z⟩ := h2; exact z.elim
  | next =>
  obtain ⟨σ2, H2, I2, rfl, rfl⟩ := h2
  have hlam2 : PySem.W.FnAt lam s2.heap := by
    obtain ⟨a1, a2, a3, a4, e⟩ := hlam
    exact ⟨a1, a2, a3, a4, I2.base.keep lam _ e hfree hnf (by rw [hex]; simp)⟩
  refine wpAny_execs_cons (thn (try_ok (D := { nx := W, rt := fun _ _ => False }) I2 hex (hcall s2 I2) hlam2 hk0 (by rw [List.getElem?_set_ne hj0]; exact hv0) hvf hgT hmT hstk hfr hN hi hj hij hn hy hfd hfcd hnd hncd hTd hs0 hs hw) fun fl s3 h3 => ?_)
  cases fl with
  | ret u => obtain ⟨_, _, _, _, _, z⟩ := h3; exact z.elim
  | brk => obtain ⟨_, _, _, z⟩ := h3; exact z.elim
  | cont => obtain ⟨_, _, _, z⟩ := h3; exact z.elim
  | next =>
    obtain ⟨σ3, H3, I3, w3⟩ := h3
    exact hrest [] s3 σ3 H3 _ I3 (hW σ3 H3 w3)
end
end DL

namespace DL
open PySem L2
open PyProof.Rows (AllBare)
section
variable {X : Cx} {pins : List (Addr × Obj)} {σ : St} {H : Hp} {s : Shared}
/-- the laws' helper is called with a lambda: y = None, try: nf() except T as n: y = n, the rest -/
theorem refused_run {Cl : Nat → Value} {k : Nat} {f lam T : Addr} {name qual nf n y xT : Str} {params : Arguments} {rest : List Stmt} {scope : Scope} {dV kV doc pm cdv ct oc : Value} {an od : Option Addr} {osl : Array (Option Value)} {N : List Str} {i j : Nat} {Q : VK} {W : St → Hp → Prop} {p0 p1 p2 p3 p4 p5 p6 p7 p8 pq pc pos : Pos} {kc : _}
    (I : L2.Inv X pins σ H s) (hr : Room (k + 1) X.A)
    (lk : X.K.lookup f = some ⟨oc, od, .func (PySem.W.fnOf name qual params (.Assign [.Name y pq] (.Constant .none kc pc) p0 :: .Try [.Expr (.Call (.Name nf p1) [] [] p2) p3] [.ExceptHandler (some (.Name xT p4)) (some n) [.Assign [.Name y p5] (.Name n p6) p7] p8] [] [] pos :: rest) scope dV kV doc pm an cdv ct), osl⟩)
    (hcd : PySem.W.codeIn X.K cdv qual = true) (S : FnScope N [nf] scope)
    (hb : BindsTo s (PySem.W.fnOf name qual params (.Assign [.Name y pq] (.Constant .none kc pc) p0 :: .Try [.Expr (.Call (.Name nf p1) [] [] p2) p3] [.ExceptHandler (some (.Name xT p4)) (some n) [.Assign [.Name y p5] (.Name n p6) p7] p8] [] [] pos :: rest) scope dV kV doc pm an cdv ct) ⟨[.ref lam], []⟩ ([nf].zip [.ref lam]))
    (hlam : PySem.W.FnAt lam s.heap) (hfree : H lam = none) (hnf : lam ∉ frs X.stack) (hN : N.Nodup) (hk0 : N[0]? = some nf) (hi : N[i]? = some n) (hj : N[j]? = some y) (hij : i ≠ j) (hj0 : j ≠ 0) (hn : scope.names.lookup n = some .local) (hy : scope.names.lookup y = some .local) (hvf : Vis scope nf)
    (hgT : scope.names.lookup xT = some .globalImplicit) (hmT : X.mg xT = some (.ref T))
    (hcall : ∀ s2 : Shared, Room k (X.A.deeper (PyProof.Rows.envOfC qual scope s.heap.objs.size f cdv)) → Env0 X.prog X.w X.K X.mg X.base (X.A.deeper (PyProof.Rows.envOfC qual scope s.heap.objs.size f cdv)) (PyProof.Rows.envOfC qual scope s.heap.objs.size f cdv :: X.stack) s2 H → Un (frs X.stack) [] H H s.heap s2.heap →
      codeAny (model X.prog X.w) (X.A.deeper (PyProof.Rows.envOfC qual scope s.heap.objs.size f cdv)) (.call (.ref lam) ⟨[], []⟩) (CR (CXr X.prog X.w Cl) (PyProof.Rows.envOfC qual scope s.heap.objs.size f cdv :: X.stack) X.prog X.w H s2 (fun _ H' => W ((L2.start N [.ref lam]).set j (some .non)) H')
        (fun Cv _ H1 => ∃ C, Cv = .ref C ∧ PySem.W.exmOne X.K (.ref C) (.ref T) = some true ∧ ∀ a, H1 a = none → W ((((L2.start N [.ref lam]).set j (some .non)).set j (some (.ref a))).set i none) (upd H1 a (.ext fun h => ∃ ox, PySem.W.InstAt h a ox C none)))) s2)
    (hrest : Room k (X.A.deeper (PyProof.Rows.envOfC qual scope s.heap.objs.size f cdv)) → ∃ t, PSs (cxX Cl X.prog X.w X.K X.mg X.base N qual scope f cdv X.A X.stack s H E0) rest t ∧ ∀ σ' H', W σ' H' → t { nx := fun _ H' => Q .non H', rt := Q } σ' H')
    (hfd : (nf == ("__debug__" : Str)) = false := by decide) (hfcd : (nf == ("__classdict__" : Str)) = false := by decide)
    (hnd : (n == ("__debug__" : Str)) = false := by decide) (hncd : (n == ("__classdict__" : Str)) = false := by decide) (hTd : (xT == ("__debug__" : Str)) = false := by decide)
    (hs0 : ∀ env : Env, swapsWith (.Call (.Name nf p1) [] [] p2) none p3.line env = pure false := by intro _; rfl)
    (hsA : ∀ env : Env, swapsWith (.Constant .none kc pc) (some (.Name y pq)) p0.line env = pure false := by intro _; rfl)
    (hs : ∀ env : Env, swapsWithSole [.Name y p5] (.Name n p6) p7.line env = pure false := by intro _; rfl) (hw : ∀ env : Env, swappedStores [.Name y p5] (.Name n p6) env = pure none := by intro _; rfl) :
    wpAny (model X.prog X.w) X.A (call (.ref f) [.ref lam]) (EP X pins σ Q) X.xe s := by
  have e0 := I.env0
  have KX := I.kIn
  have hkind : ∀ z ∈ [nf].zip [Value.ref lam], scope.names.lookup z.1 = some .local ∨ (scope.names.lookup z.1 = some .cell ∧ ((cellsFrom (s.heap.objs.size + 1) scope.names []).lookup z.1).isSome = true) := fun ⟨m, v⟩ hz => by
    rcases S.par m (List.of_mem_zip hz).1 with q | q
    · exact .inl q
    · exact .inr ⟨q, PySem.W.cellsFrom_some _ _ _ (.inl q)⟩
  refine wpAny_call (codeAny_mono (?_ : codeAny (model X.prog X.w) X.A (.call (.ref f) ⟨[.ref lam], []⟩) (CR (CXr X.prog X.w Cl) X.stack X.prog X.w H s Q E0) s) fun r s' hq => ?_)
  · refine codeAny_call_function hr.depth (KX _ _ lk) rfl S.co S.gen rfl (PySem.W.codeRec_of KX hcd) (hb _ _ _ _ ?_)
    refine wpAny_newFunctionEnv_cells S.kind hkind fun env he s1 x => ?_
    subst he
    refine ⟨I.nolimit.keeps x.toInCall.keep, codeAny_func ?_⟩
    have I1 : L2.Inv (cxX Cl X.prog X.w X.K X.mg X.base N qual scope f cdv X.A X.stack s H E0) [] (L2.start N [.ref lam]) H s1 := inv_start S hr.hd e0 rfl (.cons rfl .nil) x
    obtain ⟨t, ht, hW⟩ := hrest (hr.deeper _)
    refine wpAny_mono (refused_body (Y := cxX Cl X.prog X.w X.K X.mg X.base N qual scope f cdv X.A X.stack s H E0) (Cl := Cl) (T := T) (W := W) (Q := Q) I1 rfl rfl rfl hlam hfree hnf hk0 (by rfl) hN hi hj hij hj0 hn hy hvf hgT hmT (fun s2 I2 => hcall s2 (hr.deeper _) I2.env0 I2.base) ht hW hfd hfcd hnd hncd hTd (hs0 _) (hsA _) (hs _) (hw _)) (fun fl s' hs => ?_) fun e s' hs => hs
    have fin : ∀ {σ' : St} {H' : Hp} {v : V} {u : Value}, L2.Inv (cxX Cl X.prog X.w X.K X.mg X.base N qual scope f cdv X.A X.stack s H E0) [] σ' H' s' → RelV v u → Q v H' → CE X.stack X.prog X.w H s Q u s' :=
      fun {σ' H' v u} J rv q => ⟨v, H', J.os, J.bare, J.base, J.hok, rv, q⟩
    cases fl with
    | ret u =>
      obtain ⟨v, σ', H', J, rv, q⟩ := hs
      exact fin J rv q
    | next =>
      obtain ⟨σ', H', J, q⟩ := hs
      exact fin (v := V.non) (u := Value.none) J rfl q
    | brk =>
      obtain ⟨_, _, _, q⟩ := hs
      exact False.elim q
    | cont =>
      obtain ⟨_, _, _, q⟩ := hs
      exact False.elim q
  · cases r with
    | error e => exact passes_0 pins σ H s e s' I hq
    | ok fl =>
      cases fl with
      | ret u => exact I.after hq
      | next => exact False.elim hq
      | brk => exact False.elim hq
      | cont => exact False.elim hq
end
end DL

namespace DL
open PySem L2
open PyProof.Rows (AllBare)
section
variable {X : Cx} {pins : List (Addr × Obj)} {σ : St} {H : Hp} {s s2 : Shared}
/-! ### what a lambda has captured -/
theorem cell_un {h h' : Heap} {c : Addr} {v : Option Value} {fs : List Addr} (un : Un fs [] H H h h') (z : h.IsCell c v) (n : H c = none) : h'.IsCell c v := by
  obtain ⟨o, ho, hd⟩ := z
  obtain ⟨sl, e⟩ := un.any ho n (by simp)
  exact ⟨_, e, hd⟩
theorem capt_cells {clos : List (Str × Addr)} (I : L2.Inv X pins σ H s) (un : Un (frs X.stack) [] H H s.heap s2.heap) (hcl : ∀ x c, clos.lookup x = some c → X.env.cells.lookup x = some c) : ∀ x c, clos.lookup x = some c → (∃ v, s2.heap.IsCell c v) ∧ H c = none := fun x c e => by
  obtain ⟨v, z⟩ := I.cell x c (hcl x c e)
  exact ⟨⟨v, cell_un un z (I.freeC x c (hcl x c e))⟩, I.freeC x c (hcl x c e)⟩
theorem capt_inj {clos : List (Str × Addr)} (I : L2.Inv X pins σ H s) (hcl : ∀ x c, clos.lookup x = some c → X.env.cells.lookup x = some c) : ∀ x y c, clos.lookup x = some c → clos.lookup y = some c → x = y := fun x y c e1 e2 => I.ok.inj x y c (hcl x c e1) (hcl y c e2)
theorem capt_vals {clos : List (Str × Addr)} {scope : Scope} (I : L2.Inv X pins σ H s) (un : Un (frs X.stack) [] H H s.heap s2.heap) (hcl : ∀ x c, clos.lookup x = some c → X.env.cells.lookup x = some c) (has : ∀ x, scope.names.lookup x = some .free → ∃ c, clos.lookup x = some c)
    (hfv : ∀ x, scope.names.lookup x = some .free → X.env.scope.names.lookup x = some .cell ∨ X.env.scope.names.lookup x = some .free) :
    ∀ (i : Nat) x v, X.N[i]? = some x → σ[i]? = some (some v) → scope.names.lookup x = some .free → ∃ u c, RelV v u ∧ clos.lookup x = some c ∧ s2.heap.IsCell c (some u) := fun i x v e1 e2 e3 => by
  obtain ⟨m, hn, hl⟩ := I.loc
  obtain ⟨u, r, l⟩ := hl i x v e1 e2 (.inr (hfv x e3))
  obtain ⟨c, hc⟩ := has x e3
  refine ⟨u, c, r, hc, ?_⟩
  rcases l with ⟨z, _⟩ | ⟨_, c', g1, g2⟩
  · have z' : X.env.scope.names.lookup x = some .local := z
    rcases hfv x e3 with q | q <;> (rw [z'] at q; cases q)
  · have := hcl x c hc
    rw [g1] at this; cases this
    exact cell_un un g2 (I.freeC x _ g1)
end
end DL

namespace DL
open PySem L2
open PyProof.Rows (AllBare)
/-! ### the rule: helper(lambda: E) -/
structure LamScope (out sc : Scope) : Prop where
  kind : sc.kind = .function
  co : sc.isCoroutine = false
  gen : sc.isGenerator = false
  nd : (sc.names.map (·.1)).Nodup
  cell : ∀ x ∈ sc.names, x.2 ≠ .cell
  loc : ∀ x ∈ sc.names, x.2 ≠ .local
  frees : ∀ y ∈ sc.names, y.2 = .free → out.names.lookup y.1 = some .cell ∨ out.names.lookup y.1 = some .free
def fin0 (r : RS) : R D := match r with
  | .nx _ O => .ok .non O
  | .rt d O => .ok d O
  | _ => .bad
/-- what the helper does behind the call -/
def refR (Ca : Nat → Nat) (n j : Nat) (tR : DS) (r : R D) : R D := match r with
  | .ok _ O => fin0 (tR ((List.replicate n none).set j (some .non)) O)
  | .exc c O => fin0 (tR ((List.replicate n none).set j (some (.exn (Ca c)))) O)
  | .bad => .bad
def dRefused (Pt iT : Nat) (Ca : Nat → Nat) (n j : Nat) (tE : DE) (tR : DS) : DE := fun σ O => match σ[iT]? with
  | some (some (.tab p)) => if p = Pt then refR Ca n j tR (tE σ O) else .bad
  | _ => .bad
theorem envOk_one {K : PySem.W.Frag} {H : Hp} {hid μ : List Addr} {n j : Nat} {d : D} {v : V} {σv : St} (hl : σv.length = n) (hv : σv[j]? = some (some v)) (q : Dat K H hid μ d v) : EnvOk K H hid μ ((List.replicate n none).set j (some d)) σv := by
  refine ⟨by simp [hl], fun i x e => ?_⟩
  by_cases hi : j = i
  · subst hi
    have hj : j < n := by have := (List.getElem?_eq_some_iff.mp hv).1; omega
    rw [List.getElem?_set_self (by simpa using hj)] at e
    cases e
    exact ⟨v, hv, q⟩
  · rw [List.getElem?_set_ne hi] at e
    rw [List.getElem?_replicate] at e
    split at e <;> cases e
theorem post_fin0 {Ex : Nat → Hp → Prop} {E' : Nat → Hp → Prop} {K : PySem.W.Frag} {H : Hp} {hid μ : List Addr} {Q : VK} {r : RS} (q : postE Ex K H hid μ (fin0 r) Q) : postS E' K H hid μ r { nx := fun _ H' => Q .non H', rt := Q } := by
  cases r with
  | nx σ O' => exact fun σv H' μ' x e c' => q .non H' μ' x c' dat_non
  | rt d' O' => exact fun v H' μ' x c' r => q v H' μ' x c' r
  | bk σ O' => exact False.elim q
  | ct σ O' => exact False.elim q
  | exc c' O' => exact False.elim q
  | bad => exact False.elim q
theorem start_len {N : List Str} {a : V} (h : 0 < N.length) : (L2.start N [a]).length = N.length := by
  unfold L2.start; simp; omega
section
variable {X : Cx} {Ex : Nat → Hp → Prop} {Cl : Nat → Value} {Ca : Nat → Nat}
theorem pd_refused {k iT i j : Nat} {Pt c : Addr} {T : Addr} {x nf n y xT : Str} {st : Stmt} {N : List Str} {rest : List Stmt} {tR : DS} {tE : DE} {params : Arguments} {body : Expr} {scope : Scope} {p0 p1 p2 p3 p4 p5 p6 p7 p8 pq pc pos pn pl pp : Pos} {kc : _}
    (h : FunAt X.K X.mg x st) (hr : Room (k + 2) X.A)
    (hbd : defBody st = .Assign [.Name y pq] (.Constant .none kc pc) p0 :: .Try [.Expr (.Call (.Name nf p1) [] [] p2) p3] [.ExceptHandler (some (.Name xT p4)) (some n) [.Assign [.Name y p5] (.Name n p6) p7] p8] [] [] pos :: rest)
    (S : FnScope N [nf] (defScope st)) (hN : N.Nodup) (hk0 : N[0]? = some nf) (hi : N[i]? = some n) (hj : N[j]? = some y) (hij : i ≠ j) (hj0 : j ≠ 0) (hn : (defScope st).names.lookup n = some .local) (hy : (defScope st).names.lookup y = some .local) (hvf : Vis (defScope st) nf)
    (hb : ∀ (kV doc pm : Value) (an : Option Addr) (cdv ct : Value) (us : List Value), us.length = 1 → bindArgs (PySem.W.fnOf x x (defArgs st) (defBody st) (defScope st) .none kV doc pm an cdv ct) ⟨us, []⟩ = pure ([nf].zip us))
    (hgT : (defScope st).names.lookup xT = some .globalImplicit) (hmT : X.mg xT = some (.ref T)) (hcls : ∀ c, Cl c = .ref (Ca c) ∧ XcK X.K (Ca c) ∧ PySem.W.exmOne X.K (.ref (Ca c)) (.ref T) = some true)
    (hrest : ∀ (f : Addr) (cdv : Value) (s : Shared) (H : Hp), Room (k + 1) (X.A.deeper (PyProof.Rows.envOfC x (defScope st) s.heap.objs.size f cdv)) → PDSs (cxX Cl X.prog X.w X.K X.mg X.base N x (defScope st) f cdv X.A X.stack s H E0) (Xk Cl E0) rest tR)
    (L : LamOk X.mg X.base c Pt) (hcode : X.env.code = .ref c) (LS : LamScope X.env.scope scope) (hdef : defaultsOf params X.env = ([], []))
    (hbl : ∀ (name qual : Str) (cl : List (Str × Addr)) (pm cd ct : Value), bindArgs (PySem.W.kla_fn name qual params body scope cl pm cd ct) ⟨[], []⟩ = pure [])
    (hE : ∀ (q : Str) (lam : Addr) (cd : Value) (cl : List (Str × Addr)) (A : Around) (outer : List Env) (s : Shared) (H : Hp) (E : XK), Room k (A.deeper (envL q scope s.heap.objs.size lam cd cl)) → PD (cxL (CXr X.prog X.w Cl) X.prog X.w X.K X.mg X.base X.N (envL q scope s.heap.objs.size lam cd cl) A outer s H E) (Xk Cl E) body tE)
    (hg : Gl X x)
    (hdb : (x == ("__debug__" : Str)) = false := by decide)
    (hfd : (nf == ("__debug__" : Str)) = false := by decide) (hfcd : (nf == ("__classdict__" : Str)) = false := by decide)
    (hnd : (n == ("__debug__" : Str)) = false := by decide) (hncd : (n == ("__classdict__" : Str)) = false := by decide) (hTd : (xT == ("__debug__" : Str)) = false := by decide)
    (hs0 : ∀ env : Env, swapsWith (.Call (.Name nf p1) [] [] p2) none p3.line env = pure false := by intro _; rfl)
    (hsA : ∀ env : Env, swapsWith (.Constant .none kc pc) (some (.Name y pq)) p0.line env = pure false := by intro _; rfl)
    (hs : ∀ env : Env, swapsWithSole [.Name y p5] (.Name n p6) p7.line env = pure false := by intro _; rfl) (hw : ∀ env : Env, swappedStores [.Name y p5] (.Name n p6) env = pure none := by intro _; rfl) :
    PD X Ex (.Call (.Name x pn) [.Lambda params body scope pl] [] pp) (dRefused Pt iT Ca N.length j tE tR) := by
  refine ⟨?_⟩
  rintro pins s σv H Q I ⟨hid, μ, σ, O, e1, c1, q⟩
  obtain ⟨f, fd, hm, F⟩ := h
  have hNl : 0 < N.length := (List.getElem?_eq_some_iff.mp hk0).1
  have hjl : j < N.length := (List.getElem?_eq_some_iff.mp hj).1
  have hil : i < N.length := (List.getElem?_eq_some_iff.mp hi).1
  -- the table
  obtain ⟨ti, q⟩ : Tidy H Pt ∧ postE Ex X.K H hid μ (refR Ca N.length j tR (tE σ O)) Q := by
    unfold dRefused at q
    split at q
    · rename_i p hp
      by_cases hpp : p = Pt
      · rw [if_pos hpp] at q
        obtain ⟨v, _, d⟩ := e1.at_ iT _ hp
        unfold Dat at d
        rw [hpp] at d
        exact ⟨d.2, q⟩
      · rw [if_neg hpp] at q; exact False.elim q
    · exact False.elim q
  have hfree : ∀ y ∈ scope.names, y.2 = .free → ∃ c, X.env.cells.lookup y.1 = some c := fun y hy hf => I.ok.has y.1 (LS.frees y hy hf)
  have hcl : ∀ x c, (clFold X.env.cells scope.names []).lookup x = some c → X.env.cells.lookup x = some c := fun x c e => by
    rcases clFold_mem _ _ (PySem.mem_of_lookup e) with m | ⟨m, z⟩
    · cases m
    · obtain ⟨c', hc'⟩ := hfree (x, .free) m rfl
      have hc2 : X.env.cells.lookup x = some c' := hc'
      rw [hc2] at z ⊢; rw [z]; rfl
  have hasF : ∀ x, scope.names.lookup x = some .free → ∃ c, (clFold X.env.cells scope.names []).lookup x = some c := fun x e => by
    have m := clFold_has (cells := X.env.cells) scope.names [] (PySem.mem_of_lookup e)
    exact ⟨_, lookup_mem (clFold_nodup _ _ LS.nd (by simp) (by intro p hp; cases hp)) m⟩
  have hfv : ∀ x, scope.names.lookup x = some .free → X.env.scope.names.lookup x = some .cell ∨ X.env.scope.names.lookup x = some .free := fun x e => LS.frees (x, .free) (PySem.mem_of_lookup e) rfl
  have hvis : ∀ x, Vis scope x → scope.names.lookup x = some .free := fun x hx => by
    rcases hx with z | z | z
    · exact absurd rfl (LS.loc _ (PySem.mem_of_lookup z))
    · exact absurd rfl (LS.cell _ (PySem.mem_of_lookup z))
    · exact z
  refine wpAny_Call_Name_kw (ld_glob I hg hm ?_ hdb)
  refine PySem.W.callWith_K (h₀ := X.base) I.ok.mod.kin F.kp ?_ (by rfl) (by rfl)
  show wpAny _ _ (spliced ((false, eval (.Lambda params body scope pl) X.env) :: backTo pp (starEach [] X.env))) _ _ s
  refine Calls.spliced_cons (lam_ok I L hcode ti (closureFor_eq hfree) hdef fun lam cd ctv h' tk H' I1 ext cells hlN hge hget hrec => ?_)
  refine Calls.spliced_nil ⟨I1.kIn, ?_⟩
  obtain ⟨oc, od, kV, doc, pm, an, cdv, ct, osl, rfl, lk, hcd⟩ := F.ex
  have hbb : BindsTo { s with heap := h', toks := tk } (PySem.W.fnOf x x (defArgs st) (defBody st) (defScope st) .none kV doc pm an cdv ct) ⟨[.ref lam], []⟩ ([nf].zip [.ref lam]) := .of_eq (hb kV doc pm an cdv ct [.ref lam] rfl)
  rw [hbd] at lk hbb
  have hnfr : lam ∉ frs X.stack := by
    intro hb
    obtain ⟨_, o, ho, _⟩ := I.stack.mem hb
    exact absurd (Heap.lt_size ho) (Nat.not_lt.mpr hge)
  obtain ⟨cc, φ, rfl, hcc, hφ⟩ := hrec
  have e2 := e1.ext (ext μ)
  have c2 := cells hid μ O c1
  have q2 := post.ext q (ext μ)
  refine refused_run (k := k + 1) (Q := Q) (W := rds (Xk Cl E0) X.K tR { nx := fun _ H' => Q .non H', rt := Q }) (i := i) (j := j) (T := T) (Cl := Cl) I1 hr lk hcd S hbb ⟨_, _, _, _, hget⟩ hlN hnfr hN hk0 hi hj hij hj0 hn hy hvf hgT hmT ?_ ?_ hfd hfcd hnd hncd hTd hs0 hsA hs hw
  · intro s2 hr2 e0 un
    obtain ⟨qq, hqq⟩ := hφ _ (e0.hok cc _ hcc).1
    refine thunk (k := k) (t := tE) (hid := hid) (μ := μ) (σd := σ) (O := O) hr2 e0 (un.keep lam _ hget hlN hnfr (by simp)) hqq LS.co LS.gen LS.kind LS.cell (hbl _ _ _ _ _ _) hvis (capt_cells I1 un hcl) (capt_inj I1 hcl) hasF (capt_vals I1 un hcl hasF hfv) I1.len (hE _ _ _ _ _ _ _ _ _) e2 c2 ?_
    · cases hr : tE σ O with
      | bad => rw [hr] at q2; exact False.elim q2
      | ok d O' =>
        rw [hr] at q2
        intro v H3 μ3 x3 c3 d3
        refine ⟨hid, μ3, _, O', envOk_one (by rw [List.length_set, start_len hNl]) ?_ dat_non, c3, post_fin0 (post.ext q2 x3)⟩
        rw [List.getElem?_set_self (by rw [start_len hNl]; exact hjl)]
      | exc cc O' =>
        rw [hr] at q2
        intro H3 μ3 x3 c3
        obtain ⟨h1, h2, h3⟩ := hcls cc
        refine ⟨Ca cc, h1, h3, fun a ha => ⟨hid, μ3, _, O', envOk_one (v := .ref a) (d := .exn (Ca cc)) (by simp [start_len hNl]) ?_ ?_, c3.laid ha, post_fin0 (post.ext q2 (x3.trans (.laid ha)))⟩⟩
        · rw [List.getElem?_set_ne hij, List.getElem?_set_self (by simp [start_len hNl]; exact hjl)]
        · unfold Dat
          exact ⟨a, _, rfl, ⟨h2, fun h z => z⟩, .inl upd_same, c3.not_in ha⟩
  · intro hr2
    exact ⟨_, (hrest f cdv _ H' hr2).out, fun σ' H' z => z⟩
end
end DL

namespace DL
open PySem L2
open PyProof.Rows (AllBare)
/-! ### the head of a law with lambdas -/
theorem sp_ofT {K : PySem.W.Frag} {Ec : XK → Nat → Hp → Prop} {Pt : Addr} {F : List D → Ow → R D} {H : Hp} {a : Addr} {ns : List Int} (h : ∃ O, F [.lst (ns.map .int)] [] = .ok (.bl true) O) (hT : H Pt = some (.tbl #[])) (sq : SqL K H a (ns.map V.int)) : DSpT K Ec 1 Pt F [.ref a] H (fun v _ => v = .bl true) fun _ _ _ => False := by
  obtain ⟨O, h⟩ := h
  have dn : ∀ (l : List Int), Dats K H [] [] (l.map D.int) (l.map V.int) := fun l => by
    induction l with
    | nil => exact .nil
    | cons x r ih => exact .cons dat_int ih
  refine ⟨rfl, [], [], [.lst (ns.map .int)], [], .cons ?_ .nil, ⟨rfl, by simp, by simp, by simp, fun k a e => by simp at e⟩, Tidy.empty hT, ?_⟩
  · unfold Dat
    exact ⟨a, _, rfl, sq.imp (fun z => ⟨z, by simp, by simp⟩) id, dn ns⟩
  · rw [h]
    intro v H' μ' _ _ r
    unfold Dat at r
    exact r
theorem walkT {l : PySem.W.OpenLaw} {q : Program} {loose : List Str} {XP : (Str → Option Value) → Heap → Prop} {YP : World → Heap → Prop} {d : DefRec} {K : Params → PySem.W.Frag} {Cl : Nat → Value} {k : Nat} {x : Str} {F : Nat → List D → Ow → R D} (hn : l.most = some 63) (hdf : d.params.defaults = []) (hr : Room k callerA)
    (hY : ∀ (w : World) (h : Heap), YP w h → (K w.params).In h) (hrec : (PyProof.Rows.recsOf q).find? (fun e => e.name == d.name) = some d)
    (hF : ∀ (w : World) (mg : Str → Option Value) (fa : Addr) (h : Heap), (K w.params).In h → h.Ns mainGlobals mg → mg d.name = some (.ref fa) →
      PySem.W.noTabs (K w.params) = true ∧ ∃ (c Pt : Addr), PySem.W.tabIn (K w.params) d.name = some (c, Pt) ∧ ∃ fd : FuncData, (∀ (s : Shared) (u : Value), BindsTo s fd ⟨[u], []⟩ [(x, u)]) ∧ ∀ base : Heap, (K w.params).In base → base.Ns mainGlobals mg → LamOk mg base c Pt → FnOk l.prog w (K w.params) mg base (CXr l.prog w Cl) k fa fd [x] (DSpT (K w.params) (Xk Cl) 1 Pt (F Pt)))
    (pure_ : ∀ (Pt : Nat) (ns : List Int), ns.length ≤ 63 → ∃ O, F Pt [.lst (ns.map .int)] [] = .ok (.bl true) O) :
    PySem.W.WalkO q loose XP YP l.row.toRowW d [] (fun f vs => PySem.call f vs) := by
  refine Att.attach_call hn hdf fun w s₀ s₁ mg mb fa o pm cd doc a vs ns G Y ho hd hcd hmg hobj hints hlen hg => ?_
  have KX := hY w _ Y
  obtain ⟨hK, c, Pt, ht, fd, hb, hF⟩ := hF w mg fa _ KX G.T.g hmg
  obtain ⟨hC, hP⟩ := PySem.W.tab_of G.T KX hrec ht
  have hB : s₁.heap.BuiltinsAt mg Pt := by
    obtain ⟨bm, ob, b1, b2, b3, b4, b5, b6⟩ := G.T.bmain
    refine ⟨bm, ob, b1, b2, fun q => ?_, fun q => ?_, b3, b4, b5, b6⟩
    · obtain ⟨o, es, ep, e, hd, _⟩ := G.T.g
      rw [q, e] at b3; cases b3; rw [hd] at b6; cases b6
    · rw [q, hP] at b3; cases b3; cases b4
  exact law_callT KX G.T.g G.T.b G.T.builtins G.T.nolimit hg hobj hints (Nat.le_trans hlen (by decide)) hr hC hP hK hB hF hb (fun H hT hS => sp_ofT (pure_ Pt ns hlen) hT hS) fun H e s' ⟨_, _, _, _, _, _, _, _, _, z⟩ => z
end DL

namespace DL
open PySem L2
open PyProof.Rows (AllBare)
/-! ### one sign times an int -/
section
variable {X : Cx} {Ex : Nat → Hp → Prop} {pos : Pos} {a b : Expr} {ta tb : DE}
def fMulS : Ow → D → D → R D := fun O x y => match x, y with
  | .str [c], .int i => if 0 ≤ i ∧ i ≤ 16 then .ok (.str (List.replicate i.toNat c)) O else .bad
  | _, _ => .bad
theorem foldl_one (c : Nat) : ∀ (k : Nat) (acc : List Nat), (List.replicate k (#[c] : Array Nat)).foldl (· ++ ·) acc.toArray = (acc ++ List.replicate k c).toArray
  | 0, acc => by simp
  | k + 1, acc => by
    rw [List.replicate_succ, List.foldl_cons]
    have e : acc.toArray ++ #[c] = (acc ++ [c]).toArray := by simp
    rw [e, foldl_one c k]
    rw [List.replicate_succ]
    simp
theorem txt_mul (c : Nat) (i : Int) : Txt.mul (⟨#[c]⟩ : Str) i = ⟨(List.replicate i.toNat c).toArray⟩ := by
  unfold Txt.mul
  by_cases h1 : i < 1
  · rw [if_pos h1]
    have : i.toNat = 0 := by omega
    rw [this]; rfl
  · rw [if_neg h1]
    by_cases h2 : i = 1
    · subst h2; rfl
    · have h3 : (i == 1 || (⟨#[c]⟩ : Str).length == 0) = false := by
        have : (i == 1) = false := by simpa using h2
        rw [this]; rfl
      rw [if_neg (by rw [h3]; decide)]
      have := foldl_one c i.toNat []
      simp only [List.nil_append] at this
      rw [this]
theorem op_mulS : OpR X (binaryOp .Mult) (fun x y H Q => ∃ c i, x = .str ⟨#[c]⟩ ∧ y = .int i ∧ 0 ≤ i ∧ i ≤ 16 ∧ Q (.str ⟨(List.replicate i.toNat c).toArray⟩) H) := by
  intro pins s σ H x y v u Q I rx ry h
  obtain ⟨c, i, rfl, rfl, h0, h1, q⟩ := h
  obtain ⟨t, rfl⟩ := rx
  obtain ⟨t', rfl⟩ := ry
  refine SB.mul ?_ fun tk k => ⟨.str (Txt.mul ⟨#[c]⟩ i), H, I.tok k, ⟨_, rfl⟩, by rw [txt_mul]; exact q⟩
  refine ⟨?_, fun h2 h3 => ?_, fun h2 h3 => ?_⟩
  · have a1 : decide (i < -(2 ^ 63 : Int)) = false := by simp; omega
    have a2 : decide (i ≥ 2 ^ 63) = false := by simp; omega
    rw [a1, a2]; rfl
  · have e : ((⟨#[c]⟩ : Str).length : Int) = 1 := rfl
    rw [e]
    have : (1 : Int) ≤ (2 ^ 63 - 1) / i := by
      rw [Int.le_ediv_iff_mul_le (by omega)]
      omega
    omega
  · have e : (⟨#[c]⟩ : Str).length * i.toNat = i.toNat := by
      show 1 * _ = _
      omega
    rw [e]
    have : i.toNat ≤ 16 := by omega
    generalize i.toNat = n at this
    revert n
    decide
theorem opd_mulS : OpD X Ex (fun x y H Q => ∃ c i, x = .str ⟨#[c]⟩ ∧ y = .int i ∧ 0 ≤ i ∧ i ≤ 16 ∧ Q (.str ⟨(List.replicate i.toNat c).toArray⟩) H) fMulS := by
  intro H hid μ O x y v w Q c dx dy q
  unfold fMulS at q
  split at q
  · rename_i cc i
    unfold Dat at dx dy; subst dx; subst dy
    obtain ⟨hl, q⟩ := post.ite q
    refine ⟨cc, i, rfl, rfl, hl.1, hl.2, post.here q c ?_⟩
    unfold Dat; rfl
  · exact False.elim q
end
theorem CalleeX.frz {Cl : Nat → Value} {P : Program} {w : World} {K : PySem.W.Frag} {mg : Str → Option Value} {base : Heap} {k n : Nat} {x : Str} {F : List D → Ow → R D} (c : CalleeX Cl P w K mg base x k n F) : CalleeX Cl P w K mg base x k n (frzF F) :=
  c.imp fun ds O H hid μ Ex Q cl q => post_frz cl.len q
/-- the law's def -/
theorem fnT {Cl : Nat → Value} {P : Program} {w : World} {K : PySem.W.Frag} {mg : Str → Option Value} {base : Heap} {k i : Nat} {f c Pt : Addr} {fd : FuncData} {x z : Str} {st : Stmt} {N ps : List Str} {t : DS} (hF : L2.Fun K x x st f fd) (hc : fd.code = .ref c) (S : FnScope N ps (defScope st)) (hi : N[i]? = some z) (hz : ¬ Vis (defScope st) z)
    (hbody : ∀ (A : Around) (outer : List Env) (s : Shared) (H : Hp) (E : XK), Room k (A.deeper (PyProof.Rows.envOfC x (defScope st) s.heap.objs.size f (.ref c))) → PDSs (cxX Cl P w K mg base N x (defScope st) f (.ref c) A outer s H E) (Xk Cl E) (defBody st) t) :
    FnOk P w K mg base (CXr P w Cl) (k + 1) f fd ps (DSpT K (Xk Cl) ps.length Pt (runT N.length i Pt t)) := by
  obtain ⟨oc, od, kV, doc, pm, an, cdv, ct, osl, rfl, lk, hcd⟩ := hF.ex
  have e : cdv = .ref c := hc
  subst e
  exact fn_okT lk hcd S hi hz hbody
theorem visB {sc : Scope} {z : Str} (h : sc.names.lookup z = none) : ¬ Vis sc z := by
  intro v
  rcases v with v | v | v <;> (rw [h] at v; cases v)
def lamB (out sc : Scope) : Bool := (match sc.kind with | .function => true | _ => false) && !sc.isCoroutine && !sc.isGenerator && decide ((sc.names.map (·.1)).Nodup) && (sc.names.all fun y => !(y.2 == .cell) && !(y.2 == .local)) && (sc.names.all fun y => !(y.2 == .free) || out.names.lookup y.1 == some .cell || out.names.lookup y.1 == some .free)
theorem lamS {out sc : Scope} (h : lamB out sc = true) : LamScope out sc := by
  unfold lamB at h
  simp only [Bool.and_eq_true, decide_eq_true_eq, List.all_eq_true] at h
  obtain ⟨⟨⟨⟨⟨h1, h2⟩, h3⟩, h4⟩, h5⟩, h6⟩ := h
  refine ⟨?_, by simpa using h2, by simpa using h3, h4, fun y hy => ?_, fun y hy => ?_, fun y hy hf => ?_⟩
  · cases e : sc.kind <;> rw [e] at h1 <;> first | rfl | cases h1
  · have := (h5 y hy).1; simpa using this
  · have := (h5 y hy).2; simpa using this
  · have := h6 y hy
    rw [hf] at this
    simpa using this
theorem ownX_of {K : PySem.W.Frag} {base : Heap} {mg : Str → Option Value} {x : Str} {C : Addr} (X : K.In base) (g : mg x = some (.ref C)) (q : PySem.W.excIn K C bmVE "ValueError.__new__" = true) : OwnX mg base x C := by
  unfold PySem.W.excIn at q
  split at q
  next dd cd sl ho =>
    split at q
    next C' bm k0 k1 k2 k3 n k5 hm hs =>
      simp only [Bool.and_eq_true, beq_iff_eq, Bool.not_eq_true'] at q
      obtain ⟨⟨⟨⟨⟨q1, q2⟩, q3⟩, q4⟩, q5⟩, q6⟩ := q
      subst q1; subst q2
      cases cd with
      | mk nm bs mro ns qn hd sn sub ab col del =>
        dsimp only at hm q3 q5 q6
        subst hm; subst q3
        cases sl with
        | mk l =>
          dsimp only at hs
          subst hs
          exact ⟨g, bm, ns, nm, qn, bs, hd, sn, sub, ab, col, dd, k0, k1, k2, k3, k5, _, X _ _ ho, .of_isNs (PySem.W.isNs_of_in X q5), PySem.W.nsMap_none_of_in X q5 q6, PySem.W.tail_of_in X q4⟩
    next => cases q
  next => cases q
theorem xck_of {K : PySem.W.Frag} {C : Addr} {cd : ClassData} (ga : PySem.W.findIn K (.ref C) "__getattribute__" = some (some (.builtin "BaseException.__getattribute__"))) (nh : PySem.W.findIn K (.ref C) "__getattr__" = some none) (cl : PySem.W.clsIn K C = some cd)
    (at_ : PySem.W.findIn K (.ref C) "__class__" = some (some (.builtin "object.__class__"))) (gt : PySem.W.specialIn K (.builtin "object.__class__") "__get__" = some (some (.builtin "getset_descriptor.__get__"))) (tk : PySem.W.takesIn K (.builtin "object.__class__") = some true)
    (ob : PySem.W.mroIn K C (.type "object") = some true) (bx : PySem.W.mroIn K C (.type "BaseException") = some true)
    (k1 : PySem.W.kitOne K (.ref C) (.type "int") = some false) (k2 : PySem.W.kitOne K (.ref C) (.type "bool") = some false) (k3 : PySem.W.kitOne K (.ref C) (.type "str") = some false) (k4 : PySem.W.kitOne K (.ref C) (.type "list") = some false) (k5 : PySem.W.kitOne K (.ref C) (.type "tuple") = some false) (k6 : PySem.W.kitOne K (.ref C) (.type "dict") = some false) : XcK K C :=
  ⟨ga, nh, ⟨cd, cl⟩, at_, gt, tk, ob, bx, fun c hc => by
    simp only [List.mem_cons, List.not_mem_nil, or_false] at hc
    rcases hc with rfl | rfl | rfl | rfl | rfl | rfl <;> assumption⟩
theorem tab_mk {K : PySem.W.Frag} {x name qual : Str} {f c Pt : Addr} {params : Arguments} {body : List Stmt} {scope : Scope} {dV kV doc pm ct oc oc' : Value} {an od od' : Option Addr} {osl osl' : Array (Option Value)} {vs : Array Value} (a : PySem.W.nsIn K mainGlobals x = some (some (.ref f)))
    (lk : K.lookup f = some ⟨oc, od, .func (PySem.W.fnOf name qual params body scope dV kV doc pm an (.ref c) ct), osl⟩) (h4 : K.lookup c = some ⟨oc', od', .fields vs, osl'⟩) (h5 : vs[11]? = some (.ref Pt)) : PySem.W.tabIn K x = some (c, Pt) := by
  unfold PySem.W.tabIn
  rw [a]
  simp only [lk]
  show (match K.lookup c with | some ⟨_, _, .fields vs, _⟩ => _ | _ => none) = _
  simp only [h4, h5]
theorem bt_ValueError : bootBuiltins "ValueError" = some (.type "ValueError") := by boot_by_name
end DL

namespace DL
open PySem L2
/-- an iterator that another one draws from -/
structure Inner (P : Program) (w : World) (ia : Addr) (fp : List Addr) (n : Nat) (Pv : Nat → Value → Prop) (Sx : Nat → Heap → Prop) : Prop where
  stab : ∀ i h h', Sx i h → (∀ b ∈ ia :: fp, ∀ o, h.get? b = some o → h'.get? b = some o) → Sx i h'
  item : ∀ (A : Around) (i : Nat) (s : Shared) (Q : Value → Shared → Prop) (E : Value → Shared → Prop), i < n → Sx i s.heap → (∀ v h' tk, Pv i v → Sx (i + 1) h' → Heap.SameBut ia s.heap h' → Q v { s with heap := h', toks := tk }) → wpAny (model P w) A (Builtin.SmallTypes.nextOf (.ref ia)) Q E s
  done : ∀ (A : Around) (i : Nat) (s : Shared) (Q : Value → Shared → Prop) (E : Value → Shared → Prop), A.handled = none → n ≤ i → Sx i s.heap → (∀ h' e, Heap.ExtBut ia s.heap h' → (∃ o, h'.get? e = some o ∧ o.cls = .type "StopIteration") → E (.ref e) { s with heap := h' }) → wpAny (model P w) A (Builtin.SmallTypes.nextOf (.ref ia)) Q E s
section
variable {P : Program} {w : World} {A : Around} {E : Value → Shared → Prop} {s : Shared}
/-- StopIteration is made and thrown -/
theorem stop_new {α : Type} {Q : α → Shared → Prop} (hh : A.handled = none) (h : ∀ h' e, (∀ b o, s.heap.get? b = some o → h'.get? b = some o) → (∃ o, h'.get? e = some o ∧ o.cls = .type "StopIteration") → E (.ref e) { s with heap := h' }) :
    wpAny (model P w) A (newExc (.type "StopIteration") [] >>= fun e => (raiseNew e : Sem α)) Q E s := by
  refine wpAny_bind ?_
  simp only [newExc, newTuple]
  refine wpAny_bind (wpAny_newObj_type (?_) (by size_fits))
  refine wpAny_bind (m := firstArgMember _ _) (wpAny_of_eq (a := .none) (by first | rfl | (simp only [firstArgMember]; rfl)) (wpAny_newObj_type ?_ (by size_fits)))
  simp only [raiseNew]
  refine wpAny_bind (wpAny_handled ?_); rw [hh]
  refine wpAny_bind (wpAny_pure (wpAny_throw (h _ _ (fun b o e => Heap.get?_push_of_some _ (Heap.get?_push_of_some _ e)) ⟨_, Heap.get?_push_size _ rfl, rfl⟩)))
theorem inner_tup (ia tt : Addr) (items : Array Value) (hne : tt ≠ ia) : Inner P w ia [tt] items.size (fun i v => items[i]? = some v) (fun i h => h.IsTupleIter ia tt i ∧ h.IsTuple tt items) where
  stab := by
    rintro i h h' ⟨⟨o, e, c, d⟩, ⟨o2, e2, r⟩⟩ k
    exact ⟨⟨o, k ia (by simp) o e, c, d⟩, ⟨o2, k tt (by simp) o2 e2, r⟩⟩
  item := by
    rintro A i s Q E hi ⟨hit, htt⟩ hq
    obtain ⟨ob, hob, hcl, hda⟩ := id hit
    obtain ⟨ol, hol, k1, nl, hdl⟩ := id htt
    have hxx : items[i]? = some items[i] := Array.getElem?_eq_getElem hi
    unfold Builtin.SmallTypes.nextOf
    refine wpAny_bind (wpAny_callSpecial?_slot (name := "__next__") hit.typeIs F.slot_tuple_iterator_next (wpAny_call_entry F.slot_tuple_iterator_next hit.typeIs F.entry_tuple_iterator_next ?_ (F.args_tuple_iterator_next_1 _)))
    show wpAny _ _ (field (.ref ia) 0 >>= _) _ _ s
    refine wpAny_bind (wpAny_field hob hda (x := .ref tt) rfl ?_)
    show wpAny _ _ (if (Value.ref tt == Value.none) = true then _ else _) _ _ s
    rw [if_neg (by exact Bool.false_ne_true)]
    show wpAny _ _ (field (.ref ia) 1 >>= _) _ _ s
    refine wpAny_bind (wpAny_field hob hda (x := .int i 0) rfl ?_)
    show wpAny _ _ (seqItems? (.ref tt) >>= _) _ _ s
    refine wpAny_bind (wpAny_seqItems hol hdl ?_)
    simp only [Int.toNat_natCast, hxx]
    refine wpAny_bind (wpAny_setField hob hda (by simp) (wpAny_pure ⟨_, rfl, wpAny_pure (hq _ _ s.toks hxx ⟨?_, ?_⟩ (Heap.SameBut.update ..))⟩))
    · exact ⟨_, Heap.get?_update_self _ hob (Obj.isFreed_of_fields (Obj.data_mapFields hda _)), (Obj.cls_mapFields ..).trans hcl, by rw [Obj.data_mapFields hda]; simp [rawInt]⟩
    · exact ⟨ol, (Heap.SameBut.update ..).extBut _ _ hne hol, k1, nl, hdl⟩
  done := by
    rintro A i s Q E hh hi ⟨hit, htt⟩ hq
    obtain ⟨ob, hob, hcl, hda⟩ := id hit
    obtain ⟨ol, hol, k1, nl, hdl⟩ := id htt
    have hxx : items[i]? = none := by simp [hi]
    unfold Builtin.SmallTypes.nextOf
    refine wpAny_bind (wpAny_callSpecial?_slot (name := "__next__") hit.typeIs F.slot_tuple_iterator_next (wpAny_call_entry F.slot_tuple_iterator_next hit.typeIs F.entry_tuple_iterator_next ?_ (F.args_tuple_iterator_next_1 _)))
    show wpAny _ _ (field (.ref ia) 0 >>= _) _ _ s
    refine wpAny_bind (wpAny_field hob hda (x := .ref tt) rfl ?_)
    show wpAny _ _ (if (Value.ref tt == Value.none) = true then _ else _) _ _ s
    rw [if_neg (by exact Bool.false_ne_true)]
    show wpAny _ _ (field (.ref ia) 1 >>= _) _ _ s
    refine wpAny_bind (wpAny_field hob hda (x := .int i 0) rfl ?_)
    show wpAny _ _ (seqItems? (.ref tt) >>= _) _ _ s
    refine wpAny_bind (wpAny_seqItems hol hdl ?_)
    simp only [Int.toNat_natCast, hxx]
    refine wpAny_bind (wpAny_rule (wpAny_bind (wpAny_setField hob hda (by simp) ?_)))
    refine stop_new (by first | exact hh | (show A.in1.handled = none; exact hh)) fun h' e k he => hq h' e (fun b o hb z => k b o ((Heap.SameBut.update ..).extBut _ _ hb z)) he
theorem inner_str (ia : Addr) (x : Str) (t : Tok) : Inner P w ia [] x.cps.size (fun i v => ∃ c tk, x.cps[i]? = some c ∧ v = .str ⟨#[c]⟩ tk) (fun i h => h.IsStrIter ia "str_ascii_iterator" x t i) where
  stab := by
    rintro i h h' ⟨o, e, c, d⟩ k
    exact ⟨o, k ia (by simp) o e, c, d⟩
  item := by
    rintro A i s Q E hi hit hq
    obtain ⟨ob, hob, hcl, hda⟩ := id hit
    have hxx : x.cps[i]? = some x.cps[i] := Array.getElem?_eq_getElem hi
    unfold Builtin.SmallTypes.nextOf
    refine wpAny_bind (wpAny_callSpecial?_slot (name := "__next__") hit.typeIs F.slot_str_ascii_iterator_next (wpAny_call_entry F.slot_str_ascii_iterator_next hit.typeIs F.entry_str_ascii_iterator_next ?_ (F.args_str_ascii_iterator_next_1 _)))
    show wpAny _ _ (field (.ref ia) 0 >>= _) _ _ s
    refine wpAny_bind (wpAny_field hob hda (x := .str x t) rfl ?_)
    show wpAny _ _ (field (.ref ia) 1 >>= _) _ _ s
    refine wpAny_bind (wpAny_field hob hda (x := .int i 0) rfl ?_)
    simp only [Int.toNat_natCast, hxx]
    refine wpAny_bind (wpAny_setField hob hda (by simp) (wpAny_bind (wpAny_mkStr (wpAny_pure ⟨_, rfl, wpAny_pure (hq _ _ _ ⟨_, _, hxx, rfl⟩ ?_ (Heap.SameBut.update ..))⟩) (by show 1 ≤ sizeLine; decide))))
    exact ⟨_, Heap.get?_update_self _ hob (Obj.isFreed_of_fields (Obj.data_mapFields hda _)), (Obj.cls_mapFields ..).trans hcl, by rw [Obj.data_mapFields hda]; simp [rawInt]⟩
  done := by
    rintro A i s Q E hh hi hit hq
    obtain ⟨ob, hob, hcl, hda⟩ := id hit
    have hxx : x.cps[i]? = none := by simp [hi]
    unfold Builtin.SmallTypes.nextOf
    refine wpAny_bind (wpAny_callSpecial?_slot (name := "__next__") hit.typeIs F.slot_str_ascii_iterator_next (wpAny_call_entry F.slot_str_ascii_iterator_next hit.typeIs F.entry_str_ascii_iterator_next ?_ (F.args_str_ascii_iterator_next_1 _)))
    show wpAny _ _ (field (.ref ia) 0 >>= _) _ _ s
    refine wpAny_bind (wpAny_field hob hda (x := .str x t) rfl ?_)
    show wpAny _ _ (field (.ref ia) 1 >>= _) _ _ s
    refine wpAny_bind (wpAny_field hob hda (x := .int i 0) rfl ?_)
    simp only [Int.toNat_natCast, hxx]
    refine wpAny_bind (wpAny_rule (wpAny_bind (wpAny_setField hob hda (by simp) (wpAny_bind (wpAny_letGo ?_)))))
    refine stop_new (by first | exact hh | (show A.in1.handled = none; exact hh)) fun h' e k he => hq h' e (fun b o hb z => k b o ((Heap.SameBut.update ..).extBut _ _ hb z)) he
theorem inner_lst (ia l : Addr) (items : Array Value) (hne : l ≠ ia) : Inner P w ia [l] items.size (fun i v => items[i]? = some v) (fun i h => h.IsListIter ia l i ∧ h.IsList l items) where
  stab := by
    rintro i h h' ⟨⟨o, e, c, d⟩, ⟨o2, e2, r⟩⟩ k
    exact ⟨⟨o, k ia (by simp) o e, c, d⟩, ⟨o2, k l (by simp) o2 e2, r⟩⟩
  item := by
    rintro A i s Q E hi ⟨hit, hl⟩ hq
    obtain ⟨ol, hol, r⟩ := id hl
    exact wpAny_nextOf_list_item hit hl (Array.getElem?_eq_getElem hi) fun h' st sb => hq _ h' s.toks (Array.getElem?_eq_getElem hi) ⟨st, ⟨ol, sb.extBut _ _ hne hol, r⟩⟩ sb
  done := by
    rintro A i s Q E hh hi ⟨hit, hl⟩ hq
    exact wpAny_nextOf_list_end hh hit hl (by simp [hi]) fun h' e eb he => hq h' e eb he
end
end DL

namespace DL
open PySem L2
/-- the parts of a zip lie apart -/
structure ZAp (z ti to : Addr) (i1 i2 : Addr) (fp1 fp2 : List Addr) : Prop where
  a1 : ti ≠ z
  a2 : to ≠ z
  a3 : ti ≠ to
  b1 : ∀ b ∈ i1 :: fp1, b ≠ z ∧ b ≠ to
  b2 : ∀ b ∈ i2 :: fp2, b ≠ z ∧ b ≠ to
  c1 : i1 ∉ i2 :: fp2
  c2 : i2 ∉ i1 :: fp1
  d1 : ti ≠ i1
  d2 : ti ≠ i2
section
variable {P : Program} {w : World} {A : Around} {E : Value → Shared → Prop} {s : Shared} {z ti to i1 i2 : Addr} {fp1 fp2 : List Addr} {n1 n2 k : Nat} {P1 P2 : Nat → Value → Prop} {S1 S2 : Nat → Heap → Prop} {a b : Value}
theorem Inner.but {ia c : Addr} {fp : List Addr} {n i : Nat} {Pv : Nat → Value → Prop} {Sx : Nat → Heap → Prop} {h h' : Heap} (J : Inner P w ia fp n Pv Sx) (x : Sx i h) (e : Heap.ExtBut c h h') (hc : ∀ b ∈ ia :: fp, b ≠ c) : Sx i h' := J.stab i h h' x fun b hb o z => e b o (hc b hb) z
theorem zipItem {Q : Value → Shared → Prop} (J1 : Inner P w i1 fp1 n1 P1 S1) (J2 : Inner P w i2 fp2 n2 P2 S2) (D : ZAp z ti to i1 i2 fp1 fp2) (hz : IsZip s.heap z ti to .none) (hti : IsPair s.heap ti (.ref i1) (.ref i2)) (hto : IsPair s.heap to a b) (h1 : S1 k s.heap) (h2 : S2 k s.heap) (l1 : k < n1) (l2 : k < n2)
    (hq : ∀ x y h' tk, P1 k x → P2 k y → IsZip h' z ti to (rawInt s.heap.objs.size) → IsPair h' to x y → S1 (k + 1) h' → S2 (k + 1) h' → IsPair h' s.heap.objs.size x y →
      (∀ c o, c ≠ z → c ≠ to → c ≠ i1 → c ≠ i2 → s.heap.get? c = some o → h'.get? c = some o) → Q (.ref s.heap.objs.size) { s with heap := h', toks := tk }) :
    wpAny (model P w) A (Builtin.«zip.__next__» ⟨[.ref z], []⟩) (fun f s' => ∃ v, f = .done (.ret v) ∧ Q v s') E s := by
  have ne1 : ∀ b ∈ i1 :: fp1, b ≠ z := fun b hb => (D.b1 b hb).1
  have ne2 : ∀ b ∈ i2 :: fp2, b ≠ z := fun b hb => (D.b2 b hb).1
  have no1 : ∀ b ∈ i1 :: fp1, b ≠ to := fun b hb => (D.b1 b hb).2
  have no2 : ∀ b ∈ i2 :: fp2, b ≠ to := fun b hb => (D.b2 b hb).2
  have n21 : ∀ b ∈ i2 :: fp2, b ≠ i1 := fun b hb e => D.c1 (e ▸ hb)
  have n12 : ∀ b ∈ i1 :: fp1, b ≠ i2 := fun b hb e => D.c2 (e ▸ hb)
  have m1 : i1 ∈ i1 :: fp1 := List.mem_cons_self
  have m2 : i2 ∈ i2 :: fp2 := List.mem_cons_self
  show wpAny _ _ (field (.ref z) 2 >>= _) _ _ s
  refine wpAny_bind (wpAny_field hz rfl (x := (.bool false)) rfl ?_)
  show wpAny _ _ (field (.ref z) 3 >>= _) _ _ s
  refine wpAny_bind (wpAny_field hz rfl (x := (.ref ti)) rfl (wpAny_bind (wpAny_seqItems hti rfl ?_)))
  show wpAny _ _ (Builtin.SmallTypes.ownedTupleIsFree (.ref z) >>= _) _ _ s
  refine wpAny_bind ?_; unfold Builtin.SmallTypes.ownedTupleIsFree
  refine wpAny_bind (wpAny_field hz rfl (x := (.none)) rfl (wpAny_pure ?_))
  simp only [if_true]; refine wpAny_bind (wpAny_rule (wpAny_bind (wpAny_field hz rfl (x := (.ref to)) rfl ?_)))
  refine wpAny_bind (wpAny_setField_rec hz (by simp) fun ha za sa => ?_)
  have za : IsZip ha z ti to .ellipsis := za
  refine wpAny_bind ?_; simp only [List.zipIdx_cons, List.zipIdx_nil, List.forIn_cons, List.forIn_nil]
  refine wpAny_bind (wpAny_bind (wpAny_onRaise ?_)); show wpAny _ _ (Builtin.SmallTypes.nextOf (.ref i1) >>= _) _ _ _
  refine wpAny_bind (J1.item _ k _ _ _ l1 (J1.but h1 sa.extBut ne1) fun x hb tk1 px sb1 sb => wpAny_pure ?_)
  have tob : IsPair hb to a b := sb.extBut _ _ (Ne.symm (no1 _ m1)) (sa.extBut _ _ D.a2 hto)
  refine wpAny_bind (wpAny_seqItems tob rfl (wpAny_bind (wpAny_updateSeq_pair tob fun hc toc sc => ?_)))
  have toc : IsPair hc to x b := toc
  refine wpAny_bind (wpAny_letGo (wpAny_pure (wpAny_bind (wpAny_bind (wpAny_onRaise ?_))))); show wpAny _ _ (Builtin.SmallTypes.nextOf (.ref i2) >>= _) _ _ _
  refine wpAny_bind (J2.item _ k _ _ _ l2 (J2.but (J2.but (J2.but h2 sa.extBut ne2) sb.extBut n21) sc.extBut no2) fun y hd tk2 py sd2 sd => wpAny_pure ?_)
  have tod : IsPair hd to x b := sd.extBut _ _ (Ne.symm (no2 _ m2)) toc
  refine wpAny_bind (wpAny_seqItems tod rfl (wpAny_bind (wpAny_updateSeq_pair tod fun he toe se => ?_)))
  have toe : IsPair he to x y := toe
  refine wpAny_bind (wpAny_letGo (wpAny_pure (wpAny_pure (wpAny_bind (wpAny_seqItems toe rfl (wpAny_bind (wpAny_newTuple ?_)))))))
  have hsz : he.objs.size = s.heap.objs.size := by rw [se.1, sd.1, sc.1, sb.1, sa.1]
  have ze : IsZip he z ti to .ellipsis := se.extBut _ _ (Ne.symm D.a2) (sd.extBut _ _ (Ne.symm (ne2 _ m2)) (sc.extBut _ _ (Ne.symm D.a2) (sb.extBut _ _ (Ne.symm (ne1 _ m1)) za)))
  have ke : ∀ c o, c ≠ z → c ≠ to → c ≠ i1 → c ≠ i2 → s.heap.get? c = some o → he.get? c = some o := fun c o q1 q2 q3 q4 e => se.extBut _ _ q2 (sd.extBut _ _ q4 (sc.extBut _ _ q2 (sb.extBut _ _ q3 (sa.extBut _ _ q1 e))))
  have s1e : S1 (k + 1) he := J1.but (J1.but (J1.but sb1 sc.extBut no1) sd.extBut n12) se.extBut no1
  have s2e : S2 (k + 1) he := J2.but sd2 se.extBut no2
  have zlt : z < he.objs.size := Heap.lt_size ze
  show wpAny _ _ (Builtin.SmallTypes.ownedTupleHandOut (.ref z) (.ref he.objs.size) >>= _) _ _ _
  refine wpAny_bind ?_; unfold Builtin.SmallTypes.ownedTupleHandOut
  have zf : IsZip (he.push { cls := .type "tuple", data := .seq #[x, y] }) z ti to .ellipsis := Heap.get?_push_of_some _ ze
  refine wpAny_bind (wpAny_setField_rec zf (by simp) fun hg zg sg => ?_)
  have zg : IsZip hg z ti to (rawInt he.objs.size) := zg
  refine wpAny_setField_rec zg (by simp) fun hi zi si => ?_
  have zi : IsZip hi z ti to (rawInt he.objs.size) := zi
  have up : ∀ c o, c ≠ z → he.get? c = some o → hi.get? c = some o := fun c o q e => si.extBut _ _ q (sg.extBut _ _ q (Heap.get?_push_of_some _ e))
  have pi : IsPair hi he.objs.size x y := si.extBut _ _ (Nat.ne_of_gt zlt) (sg.extBut _ _ (Nat.ne_of_gt zlt) (Heap.get?_push_size _ rfl))
  rw [hsz] at zi pi
  refine wpAny_pure ⟨_, rfl, ?_⟩
  show Q (.ref he.objs.size) _
  rw [hsz]
  exact hq x y hi _ px py zi (up _ _ D.a2 toe) (J1.stab _ _ _ s1e fun b hb o e => up b o (ne1 b hb) e) (J2.stab _ _ _ s2e fun b hb o e => up b o (ne2 b hb) e) pi fun c o q1 q2 q3 q4 e => up c o q1 (ke c o q1 q2 q3 q4 e)
theorem zipDone {Q : Fin → Shared → Prop} (hh : A.handled = none) (J1 : Inner P w i1 fp1 n1 P1 S1) (J2 : Inner P w i2 fp2 n2 P2 S2) (D : ZAp z ti to i1 i2 fp1 fp2) (hz : IsZip s.heap z ti to .none) (hti : IsPair s.heap ti (.ref i1) (.ref i2)) (hto : IsPair s.heap to a b) (h1 : S1 k s.heap) (h2 : S2 k s.heap) (hend : n1 ≤ k ∨ (k < n1 ∧ n2 ≤ k))
    (hE : ∀ h' tk e, (∀ c o, c ≠ z → c ≠ to → c ≠ i1 → c ≠ i2 → s.heap.get? c = some o → h'.get? c = some o) → (∃ o, h'.get? e = some o ∧ o.cls = .type "StopIteration") → E (.ref e) { s with heap := h', toks := tk }) :
    wpAny (model P w) A (Builtin.«zip.__next__» ⟨[.ref z], []⟩) Q E s := by
  have ne1 : ∀ b ∈ i1 :: fp1, b ≠ z := fun b hb => (D.b1 b hb).1
  have ne2 : ∀ b ∈ i2 :: fp2, b ≠ z := fun b hb => (D.b2 b hb).1
  have no1 : ∀ b ∈ i1 :: fp1, b ≠ to := fun b hb => (D.b1 b hb).2
  have no2 : ∀ b ∈ i2 :: fp2, b ≠ to := fun b hb => (D.b2 b hb).2
  have n21 : ∀ b ∈ i2 :: fp2, b ≠ i1 := fun b hb e => D.c1 (e ▸ hb)
  have m1 : i1 ∈ i1 :: fp1 := List.mem_cons_self
  have m2 : i2 ∈ i2 :: fp2 := List.mem_cons_self
  show wpAny _ _ (field (.ref z) 2 >>= _) _ _ s
  refine wpAny_bind (wpAny_field hz rfl (x := (.bool false)) rfl ?_)
  show wpAny _ _ (field (.ref z) 3 >>= _) _ _ s
  refine wpAny_bind (wpAny_field hz rfl (x := (.ref ti)) rfl (wpAny_bind (wpAny_seqItems hti rfl ?_)))
  show wpAny _ _ (Builtin.SmallTypes.ownedTupleIsFree (.ref z) >>= _) _ _ s
  refine wpAny_bind ?_; unfold Builtin.SmallTypes.ownedTupleIsFree
  refine wpAny_bind (wpAny_field hz rfl (x := (.none)) rfl (wpAny_pure ?_))
  simp only [if_true]; refine wpAny_bind (wpAny_rule (wpAny_bind (wpAny_field hz rfl (x := (.ref to)) rfl ?_)))
  refine wpAny_bind (wpAny_setField_rec hz (by simp) fun ha za sa => ?_)
  have za : IsZip ha z ti to .ellipsis := za
  refine wpAny_bind ?_; simp only [List.zipIdx_cons, List.zipIdx_nil, List.forIn_cons, List.forIn_nil]
  refine wpAny_bind (wpAny_bind (wpAny_onRaise ?_)); show wpAny _ _ (Builtin.SmallTypes.nextOf (.ref i1) >>= _) _ _ _
  have far : ∀ {h : Heap} {e : Addr}, IsZip h z ti to .ellipsis → (∃ o, h.get? e = some o ∧ o.cls = .type "StopIteration") → e ≠ z := fun {h e} hz ⟨o, ho, hc⟩ q => by subst q; rw [hz] at ho; cases ho; simp at hc
  rcases hend with hend | ⟨l1, hend⟩
  · refine wpAny_bind (J1.done _ k _ _ _ hh hend (J1.but h1 sa.extBut ne1) fun hb e eb he => ?_)
    have zb : IsZip hb z ti to .ellipsis := eb _ _ (Ne.symm (ne1 _ m1)) za
    have nz := far zb he
    obtain ⟨oe, hoe, hce⟩ := he
    exact wpAny_setField_rec zb (by simp) fun hc _ sc => hE hc _ e (fun c o q1 _ q3 _ x => sc.extBut _ _ q1 (eb _ _ q3 (sa.extBut _ _ q1 x))) ⟨oe, sc.extBut _ _ nz hoe, hce⟩
  · refine wpAny_bind (J1.item _ k _ _ _ l1 (J1.but h1 sa.extBut ne1) fun x hb tk1 px sb1 sb => wpAny_pure ?_)
    have tob : IsPair hb to a b := sb.extBut _ _ (Ne.symm (no1 _ m1)) (sa.extBut _ _ D.a2 hto)
    refine wpAny_bind (wpAny_seqItems tob rfl (wpAny_bind (wpAny_updateSeq_pair tob fun hc toc sc => ?_)))
    refine wpAny_bind (wpAny_letGo (wpAny_pure (wpAny_bind (wpAny_bind (wpAny_onRaise ?_))))); show wpAny _ _ (Builtin.SmallTypes.nextOf (.ref i2) >>= _) _ _ _
    refine wpAny_bind (J2.done _ k _ _ _ hh hend (J2.but (J2.but (J2.but h2 sa.extBut ne2) sb.extBut n21) sc.extBut no2) fun hd e eb he => ?_)
    have zd : IsZip hd z ti to .ellipsis := eb _ _ (Ne.symm (ne2 _ m2)) (sc.extBut _ _ (Ne.symm D.a2) (sb.extBut _ _ (Ne.symm (ne1 _ m1)) za))
    have nz := far zd he
    obtain ⟨oe, hoe, hce⟩ := he
    exact wpAny_setField_rec zd (by simp) fun hf _ sf => hE hf _ e (fun c o q1 q2 q3 q4 x => sf.extBut _ _ q1 (eb _ _ q4 (sc.extBut _ _ q2 (sb.extBut _ _ q3 (sa.extBut _ _ q1 x))))) ⟨oe, sf.extBut _ _ nz hoe, hce⟩
theorem nextZip {Q : Option Value → Shared → Prop} (J1 : Inner P w i1 fp1 n1 P1 S1) (J2 : Inner P w i2 fp2 n2 P2 S2) (D : ZAp z ti to i1 i2 fp1 fp2) (hz : IsZip s.heap z ti to .none) (hti : IsPair s.heap ti (.ref i1) (.ref i2)) (hto : IsPair s.heap to a b) (h1 : S1 k s.heap) (h2 : S2 k s.heap) (l1 : k < n1) (l2 : k < n2)
    (hq : ∀ x y h' tk, P1 k x → P2 k y → IsZip h' z ti to (rawInt s.heap.objs.size) → IsPair h' to x y → S1 (k + 1) h' → S2 (k + 1) h' → IsPair h' s.heap.objs.size x y →
      (∀ c o, c ≠ z → c ≠ to → c ≠ i1 → c ≠ i2 → s.heap.get? c = some o → h'.get? c = some o) → Q (some (.ref s.heap.objs.size)) { s with heap := h', toks := tk }) : wpAny (model P w) A (pyNext (.ref z)) Q E s := by
  have ht : s.TypeIs (.ref z) "zip" := ⟨_, hz, rfl⟩
  unfold pyNext
  exact wpAny_bind (wpAny_attempt (wpAny_callSpecial?_slot (name := "__next__") ht F.slot_zip_next (wpAny_call_entry F.slot_zip_next ht F.entry_zip_next (zipItem J1 J2 D hz hti hto h1 h2 l1 l2 fun x y h' tk q1 q2 q3 q4 q5 q6 q7 q8 => wpAny_pure (hq x y h' tk q1 q2 q3 q4 q5 q6 q7 q8)) (F.args_zip_next_1 _))))
theorem endZip {Q : Option Value → Shared → Prop} (hh : A.handled = none) (J1 : Inner P w i1 fp1 n1 P1 S1) (J2 : Inner P w i2 fp2 n2 P2 S2) (D : ZAp z ti to i1 i2 fp1 fp2) (hz : IsZip s.heap z ti to .none) (hti : IsPair s.heap ti (.ref i1) (.ref i2)) (hto : IsPair s.heap to a b) (h1 : S1 k s.heap) (h2 : S2 k s.heap) (hend : n1 ≤ k ∨ (k < n1 ∧ n2 ≤ k))
    (hq : ∀ h' tk, (∀ c o, c ≠ z → c ≠ to → c ≠ i1 → c ≠ i2 → s.heap.get? c = some o → h'.get? c = some o) → Q none { s with heap := h', toks := tk }) : wpAny (model P w) A (pyNext (.ref z)) Q E s := by
  have ht : s.TypeIs (.ref z) "zip" := ⟨_, hz, rfl⟩
  unfold pyNext
  refine wpAny_bind (wpAny_attempt (wpAny_callSpecial?_slot (name := "__next__") ht F.slot_zip_next (wpAny_call_entry F.slot_zip_next ht F.entry_zip_next (zipDone hh J1 J2 D hz hti hto h1 h2 hend fun h' tk e hk he => ?_) (F.args_zip_next_1 _))))
  obtain ⟨oe, ho, hc⟩ := he
  exact wpAny_bind (wpAny_isInstance (T := "StopIteration") (b := true) ⟨oe, ho, hc⟩ isSubtype_stop (wpAny_pure (hq _ tk hk)))
end
end DL

namespace DL
open PySem L2
/-! ### what a zip is made of -/
inductive ZK where
  | tup (t : Addr) (items : Array Value)
  | str (x : Str) (t : Tok)
  | lst (l : Addr) (items : Array Value)
def ZK.val : ZK → Value
  | .tup t _ => .ref t
  | .str x t => .str x t
  | .lst l _ => .ref l
def ZK.obj : ZK → Obj
  | .tup t _ => { cls := .type "tuple_iterator", data := .fields #[.ref t, .int 0 0] }
  | .str x t => { cls := .type "str_ascii_iterator", data := .fields #[.str x t, .int 0 0] }
  | .lst l _ => { cls := .type "list_iterator", data := .fields #[.ref l, .int 0 0] }
def ZK.pre (h : Heap) : ZK → Prop
  | .tup t items => h.IsTuple t items
  | .str x _ => x.cps.all (· < 128) = true
  | .lst l items => h.IsList l items
theorem ZK.keep {h h' : Heap} (k : ∀ b o, h.get? b = some o → h'.get? b = some o) : ∀ (q : ZK), q.pre h → q.pre h'
  | .tup t items, ⟨o, e, r⟩ => ⟨o, k _ _ e, r⟩
  | .str x t, e => e
  | .lst l items, ⟨o, e, r⟩ => ⟨o, k _ _ e, r⟩
theorem ZK.iter {P : Program} {w : World} {A : Around} {E : Value → Shared → Prop} {s : Shared} {Q : Value → Shared → Prop} (q : ZK) (h : q.pre s.heap) (hq : Q (.ref s.heap.objs.size) { s with heap := s.heap.push q.obj }) : wpAny (model P w) A (pyIter q.val) Q E s := by
  cases q with
  | tup t items => exact wpAny_pyIter_tuple h hq
  | str x t => exact wpAny_pyIter_ascii h hq
  | lst l items => exact wpAny_pyIter_list h hq
abbrev zH (h : Heap) (a b : ZK) : Heap := (((((h.push a.obj).push b.obj).push { cls := .type "tuple", data := .seq #[.ref h.objs.size, .ref (h.push a.obj).objs.size] }).push { cls := .type "tuple", data := .seq #[.none, .none] }).push
  { cls := .type "zip", data := .fields #[.none, .bool false, .bool false, .ref ((h.push a.obj).push b.obj).objs.size, .ref (((h.push a.obj).push b.obj).push { cls := .type "tuple", data := .seq #[.ref h.objs.size, .ref (h.push a.obj).objs.size] }).objs.size] })
abbrev zA (h : Heap) (a b : ZK) : Addr := ((((h.push a.obj).push b.obj).push { cls := .type "tuple", data := .seq #[.ref h.objs.size, .ref (h.push a.obj).objs.size] }).push { cls := .type "tuple", data := .seq #[.none, .none] }).objs.size
theorem zip_new (a b : ZK) (va vb : Value) (ea : a.val = va) (eb : b.val = vb) : Meets (Builtin.«zip.__new__» ⟨[.type "zip", va, vb], []⟩) (fun _ R s => a.pre s.heap ∧ b.pre s.heap ∧ R (.ok (.ret (.ref (zA s.heap a b)))) { s with heap := zH s.heap a b }) :=
  .of_wp fun P w A R s h => by
    obtain ⟨hp, g, d, tk, os⟩ := s; obtain ⟨h1, h2, h⟩ := h
    have hsub := sub_zip
    have i1 : ∀ {E : Value → Shared → Prop} {Q : Value → Shared → Prop}, Q (.ref hp.objs.size) ⟨hp.push a.obj, g, d, tk, os⟩ → wpAny (model P w) A.in1 (pyIter va) Q E ⟨hp, g, d, tk, os⟩ := fun {E Q} hq => by rw [← ea]; exact a.iter (s := ⟨hp, g, d, tk, os⟩) h1 hq
    have h2' : b.pre (hp.push a.obj) := b.keep (fun c o e => Heap.get?_push_of_some _ e) h2
    have i2 : ∀ {E : Value → Shared → Prop} {Q : Value → Shared → Prop}, Q (.ref (hp.push a.obj).objs.size) ⟨(hp.push a.obj).push b.obj, g, d, tk, os⟩ → wpAny (model P w) A.in1 (pyIter vb) Q E ⟨hp.push a.obj, g, d, tk, os⟩ := fun {E Q} hq => by rw [← eb]; exact b.iter (s := ⟨hp.push a.obj, g, d, tk, os⟩) h2' hq
    wp_walk using i1, i2
    exact ⟨_, rfl, h⟩
section
variable {P : Program} {w : World} {A : Around} {E : Value → Shared → Prop} {s : Shared}
theorem call_zipK (a b : ZK) {Q : Value → Shared → Prop} (ha : a.pre s.heap) (hb : b.pre s.heap)
    (h : ∀ h', IsZip h' (s.heap.objs.size + 4) (s.heap.objs.size + 2) (s.heap.objs.size + 3) .none → IsPair h' (s.heap.objs.size + 2) (.ref s.heap.objs.size) (.ref (s.heap.objs.size + 1)) → IsPair h' (s.heap.objs.size + 3) .none .none →
      h'.get? s.heap.objs.size = some a.obj → h'.get? (s.heap.objs.size + 1) = some b.obj → (∀ c o, s.heap.get? c = some o → h'.get? c = some o) → Q (.ref (s.heap.objs.size + 4)) { s with heap := h' }) :
    wpAny (model P w) A (call (.type "zip") [a.val, b.val]) Q E s := by
  refine callType_new F.called_zip (by decide) (F.typeCall_zip_2 _ _) (F.newCall_zip_2 _ _) (fun obj => F.args_object_init_3 obj _ _) F.entry_zip_new (zip_new a b _ _ rfl rfl) ⟨ha, hb, ?_⟩
  have fa : a.obj.isFreed = false := by cases a <;> rfl
  have fb : b.obj.isFreed = false := by cases b <;> rfl
  have e1 : (s.heap.push a.obj).objs.size = s.heap.objs.size + 1 := Heap.size_push ..
  have e2 : ((s.heap.push a.obj).push b.obj).objs.size = s.heap.objs.size + 2 := by rw [Heap.size_push, e1]
  have e3 : (((s.heap.push a.obj).push b.obj).push { cls := .type "tuple", data := .seq #[.ref s.heap.objs.size, .ref (s.heap.push a.obj).objs.size] }).objs.size = s.heap.objs.size + 3 := by rw [Heap.size_push, e2]
  have e4 : zA s.heap a b = s.heap.objs.size + 4 := by show Array.size _ = _; rw [Heap.size_push, e3]
  have g5 : (zH s.heap a b).get? (zA s.heap a b) = some _ := Heap.get?_push_size _ rfl
  have g4 : (zH s.heap a b).get? (((s.heap.push a.obj).push b.obj).push { cls := .type "tuple", data := .seq #[.ref s.heap.objs.size, .ref (s.heap.push a.obj).objs.size] }).objs.size = some _ := Heap.get?_push_of_some _ (Heap.get?_push_size _ rfl)
  have g3 : (zH s.heap a b).get? ((s.heap.push a.obj).push b.obj).objs.size = some _ := Heap.get?_push_of_some _ (Heap.get?_push_of_some _ (Heap.get?_push_size _ rfl))
  have g2 : (zH s.heap a b).get? (s.heap.push a.obj).objs.size = some _ := Heap.get?_push_of_some _ (Heap.get?_push_of_some _ (Heap.get?_push_of_some _ (Heap.get?_push_size _ fb)))
  have g1 : (zH s.heap a b).get? s.heap.objs.size = some _ := Heap.get?_push_of_some _ (Heap.get?_push_of_some _ (Heap.get?_push_of_some _ (Heap.get?_push_of_some _ (Heap.get?_push_size _ fa))))
  show _ ∧ _
  rw [e2, e3, e4] at g5
  rw [e3] at g4
  rw [e1, e2] at g3
  rw [e1] at g2
  rw [e4]
  exact ⟨⟨_, g5, rfl⟩, h _ g5 g3 g4 g1 g2 fun c o x => Heap.get?_push_of_some _ (Heap.get?_push_of_some _ (Heap.get?_push_of_some _ (Heap.get?_push_of_some _ (Heap.get?_push_of_some _ x))))⟩
end
end DL

namespace DL
open PySem L2
/-- an object that the state knows, no iterator -/
def Held (X : Cx) (H : Hp) (h : Heap) (b : Addr) : Prop := H b ≠ none ∨ ∃ o, X.base.get? b = some o
theorem Held.far {X : Cx} {pins : List (Addr × Obj)} {σ : St} {H : Hp} {s : Shared} {b q : Addr} (I : L2.Inv X pins σ H s) (x : Held X H s.heap b) (f : FpOk X pins H q) : b ≠ q := by
  rintro rfl
  rcases x with x | ⟨o, e⟩
  · exact x f.1
  · rcases f.2.2.2.1 with z | z
    · exact I.ok.noex b o e z
    · exact absurd (Nat.lt_of_lt_of_le (Heap.lt_size e) I.ok.bsz) (Nat.not_lt.mpr z)
structure InIt (P : Program) (w : World) (K : PySem.W.Frag) (J : It) (ia : Addr) (S : Nat → Heap → Prop) : Prop where
  obj : ∀ i h, S i h → ∃ o, h.get? ia = some o ∧ ∀ v, o.data ≠ .cell v
  keep : ∀ i h h', S i h → (∀ o, h.get? ia = some o → h'.get? ia = some o) → S i h'
  got : ∀ (X : Cx), X.prog = P → X.w = w → X.K = K → ∀ (i : Nat) (pins : List (Addr × Obj)) (s : Shared) (σ : St) (H : Hp), L2.Inv X pins σ H s → FpOk X pins H ia → S i s.heap → (J.go i H ∨ J.stop i H) →
    ∃ fp n Pv Sx, Inner P w ia fp n Pv Sx ∧ Sx i s.heap ∧ (∀ j h, Sx j h → S j h) ∧ (J.go i H → i < n) ∧ (J.stop i H → n ≤ i) ∧ (∀ v, Pv i v → ∃ x, RelV x v ∧ J.yld i H x H) ∧ ∀ b ∈ fp, Held X H s.heap b
section
variable {P : Program} {w : World} {K : PySem.W.Frag}
theorem held_t {X : Cx} {pins : List (Addr × Obj)} {σ : St} {H : Hp} {s : Shared} {a : Addr} {xs : List V} (I : L2.Inv X pins σ H s) (h : SqT X.K H a xs) : Held X H s.heap a := by
  rcases h with h | ⟨o, its, n, hk, _⟩
  · exact .inl (by rcases h with h | ⟨_, h⟩ <;> (rw [h]; simp))
  · exact .inr ⟨o, I.ok.mod.kin a o hk⟩
theorem held_l {X : Cx} {pins : List (Addr × Obj)} {σ : St} {H : Hp} {s : Shared} {a : Addr} {xs : List V} (I : L2.Inv X pins σ H s) (h : SqL X.K H a xs) : Held X H s.heap a := by
  rcases h with h | ⟨o, its, n, hk, _⟩
  · exact .inl (by rcases h with h | ⟨_, h⟩ <;> (rw [h]; simp))
  · exact .inr ⟨o, I.ok.mod.kin a o hk⟩
theorem vals_getR {xs : List V} {its : List Value} {i : Nat} {v : Value} (r : Vals xs its) (e : its[i]? = some v) : ∃ x, xs[i]? = some x ∧ RelV x v := by
  have hl := r.length
  have hi : i < xs.length := by have := (List.getElem?_eq_some_iff.mp e).1; omega
  obtain ⟨u, g1, g2⟩ := r.get (List.getElem?_eq_getElem hi)
  rw [e] at g1; cases g1
  exact ⟨_, List.getElem?_eq_getElem hi, g2⟩
theorem in_tup (a ia : Addr) : InIt P w K (Itt K a) ia (fun i h => h.IsTupleIter ia a i) where
  obj := fun i h ⟨o, e, c, d⟩ => ⟨o, e, fun v z => by rw [d] at z; cases z⟩
  keep := fun i h h' ⟨o, e, c, d⟩ k => ⟨o, k o e, c, d⟩
  got := by
    intro X hP hw hK i pins s σ H I hf st hg
    subst hP hw hK
    have hs : ∃ xs, SqT X.K H a xs := by
      rcases hg with ⟨xs, x, h, _⟩ | ⟨xs, h, _⟩ <;> exact ⟨xs, h⟩
    obtain ⟨xs, hq⟩ := hs
    obtain ⟨its, rv, p, hz⟩ := I.tuple hq
    have hl := rv.length
    refine ⟨[a], _, _, _, inner_tup ia a its.toArray ((held_t I hq).far I hf), ⟨st, p⟩, fun j h z => z.1, fun ⟨ys, y, h1, h2⟩ => ?_, fun ⟨ys, h1, h2⟩ => ?_, fun v hv => ?_, fun b hb => ?_⟩
    · have e := I.tuple_inj h1 hq; subst e
      have := (List.getElem?_eq_some_iff.mp h2).1
      simp; omega
    · have e := I.tuple_inj h1 hq; subst e
      simp; omega
    · have hv' : its[i]? = some v := by simpa using hv
      obtain ⟨x, e1, r1⟩ := vals_getR rv hv'
      exact ⟨x, r1, rfl, fun ys hy => by rw [I.tuple_inj hy hq]; exact e1⟩
    · have : b = a := by simpa using hb
      subst this; exact held_t I hq
theorem in_lst (a ia : Addr) : InIt P w K (Itl K a) ia (fun i h => h.IsListIter ia a i) where
  obj := fun i h ⟨o, e, c, d⟩ => ⟨o, e, fun v z => by rw [d] at z; cases z⟩
  keep := fun i h h' ⟨o, e, c, d⟩ k => ⟨o, k o e, c, d⟩
  got := by
    intro X hP hw hK i pins s σ H I hf st hg
    subst hP hw hK
    have hs : ∃ xs, SqL X.K H a xs := by
      rcases hg with ⟨xs, x, h, _⟩ | ⟨xs, h, _⟩ <;> exact ⟨xs, h⟩
    obtain ⟨xs, hq⟩ := hs
    obtain ⟨its, rv, p, hz⟩ := I.list hq
    have hl := rv.length
    refine ⟨[a], _, _, _, inner_lst ia a its.toArray ((held_l I hq).far I hf), ⟨st, p.isList⟩, fun j h z => z.1, fun ⟨ys, y, h1, h2⟩ => ?_, fun ⟨ys, h1, h2⟩ => ?_, fun v hv => ?_, fun b hb => ?_⟩
    · have e := I.list_inj h1 hq; subst e
      have := (List.getElem?_eq_some_iff.mp h2).1
      simp; omega
    · have e := I.list_inj h1 hq; subst e
      simp; omega
    · have hv' : its[i]? = some v := by simpa using hv
      obtain ⟨x, e1, r1⟩ := vals_getR rv hv'
      exact ⟨x, r1, rfl, fun ys hy => by rw [I.list_inj hy hq]; exact e1⟩
    · have : b = a := by simpa using hb
      subst this; exact held_l I hq
theorem in_str (x : Str) (t : Tok) (ia : Addr) : InIt P w K (Its x) ia (fun i h => h.IsStrIter ia "str_ascii_iterator" x t i) where
  obj := fun i h ⟨o, e, c, d⟩ => ⟨o, e, fun v z => by rw [d] at z; cases z⟩
  keep := fun i h h' ⟨o, e, c, d⟩ k => ⟨o, k o e, c, d⟩
  got := by
    intro X hP hw hK i pins s σ H I hf st hg
    subst hP hw hK
    refine ⟨[], _, _, _, inner_str ia x t, st, fun j h z => z, fun z => z, fun z => z, fun v ⟨c, tk, e, hv⟩ => ?_, fun b hb => by cases hb⟩
    subst hv
    exact ⟨.str ⟨#[c]⟩, ⟨_, rfl⟩, rfl, c, e, rfl⟩
end
/-- two iterators, side by side -/
def Itw (J1 J2 : It) : It :=
  ⟨fun i H => J1.go i H ∧ J2.go i H, fun i H v H' => ∃ p x y, H p = none ∧ v = .ref p ∧ J1.yld i H x H ∧ J2.yld i H y H ∧ H' = upd H p (.tup [x, y]), fun i H => J1.stop i H ∧ (J2.go i H ∨ J2.stop i H) ∨ J1.go i H ∧ J2.stop i H⟩
def ZwSt (z t o i j : Addr) (S1 S2 : Nat → Heap → Prop) (n : Nat) (h : Heap) : Prop := IsZip h z t o .none ∧ IsPair h t (.ref i) (.ref j) ∧ (∃ a b, IsPair h o a b) ∧ S1 n h ∧ S2 n h
theorem turn_zipW {P : Program} {w : World} {K : PySem.W.Frag} {J1 J2 : It} {S1 S2 : Nat → Heap → Prop} {es : List Expr} {kt} {pt : Pos} (z t o i j : Addr) (ap : [z, t, o, i, j].Nodup) (N1 : InIt P w K J1 i S1) (N2 : InIt P w K J2 j S2) : Turn P w K (.Tuple es kt pt) (Itw J1 J2) [z, t, o, i, j] z (ZwSt z t o i j S1 S2) := by
  simp only [List.nodup_cons, List.mem_cons, List.not_mem_nil, or_false, not_or, List.nodup_nil, and_true] at ap
  obtain ⟨⟨a1, a2, a3, a4⟩, ⟨b1, b2, b3⟩, ⟨c1, c2⟩, d1, _⟩ := ap
  have zap : ∀ {X : Cx} {pins : List (Addr × Obj)} {s : Shared} {σ : St} {H : Hp} {fp1 fp2 : List Addr}, L2.Inv X pins σ H s → (∀ b ∈ [z, t, o, i, j], FpOk X pins H b) → (∀ b ∈ fp1, Held X H s.heap b) → (∀ b ∈ fp2, Held X H s.heap b) → ZAp z t o i j fp1 fp2 := fun {X pins s σ H fp1 fp2} I hf h1 h2 =>
    ⟨Ne.symm a1, Ne.symm a2, b1, fun b hb => (List.mem_cons.mp hb).elim (fun e => by rw [e]; exact ⟨Ne.symm a3, Ne.symm c1⟩) fun hb => ⟨(h1 b hb).far I (hf z (by simp)), (h1 b hb).far I (hf o (by simp))⟩,
      fun b hb => (List.mem_cons.mp hb).elim (fun e => by rw [e]; exact ⟨Ne.symm a4, Ne.symm c2⟩) fun hb => ⟨(h2 b hb).far I (hf z (by simp)), (h2 b hb).far I (hf o (by simp))⟩,
      fun hb => (List.mem_cons.mp hb).elim d1 fun hb => (h2 i hb).far I (hf i (by simp)) rfl, fun hb => (List.mem_cons.mp hb).elim (Ne.symm d1) fun hb => (h1 j hb).far I (hf j (by simp)) rfl, b2, b3⟩
  refine ⟨by simp, fun n h st b hb => ?_, fun n h h' st k => ?_, ?_, ?_, fun A n s Q E st q => wpAny_pyIter_zip st.1 q⟩
  · obtain ⟨hz, ht, ⟨a, b', ho⟩, hi, hj⟩ := st
    simp only [List.mem_cons, List.not_mem_nil, or_false] at hb
    rcases hb with rfl | rfl | rfl | rfl | rfl
    · exact ⟨_, hz, fun v e => by cases e⟩
    · exact ⟨_, ht, fun v e => by cases e⟩
    · exact ⟨_, ho, fun v e => by cases e⟩
    · exact N1.obj n h hi
    · exact N2.obj n h hj
  · obtain ⟨hz, ht, ⟨a, b', ho⟩, hi, hj⟩ := st
    exact ⟨k z (by simp) _ hz, k t (by simp) _ ht, ⟨a, b', k o (by simp) _ ho⟩, N1.keep n h h' hi (k i (by simp)), N2.keep n h h' hj (k j (by simp))⟩
  · intro X hP hw hK hc n pins s σ H E I hf st hg
    obtain ⟨g1, g2⟩ := hg
    obtain ⟨hz, ht, ⟨a, b, ho⟩, hi, hj⟩ := st
    obtain ⟨fp1, n1, P1, T1, Z1, s1, u1, go1, st1, y1, f1⟩ := N1.got X hP hw hK n pins s σ H I (hf i (by simp)) hi (.inl g1)
    obtain ⟨fp2, n2, P2, T2, Z2, s2, u2, go2, st2, y2, f2⟩ := N2.got X hP hw hK n pins s σ H I (hf j (by simp)) hj (.inl g2)
    have D := zap I hf f1 f2
    subst hP hw hK
    refine nextZip Z1 Z2 D hz ht ho s1 s2 (go1 g1) (go2 g2) fun x y h' tk px py q1 q2 q3 q4 q5 hk => ⟨_, rfl, ?_⟩
    obtain ⟨vx, rx, yx⟩ := y1 x px
    obtain ⟨vy, ry, yy⟩ := y2 y py
    refine wpAny_letOwnedTupleGo_zip q1 fun h'' e1 e2 => ?_
    have nb : ∀ q ∈ [z, t, o, i, j], s.heap.objs.size ≠ q := fun q hq e => by
      have : ∃ ob, s.heap.get? q = some ob := by
        simp only [List.mem_cons, List.not_mem_nil, or_false] at hq
        rcases hq with rfl | rfl | rfl | rfl | rfl
        · exact ⟨_, hz⟩
        · exact ⟨_, ht⟩
        · exact ⟨_, ho⟩
        · obtain ⟨ob, g, _⟩ := N1.obj n _ hi; exact ⟨_, g⟩
        · obtain ⟨ob, g, _⟩ := N2.obj n _ hj; exact ⟨_, g⟩
      obtain ⟨ob, g⟩ := this
      exact absurd (Heap.lt_size g) (by rw [e]; exact Nat.lt_irrefl _)
    have keep : ∀ c ob, c ∉ [z, t, o, i, j] → s.heap.get? c = some ob → h''.get? c = some ob := fun c ob hc e => by
      simp only [List.mem_cons, List.not_mem_nil, or_false, not_or] at hc
      exact e2.extBut _ _ hc.1 (hk c ob hc.1 hc.2.2.1 hc.2.2.2.1 hc.2.2.2.2 e)
    have I1 : L2.Inv X pins σ H { s with heap := h'', toks := tk } := Inv.turns [z, t, o, i, j] I keep hf
    have hnew : h''.get? s.heap.objs.size = some { cls := .type "tuple", data := .seq #[x, y] } := e2.extBut _ _ (nb z (by simp)) q5
    have fr : H s.heap.objs.size = none := I.hok.fresh (Nat.le_refl _)
    have I2 : L2.Inv X pins σ (upd H s.heap.objs.size (.tup [vx, vy])) { s with heap := h'', toks := tk } := by
      have un : Un (frs X.stack) [z, t, o, i, j] H (upd H s.heap.objs.size (.tup [vx, vy])) s.heap h'' := by
        refine ⟨fun c ob e _ _ hc => keep c ob hc e, fun c ob e _ _ hc => ⟨ob.slots, keep c ob hc e⟩, fun c ob e hn _ => ?_, fun c ob e hc => ⟨ob, keep c ob hc e⟩, fun c zs e => ?_, fun c ob u e => ?_, fun c ps e => ⟨#[], ?_⟩⟩
        · rw [upd_ne (Nat.ne_of_lt (Heap.lt_size e))]; exact hn
        · rw [upd_ne (ne_of_none e fr)]; exact e
        · rw [upd_ne (ne_of_none e fr)]; exact e
        · rw [upd_ne (ne_of_none e fr), e]; simp
      have hok : HOk X.prog X.w (upd H s.heap.objs.size (.tup [vx, vy])) h'' := by
        intro c u' e
        by_cases hc : c = s.heap.objs.size
        · subst hc
          rw [upd_same] at e; cases e
          exact ⟨by show 2 ≤ sizeLine; decide, [x, y], .cons rx (.cons ry .nil), ⟨_, hnew, rfl, _, rfl⟩⟩
        · rw [upd_ne hc] at e
          refine (I1.hok c u' e).stay (fun _ _ _ q => q) (fun p q => ?_) fun p zs q => ?_
          · by_cases hp : p = s.heap.objs.size
            · subst hp; rw [fr] at q; cases q
            · rw [upd_ne hp]; exact q
          · by_cases hp : p = s.heap.objs.size
            · subst hp; rw [fr] at q; cases q
            · rw [upd_ne hp]; exact q
      exact I.call (t' := tk) (d' := s.drawn) un hok I.bare fun b hb => let ⟨_, f1, _, f3, f4, f5⟩ := hf b hb; ⟨f3, f1, f4, f5⟩
    refine ⟨.ref s.heap.objs.size, _, I2, rfl, ⟨_, vx, vy, fr, rfl, yx, yy, rfl⟩, ⟨e1, ?_, ⟨_, _, e2.extBut _ _ D.a2 q2⟩, ?_, ?_⟩, fun b hb => ?_⟩
    · exact e2.extBut _ _ D.a1 (hk _ _ D.a1 D.a3 D.d1 D.d2 ht)
    · exact u1 _ _ (Z1.but q3 e2.extBut fun b hb => (D.b1 b hb).1)
    · exact u2 _ _ (Z2.but q4 e2.extBut fun b hb => (D.b2 b hb).1)
    · rw [upd_ne (Ne.symm (nb b hb))]; exact (hf b hb).1
  · intro X hP hw hK hc n pins s σ H E I hf st hg
    obtain ⟨hz, ht, ⟨a, b, ho⟩, hi, hj⟩ := st
    have k1 : J1.go n H ∨ J1.stop n H := hg.elim (fun z => .inr z.1) fun z => .inl z.1
    have k2 : J2.go n H ∨ J2.stop n H := hg.elim (fun z => z.2) fun z => .inr z.2
    obtain ⟨fp1, n1, P1, T1, Z1, s1, u1, go1, st1, y1, f1⟩ := N1.got X hP hw hK n pins s σ H I (hf i (by simp)) hi k1
    obtain ⟨fp2, n2, P2, T2, Z2, s2, u2, go2, st2, y2, f2⟩ := N2.got X hP hw hK n pins s σ H I (hf j (by simp)) hj k2
    have D := zap I hf f1 f2
    subst hP hw hK
    refine endZip (I.ok.hd hc) Z1 Z2 D hz ht ho s1 s2 (hg.elim (fun q => .inl (st1 q.1)) fun q => .inr ⟨go1 q.1, st2 q.2⟩) fun h' tk hk => ⟨rfl, ?_⟩
    refine Inv.turns (t' := tk) [z, t, o, i, j] I (fun c ob hc e => ?_) hf
    simp only [List.mem_cons, List.not_mem_nil, or_false, not_or] at hc
    exact hk c ob hc.1 hc.2.2.1 hc.2.2.2.1 hc.2.2.2.2 e
end DL

namespace DL
open PySem L2
/-- zip: what is walked side by side -/
def zkD : D → Option Src
  | .lst ds => some (.val ds)
  | .own k => some (.own k)
  | .tup ds => some (.val ds)
  | .str cs => if cs.all (· < 128) = true then some (.val (cs.map fun c => .str [c])) else none
  | _ => none
def dZipW (t : DA) : DI := fun σ O => (t σ O).bnd fun xs O1 => match xs with
  | [x, y] => match zkD x, zkD y with
    | some p, some q => .ok (.zip p q) O1
    | _, _ => .bad
  | _ => .bad
theorem SrcAt.zipW {K : PySem.W.Frag} {J1 J2 : It} {s1 s2 : Src} {H : Hp} {hid μ : List Addr} (h1 : SrcAt K J1 s1 H hid μ) (h2 : SrcAt K J2 s2 H hid μ) : SrcAt K (Itw J1 J2) (.zip s1 s2) H hid μ := by
  intro hid' H' μ' O' m c i
  have q1 := h1 hid' H' μ' O' m c i
  have q2 := h2 hid' H' μ' O' m c i
  show match (match s1.get O' i, s2.get O' i with | some x, some y => some (D.tup [x, y]) | _, _ => none) with | some d => _ | none => _
  cases e1 : s1.get O' i with
  | none =>
    rw [e1] at q1
    refine .inl ⟨q1, ?_⟩
    cases e2 : s2.get O' i with
    | none => rw [e2] at q2; exact .inr q2
    | some d => rw [e2] at q2; exact .inl q2.1
  | some d1 =>
    rw [e1] at q1
    cases e2 : s2.get O' i with
    | none => rw [e2] at q2; exact .inr ⟨q1.1, q2⟩
    | some d2 =>
      rw [e2] at q2
      refine ⟨⟨q1.1, q2.1⟩, fun v H'' yl => ?_⟩
      obtain ⟨p, x, y, hp, rfl, y1, y2, rfl⟩ := yl
      exact ⟨.laid hp, c.laid hp, Dat.newT c hp (.cons (q1.2 x H' y1).2.2 (.cons (q2.2 y H' y2).2.2 .nil))⟩
section
variable {X : Cx} {Ex : Nat → Hp → Prop} {pos : Pos} {a b c e o : Expr} {ta tb tc te to : DE} {pins : List (Addr × Obj)} {σv : St} {H : Hp} {s : Shared} {hid μ : List Addr} {O : Ow}
theorem zk_at {d : D} {v : V} {u : Value} {src : Src} (I : L2.Inv X pins σv H s) (c : Cells X.K H hid μ O) (h : Dat X.K H hid μ d v) (r : RelV v u) (e : zkD d = some src) :
    ∃ (k : ZK) (J : It), k.val = u ∧ k.pre s.heap ∧ SrcAt X.K J src H hid μ ∧ ∀ ia, ∃ S, InIt X.prog X.w X.K J ia S ∧ ∀ h : Heap, h.get? ia = some k.obj → S 0 h := by
  cases d with
  | lst ds =>
    unfold Dat at h
    obtain ⟨q, vs, rfl, l, dd⟩ := h
    cases e; cases r
    obtain ⟨its, _, p, _⟩ := I.list l.sq
    exact ⟨.lst q its.toArray, _, rfl, p.isList, .val l dd, fun ia => ⟨_, in_lst q ia, fun h z => ⟨_, z, rfl, rfl⟩⟩⟩
  | own k =>
    unfold Dat at h
    obtain ⟨q, rfl, hk⟩ := h
    cases e; cases r
    obtain ⟨ds, vs, h1, h2, h3⟩ := c.at_ k q hk
    obtain ⟨its, _, p, _⟩ := I.list (a := q) (xs := vs) (.of h2)
    exact ⟨.lst q its.toArray, _, rfl, p.isList, .own hk, fun ia => ⟨_, in_lst q ia, fun h z => ⟨_, z, rfl, rfl⟩⟩⟩
  | tup ds =>
    unfold Dat at h
    obtain ⟨q, vs, rfl, l, dd⟩ := h
    cases e; cases r
    obtain ⟨its, _, p, _⟩ := I.tuple l.sq
    exact ⟨.tup q its.toArray, _, rfl, p, .tup l dd, fun ia => ⟨_, in_tup q ia, fun h z => ⟨_, z, rfl, rfl⟩⟩⟩
  | str cs =>
    unfold Dat at h
    subst h
    obtain ⟨t, rfl⟩ := r
    have e' : (if cs.all (· < 128) = true then some (Src.val (cs.map fun c => D.str [c])) else none) = some src := e
    by_cases ha : cs.all (· < 128) = true
    · rw [if_pos ha] at e'
      cases e'
      refine ⟨.str ⟨cs.toArray⟩ t, _, rfl, ?_, .str, fun ia => ⟨_, in_str _ t ia, fun h z => ⟨_, z, rfl, rfl⟩⟩⟩
      show cs.toArray.all (· < 128) = true
      simpa using ha
    · rw [if_neg ha] at e'; cases e'
  | _ => cases e
theorem pdi_zipW {es' : List Expr} {kt} {pt : Pos} {t : DA} {p : Pos} (hg : Gl X "zip") (hm : X.mg "zip" = none) (ha : PDA X Ex [a, b] t) (hs : starEach [a, b] X.env = [(false, eval a X.env), (false, eval b X.env)] := by rfl) (hs2 : starEach [b] X.env = [(false, eval b X.env)] := by rfl) :
    PDI X Ex (.Tuple es' kt pt) (.Call (.Name "zip" p) [a, b] [] pos) (dZipW t) := by
  refine ⟨?_⟩
  rintro pins s σv H Rr I ⟨hid, μ, σ, O, e1, c1, q⟩
  refine PyProof.Rows.Call_ (ld_blt I hg hm boot_zip (PyProof.Rows.callWith_type1 (thn (ha.out pos pins s σv H _ I (rdA.go e1 c1 q (Q1 := fun vs H1 => ∃ hid μ1 O1 ds, Cells X.K H1 hid μ1 O1 ∧ Dats X.K H1 hid μ1 ds vs ∧
      post Ex X.K (fun H' μ' s J => SrcAt X.K J s H' hid μ') H1 hid μ1 (match ds with | [x, y] => (match zkD x, zkD y with | some p, some q => .ok (.zip p q) O1 | _, _ => .bad) | _ => .bad) Rr)
    fun ds O1 vs H1 μ1 e2 x cl d p => ⟨hid, μ1, O1, ds, cl, d, p⟩)) fun us s1 ⟨vs, H1, I1, r1, hid, μ1, O1, ds, cl, d, p⟩ => ?_) (by rw [hs, hs2]) (by rw [hs2]; rfl)))
  split at p
  · rename_i x y
    split at p
    · rename_i sp sq e1 e2
      obtain ⟨v, w, rfl, dx, dy⟩ := dats2 d
      obtain ⟨u1, u2, rfl, ru1, ru2⟩ := vals2 r1
      obtain ⟨k1, J1, v1, p1, t1, i1⟩ := zk_at I1 cl dx ru1 e1
      obtain ⟨k2, J2, v2, p2, t2, i2⟩ := zk_at I1 cl dy ru2 e2
      rw [← v1, ← v2]
      refine call_zipK k1 k2 p1 p2 fun h' g5 g3 g4 g1 g2 hk => ?_
      refine wpAny_pyIter_zip g5 ?_
      have I2 : L2.Inv X pins σv H1 { s1 with heap := h', toks := s1.toks } := I1.kept hk
      obtain ⟨S1, N1, z1⟩ := i1 s1.heap.objs.size
      obtain ⟨S2, N2, z2⟩ := i2 (s1.heap.objs.size + 1)
      refine ⟨s1.heap.objs.size + 4, [s1.heap.objs.size + 4, s1.heap.objs.size + 2, s1.heap.objs.size + 3, s1.heap.objs.size, s1.heap.objs.size + 1], _, _, H1, rfl, I2, turn_zipW _ _ _ _ _ ?_ N1 N2, ⟨g5, g3, ⟨_, _, g4⟩, z1 _ g1, z2 _ g2⟩, fun b hb => ?_, post.here p cl (.zipW t1 t2)⟩
      · have nn : ∀ (n : Addr), [n + 4, n + 2, n + 3, n, n + 1].Nodup := fun n => by
          simp only [List.nodup_cons, List.mem_cons, List.not_mem_nil, or_false, not_or, List.nodup_nil, and_true]
          refine ⟨⟨?_, ?_, ?_, ?_⟩, ⟨?_, ?_, ?_⟩, ⟨?_, ?_⟩, ?_, not_false⟩ <;> simp [Addr] at * <;> omega
        exact nn _
      · have hb' : s1.heap.objs.size ≤ b := by
          simp only [List.mem_cons, List.not_mem_nil, or_false] at hb
          rcases hb with rfl | rfl | rfl | rfl | rfl <;> omega
        exact I1.fpOk (H' := H1) hb' (I1.hok.fresh hb')
    · exact False.elim p
  · exact False.elim p
end
end DL

namespace DL
open PySem L2
open AutoSeq1 (wpAny_loadPart')
/-! ### enumerate -/
section
variable {P : Program} {w : World} {A : Around} {E : Value → Shared → Prop} {s : Shared}
variable {ea ia : Addr} {fp : List Addr} {n k : Nat} {Pv : Nat → Value → Prop} {Sx : Nat → Heap → Prop} {old : Value}
end
end DL

namespace DL
open PySem L2
section
variable {X : Cx} {Ex : Nat → Hp → Prop} {pos : Pos} {a b c e o : Expr} {ta tb tc te to : DE} {pins : List (Addr × Obj)} {σv : St} {H : Hp} {s : Shared} {hid μ : List Addr} {O : Ow}
end
end DL

namespace DL
open PySem L2
open PyProof.Rows hiding St
section
variable {X : Cx} {Ex : Nat → Hp → Prop} {pos : Pos} {a b c e o : Expr} {ta tb tc te to : DE} {pins : List (Addr × Obj)} {σv : L2.St} {H : Hp} {s : Shared} {hid μ : List Addr} {O : Ow}
/-! ### is True, is not True -/
def fIsB : Ow → D → D → R D := fun O x y => match x, y with
  | .bl p, .bl q => .ok (.bl (p == q)) O
  | _, _ => .bad
def fIsnB : Ow → D → D → R D := fun O x y => match x, y with
  | .bl p, .bl q => .ok (.bl (!(p == q))) O
  | _, _ => .bad
theorem beq_bool (p q : Bool) : (Value.bool p == Value.bool q) = (p == q) := by cases p <;> cases q <;> decide
theorem op_isnB : OpR X (compareOp .IsNot) (fun x y H Q => ∃ p q, x = .bl p ∧ y = .bl q ∧ Q (.bl (!(p == q))) H) := by
  intro pins s σ H x y v u Q I rx ry h
  obtain ⟨p, q, rfl, rfl, hq⟩ := h
  cases rx; cases ry
  exact wpAny_isNot_plain (by rfl) ⟨.bl (!(p == q)), H, I, by rw [beq_bool]; rfl, hq⟩
theorem opd_isnB : OpD X Ex (fun x y H Q => ∃ p q, x = .bl p ∧ y = .bl q ∧ Q (.bl (!(p == q))) H) fIsnB := by
  intro H hid μ O x y v w Q c dx dy q
  unfold fIsnB at q
  split at q
  · unfold Dat at dx dy; subst dx; subst dy
    exact ⟨_, _, rfl, rfl, post.here q c dat_bl⟩
  · exact False.elim q
/-! ### tuples put together, the first one perhaps empty -/
/-! ### the whole of a tuple, sliced -/
end
end DL

namespace DL
open PySem L2
section
variable {X : Cx} {Ex : Nat → Hp → Prop}
end
end DL

namespace DL
open PySem L2
section
variable {X : Cx} {Ex : Nat → Hp → Prop} {pos : Pos} {a b c e o : Expr} {ta tb tc te to : DE} {pins : List (Addr × Obj)} {σv : St} {H : Hp} {s : Shared} {hid μ : List Addr} {O : Ow}
/-! ### x.strip(y), x.upper() -/
def strpS (i j : Str) : Option V := if i.length ≤ 100000 then some (.str (Txt.stripChars i j)) else none
theorem mt_strip : MtR X "str.strip" (rS1 strpS) := by
  intro pins s σ H x xs v us Q I rx rs h
  obtain ⟨i, j, w, rfl, rfl, hg, q⟩ := h
  obtain ⟨t, rfl⟩ := rx
  obtain ⟨u, rfl, t', rfl⟩ := vals1 rs
  unfold strpS at hg
  split at hg
  · rename_i hl
    cases hg
    exact SC.stripChars (fun t' k => ⟨.str _, H, I.tok k, ⟨_, rfl⟩, q⟩) (small_line hl)
  · cases hg
def gStrip (i j : List Nat) : Option D := if i.length ≤ 100000 then some (.str (Txt.stripChars ⟨i.toArray⟩ ⟨j.toArray⟩).cps.toList) else none
theorem gg_strip : ∀ i j d, gStrip i j = some d → ∃ v, strpS ⟨i.toArray⟩ ⟨j.toArray⟩ = some v ∧ ∀ K H hid μ, Dat K H hid μ d v := fun i j d h => by
  unfold gStrip at h
  split at h
  · rename_i hl
    cases h
    refine ⟨_, if_pos (by show i.toArray.size ≤ _; simpa using hl), fun _ _ _ _ => ?_⟩
    unfold Dat; rw [str_eta]
  · cases h
def upS (i : Str) : Option V := if Builtin.Str.tooLong (Txt.upper i).length = false then some (.str (Txt.upper i)) else none
def rS0 (g : Str → Option V) : V → List V → Hp → VK → Prop := fun x xs H Q => ∃ i v, x = .str i ∧ xs = [] ∧ g i = some v ∧ Q v H
theorem mt_upper : MtR X "str.upper" (rS0 upS) := by
  intro pins s σ H x xs v us Q I rx rs h
  obtain ⟨i, w, rfl, rfl, hg, q⟩ := h
  obtain ⟨t, rfl⟩ := rx
  have hus : us = [] := rs.zero
  subst hus
  unfold upS at hg
  split at hg
  · rename_i hl
    cases hg
    exact SC.upper hl ⟨.str _, H, I.tok _, ⟨_, rfl⟩, q⟩
  · cases hg
def gUp (i : List Nat) : Option D := if Builtin.Str.tooLong (Txt.upper ⟨i.toArray⟩).length = false then some (.str (Txt.upper ⟨i.toArray⟩).cps.toList) else none
theorem gg_up : ∀ i d, gUp i = some d → ∃ v, upS ⟨i.toArray⟩ = some v ∧ ∀ K H hid μ, Dat K H hid μ d v := fun i d h => by
  unfold gUp at h
  split at h
  · rename_i hl
    cases h
    refine ⟨_, if_pos hl, fun _ _ _ _ => ?_⟩
    unfold Dat; rw [str_eta]
  · cases h
def dS0 (g : List Nat → Option D) (to : DE) : DE := fun σ O => (to σ O).bnd fun x O1 => match x with
  | .str i => match g i with
    | some d => .ok d O1
    | none => .bad
  | _ => .bad
theorem pd_s0 {apos cpos : Pos} {name : Str} {id : String} {gv : Str → Option V} {g : List Nat → Option D} (slot : Slot "str" name id) (hty : typeOf (.builtin id) = pure (.type "method_descriptor")) (hm : MtR X id (rS0 gv))
    (hgg : ∀ i d, g i = some d → ∃ v, gv ⟨i.toArray⟩ = some v ∧ ∀ K H hid μ, Dat K H hid μ d v) (ho : PD X Ex o to) (hbase : attributeBase o name X.env (eval o X.env) = eval o X.env := by rfl) (hline : (apos.endLine == cpos.line) = true := by rfl) :
    PD X Ex (.Call (.Attribute o name apos) [] [] cpos) (dS0 g to) :=
  pd_of (pe_bm0 PySem.F.plainAttrs_str slot hty hm ho.out hbase hline) fun hid μ σ O σv H Q e1 c1 q => rd.go e1 c1 q fun d O1 v H1 μ1 e2 x cl r p => by
    cases d with
    | str i =>
      unfold Dat at r
      subst r
      refine ⟨rfl, ?_⟩
      have p' : postE Ex X.K H1 hid μ1 (match g i with | some d => .ok d O1 | none => .bad) Q := p
      split at p'
      · rename_i d hd
        obtain ⟨v, h1, h2⟩ := hgg _ _ hd
        exact ⟨_, v, rfl, rfl, h1, post.here p' cl (h2 _ _ _ _)⟩
      · exact False.elim p'
    | _ => exact False.elim p
/-! ### an int of the module -/
structure GInt (mg : Str → Option Value) (x : Str) (i : Int) : Prop where
  ex : ∃ t, mg x = some (.int i t)
theorem pd_gint {x : Str} {i : Int} (h : GInt X.mg x i) (hg : Gl X x := by rfl) (hd : (x == ("__debug__" : Str)) = false := by decide) : PD X Ex (.Name x pos) (dC (.int i)) := by
  obtain ⟨t, h⟩ := h.ex
  exact pd_of (pe_glob (v := .int i) hg h ⟨_, rfl⟩ hd) fun hid μ σ O σv H Q e1 c1 q => post.here q c1 dat_int
/-! ### f'..' -/
def dFmt (t : DE) : DE := fun σ O => (t σ O).bnd fun d O1 => match d with
  | .int i => if i.natAbs < 2 ^ 64 then .ok (.str (txtI i)) O1 else .bad
  | _ => .bad
theorem pd_fmt {e : Expr} {p : Pos} (h : PD X Ex e te) : PD X Ex (.FormattedValue e (-1) none p) (dFmt te) := by
  refine ⟨?_⟩
  rintro pins s σv H Q I ⟨hid, μ, σ, O, e1, c1, q⟩
  refine PyProof.Rows.FormattedValue_plain (thn (h.out pins s σv H (fun v H1 => ∃ i, v = .int i ∧ i.natAbs < 2 ^ 64 ∧ Q (.str ⟨(txtI i).toArray⟩) H1) I (rd.go e1 c1 q fun d O1 v H1 μ1 e2 x cl r p => ?_)) fun u s1 ⟨v, H1, I1, r1, i, hv, hi, hq⟩ => ?_)
  · cases d with
    | int i =>
      unfold Dat at r; subst r
      have p' : postE Ex X.K H1 hid μ1 (if i.natAbs < 2 ^ 64 then .ok (.str (txtI i)) O1 else .bad) Q := p
      obtain ⟨hl, p'⟩ := post.ite p'
      refine ⟨i, rfl, hl, post.here p' cl ?_⟩
      unfold Dat; rfl
    | _ => exact False.elim p
  · subst hv
    obtain ⟨t, rfl⟩ := r1
    refine PyProof.Rows.formatField_int_small (log2_small hi) ⟨.str ⟨(txtI i).toArray⟩, H1, I1.tok _, ⟨s1.toks + 1, by unfold txtI; rw [str_eta]⟩, hq⟩
def goJ (out : List Nat) : List DE → DE
  | [] => fun _ O => .ok (.str out) O
  | t :: ts => fun σ O => (t σ O).bnd fun d O1 => match d with
    | .str cs => if (out ++ cs).length ≤ 100000 then goJ (out ++ cs) ts σ O1 else .bad
    | _ => .bad
def dJs (ts : List DE) : DE := goJ [] ts
theorem joins {es : List Expr} {ts : List DE} (h : PySem.Paired (fun e t => PD X Ex e t) es ts) : ∀ (out : List Nat) (pins : List (Addr × Obj)) (s : Shared) (σv : St) (H : Hp) (Q : VK), out.length ≤ 100000 → L2.Inv X pins σv H s → rd Ex X.K (goJ out ts) σv H Q →
    wpAny (model X.prog X.w) X.A (joinParts ⟨out.toArray⟩ (evalEach es X.env)) (EP X pins σv Q) X.xe s := by
  induction h with
  | nil =>
    rintro out pins s σv H Q ho I ⟨hid, μ, σ, O, e1, c1, q⟩
    refine PyProof.Rows.joinParts_nil ⟨.str ⟨out.toArray⟩, H, I.tok _, ⟨_, rfl⟩, post.here q c1 ?_⟩ ?_
    · unfold Dat; rfl
    · show out.toArray.size ≤ _
      rw [List.size_toArray]; exact small_line ho
  | @cons e t es ts h1 h2 ih =>
    rintro out pins s σv H Q ho I ⟨hid, μ, σ, O, e1, c1, q⟩
    show wpAny _ _ (joinParts ⟨out.toArray⟩ (eval e X.env :: evalEach es X.env)) _ _ s
    refine PyProof.Rows.joinParts_cons (thn (h1.out pins s σv H (fun v H1 => ∃ cs, v = .str ⟨cs.toArray⟩ ∧ (out ++ cs).length ≤ 100000 ∧ rd Ex X.K (goJ (out ++ cs) ts) σv H1 Q) I (rd.go e1 c1 q fun d O1 v H1 μ1 e2 x cl r p => ?_)) fun u s1 ⟨v, H1, I1, r1, cs, hv, hl, hq⟩ => ?_)
    · cases d with
      | str cs =>
        unfold Dat at r; subst r
        have p' : postE Ex X.K H1 hid μ1 (if (out ++ cs).length ≤ 100000 then goJ (out ++ cs) ts σ O1 else .bad) Q := p
        obtain ⟨hl, p'⟩ := post.ite p'
        exact ⟨cs, rfl, hl, hid, μ1, σ, O1, e2, cl, p'⟩
      | _ => exact False.elim p
    · subst hv
      obtain ⟨t, rfl⟩ := r1
      have ee : ((⟨out.toArray⟩ : Str) ++ (⟨cs.toArray⟩ : Str)) = ⟨(out ++ cs).toArray⟩ := by
        show (⟨out.toArray ++ cs.toArray⟩ : Str) = _
        simp
      show ((⟨out.toArray⟩ : Str) ++ (⟨cs.toArray⟩ : Str)).length ≤ sizeLine ∧ _
      rw [ee]
      refine ⟨?_, ih (out ++ cs) pins s1 σv H1 Q hl I1 hq⟩
      show (out ++ cs).toArray.size ≤ _
      rw [List.size_toArray]; exact small_line hl
theorem pd_joined {v1 v2 : Expr} {rest : List Expr} {ts : List DE} {p : Pos} (h : PySem.Paired (fun e t => PD X Ex e t) (v1 :: v2 :: rest) ts) : PD X Ex (.JoinedStr (v1 :: v2 :: rest) p) (dJs ts) :=
  ⟨fun pins s σv H Q I q => PyProof.Rows.JoinedStr_many (joins h [] pins s σv H Q (by simp) I q)⟩
/-! ### tuple(text) -/
theorem vals_of_get : ∀ {xs : List V} {us : List Value}, xs.length = us.length → (∀ (i : Nat) (v : Value), us[i]? = some v → ∃ x, xs[i]? = some x ∧ RelV x v) → Vals xs us
  | [], [], _, _ => .nil
  | [], _ :: _, h, _ => by simp at h
  | _ :: _, [], h, _ => by simp at h
  | x :: xs, u :: us, h, k => by
    obtain ⟨y, e, r⟩ := k 0 u rfl
    cases e
    exact .cons r (vals_of_get (by simpa using h) fun i v e => k (i + 1) v (by simpa using e))
theorem tup_newS (x : Str) (t : Tok) (hsz : x.cps.size ≤ sizeLine) :
    Meets (Builtin.«tuple.__new__» ⟨[.type "tuple", .str x t], []⟩)
      (fun A R s => A.handled = none ∧ ∀ (s' : Shared) (acc : Array Value), (∀ b o, s.heap.get? b = some o → s'.heap.get? b = some o) → s'.gens = s.gens → s'.drawn = s.drawn → s'.os = s.os → ItemsOf (SignAt x) acc x.cps.size → R (.ok (.ret (.ref s'.heap.objs.size))) { s' with heap := s'.heap.push { cls := .type "tuple", data := .seq acc } }) :=
  .of_wp fun P w A R s h => by
    obtain ⟨hp, g, d, tk, os⟩ := s; obtain ⟨hh, h⟩ := h
    have f1 := sub_tuple_self
    have f2 := init_tuple_lookup
    have f3 := madeHere_tuple
    have col : ∀ {Q : List Value → Shared → Prop} {E : Value → Shared → Prop}, (∀ (s' : Shared) (acc : Array Value), (∀ b o, hp.get? b = some o → s'.heap.get? b = some o) → s'.gens = g → s'.drawn = d → s'.os = os → ItemsOf (SignAt x) acc x.cps.size → Q acc.toList s') → wpAny (model P w) A.in1 (collect (.str x t)) Q E ⟨hp, g, d, tk, os⟩ := fun {Q E} hq => wpAny_collect_str (show A.in1.handled = none from hh) x t hq hsz
    wp_walk using col
    intro s' acc k1 k2 k3 k4 k5
    show wpAny _ _ (Builtin.Tuple.tupleExact acc.toList.toArray >>= fun v => ret v) _ _ _
    unfold Builtin.Tuple.tupleExact
    have hz : acc.toList.toArray.size ≤ sizeLine := by rw [show acc.toList.toArray = acc from by simp, k5.1]; exact hsz
    refine wpAny_bind (wpAny_newObj_type ?_ hz)
    rw [show acc.toList.toArray = acc from by simp]
    exact wpAny_pure ⟨_, rfl, h s' acc k1 k2 k3 k4 k5⟩
theorem call_tupS (hc : X.calm = true) : CallR X (.type "tuple") (fun xs H Q => ∃ x : Str, xs = [.str x] ∧ x.length ≤ 100000 ∧ ∀ l, H l = none → Q (.ref l) (upd H l (.tup (x.cps.toList.map fun c => .str ⟨#[c]⟩)))) := by
  intro pins s σ H xs us Q I r h
  obtain ⟨x, rfl, hl, q⟩ := h
  obtain ⟨u, rfl, t, rfl⟩ := vals1 r
  have hz : x.cps.size ≤ sizeLine := small_line hl
  refine callType_new F.called_tuple (by decide) (F.typeCall_tuple_1 _) (F.newCall_tuple_1 _) (fun obj => F.args_object_init_2 obj _) F.entry_tuple_new (tup_newS x t hz) ⟨I.ok.hd hc, fun s' acc k1 k2 k3 k4 k5 => ⟨⟨_, Heap.get?_push_size _ rfl, rfl⟩, ?_⟩⟩
  obtain ⟨hp, g, d, tk, os⟩ := s'
  have k2 : g = s.gens := k2
  have k3 : d = s.drawn := k3
  have k4 : os = s.os := k4
  subst k2; subst k3; subst k4
  have I1 : L2.Inv X pins σ H { s with heap := hp, toks := tk } := I.kept (t' := tk) k1
  have rv : Vals (x.cps.toList.map fun c => V.str ⟨#[c]⟩) acc.toList := by
    refine vals_of_get (by simp [k5.1]) fun i v e => ?_
    obtain ⟨c, u, e1, e2⟩ := k5.2 i v (by simpa using e)
    refine ⟨.str ⟨#[c]⟩, ?_, u, e2⟩
    rw [List.getElem?_map]
    have : x.cps.toList[i]? = some c := by simpa using e1
    rw [this]; rfl
  have I2 : L2.Inv X pins σ (upd H hp.objs.size (.tup (x.cps.toList.map fun c => V.str ⟨#[c]⟩))) { s with heap := hp.push { cls := .type "tuple", data := .seq acc }, toks := tk } :=
    I1.laid (t' := tk) (fun b o e => Heap.get?_push_of_some _ e) (Nat.le_refl _) (show ObjOk X.prog X.w _ _ _ (.tup _) from ⟨by rw [List.length_map]; simpa using hz, acc.toList, rv, ⟨_, Heap.get?_push_size _ rfl, rfl, 0, by simp⟩⟩)
  exact ⟨.ref hp.objs.size, _, I2, rfl, q _ (I1.hok.fresh (Nat.le_refl _))⟩
def fTupS : Ow → List D → R D := fun O xs => match xs with
  | [.str cs] => if cs.length ≤ 100000 then .ok (.tup (cs.map fun c => .str [c])) O else .bad
  | _ => .bad
theorem dats_signs {K : PySem.W.Frag} : ∀ cs : List Nat, Dats K H hid μ (cs.map fun c => D.str [c]) (cs.map fun c => V.str ⟨#[c]⟩)
  | [] => .nil
  | c :: cs => .cons (by unfold Dat; rfl) (dats_signs cs)
theorem cd_tupS : CallD X Ex (fun xs H Q => ∃ x : Str, xs = [.str x] ∧ x.length ≤ 100000 ∧ ∀ l, H l = none → Q (.ref l) (upd H l (.tup (x.cps.toList.map fun c => .str ⟨#[c]⟩)))) fTupS := by
  intro H hid μ O xs vs Q c d q
  unfold fTupS at q
  split at q
  · rename_i cs
    obtain ⟨v, rfl, dv⟩ := dats1 d
    unfold Dat at dv; subst dv
    obtain ⟨hl, q⟩ := post.ite q
    refine ⟨_, rfl, by show cs.toArray.size ≤ _; simpa using hl, fun l hl' => post.ok q (.laid hl') (c.laid hl') ?_⟩
    have e : (⟨cs.toArray⟩ : Str).cps.toList = cs := by simp
    rw [e]
    exact Dat.newT c hl' (dats_signs cs)
  · exact False.elim q
end
end DL

namespace DL
open PySem L2
section
variable {X : Cx} {Ex : Nat → Hp → Prop} {pos : Pos} {tg e : Expr} {te : DE}
def sAsg (g : Tg) (te : DE) : DS := fun σ O => (te σ O).bnS fun d O1 => match g.put d σ with
  | some σ' => .nx σ' O1
  | none => .bad
theorem pds_asg {g : Tg} (he : PD X Ex e te) (hg : PG X tg (g.rd X.K)) (hs : swapsWithSole [tg] e pos.line X.env = pure false := by rfl) (hw : swappedStores [tg] e X.env = pure none := by rfl) (h1 : (assignEach [tg] X.env).map (·.2) = [assign tg X.env] := by rfl) : PDS X Ex (.Assign [tg] e pos) (sAsg g te) :=
  pds_of (ps_asg he.out hg hs hw h1) fun hid μ σ O E σv H e1 c1 q => rd.goS e1 c1 q fun d O1 v H1 μ1 e2 x c r p => by
    cases hp : g.put d σ with
    | none => rw [hp] at p; exact False.elim p
    | some σ' =>
      rw [hp] at p
      exact g.ok2 e2 r hp fun σv' e3 _ => p σv' H1 μ1 .refl e3 c
end
end DL

set_option maxHeartbeats 400000
namespace K02
open PySem L2 DL
def top (i : Nat) : Stmt := PySem.Challenge.pw_leastterms_k02_terms_known.main.body.getD i (.Pass ⟨0, 0, 0, 0⟩)
def Ca : Nat → Nat := fun c => match c with
  | _ => 73
def Cl : Nat → Value := fun c => .ref (Ca c)
def xf_NoFunction : Nat → Option Bool := fun C => match C with
  | 73 => some false
  | _ => none
def xf_NoTerm : Nat → Option Bool := fun C => match C with
  | 73 => some false
  | _ => none
def xf_NoPoint : Nat → Option Bool := fun C => match C with
  | 73 => some false
  | _ => none
def xf_NoNumber : Nat → Option Bool := fun C => match C with
  | 73 => some true
  | _ => none
def xf_NoForm : Nat → Option Bool := fun C => match C with
  | 73 => some false
  | _ => none
def xf_NoChange : Nat → Option Bool := fun C => match C with
  | 73 => some false
  | _ => none
def xf_NoText : Nat → Option Bool := fun C => match C with
  | 73 => some false
  | _ => none
def xf_NoLine : Nat → Option Bool := fun C => match C with
  | 73 => some false
  | _ => none
def xf_NoDeed : Nat → Option Bool := fun C => match C with
  | 73 => some false
  | _ => none
def xf_VE : Nat → Option Bool := fun C => match C with
  | 73 => some true
  | _ => none
structure Txt (K : PySem.W.Frag) (mg : Str → Option Value) : Prop where
  d_is_whole : FunAt K mg "is_whole" (top 13)
  d_is_whole_within : FunAt K mg "is_whole_within" (top 14)
  d_need_whole_within : FunAt K mg "need_whole_within" (top 15)
  d_need_switches : FunAt K mg "need_switches" (top 16)
  d_has_term_signs : FunAt K mg "has_term_signs" (top 19)
  d_is_term : FunAt K mg "is_term" (top 20)
  d_bits_of : FunAt K mg "bits_of" (top 21)
  d_points_of : FunAt K mg "points_of" (top 22)
  d_lies_in : FunAt K mg "lies_in" (top 23)
  d_meet : FunAt K mg "meet" (top 24)
  d__law_cell_at : FunAt K mg "_law_cell_at" (top 26)
  d__law_state : FunAt K mg "_law_state" (top 27)
  d__law_take : FunAt K mg "_law_take" (top 28)
  d__law_term : FunAt K mg "_law_term" (top 29)
  d__law_bits : FunAt K mg "_law_bits" (top 30)
  d__law_points : FunAt K mg "_law_points" (top 31)
  d__law_same : FunAt K mg "_law_same" (top 32)
  d__law_refused : FunAt K mg "_law_refused" (top 33)
  d__law_is_term : FunAt K mg "_law_is_term" (top 34)
  d__law_bent : FunAt K mg "_law_bent" (top 35)
  d_law : FunAt K mg "law" (top 36)
  b_ValueError : mg "ValueError" = none
  b_all : mg "all" = none
  b_bool : mg "bool" = none
  b_int : mg "int" = none
  b_isinstance : mg "isinstance" = none
  b_len : mg "len" = none
  b_list : mg "list" = none
  b_max : mg "max" = none
  b_min : mg "min" = none
  b_range : mg "range" = none
  b_str : mg "str" = none
  b_tuple : mg "tuple" = none
  b_zip : mg "zip" = none
  c_SIGNS : GStr mg "SIGNS" [45, 48, 49]
  i_MOST_SWITCHES : GInt mg "MOST_SWITCHES" 4
  g_NoFunction : mg "NoFunction" = some (.ref 37)
  g_NoTerm : mg "NoTerm" = some (.ref 49)
  g_NoPoint : mg "NoPoint" = some (.ref 61)
  g_NoNumber : mg "NoNumber" = some (.ref 73)
  g_NoForm : mg "NoForm" = some (.ref 85)
  g_NoChange : mg "NoChange" = some (.ref 97)
  g_NoText : mg "NoText" = some (.ref 109)
  g_NoLine : mg "NoLine" = some (.ref 121)
  g_NoDeed : mg "NoDeed" = some (.ref 133)
  g_TermError : mg "TermError" = some (.ref 24)
  n_NoFunction : PySem.W.kitOne K (.type "NoneType") (.ref 37) = some false
  n_NoTerm : PySem.W.kitOne K (.type "NoneType") (.ref 49) = some false
  n_NoPoint : PySem.W.kitOne K (.type "NoneType") (.ref 61) = some false
  n_NoNumber : PySem.W.kitOne K (.type "NoneType") (.ref 73) = some false
  n_NoForm : PySem.W.kitOne K (.type "NoneType") (.ref 85) = some false
  n_NoChange : PySem.W.kitOne K (.type "NoneType") (.ref 97) = some false
  n_NoText : PySem.W.kitOne K (.type "NoneType") (.ref 109) = some false
  n_NoLine : PySem.W.kitOne K (.type "NoneType") (.ref 121) = some false
  n_NoDeed : PySem.W.kitOne K (.type "NoneType") (.ref 133) = some false
  n_VE : PySem.W.kitOne K (.type "NoneType") (.type "ValueError") = some false
  m_NoNumber : PySem.W.exmOne K (.ref 73) (.ref 24) = some true
  k_NoNumber_NoFunction : PySem.W.kitOne K (.ref 73) (.ref 37) = some false
  k_NoNumber_NoTerm : PySem.W.kitOne K (.ref 73) (.ref 49) = some false
  k_NoNumber_NoPoint : PySem.W.kitOne K (.ref 73) (.ref 61) = some false
  k_NoNumber_NoNumber : PySem.W.kitOne K (.ref 73) (.ref 73) = some true
  k_NoNumber_NoForm : PySem.W.kitOne K (.ref 73) (.ref 85) = some false
  k_NoNumber_NoChange : PySem.W.kitOne K (.ref 73) (.ref 97) = some false
  k_NoNumber_NoText : PySem.W.kitOne K (.ref 73) (.ref 109) = some false
  k_NoNumber_NoLine : PySem.W.kitOne K (.ref 73) (.ref 121) = some false
  k_NoNumber_NoDeed : PySem.W.kitOne K (.ref 73) (.ref 133) = some false
  k_NoNumber_VE : PySem.W.kitOne K (.ref 73) (.type "ValueError") = some true
  x_NoNumber : XcK K 73
structure TxtB (mg : Str → Option Value) (base : Heap) : Prop where
  o_NoNumber : OwnX mg base "NoNumber" 73
theorem kf_NoFunction {K : PySem.W.Frag} {mg : Str → Option Value} (T : Txt K mg) : ∀ C b, xf_NoFunction C = some b → PySem.W.kitOne K (.ref C) (.ref 37) = some b := by
  intro C b h
  unfold xf_NoFunction at h
  split at h <;> first | (cases h; first | exact T.k_NoNumber_NoFunction) | cases h
theorem kf_NoTerm {K : PySem.W.Frag} {mg : Str → Option Value} (T : Txt K mg) : ∀ C b, xf_NoTerm C = some b → PySem.W.kitOne K (.ref C) (.ref 49) = some b := by
  intro C b h
  unfold xf_NoTerm at h
  split at h <;> first | (cases h; first | exact T.k_NoNumber_NoTerm) | cases h
theorem kf_NoPoint {K : PySem.W.Frag} {mg : Str → Option Value} (T : Txt K mg) : ∀ C b, xf_NoPoint C = some b → PySem.W.kitOne K (.ref C) (.ref 61) = some b := by
  intro C b h
  unfold xf_NoPoint at h
  split at h <;> first | (cases h; first | exact T.k_NoNumber_NoPoint) | cases h
theorem kf_NoNumber {K : PySem.W.Frag} {mg : Str → Option Value} (T : Txt K mg) : ∀ C b, xf_NoNumber C = some b → PySem.W.kitOne K (.ref C) (.ref 73) = some b := by
  intro C b h
  unfold xf_NoNumber at h
  split at h <;> first | (cases h; first | exact T.k_NoNumber_NoNumber) | cases h
theorem kf_NoForm {K : PySem.W.Frag} {mg : Str → Option Value} (T : Txt K mg) : ∀ C b, xf_NoForm C = some b → PySem.W.kitOne K (.ref C) (.ref 85) = some b := by
  intro C b h
  unfold xf_NoForm at h
  split at h <;> first | (cases h; first | exact T.k_NoNumber_NoForm) | cases h
theorem kf_NoChange {K : PySem.W.Frag} {mg : Str → Option Value} (T : Txt K mg) : ∀ C b, xf_NoChange C = some b → PySem.W.kitOne K (.ref C) (.ref 97) = some b := by
  intro C b h
  unfold xf_NoChange at h
  split at h <;> first | (cases h; first | exact T.k_NoNumber_NoChange) | cases h
theorem kf_NoText {K : PySem.W.Frag} {mg : Str → Option Value} (T : Txt K mg) : ∀ C b, xf_NoText C = some b → PySem.W.kitOne K (.ref C) (.ref 109) = some b := by
  intro C b h
  unfold xf_NoText at h
  split at h <;> first | (cases h; first | exact T.k_NoNumber_NoText) | cases h
theorem kf_NoLine {K : PySem.W.Frag} {mg : Str → Option Value} (T : Txt K mg) : ∀ C b, xf_NoLine C = some b → PySem.W.kitOne K (.ref C) (.ref 121) = some b := by
  intro C b h
  unfold xf_NoLine at h
  split at h <;> first | (cases h; first | exact T.k_NoNumber_NoLine) | cases h
theorem kf_NoDeed {K : PySem.W.Frag} {mg : Str → Option Value} (T : Txt K mg) : ∀ C b, xf_NoDeed C = some b → PySem.W.kitOne K (.ref C) (.ref 133) = some b := by
  intro C b h
  unfold xf_NoDeed at h
  split at h <;> first | (cases h; first | exact T.k_NoNumber_NoDeed) | cases h
theorem kf_VE {K : PySem.W.Frag} {mg : Str → Option Value} (T : Txt K mg) : ∀ C b, xf_VE C = some b → PySem.W.kitOne K (.ref C) (.type "ValueError") = some b := by
  intro C b h
  unfold xf_VE at h
  split at h <;> first | (cases h; first | exact T.k_NoNumber_VE) | cases h
theorem kcls {K : PySem.W.Frag} {mg : Str → Option Value} (T : Txt K mg) : ∀ c, Cl c = .ref (Ca c) ∧ XcK K (Ca c) ∧ PySem.W.exmOne K (.ref (Ca c)) (.ref 24) = some true := by
  intro c
  refine ⟨rfl, ?_⟩
  unfold Ca
  exact ⟨T.x_NoNumber, T.m_NoNumber⟩
theorem nd_0 : (["_law_call", "_law_error", "e", "_law_marks"] : List Str).Nodup := by decide +kernel
theorem nd_1 : (["_law_call", "_law_error", "e", "_law_marks", "_law_k"] : List Str).Nodup := by decide +kernel
theorem nd_2 : (["n", "thing", "sign"] : List Str).Nodup := by decide +kernel
theorem nd_3 : (["term", "points", "sign"] : List Str).Nodup := by decide +kernel
theorem nd_4 : (["term", "points", "sign", "point", "bit"] : List Str).Nodup := by decide +kernel
theorem nd_5 : (["one", "other", "sign", "wide"] : List Str).Nodup := by decide +kernel
theorem nd_6 : (["one", "other", "signs", "left", "right"] : List Str).Nodup := by decide +kernel
theorem nd_7 : (["_law_script", "_law_k", "_law_cell"] : List Str).Nodup := by decide +kernel
theorem nd_8 : (["_law_state_here", "_law_many", "_law_found", "_law_stirred"] : List Str).Nodup := by decide +kernel
theorem nd_9 : (["_law_state_here", "_law_n", "_law_k"] : List Str).Nodup := by decide +kernel
theorem nd_10 : (["_law_n", "_law_point", "_law_found", "_law_k"] : List Str).Nodup := by decide +kernel
theorem nd_11 : (["_law_term_here", "_law_found", "_law_point", "_law_bits_here"] : List Str).Nodup := by decide +kernel
theorem nd_12 : (["_law_term_here", "_law_found", "_law_point", "_law_bits_here", "_law_k"] : List Str).Nodup := by decide +kernel
theorem nd_13 : (["_law_found", "_law_due", "_law_one", "_law_other"] : List Str).Nodup := by decide +kernel
theorem nd_14 : (["_law_state_here", "_law_term_here", "_law_at", "_law_sign", "_law_some"] : List Str).Nodup := by decide +kernel
theorem nd_15 : (["_law_script", "_law_k", "_law_state_here", "_law_n", "_law_one", "_law_other", "_law_thing", "_law_mine", "_law_theirs", "_law_both", "_law_found", "_law_bad", "<tab>"] : List Str).Nodup := by decide +kernel
theorem nd_16 : (["_law_script", "_law_k", "_law_state_here", "_law_n", "_law_one", "_law_other", "_law_thing", "_law_mine", "_law_theirs", "_law_both", "_law_found", "_law_bad", "<tab>", "_law_point"] : List Str).Nodup := by decide +kernel
section
variable {P : Program} {w : World} {K : PySem.W.Frag} {mg : Str → Option Value} {base : Heap}
/-! ### is_whole -/
def B_is_whole : DS :=
  (sRet (dAnd (dIsi "int" (dVar 0)) (dNot (dIsi "bool" (dVar 0)))))
def F_is_whole : List D → Ow → R D := (runF 1 B_is_whole)
theorem sc_is_whole : FnScope ["thing"] ["thing"] (defScope (top 13)) := ⟨rfl, rfl, rfl, by decide +kernel, rfl, by decide +kernel, by decide +kernel⟩
theorem ok_is_whole (T : Txt K mg) (B : TxtB mg base) : CalleeX Cl P w K mg base "is_whole" 1 1 F_is_whole :=
  CalleeX.self (fnX (k := 0) T.d_is_whole sc_is_whole (fun _ _ _ _ _ _ us hl => match us, hl with | [_], _ => rfl) fun f cdv A outer s H E hr =>
    (pdss_one (pds_ret (pd_and (pd_isi (n := "int") (pd_var (i := 0) rfl (.inl rfl)) (by decide) rfl T.b_isinstance bt_isinstance rfl T.b_int bt_int) (pd_one (pd_not (pd_isi (n := "bool") (pd_var (i := 0) rfl (.inl rfl)) (by decide) rfl T.b_isinstance bt_isinstance rfl T.b_bool bt_bool)))))))
/-! ### has_term_signs -/
def B_has_term_signs : DS :=
  (sSeq (sIf (dOrT (dNotT (dTru (dIsi "str" (dVar 1)))) (dTst (dOp (fPy neF) (dCall fLen (dCons (dVar 1) dNil)) (dVar 0)))) (sRet (dC (.bl false))) sNil) (sRet (dCall fAll (dCons (dComp false 1 (dIt (dVar 1)) (.one 2) [] [] (dOp fIn (dVar 2) (dC (.str [45, 48, 49])))) dNil))))
def F_has_term_signs : List D → Ow → R D := (runF 2 B_has_term_signs)
theorem sc_has_term_signs : FnScope ["n", "thing"] ["n", "thing"] (defScope (top 19)) := ⟨rfl, rfl, rfl, by decide +kernel, rfl, by decide +kernel, by decide +kernel⟩
theorem ok_has_term_signs (T : Txt K mg) (B : TxtB mg base) : CalleeX Cl P w K mg base "has_term_signs" 1 2 F_has_term_signs :=
  CalleeX.self (fnX (k := 0) T.d_has_term_signs sc_has_term_signs (fun _ _ _ _ _ _ us hl => match us, hl with | [_, _], _ => rfl) fun f cdv A outer s H E hr =>
    (pdss_cons (pds_if (PDW.pt (pwd_or (pdt_not (pdt_tru (pd_isi (n := "str") (pd_var (i := 1) rfl (.inl rfl)) (by decide) rfl T.b_isinstance bt_isinstance rfl T.b_str bt_str) (fun _ => rfl))) (pwd_or1 (pdt_cmp (op_nePy hr.units) opd_py (pd_callB call_len cd_len rfl T.b_len bt_len (pda_cons (pd_var (i := 1) rfl (.inl rfl)) pda_nil se_name)) (pd_var (i := 0) rfl (.inl rfl)) (nomark _))))) (pdss_one (pds_ret pd_bl)) pdss_nil) (pdss_one (pds_ret (pd_callB (call_allB rfl) cd_all rfl T.b_all bt_all (pda_cons (pd_comp false ["sign"] rfl (pdi_seq (pd_var (i := 1) rfl (.inl rfl))) (bok_of (by kernel_rfl)) (fun _ _ _ _ _ => ⟨(pg_one (i := 2) nd_2 rfl (.inl rfl) (.inr rfl)), .nil, .nil, (pd_cmp (op_inA hr.units) opd_in (pd_var (i := 2) rfl (.inl rfl)) (pd_gstr T.c_SIGNS) rfl)⟩)) pda_nil se_comp))))))
/-! ### bits_of -/
def B_bits_of : DS :=
  (sSeq (sIf (dTst (dOp (fPy eqF) (dVar 0) (dC (.str [45])))) (sRet (dLst (dCons (dC (.int 0)) (dCons (dC (.int 1)) dNil)))) sNil) (sRet (dLst (dCons (dCall fIntA (dCons (dVar 0) dNil)) dNil))))
def F_bits_of : List D → Ow → R D := (runF 1 B_bits_of)
theorem sc_bits_of : FnScope ["sign"] ["sign"] (defScope (top 21)) := ⟨rfl, rfl, rfl, by decide +kernel, rfl, by decide +kernel, by decide +kernel⟩
theorem ok_bits_of (T : Txt K mg) (B : TxtB mg base) : CalleeX Cl P w K mg base "bits_of" 1 1 F_bits_of :=
  CalleeX.self (fnX (k := 0) T.d_bits_of sc_bits_of (fun _ _ _ _ _ _ us hl => match us, hl with | [_], _ => rfl) fun f cdv A outer s H E hr =>
    (pdss_cons (pds_if (pdt_cmp (op_eqPy hr.units) opd_py (pd_var (i := 0) rfl (.inl rfl)) (pd_str [45] rfl) (nomark _)) (pdss_one (pds_ret (pd_lst (pda_cons pd_int (pda_cons pd_int pda_nil se_const) se_const)))) pdss_nil) (pdss_one (pds_ret (pd_lst (pda_cons (pd_callTy call_intA cd_intA rfl T.b_int bt_int (pda_cons (pd_var (i := 0) rfl (.inl rfl)) pda_nil se_name)) pda_nil se_call))))))
/-! ### lies_in -/
def B_lies_in : DS :=
  (sRet (dCall fAll (dCons (dComp false 2 (dZipW (dCons (dVar 0) (dCons (dVar 1) dNil))) (.two 2 3) [] [] (dOr (dOp (fPy eqF) (dVar 3) (dC (.str [45]))) (dOp (fPy eqF) (dVar 3) (dVar 2)))) dNil)))
def F_lies_in : List D → Ow → R D := (runF 2 B_lies_in)
theorem sc_lies_in : FnScope ["one", "other"] ["one", "other"] (defScope (top 23)) := ⟨rfl, rfl, rfl, by decide +kernel, rfl, by decide +kernel, by decide +kernel⟩
theorem ok_lies_in (T : Txt K mg) (B : TxtB mg base) : CalleeX Cl P w K mg base "lies_in" 1 2 F_lies_in :=
  CalleeX.self (fnX (k := 0) T.d_lies_in sc_lies_in (fun _ _ _ _ _ _ us hl => match us, hl with | [_, _], _ => rfl) fun f cdv A outer s H E hr =>
    (pdss_one (pds_ret (pd_callB (call_allB rfl) cd_all rfl T.b_all bt_all (pda_cons (pd_comp false ["sign", "wide"] rfl (pdi_zipW rfl T.b_zip (pda_cons (pd_var (i := 0) rfl (.inl rfl)) (pda_cons (pd_var (i := 1) rfl (.inl rfl)) pda_nil se_name) se_name)) (bok_of (by kernel_rfl)) (fun _ _ _ _ _ => ⟨(pg_two (i := 2) (j := 3) rfl nd_5 rfl rfl (.inl rfl) (.inl rfl) (.inr rfl) (.inr rfl)), .nil, .nil, (pd_or (pd_cmp (op_eqPy hr.units) opd_py (pd_var (i := 3) rfl (.inl rfl)) (pd_str [45] rfl) (nomark _)) (pd_one (pd_cmp (op_eqPy hr.units) opd_py (pd_var (i := 3) rfl (.inl rfl)) (pd_var (i := 2) rfl (.inl rfl)) (nomark _))))⟩)) pda_nil se_comp)))))
/-! ### meet -/
def B_meet : DS :=
  (sSeq (sSet 2 (dLstO dNil)) (sSeq (sFor (dZipW (dCons (dVar 0) (dCons (dVar 1) dNil))) (.two 3 4) (sSeq (sIf (dAndT (dTst (dOp (fPy neF) (dVar 3) (dC (.str [45])))) (dAndT (dTst (dOp (fPy neF) (dVar 4) (dC (.str [45])))) (dTst (dOp (fPy neF) (dVar 3) (dVar 4))))) (sRet (dC .non)) sNil) (sDrop (dApp (dVar 2) (dCons (dIf (dTst (dOp (fPy eqF) (dVar 3) (dC (.str [45])))) (dVar 4) (dVar 3)) dNil))))) (sRet (dJoin (dC (.str [])) (dCons (dVar 2) dNil)))))
def F_meet : List D → Ow → R D := frzF (runF 5 B_meet)
theorem sc_meet : FnScope ["one", "other", "signs", "left", "right"] ["one", "other"] (defScope (top 24)) := ⟨rfl, rfl, rfl, by decide +kernel, rfl, by decide +kernel, by decide +kernel⟩
theorem ok_meet (T : Txt K mg) (B : TxtB mg base) : CalleeX Cl P w K mg base "meet" 1 2 F_meet :=
  CalleeX.frz (fnX (k := 0) T.d_meet sc_meet (fun _ _ _ _ _ _ us hl => match us, hl with | [_, _], _ => rfl) fun f cdv A outer s H E hr =>
    (pdss_cons (pds_set (i := 2) nd_6 rfl (.inl rfl) (pd_lstO pda_nil)) (pdss_cons (pds_for own_cxX rfl (pdi_zipW rfl T.b_zip (pda_cons (pd_var (i := 0) rfl (.inl rfl)) (pda_cons (pd_var (i := 1) rfl (.inl rfl)) pda_nil se_name) se_name)) (pg_two (i := 3) (j := 4) rfl nd_6 rfl rfl (.inl rfl) (.inl rfl) (.inl rfl) (.inl rfl)) (pdss_cons (pds_if (PDW.pt (pwd_and (pdt_cmp (op_nePy hr.units) opd_py (pd_var (i := 3) rfl (.inl rfl)) (pd_str [45] rfl) (nomark _)) (pwd_and (pdt_cmp (op_nePy hr.units) opd_py (pd_var (i := 4) rfl (.inl rfl)) (pd_str [45] rfl) (nomark _)) (pwd_and1 (pdt_cmp (op_nePy hr.units) opd_py (pd_var (i := 3) rfl (.inl rfl)) (pd_var (i := 4) rfl (.inl rfl)) (nomark _)))))) (pdss_one (pds_ret pd_non)) pdss_nil) (pdss_one (pds_expr (pd_append (pd_var (i := 2) rfl (.inl rfl)) (pda_cons (pd_ifExp (pdt_cmp (op_eqPy hr.units) opd_py (pd_var (i := 3) rfl (.inl rfl)) (pd_str [45] rfl) (nomark _)) (pd_var (i := 4) rfl (.inl rfl)) (pd_var (i := 3) rfl (.inl rfl))) pda_nil se_if)))))) (pdss_one (pds_ret (pd_join (pd_str [] rfl) (pda_cons (pd_var (i := 2) rfl (.inl rfl)) pda_nil se_name)))))))
/-! ### _law_cell_at -/
def B__law_cell_at : DS :=
  (sSeq (sIf (dTst (dOp fLt (dVar 1) (dCall fLen (dCons (dVar 0) dNil)))) (sRet (dOp fIx (dVar 0) (dVar 1))) sNil) (sRet (dC (.int 0))))
def F__law_cell_at : List D → Ow → R D := (runF 2 B__law_cell_at)
theorem sc__law_cell_at : FnScope ["_law_script", "_law_k"] ["_law_script", "_law_k"] (defScope (top 26)) := ⟨rfl, rfl, rfl, by decide +kernel, rfl, by decide +kernel, by decide +kernel⟩
theorem ok__law_cell_at (T : Txt K mg) (B : TxtB mg base) : CalleeX Cl P w K mg base "_law_cell_at" 1 2 F__law_cell_at :=
  CalleeX.self (fnX (k := 0) T.d__law_cell_at sc__law_cell_at (fun _ _ _ _ _ _ us hl => match us, hl with | [_, _], _ => rfl) fun f cdv A outer s H E hr =>
    (pdss_cons (pds_if (pdt_cmp op_lt opd_lt (pd_var (i := 1) rfl (.inl rfl)) (pd_callB call_len cd_len rfl T.b_len bt_len (pda_cons (pd_var (i := 0) rfl (.inl rfl)) pda_nil se_name)) (nomark _)) (pdss_one (pds_ret (pd_ix (pd_var (i := 0) rfl (.inl rfl)) (pd_var (i := 1) rfl (.inl rfl)) (fun _ _ => rfl)))) pdss_nil) (pdss_one (pds_ret pd_int))))
/-! ### _law_take -/
def B__law_take : DS :=
  (sSeq (sIf (dTru (dOp fIx (dVar 0) (dC (.int 1)))) (sSeq (sSet 2 (dOp (fI gMod) (dOp fIx (dVar 0) (dC (.int 0))) (dVar 1))) (sSeq (sPut (dOp (fI gDiv) (dOp fIx (dVar 0) (dC (.int 0))) (dVar 1)) (dVar 0) (dC (.int 0))) (sRet (dVar 2)))) sNil) (sSeq (sPut (dOp (fI gMod) (dOp fAdd (dOp (fI gMul) (dOp fIx (dVar 0) (dC (.int 0))) (dC (.int 48271))) (dC (.int 29))) (dC (.int 2147483647))) (dVar 0) (dC (.int 0))) (sSeq (sSet 3 (dOp (fI gMod) (dOp fAdd (dOp fAdd (dOp (fI gMul) (dOp fIx (dVar 0) (dC (.int 0))) (dOp fIx (dVar 0) (dC (.int 0)))) (dOp (fI gMul) (dC (.int 39373)) (dOp fIx (dVar 0) (dC (.int 0))))) (dC (.int 7))) (dC (.int 2147483629)))) (sSeq (sSet 3 (dOp (fI gMod) (dOp fAdd (dOp (fI gMul) (dVar 3) (dVar 3)) (dOp (fI gMul) (dC (.int 16807)) (dVar 3))) (dC (.int 2147483587)))) (sRet (dOp (fI gMod) (dOp (fI gDiv) (dVar 3) (dC (.int 8))) (dVar 1)))))))
def F__law_take : List D → Ow → R D := (runF 4 B__law_take)
theorem sc__law_take : FnScope ["_law_state_here", "_law_many", "_law_found", "_law_stirred"] ["_law_state_here", "_law_many"] (defScope (top 28)) := ⟨rfl, rfl, rfl, by decide +kernel, rfl, by decide +kernel, by decide +kernel⟩
theorem ok__law_take (T : Txt K mg) (B : TxtB mg base) : CalleeX Cl P w K mg base "_law_take" 1 2 F__law_take :=
  CalleeX.self (fnX (k := 0) T.d__law_take sc__law_take (fun _ _ _ _ _ _ us hl => match us, hl with | [_, _], _ => rfl) fun f cdv A outer s H E hr =>
    (pdss_cons (pds_if (pdt_tru (pd_ix (pd_var (i := 0) rfl (.inl rfl)) pd_int (fun _ _ => rfl)) (fun _ => rfl)) (pdss_cons (pds_set (i := 2) nd_8 rfl (.inl rfl) (pd_op op_mod opd_mod (pd_ix (pd_var (i := 0) rfl (.inl rfl)) pd_int (fun _ _ => rfl)) (pd_var (i := 1) rfl (.inl rfl)))) (pdss_cons (pds_put (pd_op op_fdiv opd_div (pd_ix (pd_var (i := 0) rfl (.inl rfl)) pd_int (fun _ _ => rfl)) (pd_var (i := 1) rfl (.inl rfl))) (pd_var (i := 0) rfl (.inl rfl)) pd_int) (pdss_one (pds_ret (pd_var (i := 2) rfl (.inl rfl)))))) pdss_nil) (pdss_cons (pds_put (pd_op op_mod opd_mod (pd_add (pd_op op_mul opd_mul (pd_ix (pd_var (i := 0) rfl (.inl rfl)) pd_int (fun _ _ => rfl)) pd_int) pd_int) pd_int) (pd_var (i := 0) rfl (.inl rfl)) pd_int) (pdss_cons (pds_set (i := 3) nd_8 rfl (.inl rfl) (pd_op op_mod opd_mod (pd_add (pd_add (pd_op op_mul opd_mul (pd_ix (pd_var (i := 0) rfl (.inl rfl)) pd_int (fun _ _ => rfl)) (pd_ix (pd_var (i := 0) rfl (.inl rfl)) pd_int (fun _ _ => rfl))) (pd_op op_mul opd_mul pd_int (pd_ix (pd_var (i := 0) rfl (.inl rfl)) pd_int (fun _ _ => rfl)))) pd_int) pd_int)) (pdss_cons (pds_set (i := 3) nd_8 rfl (.inl rfl) (pd_op op_mod opd_mod (pd_add (pd_op op_mul opd_mul (pd_var (i := 3) rfl (.inl rfl)) (pd_var (i := 3) rfl (.inl rfl))) (pd_op op_mul opd_mul pd_int (pd_var (i := 3) rfl (.inl rfl)))) pd_int)) (pdss_one (pds_ret (pd_op op_mod opd_mod (pd_op op_fdiv opd_div (pd_var (i := 3) rfl (.inl rfl)) pd_int) (pd_var (i := 1) rfl (.inl rfl))))))))))
/-! ### _law_bits -/
def B__law_bits : DS :=
  (sSeq (sSet 2 (dC (.str []))) (sSeq (sFor (dRng1 (dCons (dVar 0) dNil)) (.one 3) (sSeq (sSet 2 (dOp fAdd (dCall fStrI (dCons (dOp (fI gMod) (dVar 1) (dC (.int 2))) dNil)) (dVar 2))) (sSet 1 (dOp (fI gDiv) (dVar 1) (dC (.int 2)))))) (sRet (dVar 2))))
def F__law_bits : List D → Ow → R D := (runF 4 B__law_bits)
theorem sc__law_bits : FnScope ["_law_n", "_law_point", "_law_found", "_law_k"] ["_law_n", "_law_point"] (defScope (top 30)) := ⟨rfl, rfl, rfl, by decide +kernel, rfl, by decide +kernel, by decide +kernel⟩
theorem ok__law_bits (T : Txt K mg) (B : TxtB mg base) : CalleeX Cl P w K mg base "_law_bits" 1 2 F__law_bits :=
  CalleeX.self (fnX (k := 0) T.d__law_bits sc__law_bits (fun _ _ _ _ _ _ us hl => match us, hl with | [_, _], _ => rfl) fun f cdv A outer s H E hr =>
    (pdss_cons (pds_set (i := 2) nd_10 rfl (.inl rfl) (pd_str [] rfl)) (pdss_cons (pds_for own_cxX rfl (pdi_range1 rfl T.b_range (pda_cons (pd_var (i := 0) rfl (.inl rfl)) pda_nil se_name)) (pg_one (i := 3) nd_10 rfl (.inl rfl) (.inl rfl)) (pdss_cons (pds_set (i := 2) nd_10 rfl (.inl rfl) (pd_add (pd_callTy call_str_int cd_strI rfl T.b_str bt_str (pda_cons (pd_op op_mod opd_mod (pd_var (i := 1) rfl (.inl rfl)) pd_int) pda_nil se_bin)) (pd_var (i := 2) rfl (.inl rfl)))) (pdss_one (pds_set (i := 1) nd_10 rfl (.inl rfl) (pd_op op_fdiv opd_div (pd_var (i := 1) rfl (.inl rfl)) pd_int))))) (pdss_one (pds_ret (pd_var (i := 2) rfl (.inl rfl)))))))
/-! ### _law_same -/
def B__law_same (F : List D → Ow → R D) : DS :=
  (sSeq (sIf (dTru (dIsi2 "tuple" "list" (dVar 1))) (sSeq (sIf (dOrT (dTst (dOp (fPy neF) (dIsi "tuple" (dVar 0)) (dIsi "tuple" (dVar 1)))) (dTst (dOp (fPy neF) (dIsi "list" (dVar 0)) (dIsi "list" (dVar 1))))) (sRet (dC (.bl false))) sNil) (sSeq (sIf (dTst (dOp (fPy neF) (dCall fLen (dCons (dVar 0) dNil)) (dCall fLen (dCons (dVar 1) dNil)))) (sRet (dC (.bl false))) sNil) (sRet (dCall fAll (dCons (dComp false 2 (dZip (dCons (dVar 0) (dCons (dVar 1) dNil))) (.two 2 3) [] [] (dFn 2 F (dCons (dVar 2) (dCons (dVar 3) dNil)))) dNil))))) sNil) (sRet (dAnd (dOp (fPy eqF) (dVar 0) (dVar 1)) (dOp (fPy eqF) (dIsi "bool" (dVar 0)) (dIsi "bool" (dVar 1))))))
def F__law_same_ : Nat → List D → Ow → R D
  | 0 => fun _ _ => .bad
  | k + 1 => (runF 2 (B__law_same (F__law_same_ k)))
theorem sc__law_same : FnScope ["_law_found", "_law_due"] ["_law_found", "_law_due"] (defScope (top 32)) := ⟨rfl, rfl, rfl, by decide +kernel, rfl, by decide +kernel, by decide +kernel⟩
theorem ok__law_same_ (T : Txt K mg) (B : TxtB mg base) : ∀ k, CalleeX Cl P w K mg base "_law_same" (1 + k) 2 (F__law_same_ k)
  | 0 => CalleeX.bad (F := runF 2 sBad) (fnX T.d__law_same sc__law_same (fun _ _ _ _ _ _ us hl => match us, hl with | [_, _], _ => rfl) fun f cdv A outer s H E hr => pdss_bad)
  | k + 1 => CalleeX.self (fnX (k := 1 + k) T.d__law_same sc__law_same (fun _ _ _ _ _ _ us hl => match us, hl with | [_, _], _ => rfl) fun f cdv A outer s H E hr =>
    have c_self := ok__law_same_ T B k
    (pdss_cons (pds_if (pdt_tru (pd_isi2 (n := "tuple") (n' := "list") (pd_var (i := 1) rfl (.inl rfl)) (by decide) (by decide) rfl T.b_isinstance bt_isinstance rfl T.b_tuple bt_tuple rfl T.b_list bt_list) (fun _ => rfl)) (pdss_cons (pds_if (PDW.pt (pwd_or (pdt_cmp (op_nePy hr.units) opd_py (pd_isi (n := "tuple") (pd_var (i := 0) rfl (.inl rfl)) (by decide) rfl T.b_isinstance bt_isinstance rfl T.b_tuple bt_tuple) (pd_isi (n := "tuple") (pd_var (i := 1) rfl (.inl rfl)) (by decide) rfl T.b_isinstance bt_isinstance rfl T.b_tuple bt_tuple) (nomark _)) (pwd_or1 (pdt_cmp (op_nePy hr.units) opd_py (pd_isi (n := "list") (pd_var (i := 0) rfl (.inl rfl)) (by decide) rfl T.b_isinstance bt_isinstance rfl T.b_list bt_list) (pd_isi (n := "list") (pd_var (i := 1) rfl (.inl rfl)) (by decide) rfl T.b_isinstance bt_isinstance rfl T.b_list bt_list) (nomark _))))) (pdss_one (pds_ret pd_bl)) pdss_nil) (pdss_cons (pds_if (pdt_cmp (op_nePy hr.units) opd_py (pd_callB call_len cd_len rfl T.b_len bt_len (pda_cons (pd_var (i := 0) rfl (.inl rfl)) pda_nil se_name)) (pd_callB call_len cd_len rfl T.b_len bt_len (pda_cons (pd_var (i := 1) rfl (.inl rfl)) pda_nil se_name)) (nomark _)) (pdss_one (pds_ret pd_bl)) pdss_nil) (pdss_one (pds_ret (pd_callB (call_allB rfl) cd_all rfl T.b_all bt_all (pda_cons (pd_comp false ["_law_one", "_law_other"] rfl (pdi_zip rfl T.b_zip (pda_cons (pd_var (i := 0) rfl (.inl rfl)) (pda_cons (pd_var (i := 1) rfl (.inl rfl)) pda_nil se_name) se_name)) (bok_of (by kernel_rfl)) (fun _ _ _ _ _ => ⟨(pg_two (i := 2) (j := 3) rfl nd_13 rfl rfl (.inl rfl) (.inl rfl) (.inr rfl) (.inr rfl)), .nil, .nil, (pd_fnX0 c_self hr (Nat.le_refl _) rfl (pda_cons (pd_var (i := 2) rfl (.inl rfl)) (pda_cons (pd_var (i := 3) rfl (.inl rfl)) pda_nil se_name) se_name))⟩)) pda_nil se_comp)))))) pdss_nil) (pdss_one (pds_ret (pd_and (pd_cmp (op_eqPy hr.units) opd_py (pd_var (i := 0) rfl (.inl rfl)) (pd_var (i := 1) rfl (.inl rfl)) (nomark _)) (pd_one (pd_cmp (op_eqPy hr.units) opd_py (pd_isi (n := "bool") (pd_var (i := 0) rfl (.inl rfl)) (by decide) rfl T.b_isinstance bt_isinstance rfl T.b_bool bt_bool) (pd_isi (n := "bool") (pd_var (i := 1) rfl (.inl rfl)) (by decide) rfl T.b_isinstance bt_isinstance rfl T.b_bool bt_bool) (nomark _))))))))
def F__law_same : List D → Ow → R D := F__law_same_ 4
theorem ok__law_same (T : Txt K mg) (B : TxtB mg base) : CalleeX Cl P w K mg base "_law_same" 5 2 F__law_same := ok__law_same_ T B 4
/-! ### _law_refused -/
def B_rest : DS :=
  (sSeq (sSet 3 (dLst (dCons (dIsx xf_NoFunction (dVar 1)) (dCons (dIsx xf_NoTerm (dVar 1)) (dCons (dIsx xf_NoPoint (dVar 1)) dNil))))) (sSeq (sSet 3 (dOp fAdd (dVar 3) (dLst (dCons (dIsx xf_NoNumber (dVar 1)) (dCons (dIsx xf_NoForm (dVar 1)) (dCons (dIsx xf_NoChange (dVar 1)) dNil)))))) (sSeq (sSet 3 (dOp fAdd (dVar 3) (dLst (dCons (dIsx xf_NoText (dVar 1)) (dCons (dIsx xf_NoLine (dVar 1)) (dCons (dIsx xf_NoDeed (dVar 1)) dNil)))))) (sSeq (sIf (dNotT (dTru (dIsx xf_VE (dVar 1)))) (sRet (dC .non)) sNil) (sRet (dComp false 1 (dRng1 (dCons (dC (.int 9)) dNil)) (.one 4) [(dTru (dOp fIx (dVar 3) (dVar 4)))] [] (dVar 4)))))))
theorem sc__law_refused : FnScope ["_law_call", "_law_error", "e", "_law_marks"] ["_law_call"] (defScope (top 33)) := ⟨rfl, rfl, rfl, by decide +kernel, rfl, by decide +kernel, by decide +kernel⟩
theorem pd_ref {X : Cx} {Ex : Nat → Hp → Prop} {k iT : Nat} {c Pt : Addr} {tE : DE} {params : Arguments} {body : Expr} {scope : Scope} {pn pl pp : Pos} (T : Txt X.K X.mg) (hr : Room (k + 2) X.A) (L : LamOk X.mg X.base c Pt) (hcode : X.env.code = .ref c) (LS : LamScope X.env.scope scope) (hdef : defaultsOf params X.env = ([], []))
    (hbl : ∀ (name qual : Str) (cl : List (Str × Addr)) (pm cd ct : Value), bindArgs (PySem.W.kla_fn name qual params body scope cl pm cd ct) ⟨[], []⟩ = pure [])
    (hE : ∀ (q : Str) (lam : Addr) (cd : Value) (cl : List (Str × Addr)) (A : Around) (outer : List Env) (s : Shared) (H : Hp) (E : XK), Room k (A.deeper (envL q scope s.heap.objs.size lam cd cl)) → PD (cxL (CXr X.prog X.w Cl) X.prog X.w X.K X.mg X.base X.N (envL q scope s.heap.objs.size lam cd cl) A outer s H E) (Xk Cl E) body tE)
    (hg : Gl X "_law_refused") : PD X Ex (.Call (.Name "_law_refused" pn) [.Lambda params body scope pl] [] pp) (dRefused Pt iT Ca 4 1 tE B_rest) :=
  pd_refused (N := ["_law_call", "_law_error", "e", "_law_marks"]) (i := 2) (j := 1) (nf := "_law_call") (n := "e") (y := "_law_error") (xT := "TermError") (T := 24) (Cl := Cl) (Ca := Ca) T.d__law_refused hr rfl sc__law_refused (by decide +kernel) rfl rfl rfl (by decide) (by decide) rfl rfl (.inl rfl) (fun _ _ _ _ _ _ us hl => match us, hl with | [_], _ => rfl) rfl T.g_TermError (kcls T) (fun f cdv s H hr => (pdss_cons (pds_set (i := 3) nd_0 rfl (.inr rfl) (pd_lst (pda_cons (pd_isxO (x := "NoFunction") (C0 := 37) (f := xf_NoFunction) (pd_var (i := 1) rfl (.inl rfl)) rfl T.b_isinstance bt_isinstance rfl T.g_NoFunction T.n_NoFunction (kf_NoFunction T)) (pda_cons (pd_isxO (x := "NoTerm") (C0 := 49) (f := xf_NoTerm) (pd_var (i := 1) rfl (.inl rfl)) rfl T.b_isinstance bt_isinstance rfl T.g_NoTerm T.n_NoTerm (kf_NoTerm T)) (pda_cons (pd_isxO (x := "NoPoint") (C0 := 61) (f := xf_NoPoint) (pd_var (i := 1) rfl (.inl rfl)) rfl T.b_isinstance bt_isinstance rfl T.g_NoPoint T.n_NoPoint (kf_NoPoint T)) pda_nil se_call) se_call) se_call))) (pdss_cons (pds_set (i := 3) nd_0 rfl (.inr rfl) (pd_add (pd_var (i := 3) rfl (.inr (.inl rfl))) (pd_lst (pda_cons (pd_isxO (x := "NoNumber") (C0 := 73) (f := xf_NoNumber) (pd_var (i := 1) rfl (.inl rfl)) rfl T.b_isinstance bt_isinstance rfl T.g_NoNumber T.n_NoNumber (kf_NoNumber T)) (pda_cons (pd_isxO (x := "NoForm") (C0 := 85) (f := xf_NoForm) (pd_var (i := 1) rfl (.inl rfl)) rfl T.b_isinstance bt_isinstance rfl T.g_NoForm T.n_NoForm (kf_NoForm T)) (pda_cons (pd_isxO (x := "NoChange") (C0 := 97) (f := xf_NoChange) (pd_var (i := 1) rfl (.inl rfl)) rfl T.b_isinstance bt_isinstance rfl T.g_NoChange T.n_NoChange (kf_NoChange T)) pda_nil se_call) se_call) se_call)))) (pdss_cons (pds_set (i := 3) nd_0 rfl (.inr rfl) (pd_add (pd_var (i := 3) rfl (.inr (.inl rfl))) (pd_lst (pda_cons (pd_isxO (x := "NoText") (C0 := 109) (f := xf_NoText) (pd_var (i := 1) rfl (.inl rfl)) rfl T.b_isinstance bt_isinstance rfl T.g_NoText T.n_NoText (kf_NoText T)) (pda_cons (pd_isxO (x := "NoLine") (C0 := 121) (f := xf_NoLine) (pd_var (i := 1) rfl (.inl rfl)) rfl T.b_isinstance bt_isinstance rfl T.g_NoLine T.n_NoLine (kf_NoLine T)) (pda_cons (pd_isxO (x := "NoDeed") (C0 := 133) (f := xf_NoDeed) (pd_var (i := 1) rfl (.inl rfl)) rfl T.b_isinstance bt_isinstance rfl T.g_NoDeed T.n_NoDeed (kf_NoDeed T)) pda_nil se_call) se_call) se_call)))) (pdss_cons (pds_if (pdt_not (pdt_tru (pd_isxB (x := "ValueError") (n := "ValueError") (f := xf_VE) (pd_var (i := 1) rfl (.inl rfl)) rfl T.b_isinstance bt_isinstance rfl T.b_ValueError bt_ValueError T.n_VE (kf_VE T)) (fun _ => rfl))) (pdss_one (pds_ret pd_non)) pdss_nil) (pdss_one (pds_ret (pd_comp false ["_law_k"] rfl (pdi_range1 rfl T.b_range (pda_cons pd_int pda_nil se_const)) (bok_of (by kernel_rfl)) (fun _ _ _ _ _ => ⟨(pg_one (i := 4) nd_1 rfl (.inl rfl) (.inr rfl)), (.cons (pdt_tru (pd_ix (pd_var (i := 3) rfl (.inr (.inl rfl))) (pd_var (i := 4) rfl (.inl rfl)) (fun _ _ => rfl)) (fun _ => rfl)) .nil), .nil, (pd_var (i := 4) rfl (.inl rfl))⟩))))))))) L hcode LS hdef hbl hE hg
/-! ### _law_is_term -/
def B__law_is_term : DS :=
  (sRet (dAnd (dIsi "str" (dVar 1)) (dAnd (dOp (fPy eqF) (dCall fLen (dCons (dVar 1) dNil)) (dVar 0)) (dOp (fPy eqF) (dS1 gStrip (dVar 1) (dCons (dC (.str [48, 49, 45])) dNil)) (dC (.str []))))))
def F__law_is_term : List D → Ow → R D := (runF 2 B__law_is_term)
theorem sc__law_is_term : FnScope ["_law_n", "_law_thing"] ["_law_n", "_law_thing"] (defScope (top 34)) := ⟨rfl, rfl, rfl, by decide +kernel, rfl, by decide +kernel, by decide +kernel⟩
theorem ok__law_is_term (T : Txt K mg) (B : TxtB mg base) : CalleeX Cl P w K mg base "_law_is_term" 1 2 F__law_is_term :=
  CalleeX.self (fnX (k := 0) T.d__law_is_term sc__law_is_term (fun _ _ _ _ _ _ us hl => match us, hl with | [_, _], _ => rfl) fun f cdv A outer s H E hr =>
    (pdss_one (pds_ret (pd_and (pd_isi (n := "str") (pd_var (i := 1) rfl (.inl rfl)) (by decide) rfl T.b_isinstance bt_isinstance rfl T.b_str bt_str) (pd_and (pd_cmp (op_eqPy hr.units) opd_py (pd_callB call_len cd_len rfl T.b_len bt_len (pda_cons (pd_var (i := 1) rfl (.inl rfl)) pda_nil se_name)) (pd_var (i := 0) rfl (.inl rfl)) (nomark _)) (pd_one (pd_cmp (op_eqPy hr.units) opd_py (pd_s1 PySem.F.slot_str_strip PySem.F.type_str_strip mt_strip gg_strip (pd_var (i := 1) rfl (.inl rfl)) (pda_cons (pd_str [48, 49, 45] rfl) pda_nil se_const)) (pd_str [] rfl) (nomark _))))))))
/-! ### is_whole_within -/
def B_is_whole_within : DS :=
  (sRet (dAnd (dFn 1 F_is_whole (dCons (dVar 0) dNil)) (dChain fLe fLe (dVar 1) (dVar 0) (dVar 2))))
def F_is_whole_within : List D → Ow → R D := (runF 3 B_is_whole_within)
theorem sc_is_whole_within : FnScope ["thing", "least", "most"] ["thing", "least", "most"] (defScope (top 14)) := ⟨rfl, rfl, rfl, by decide +kernel, rfl, by decide +kernel, by decide +kernel⟩
theorem ok_is_whole_within (T : Txt K mg) (B : TxtB mg base) (c_is_whole : CalleeX Cl P w K mg base "is_whole" 1 1 F_is_whole) : CalleeX Cl P w K mg base "is_whole_within" 2 3 F_is_whole_within :=
  CalleeX.self (fnX (k := 1) T.d_is_whole_within sc_is_whole_within (fun _ _ _ _ _ _ us hl => match us, hl with | [_, _, _], _ => rfl) fun f cdv A outer s H E hr =>
    (pdss_one (pds_ret (pd_and (pd_fnX c_is_whole (passes_x rfl xok_fn) hr (by decide) rfl (pda_cons (pd_var (i := 0) rfl (.inl rfl)) pda_nil se_name)) (pd_one (pd_chain op_le opd_le op_le opd_le (pd_var (i := 1) rfl (.inl rfl)) (pd_var (i := 0) rfl (.inl rfl)) (pd_var (i := 2) rfl (.inl rfl))))))))
/-! ### points_of -/
def B_points_of : DS :=
  (sSeq (sSet 1 (dLst (dCons (dC (.int 0)) dNil))) (sSeq (sFor (dIt (dVar 0)) (.one 2) (sSet 1 (dComp false 2 (dIt (dVar 1)) (.one 3) [] (⟨(dIt (dFn 1 F_bits_of (dCons (dVar 2) dNil))), (.one 4), []⟩ :: []) (dOp fAdd (dOp (fI gMul) (dC (.int 2)) (dVar 3)) (dVar 4))))) (sRet (dVar 1))))
def F_points_of : List D → Ow → R D := (runF 3 B_points_of)
theorem sc_points_of : FnScope ["term", "points", "sign"] ["term"] (defScope (top 22)) := ⟨rfl, rfl, rfl, by decide +kernel, rfl, by decide +kernel, by decide +kernel⟩
theorem ok_points_of (T : Txt K mg) (B : TxtB mg base) (c_bits_of : CalleeX Cl P w K mg base "bits_of" 1 1 F_bits_of) : CalleeX Cl P w K mg base "points_of" 2 1 F_points_of :=
  CalleeX.self (fnX (k := 1) T.d_points_of sc_points_of (fun _ _ _ _ _ _ us hl => match us, hl with | [_], _ => rfl) fun f cdv A outer s H E hr =>
    (pdss_cons (pds_set (i := 1) nd_3 rfl (.inl rfl) (pd_lst (pda_cons pd_int pda_nil se_const))) (pdss_cons (pds_for own_cxX rfl (pdi_seq (pd_var (i := 0) rfl (.inl rfl))) (pg_one (i := 2) nd_3 rfl (.inr rfl) (.inl rfl)) (pdss_one (pds_setComp (i := 1) false ["point", "bit"] rfl nd_3 rfl rfl (pdi_seq (pd_var (i := 1) rfl (.inl rfl))) (bok_of (by kernel_rfl)) (fun _ _ _ _ _ => ⟨(pg_one (i := 3) nd_4 rfl (.inl rfl) (.inr rfl)), .nil, (ClsOk.cons (c := ⟨(dIt (dFn 1 F_bits_of (dCons (dVar 2) dNil))), (.one 4), []⟩) (pdi_seq (pd_fnX0 c_bits_of hr (by decide) rfl (pda_cons (pd_var (i := 2) rfl (.inr (.inl rfl))) pda_nil se_name))) (fun _ => rfl) (pg_one (i := 4) nd_4 rfl (.inl rfl) (.inr rfl)) .nil .nil), (pd_add (pd_op op_mul opd_mul pd_int (pd_var (i := 3) rfl (.inl rfl))) (pd_var (i := 4) rfl (.inl rfl)))⟩) rfl))) (pdss_one (pds_ret (pd_var (i := 1) rfl (.inl rfl)))))))
/-! ### _law_state -/
def B__law_state : DS :=
  (sSeq (sSet 2 (dFn 2 F__law_cell_at (dCons (dVar 0) (dCons (dVar 1) dNil)))) (sSeq (sIf (dTst (dOp fGe (dVar 2) (dOp (fI gPow) (dC (.int 10)) (dC (.int 18))))) (sRet (dLstO (dCons (dOp (fI gSub) (dVar 2) (dOp (fI gPow) (dC (.int 10)) (dC (.int 18)))) (dCons (dC (.bl true)) dNil)))) sNil) (sRet (dLstO (dCons (dOp (fI gMod) (dVar 2) (dC (.int 2147483647))) (dCons (dC (.bl false)) dNil))))))
def F__law_state : List D → Ow → R D := (runF 3 B__law_state)
theorem sc__law_state : FnScope ["_law_script", "_law_k", "_law_cell"] ["_law_script", "_law_k"] (defScope (top 27)) := ⟨rfl, rfl, rfl, by decide +kernel, rfl, by decide +kernel, by decide +kernel⟩
theorem ok__law_state (T : Txt K mg) (B : TxtB mg base) (c__law_cell_at : CalleeX Cl P w K mg base "_law_cell_at" 1 2 F__law_cell_at) : CalleeX Cl P w K mg base "_law_state" 2 2 F__law_state :=
  CalleeX.self (fnX (k := 1) T.d__law_state sc__law_state (fun _ _ _ _ _ _ us hl => match us, hl with | [_, _], _ => rfl) fun f cdv A outer s H E hr =>
    (pdss_cons (pds_set (i := 2) nd_7 rfl (.inl rfl) (pd_fnX c__law_cell_at (passes_x rfl xok_fn) hr (by decide) rfl (pda_cons (pd_var (i := 0) rfl (.inl rfl)) (pda_cons (pd_var (i := 1) rfl (.inl rfl)) pda_nil se_name) se_name))) (pdss_cons (pds_if (pdt_cmp op_ge opd_ge (pd_var (i := 2) rfl (.inl rfl)) (pd_op op_pow opd_pow pd_int pd_int) (nomark _)) (pdss_one (pds_ret (pd_lstO (pda_cons (pd_op op_sub opd_sub (pd_var (i := 2) rfl (.inl rfl)) (pd_op op_pow opd_pow pd_int pd_int)) (pda_cons pd_bl pda_nil se_const) se_bin)))) pdss_nil) (pdss_one (pds_ret (pd_lstO (pda_cons (pd_op op_mod opd_mod (pd_var (i := 2) rfl (.inl rfl)) pd_int) (pda_cons pd_bl pda_nil se_const) se_bin)))))))
/-! ### _law_term -/
def B__law_term : DS :=
  (sRet (dJoin (dC (.str [])) (dCons (dComp false 1 (dRng1 (dCons (dVar 1) dNil)) (.one 2) [] [] (dOp fIx (dC (.str [48, 49, 45, 45])) (dFn 2 F__law_take (dCons (dVar 0) (dCons (dC (.int 4)) dNil))))) dNil)))
def F__law_term : List D → Ow → R D := (runF 2 B__law_term)
theorem sc__law_term : FnScope ["_law_state_here", "_law_n"] ["_law_state_here", "_law_n"] (defScope (top 29)) := ⟨rfl, rfl, rfl, by decide +kernel, rfl, by decide +kernel, by decide +kernel⟩
theorem ok__law_term (T : Txt K mg) (B : TxtB mg base) (c__law_take : CalleeX Cl P w K mg base "_law_take" 1 2 F__law_take) : CalleeX Cl P w K mg base "_law_term" 2 2 F__law_term :=
  CalleeX.self (fnX (k := 1) T.d__law_term sc__law_term (fun _ _ _ _ _ _ us hl => match us, hl with | [_, _], _ => rfl) fun f cdv A outer s H E hr =>
    (pdss_one (pds_ret (pd_join (pd_str [] rfl) (pda_cons (pd_comp false ["_law_k"] rfl (pdi_range1 rfl T.b_range (pda_cons (pd_var (i := 1) rfl (.inl rfl)) pda_nil se_name)) (bok_of (by kernel_rfl)) (fun _ _ _ _ _ => ⟨(pg_one (i := 2) nd_9 rfl (.inl rfl) (.inr rfl)), .nil, .nil, (pd_ix (pd_str [48, 49, 45, 45] rfl) (pd_fnX0 c__law_take hr (by decide) rfl (pda_cons (pd_var (i := 0) rfl (.inr (.inl rfl))) (pda_cons pd_int pda_nil se_const) se_name)) (fun _ _ => rfl))⟩)) pda_nil se_comp)))))
/-! ### _law_points -/
def B__law_points : DS :=
  (sSeq (sSet 1 (dLstO dNil)) (sSeq (sFor (dRng1 (dCons (dOp (fI gShl) (dC (.int 1)) (dCall fLen (dCons (dVar 0) dNil))) dNil)) (.one 2) (sSeq (sSet 3 (dFn 2 F__law_bits (dCons (dCall fLen (dCons (dVar 0) dNil)) (dCons (dVar 2) dNil)))) (sIf (dTst (dOp (fPy eqF) (dComp false 1 (dRng1 (dCons (dCall fLen (dCons (dVar 0) dNil)) dNil)) (.one 4) [(dTst (dOp fNin (dOp fIx (dVar 0) (dVar 4)) (dTup (dCons (dC (.str [45])) (dCons (dOp fIx (dVar 3) (dVar 4)) dNil)))))] [] (dVar 4)) (dLst dNil))) (sDrop (dApp (dVar 1) (dCons (dVar 2) dNil))) sNil))) (sRet (dVar 1))))
def F__law_points : List D → Ow → R D := frzF (runF 4 B__law_points)
theorem sc__law_points : FnScope ["_law_term_here", "_law_found", "_law_point", "_law_bits_here"] ["_law_term_here"] (defScope (top 31)) := ⟨rfl, rfl, rfl, by decide +kernel, rfl, by decide +kernel, by decide +kernel⟩
theorem ok__law_points (T : Txt K mg) (B : TxtB mg base) (c__law_bits : CalleeX Cl P w K mg base "_law_bits" 1 2 F__law_bits) : CalleeX Cl P w K mg base "_law_points" 2 1 F__law_points :=
  CalleeX.frz (fnX (k := 1) T.d__law_points sc__law_points (fun _ _ _ _ _ _ us hl => match us, hl with | [_], _ => rfl) fun f cdv A outer s H E hr =>
    (pdss_cons (pds_set (i := 1) nd_11 rfl (.inl rfl) (pd_lstO pda_nil)) (pdss_cons (pds_for own_cxX rfl (pdi_range1 rfl T.b_range (pda_cons (pd_op op_shl opd_shl pd_int (pd_callB call_len cd_len rfl T.b_len bt_len (pda_cons (pd_var (i := 0) rfl (.inr (.inl rfl))) pda_nil se_name))) pda_nil se_bin)) (pg_one (i := 2) nd_11 rfl (.inl rfl) (.inl rfl)) (pdss_cons (pds_set (i := 3) nd_11 rfl (.inr rfl) (pd_fnX c__law_bits (passes_x rfl xok_fn) hr (by decide) rfl (pda_cons (pd_callB call_len cd_len rfl T.b_len bt_len (pda_cons (pd_var (i := 0) rfl (.inr (.inl rfl))) pda_nil se_name)) (pda_cons (pd_var (i := 2) rfl (.inl rfl)) pda_nil se_name) se_call))) (pdss_one (pds_if (pdt_cmp (op_eqPy hr.units) opd_py (pd_comp false ["_law_k"] rfl (pdi_range1 rfl T.b_range (pda_cons (pd_callB call_len cd_len rfl T.b_len bt_len (pda_cons (pd_var (i := 0) rfl (.inr (.inl rfl))) pda_nil se_name)) pda_nil se_call)) (bok_of (by kernel_rfl)) (fun _ _ _ _ _ => ⟨(pg_one (i := 4) nd_12 rfl (.inl rfl) (.inr rfl)), (.cons (pdt_cmp (op_ninA hr.units) opd_nin (pd_ix (pd_var (i := 0) rfl (.inr (.inl rfl))) (pd_var (i := 4) rfl (.inl rfl)) (fun _ _ => rfl)) (pd_tup (pda_cons (pd_str [45] rfl) (pda_cons (pd_ix (pd_var (i := 3) rfl (.inr (.inl rfl))) (pd_var (i := 4) rfl (.inl rfl)) (fun _ _ => rfl)) pda_nil se_sub) se_const)) rfl) .nil), .nil, (pd_var (i := 4) rfl (.inl rfl))⟩)) (pd_lst pda_nil) (nomark _)) (pdss_one (pds_expr (pd_append (pd_var (i := 1) rfl (.inl rfl)) (pda_cons (pd_var (i := 2) rfl (.inl rfl)) pda_nil se_name)))) pdss_nil)))) (pdss_one (pds_ret (pd_var (i := 1) rfl (.inl rfl)))))))
/-! ### _law_bent -/
def B__law_bent : DS :=
  (sSeq (sSet 2 (dFn 2 F__law_take (dCons (dVar 0) (dCons (dCall fLen (dCons (dVar 1) dNil)) dNil)))) (sSeq (sSet 3 (dOp fIx (dC (.str [48, 49, 45, 50, 32, 120, 43])) (dFn 2 F__law_take (dCons (dVar 0) (dCons (dC (.int 7)) dNil))))) (sSeq (sSet 4 (dLstO (dCons (dOp fAdd (dOp fAdd (dSl (dVar 1) oNone (oSome (dVar 2))) (dVar 3)) (dSl (dVar 1) (oSome (dOp fAdd (dVar 2) (dC (.int 1)))) oNone)) (dCons (dSl (dVar 1) (oSome (dC (.int 1))) oNone) (dCons (dOp fAdd (dVar 1) (dVar 3)) (dCons (dOp fAdd (dVar 1) (dC (.str [32]))) (dCons (dCall fTupS (dCons (dVar 1) dNil)) (dCons (dC .non) (dCons (dC (.int 0)) (dCons (dLst (dCons (dVar 1) dNil)) dNil)))))))))) (sSeq (sDrop (dApp (dVar 4) (dCons (dS0 gUp (dVar 1)) dNil))) (sRet (dOp fIx (dVar 4) (dFn 2 F__law_take (dCons (dVar 0) (dCons (dC (.int 9)) dNil)))))))))
def F__law_bent : List D → Ow → R D := frzF (runF 5 B__law_bent)
theorem sc__law_bent : FnScope ["_law_state_here", "_law_term_here", "_law_at", "_law_sign", "_law_some"] ["_law_state_here", "_law_term_here"] (defScope (top 35)) := ⟨rfl, rfl, rfl, by decide +kernel, rfl, by decide +kernel, by decide +kernel⟩
theorem ok__law_bent (T : Txt K mg) (B : TxtB mg base) (c__law_take : CalleeX Cl P w K mg base "_law_take" 1 2 F__law_take) : CalleeX Cl P w K mg base "_law_bent" 2 2 F__law_bent :=
  CalleeX.frz (fnX (k := 1) T.d__law_bent sc__law_bent (fun _ _ _ _ _ _ us hl => match us, hl with | [_, _], _ => rfl) fun f cdv A outer s H E hr =>
    (pdss_cons (pds_set (i := 2) nd_14 rfl (.inl rfl) (pd_fnX c__law_take (passes_x rfl xok_fn) hr (by decide) rfl (pda_cons (pd_var (i := 0) rfl (.inl rfl)) (pda_cons (pd_callB call_len cd_len rfl T.b_len bt_len (pda_cons (pd_var (i := 1) rfl (.inl rfl)) pda_nil se_name)) pda_nil se_call) se_name))) (pdss_cons (pds_set (i := 3) nd_14 rfl (.inl rfl) (pd_ix (pd_str [48, 49, 45, 50, 32, 120, 43] rfl) (pd_fnX c__law_take (passes_x rfl xok_fn) hr (by decide) rfl (pda_cons (pd_var (i := 0) rfl (.inl rfl)) (pda_cons pd_int pda_nil se_const) se_name)) (fun _ _ => rfl))) (pdss_cons (pds_set (i := 4) nd_14 rfl (.inl rfl) (pd_lstO (pda_cons (pd_add (pd_add (pd_sl (pd_var (i := 1) rfl (.inl rfl)) pdo_none (pdo_some (pd_var (i := 2) rfl (.inl rfl)))) (pd_var (i := 3) rfl (.inl rfl))) (pd_sl (pd_var (i := 1) rfl (.inl rfl)) (pdo_some (pd_add (pd_var (i := 2) rfl (.inl rfl)) pd_int)) pdo_none)) (pda_cons (pd_sl (pd_var (i := 1) rfl (.inl rfl)) (pdo_some pd_int) pdo_none) (pda_cons (pd_add (pd_var (i := 1) rfl (.inl rfl)) (pd_var (i := 3) rfl (.inl rfl))) (pda_cons (pd_add (pd_var (i := 1) rfl (.inl rfl)) (pd_str [32] rfl)) (pda_cons (pd_callTy (call_tupS rfl) cd_tupS rfl T.b_tuple bt_tuple (pda_cons (pd_var (i := 1) rfl (.inl rfl)) pda_nil se_name)) (pda_cons pd_non (pda_cons pd_int (pda_cons (pd_lst (pda_cons (pd_var (i := 1) rfl (.inl rfl)) pda_nil se_name)) pda_nil se_list) se_const) se_const) se_call) se_bin) se_bin) se_sub) se_bin))) (pdss_cons (pds_expr (pd_append (pd_var (i := 4) rfl (.inl rfl)) (pda_cons (pd_s0 PySem.F.slot_str_upper PySem.F.type_str_upper mt_upper gg_up (pd_var (i := 1) rfl (.inl rfl))) pda_nil se_call))) (pdss_one (pds_ret (pd_ix (pd_var (i := 4) rfl (.inl rfl)) (pd_fnX c__law_take (passes_x rfl xok_fn) hr (by decide) rfl (pda_cons (pd_var (i := 0) rfl (.inl rfl)) (pda_cons pd_int pda_nil se_const) se_name)) (fun _ _ => rfl)))))))))
/-! ### need_whole_within -/
def B_need_whole_within : DS :=
  (sIf (dNotT (dTru (dFn 3 F_is_whole_within (dCons (dVar 0) (dCons (dVar 1) (dCons (dVar 2) dNil)))))) (sRaise 0 (dCons (dJs [(dC (.str [111, 110, 108, 121, 32, 97, 32, 119, 104, 111, 108, 101, 32, 110, 117, 109, 98, 101, 114, 32, 102, 114, 111, 109, 32])), (dFmt (dVar 1)), (dC (.str [32, 116, 111, 32])), (dFmt (dVar 2)), (dC (.str [32, 105, 115, 32, 108, 101, 116, 32, 104, 101, 114, 101]))]) dNil)) sNil)
def F_need_whole_within : List D → Ow → R D := (runF 3 B_need_whole_within)
theorem sc_need_whole_within : FnScope ["thing", "least", "most"] ["thing", "least", "most"] (defScope (top 15)) := ⟨rfl, rfl, rfl, by decide +kernel, rfl, by decide +kernel, by decide +kernel⟩
theorem ok_need_whole_within (T : Txt K mg) (B : TxtB mg base) (c_is_whole_within : CalleeX Cl P w K mg base "is_whole_within" 2 3 F_is_whole_within) : CalleeX Cl P w K mg base "need_whole_within" 3 3 F_need_whole_within :=
  CalleeX.self (fnX (k := 2) T.d_need_whole_within sc_need_whole_within (fun _ _ _ _ _ _ us hl => match us, hl with | [_, _, _], _ => rfl) fun f cdv A outer s H E hr =>
    (pdss_one (pds_if (pdt_not (pdt_tru (pd_fnX c_is_whole_within (passes_x rfl xok_fn) hr (by decide) rfl (pda_cons (pd_var (i := 0) rfl (.inl rfl)) (pda_cons (pd_var (i := 1) rfl (.inl rfl)) (pda_cons (pd_var (i := 2) rfl (.inl rfl)) pda_nil se_name) se_name) se_name)) (fun _ => rfl))) (pdss_one (pds_raise (c := 0) xok_fn rfl rfl B.o_NoNumber rfl rfl (pda_cons (pd_joined (.cons (pd_str [111, 110, 108, 121, 32, 97, 32, 119, 104, 111, 108, 101, 32, 110, 117, 109, 98, 101, 114, 32, 102, 114, 111, 109, 32] rfl) (.cons (pd_fmt (pd_var (i := 1) rfl (.inl rfl))) (.cons (pd_str [32, 116, 111, 32] rfl) (.cons (pd_fmt (pd_var (i := 2) rfl (.inl rfl))) (.cons (pd_str [32, 105, 115, 32, 108, 101, 116, 32, 104, 101, 114, 101] rfl) .nil)))))) pda_nil))) pdss_nil)))
/-! ### need_switches -/
def B_need_switches : DS :=
  (sDrop (dFn 3 F_need_whole_within (dCons (dVar 0) (dCons (dC (.int 1)) (dCons (dC (.int 4)) dNil)))))
def F_need_switches : List D → Ow → R D := (runF 1 B_need_switches)
theorem sc_need_switches : FnScope ["n"] ["n"] (defScope (top 16)) := ⟨rfl, rfl, rfl, by decide +kernel, rfl, by decide +kernel, by decide +kernel⟩
theorem ok_need_switches (T : Txt K mg) (B : TxtB mg base) (c_need_whole_within : CalleeX Cl P w K mg base "need_whole_within" 3 3 F_need_whole_within) : CalleeX Cl P w K mg base "need_switches" 4 1 F_need_switches :=
  CalleeX.self (fnX (k := 3) T.d_need_switches sc_need_switches (fun _ _ _ _ _ _ us hl => match us, hl with | [_], _ => rfl) fun f cdv A outer s H E hr =>
    (pdss_one (pds_expr (pd_fnX c_need_whole_within (passes_x rfl xok_fn) hr (by decide) rfl (pda_cons (pd_var (i := 0) rfl (.inl rfl)) (pda_cons pd_int (pda_cons (pd_gint T.i_MOST_SWITCHES) pda_nil se_name) se_const) se_name)))))
/-! ### is_term -/
def B_is_term : DS :=
  (sSeq (sDrop (dFn 1 F_need_switches (dCons (dVar 0) dNil))) (sRet (dFn 2 F_has_term_signs (dCons (dVar 0) (dCons (dVar 1) dNil)))))
def F_is_term : List D → Ow → R D := (runF 2 B_is_term)
theorem sc_is_term : FnScope ["n", "thing"] ["n", "thing"] (defScope (top 20)) := ⟨rfl, rfl, rfl, by decide +kernel, rfl, by decide +kernel, by decide +kernel⟩
theorem ok_is_term (T : Txt K mg) (B : TxtB mg base) (c_has_term_signs : CalleeX Cl P w K mg base "has_term_signs" 1 2 F_has_term_signs) (c_need_switches : CalleeX Cl P w K mg base "need_switches" 4 1 F_need_switches) : CalleeX Cl P w K mg base "is_term" 5 2 F_is_term :=
  CalleeX.self (fnX (k := 4) T.d_is_term sc_is_term (fun _ _ _ _ _ _ us hl => match us, hl with | [_, _], _ => rfl) fun f cdv A outer s H E hr =>
    (pdss_cons (pds_expr (pd_fnX c_need_switches (passes_x rfl xok_fn) hr (by decide) rfl (pda_cons (pd_var (i := 0) rfl (.inl rfl)) pda_nil se_name))) (pdss_one (pds_ret (pd_fnX c_has_term_signs (passes_x rfl xok_fn) hr (by decide) rfl (pda_cons (pd_var (i := 0) rfl (.inl rfl)) (pda_cons (pd_var (i := 1) rfl (.inl rfl)) pda_nil se_name) se_name))))))
/-! ### law -/
def B_law (Pt : Nat) : DS :=
  (sSeq (sFor (dRng1 (dCons (dCall fMax2 (dCons (dC (.int 1)) (dCons (dCall fMin2 (dCons (dCall fLen (dCons (dVar 0) dNil)) (dCons (dC (.int 10)) dNil))) dNil))) dNil)) (.one 1) (sSeq (sSet 2 (dFn 2 F__law_state (dCons (dVar 0) (dCons (dVar 1) dNil)))) (sSeq (sSet 3 (dOp fAdd (dC (.int 1)) (dFn 2 F__law_take (dCons (dVar 2) (dCons (dC (.int 4)) dNil))))) (sSeq (sAsg (.two 4 5) (dTup (dCons (dFn 2 F__law_term (dCons (dVar 2) (dCons (dVar 3) dNil))) (dCons (dFn 2 F__law_term (dCons (dVar 2) (dCons (dVar 3) dNil))) dNil)))) (sSeq (sFor (dIt (dLst (dCons (dVar 4) (dCons (dFn 2 F__law_bent (dCons (dVar 2) (dCons (dVar 4) dNil))) (dCons (dFn 2 F__law_bent (dCons (dVar 2) (dCons (dVar 4) dNil))) (dCons (dC (.str [])) dNil)))))) (.one 6) (sIf (dNotT (dTru (dFn 2 F__law_same (dCons (dFn 2 F_is_term (dCons (dVar 3) (dCons (dVar 6) dNil))) (dCons (dFn 2 F__law_is_term (dCons (dVar 3) (dCons (dVar 6) dNil))) dNil))))) (sRet (dC (.bl false))) sNil)) (sSeq (sAsg (.two 7 8) (dTup (dCons (dFn 1 F__law_points (dCons (dVar 4) dNil)) (dCons (dFn 1 F__law_points (dCons (dVar 5) dNil)) dNil)))) (sSeq (sIf (dNotT (dTru (dFn 2 F__law_same (dCons (dFn 1 F_points_of (dCons (dVar 4) dNil)) (dCons (dVar 7) dNil))))) (sRet (dC (.bl false))) sNil) (sSeq (sIf (dNotT (dTru (dFn 2 F__law_same (dCons (dFn 2 F_lies_in (dCons (dVar 4) (dCons (dVar 5) dNil))) (dCons (dOp (fPy eqF) (dComp false 1 (dIt (dVar 7)) (.one 13) [(dTst (dOp fNin (dVar 13) (dVar 8)))] [] (dVar 13)) (dLst dNil)) dNil))))) (sRet (dC (.bl false))) sNil) (sSeq (sSet 9 (dComp false 1 (dIt (dVar 7)) (.one 13) [(dTst (dOp fIn (dVar 13) (dVar 8)))] [] (dVar 13))) (sSeq (sSet 10 (dFn 2 F_meet (dCons (dVar 4) (dCons (dVar 5) dNil)))) (sSeq (sIf (dTst (dOp (fPy neF) (dOp fIsN (dVar 10) (dC .non)) (dOp (fPy eqF) (dVar 9) (dLst dNil)))) (sRet (dC (.bl false))) sNil) (sSeq (sIf (dAndT (dTst (dOp fNotN (dVar 10) (dC .non))) (dOrT (dNotT (dTru (dFn 2 F__law_is_term (dCons (dVar 3) (dCons (dVar 10) dNil))))) (dTst (dOp (fPy neF) (dFn 1 F__law_points (dCons (dVar 10) dNil)) (dVar 9))))) (sRet (dC (.bl false))) sNil) (sSeq (sIf (dOrT (dTst (dOp fIsnB (dFn 2 F_lies_in (dCons (dVar 4) (dCons (dVar 4) dNil))) (dC (.bl true)))) (dOrT (dTst (dOp (fPy neF) (dFn 2 F_meet (dCons (dVar 4) (dCons (dVar 4) dNil))) (dVar 4))) (dTst (dOp fIsnB (dFn 2 F_lies_in (dCons (dVar 4) (dCons (dOp fMulS (dC (.str [45])) (dVar 3)) dNil))) (dC (.bl true)))))) (sRet (dC (.bl false))) sNil) (sSeq (sSet 11 (dOp fIx (dLst (dCons (dC (.int 0)) (dCons (dC (.int 5)) (dCons (dNeg (dC (.int 1))) (dCons (dC (.bl true)) (dCons (dC .non) (dCons (dC (.str [50])) (dCons (dTup (dCons (dC (.int 1)) dNil)) dNil)))))))) (dFn 2 F__law_take (dCons (dVar 2) (dCons (dC (.int 7)) dNil))))) (sIf (dTst (dOp (fPy neF) (dRefused Pt 12 Ca 4 1 (dFn 2 F_is_term (dCons (dVar 11) (dCons (dVar 4) dNil))) B_rest) (dLst (dCons (dC (.int 3)) dNil)))) (sRet (dC (.bl false))) sNil))))))))))))))) (sRet (dC (.bl true))))
def F_law (Pt : Nat) : List D → Ow → R D := runT 13 12 Pt (B_law Pt)
theorem sc_law : FnScope ["_law_script", "_law_k", "_law_state_here", "_law_n", "_law_one", "_law_other", "_law_thing", "_law_mine", "_law_theirs", "_law_both", "_law_found", "_law_bad", "<tab>"] ["_law_script"] (defScope (top 36)) := ⟨rfl, rfl, rfl, by decide +kernel, rfl, by decide +kernel, by decide +kernel⟩
theorem fn_law {f c Pt : Addr} {fd : FuncData} (hF : L2.Fun K "law" "law" (top 36) f fd) (hc : fd.code = .ref c) (T : Txt K mg) (B : TxtB mg base) (L : LamOk mg base c Pt) (c__law_bent : CalleeX Cl P w K mg base "_law_bent" 2 2 F__law_bent) (c__law_is_term : CalleeX Cl P w K mg base "_law_is_term" 1 2 F__law_is_term) (c__law_points : CalleeX Cl P w K mg base "_law_points" 2 1 F__law_points) (c__law_same : CalleeX Cl P w K mg base "_law_same" 5 2 F__law_same) (c__law_state : CalleeX Cl P w K mg base "_law_state" 2 2 F__law_state) (c__law_take : CalleeX Cl P w K mg base "_law_take" 1 2 F__law_take) (c__law_term : CalleeX Cl P w K mg base "_law_term" 2 2 F__law_term) (c_is_term : CalleeX Cl P w K mg base "is_term" 5 2 F_is_term) (c_lies_in : CalleeX Cl P w K mg base "lies_in" 1 2 F_lies_in) (c_meet : CalleeX Cl P w K mg base "meet" 1 2 F_meet) (c_points_of : CalleeX Cl P w K mg base "points_of" 2 1 F_points_of) : FnOk P w K mg base (CXr P w Cl) 8 f fd ["_law_script"] (DSpT K (Xk Cl) 1 Pt (F_law Pt)) :=
  fnT (k := 7) (i := 12) (z := "<tab>") hF hc sc_law rfl (visB (by kernel_rfl)) fun A outer s H E hr =>
    (pdss_cons (pds_for own_cxX rfl (pdi_range1 rfl T.b_range (pda_cons (pd_callB (call_max2 rfl) cd_max2 rfl T.b_max bt_max (pda_cons pd_int (pda_cons (pd_callB (call_min2 rfl) cd_min2 rfl T.b_min bt_min (pda_cons (pd_callB call_len cd_len rfl T.b_len bt_len (pda_cons (pd_var (i := 0) rfl (.inl rfl)) pda_nil se_name)) (pda_cons pd_int pda_nil se_const) se_call)) pda_nil se_call) se_const)) pda_nil se_call)) (pg_one (i := 1) nd_15 rfl (.inl rfl) (.inl rfl)) (pdss_cons (pds_set (i := 2) nd_15 rfl (.inl rfl) (pd_fnX c__law_state (passes_x rfl xok_fn) hr (by decide) rfl (pda_cons (pd_var (i := 0) rfl (.inl rfl)) (pda_cons (pd_var (i := 1) rfl (.inl rfl)) pda_nil se_name) se_name))) (pdss_cons (pds_set (i := 3) nd_15 rfl (.inl rfl) (pd_add pd_int (pd_fnX c__law_take (passes_x rfl xok_fn) hr (by decide) rfl (pda_cons (pd_var (i := 2) rfl (.inl rfl)) (pda_cons pd_int pda_nil se_const) se_name)))) (pdss_cons (pds_asg (pd_tup (pda_cons (pd_fnX c__law_term (passes_x rfl xok_fn) hr (by decide) rfl (pda_cons (pd_var (i := 2) rfl (.inl rfl)) (pda_cons (pd_var (i := 3) rfl (.inl rfl)) pda_nil se_name) se_name)) (pda_cons (pd_fnX c__law_term (passes_x rfl xok_fn) hr (by decide) rfl (pda_cons (pd_var (i := 2) rfl (.inl rfl)) (pda_cons (pd_var (i := 3) rfl (.inl rfl)) pda_nil se_name) se_name)) pda_nil se_call) se_call)) (pg_two (i := 4) (j := 5) rfl nd_15 rfl rfl (.inr rfl) (.inl rfl) (.inl rfl) (.inl rfl))) (pdss_cons (pds_for own_cxX rfl (pdi_seq (pd_lst (pda_cons (pd_var (i := 4) rfl (.inr (.inl rfl))) (pda_cons (pd_fnX c__law_bent (passes_x rfl xok_fn) hr (by decide) rfl (pda_cons (pd_var (i := 2) rfl (.inl rfl)) (pda_cons (pd_var (i := 4) rfl (.inr (.inl rfl))) pda_nil se_name) se_name)) (pda_cons (pd_fnX c__law_bent (passes_x rfl xok_fn) hr (by decide) rfl (pda_cons (pd_var (i := 2) rfl (.inl rfl)) (pda_cons (pd_var (i := 4) rfl (.inr (.inl rfl))) pda_nil se_name) se_name)) (pda_cons (pd_str [] rfl) pda_nil se_const) se_call) se_call) se_name))) (pg_one (i := 6) nd_15 rfl (.inl rfl) (.inl rfl)) (pdss_one (pds_if (pdt_not (pdt_tru (pd_fnX c__law_same (passes_x rfl xok_fn) hr (by decide) rfl (pda_cons (pd_fnX c_is_term (passes_x rfl xok_fn) hr (by decide) rfl (pda_cons (pd_var (i := 3) rfl (.inl rfl)) (pda_cons (pd_var (i := 6) rfl (.inl rfl)) pda_nil se_name) se_name)) (pda_cons (pd_fnX c__law_is_term (passes_x rfl xok_fn) hr (by decide) rfl (pda_cons (pd_var (i := 3) rfl (.inl rfl)) (pda_cons (pd_var (i := 6) rfl (.inl rfl)) pda_nil se_name) se_name)) pda_nil se_call) se_call)) (fun _ => rfl))) (pdss_one (pds_ret pd_bl)) pdss_nil))) (pdss_cons (pds_asg (pd_tup (pda_cons (pd_fnX c__law_points (passes_x rfl xok_fn) hr (by decide) rfl (pda_cons (pd_var (i := 4) rfl (.inr (.inl rfl))) pda_nil se_name)) (pda_cons (pd_fnX c__law_points (passes_x rfl xok_fn) hr (by decide) rfl (pda_cons (pd_var (i := 5) rfl (.inl rfl)) pda_nil se_name)) pda_nil se_call) se_call)) (pg_two (i := 7) (j := 8) rfl nd_15 rfl rfl (.inl rfl) (.inr rfl) (.inl rfl) (.inl rfl))) (pdss_cons (pds_if (pdt_not (pdt_tru (pd_fnX c__law_same (passes_x rfl xok_fn) hr (by decide) rfl (pda_cons (pd_fnX c_points_of (passes_x rfl xok_fn) hr (by decide) rfl (pda_cons (pd_var (i := 4) rfl (.inr (.inl rfl))) pda_nil se_name)) (pda_cons (pd_var (i := 7) rfl (.inl rfl)) pda_nil se_name) se_call)) (fun _ => rfl))) (pdss_one (pds_ret pd_bl)) pdss_nil) (pdss_cons (pds_if (pdt_not (pdt_tru (pd_fnX c__law_same (passes_x rfl xok_fn) hr (by decide) rfl (pda_cons (pd_fnX c_lies_in (passes_x rfl xok_fn) hr (by decide) rfl (pda_cons (pd_var (i := 4) rfl (.inr (.inl rfl))) (pda_cons (pd_var (i := 5) rfl (.inl rfl)) pda_nil se_name) se_name)) (pda_cons (pd_cmp (op_eqPy hr.units) opd_py (pd_comp false ["_law_point"] rfl (pdi_seq (pd_var (i := 7) rfl (.inl rfl))) (bok_of (by kernel_rfl)) (fun _ _ _ _ _ => ⟨(pg_one (i := 13) nd_16 rfl (.inl rfl) (.inr rfl)), (.cons (pdt_cmp (op_ninA hr.units) opd_nin (pd_var (i := 13) rfl (.inl rfl)) (pd_var (i := 8) rfl (.inr (.inl rfl))) rfl) .nil), .nil, (pd_var (i := 13) rfl (.inl rfl))⟩)) (pd_lst pda_nil) (nomark _)) pda_nil se_cmp) se_call)) (fun _ => rfl))) (pdss_one (pds_ret pd_bl)) pdss_nil) (pdss_cons (pds_setComp (i := 9) false ["_law_point"] rfl nd_15 rfl rfl (pdi_seq (pd_var (i := 7) rfl (.inl rfl))) (bok_of (by kernel_rfl)) (fun _ _ _ _ _ => ⟨(pg_one (i := 13) nd_16 rfl (.inl rfl) (.inr rfl)), (.cons (pdt_cmp (op_inA hr.units) opd_in (pd_var (i := 13) rfl (.inl rfl)) (pd_var (i := 8) rfl (.inr (.inl rfl))) rfl) .nil), .nil, (pd_var (i := 13) rfl (.inl rfl))⟩) rfl) (pdss_cons (pds_set (i := 10) nd_15 rfl (.inl rfl) (pd_fnX c_meet (passes_x rfl xok_fn) hr (by decide) rfl (pda_cons (pd_var (i := 4) rfl (.inr (.inl rfl))) (pda_cons (pd_var (i := 5) rfl (.inl rfl)) pda_nil se_name) se_name))) (pdss_cons (pds_if (pdt_cmp (op_nePy hr.units) opd_py (pd_cmp op_isN opd_isN (pd_var (i := 10) rfl (.inl rfl)) pd_non (nomark _)) (pd_cmp (op_eqPy hr.units) opd_py (pd_var (i := 9) rfl (.inl rfl)) (pd_lst pda_nil) (nomark _)) (nomark _)) (pdss_one (pds_ret pd_bl)) pdss_nil) (pdss_cons (pds_if (PDW.pt (pwd_and (pdt_cmp op_notN opd_notN (pd_var (i := 10) rfl (.inl rfl)) pd_non (nomark _)) (pwd_and1 (PDW.pt (pwd_or (pdt_not (pdt_tru (pd_fnX c__law_is_term (passes_x rfl xok_fn) hr (by decide) rfl (pda_cons (pd_var (i := 3) rfl (.inl rfl)) (pda_cons (pd_var (i := 10) rfl (.inl rfl)) pda_nil se_name) se_name)) (fun _ => rfl))) (pwd_or1 (pdt_cmp (op_nePy hr.units) opd_py (pd_fnX c__law_points (passes_x rfl xok_fn) hr (by decide) rfl (pda_cons (pd_var (i := 10) rfl (.inl rfl)) pda_nil se_name)) (pd_var (i := 9) rfl (.inl rfl)) (nomark _)))))))) (pdss_one (pds_ret pd_bl)) pdss_nil) (pdss_cons (pds_if (PDW.pt (pwd_or (pdt_cmp op_isnB opd_isnB (pd_fnX c_lies_in (passes_x rfl xok_fn) hr (by decide) rfl (pda_cons (pd_var (i := 4) rfl (.inr (.inl rfl))) (pda_cons (pd_var (i := 4) rfl (.inr (.inl rfl))) pda_nil se_name) se_name)) pd_bl (nomark _)) (pwd_or (pdt_cmp (op_nePy hr.units) opd_py (pd_fnX c_meet (passes_x rfl xok_fn) hr (by decide) rfl (pda_cons (pd_var (i := 4) rfl (.inr (.inl rfl))) (pda_cons (pd_var (i := 4) rfl (.inr (.inl rfl))) pda_nil se_name) se_name)) (pd_var (i := 4) rfl (.inr (.inl rfl))) (nomark _)) (pwd_or1 (pdt_cmp op_isnB opd_isnB (pd_fnX c_lies_in (passes_x rfl xok_fn) hr (by decide) rfl (pda_cons (pd_var (i := 4) rfl (.inr (.inl rfl))) (pda_cons (pd_op op_mulS opd_mulS (pd_str [45] rfl) (pd_var (i := 3) rfl (.inl rfl))) pda_nil se_bin) se_name)) pd_bl (nomark _)))))) (pdss_one (pds_ret pd_bl)) pdss_nil) (pdss_cons (pds_set (i := 11) nd_15 rfl (.inr rfl) (pd_ix (pd_lst (pda_cons pd_int (pda_cons pd_int (pda_cons (pd_neg pd_int) (pda_cons pd_bl (pda_cons pd_non (pda_cons (pd_str [50] rfl) (pda_cons (pd_tup (pda_cons pd_int pda_nil se_const)) pda_nil se_tuple) se_const) se_const) se_const) se_un) se_const) se_const)) (pd_fnX c__law_take (passes_x rfl xok_fn) hr (by decide) rfl (pda_cons (pd_var (i := 2) rfl (.inl rfl)) (pda_cons pd_int pda_nil se_const) se_name)) (fun _ _ => rfl))) (pdss_one (pds_if (pdt_cmp (op_nePy hr.units) opd_py (pd_ref (k := 5) T hr L rfl (lamS (by kernel_rfl)) rfl (fun _ _ _ _ _ _ => rfl) (fun q lam cd cl A outer s H E hr => (pd_fnX c_is_term (passes_x rfl xok_lam) hr (by decide) rfl (pda_cons (pd_var (i := 11) rfl (.inr (.inr rfl))) (pda_cons (pd_var (i := 4) rfl (.inr (.inr rfl))) pda_nil se_name) se_name))) rfl) (pd_lst (pda_cons pd_int pda_nil se_const)) (nomark _)) (pdss_one (pds_ret pd_bl)) pdss_nil)))))))))))))))) (pdss_one (pds_ret pd_bl)))
theorem ok_all {f c Pt : Addr} {fd : FuncData} (hF : L2.Fun K "law" "law" (top 36) f fd) (hc : fd.code = .ref c) (T : Txt K mg) (B : TxtB mg base) (L : LamOk mg base c Pt) : FnOk P w K mg base (CXr P w Cl) 8 f fd ["_law_script"] (DSpT K (Xk Cl) 1 Pt (F_law Pt)) :=
  have c_is_whole := ok_is_whole (P := P) (w := w) (base := base) T B
  have c_has_term_signs := ok_has_term_signs (P := P) (w := w) (base := base) T B
  have c_bits_of := ok_bits_of (P := P) (w := w) (base := base) T B
  have c_lies_in := ok_lies_in (P := P) (w := w) (base := base) T B
  have c_meet := ok_meet (P := P) (w := w) (base := base) T B
  have c__law_cell_at := ok__law_cell_at (P := P) (w := w) (base := base) T B
  have c__law_take := ok__law_take (P := P) (w := w) (base := base) T B
  have c__law_bits := ok__law_bits (P := P) (w := w) (base := base) T B
  have c__law_same := ok__law_same (P := P) (w := w) (base := base) T B
  have c__law_is_term := ok__law_is_term (P := P) (w := w) (base := base) T B
  have c_is_whole_within := ok_is_whole_within (P := P) (w := w) (base := base) T B c_is_whole
  have c_points_of := ok_points_of (P := P) (w := w) (base := base) T B c_bits_of
  have c__law_state := ok__law_state (P := P) (w := w) (base := base) T B c__law_cell_at
  have c__law_term := ok__law_term (P := P) (w := w) (base := base) T B c__law_take
  have c__law_points := ok__law_points (P := P) (w := w) (base := base) T B c__law_bits
  have c__law_bent := ok__law_bent (P := P) (w := w) (base := base) T B c__law_take
  have c_need_whole_within := ok_need_whole_within (P := P) (w := w) (base := base) T B c_is_whole_within
  have c_need_switches := ok_need_switches (P := P) (w := w) (base := base) T B c_need_whole_within
  have c_is_term := ok_is_term (P := P) (w := w) (base := base) T B c_has_term_signs c_need_switches
  fn_law hF hc T B L c__law_bent c__law_is_term c__law_points c__law_same c__law_state c__law_take c__law_term c_is_term c_lies_in c_meet c_points_of
end
theorem txt_mk {K : PySem.W.Frag} {h : Heap} {mg : Str → Option Value} (X : K.In h) (G : h.Ns mainGlobals mg)
    {f0 : Addr} {od0 an0 : Option Addr} {sl0 : Array (Option Value)} {oc0 kV0 dc0 pm0 ct0 : Value} {cd0 : Value} (a0 : PySem.W.nsIn K mainGlobals "is_whole" = some (some (.ref f0)))
    (l0 : K.lookup f0 = some ⟨oc0, od0, .func (PySem.W.fnOf "is_whole" "is_whole" (defArgs (top 13)) (defBody (top 13)) (defScope (top 13)) .none kV0 dc0 pm0 an0 cd0 ct0), sl0⟩) (q0 : PySem.W.codeIn K cd0 "is_whole" = true) (k0 : PySem.W.keepIn K (.ref f0) = true)
    {f1 : Addr} {od1 an1 : Option Addr} {sl1 : Array (Option Value)} {oc1 kV1 dc1 pm1 ct1 : Value} {cd1 : Value} (a1 : PySem.W.nsIn K mainGlobals "is_whole_within" = some (some (.ref f1)))
    (l1 : K.lookup f1 = some ⟨oc1, od1, .func (PySem.W.fnOf "is_whole_within" "is_whole_within" (defArgs (top 14)) (defBody (top 14)) (defScope (top 14)) .none kV1 dc1 pm1 an1 cd1 ct1), sl1⟩) (q1 : PySem.W.codeIn K cd1 "is_whole_within" = true) (k1 : PySem.W.keepIn K (.ref f1) = true)
    {f2 : Addr} {od2 an2 : Option Addr} {sl2 : Array (Option Value)} {oc2 kV2 dc2 pm2 ct2 : Value} {cd2 : Value} (a2 : PySem.W.nsIn K mainGlobals "need_whole_within" = some (some (.ref f2)))
    (l2 : K.lookup f2 = some ⟨oc2, od2, .func (PySem.W.fnOf "need_whole_within" "need_whole_within" (defArgs (top 15)) (defBody (top 15)) (defScope (top 15)) .none kV2 dc2 pm2 an2 cd2 ct2), sl2⟩) (q2 : PySem.W.codeIn K cd2 "need_whole_within" = true) (k2 : PySem.W.keepIn K (.ref f2) = true)
    {f3 : Addr} {od3 an3 : Option Addr} {sl3 : Array (Option Value)} {oc3 kV3 dc3 pm3 ct3 : Value} {cd3 : Value} (a3 : PySem.W.nsIn K mainGlobals "need_switches" = some (some (.ref f3)))
    (l3 : K.lookup f3 = some ⟨oc3, od3, .func (PySem.W.fnOf "need_switches" "need_switches" (defArgs (top 16)) (defBody (top 16)) (defScope (top 16)) .none kV3 dc3 pm3 an3 cd3 ct3), sl3⟩) (q3 : PySem.W.codeIn K cd3 "need_switches" = true) (k3 : PySem.W.keepIn K (.ref f3) = true)
    {f4 : Addr} {od4 an4 : Option Addr} {sl4 : Array (Option Value)} {oc4 kV4 dc4 pm4 ct4 : Value} {cd4 : Value} (a4 : PySem.W.nsIn K mainGlobals "has_term_signs" = some (some (.ref f4)))
    (l4 : K.lookup f4 = some ⟨oc4, od4, .func (PySem.W.fnOf "has_term_signs" "has_term_signs" (defArgs (top 19)) (defBody (top 19)) (defScope (top 19)) .none kV4 dc4 pm4 an4 cd4 ct4), sl4⟩) (q4 : PySem.W.codeIn K cd4 "has_term_signs" = true) (k4 : PySem.W.keepIn K (.ref f4) = true)
    {f5 : Addr} {od5 an5 : Option Addr} {sl5 : Array (Option Value)} {oc5 kV5 dc5 pm5 ct5 : Value} {cd5 : Value} (a5 : PySem.W.nsIn K mainGlobals "is_term" = some (some (.ref f5)))
    (l5 : K.lookup f5 = some ⟨oc5, od5, .func (PySem.W.fnOf "is_term" "is_term" (defArgs (top 20)) (defBody (top 20)) (defScope (top 20)) .none kV5 dc5 pm5 an5 cd5 ct5), sl5⟩) (q5 : PySem.W.codeIn K cd5 "is_term" = true) (k5 : PySem.W.keepIn K (.ref f5) = true)
    {f6 : Addr} {od6 an6 : Option Addr} {sl6 : Array (Option Value)} {oc6 kV6 dc6 pm6 ct6 : Value} {cd6 : Value} (a6 : PySem.W.nsIn K mainGlobals "bits_of" = some (some (.ref f6)))
    (l6 : K.lookup f6 = some ⟨oc6, od6, .func (PySem.W.fnOf "bits_of" "bits_of" (defArgs (top 21)) (defBody (top 21)) (defScope (top 21)) .none kV6 dc6 pm6 an6 cd6 ct6), sl6⟩) (q6 : PySem.W.codeIn K cd6 "bits_of" = true) (k6 : PySem.W.keepIn K (.ref f6) = true)
    {f7 : Addr} {od7 an7 : Option Addr} {sl7 : Array (Option Value)} {oc7 kV7 dc7 pm7 ct7 : Value} {cd7 : Value} (a7 : PySem.W.nsIn K mainGlobals "points_of" = some (some (.ref f7)))
    (l7 : K.lookup f7 = some ⟨oc7, od7, .func (PySem.W.fnOf "points_of" "points_of" (defArgs (top 22)) (defBody (top 22)) (defScope (top 22)) .none kV7 dc7 pm7 an7 cd7 ct7), sl7⟩) (q7 : PySem.W.codeIn K cd7 "points_of" = true) (k7 : PySem.W.keepIn K (.ref f7) = true)
    {f8 : Addr} {od8 an8 : Option Addr} {sl8 : Array (Option Value)} {oc8 kV8 dc8 pm8 ct8 : Value} {cd8 : Value} (a8 : PySem.W.nsIn K mainGlobals "lies_in" = some (some (.ref f8)))
    (l8 : K.lookup f8 = some ⟨oc8, od8, .func (PySem.W.fnOf "lies_in" "lies_in" (defArgs (top 23)) (defBody (top 23)) (defScope (top 23)) .none kV8 dc8 pm8 an8 cd8 ct8), sl8⟩) (q8 : PySem.W.codeIn K cd8 "lies_in" = true) (k8 : PySem.W.keepIn K (.ref f8) = true)
    {f9 : Addr} {od9 an9 : Option Addr} {sl9 : Array (Option Value)} {oc9 kV9 dc9 pm9 ct9 : Value} {cd9 : Value} (a9 : PySem.W.nsIn K mainGlobals "meet" = some (some (.ref f9)))
    (l9 : K.lookup f9 = some ⟨oc9, od9, .func (PySem.W.fnOf "meet" "meet" (defArgs (top 24)) (defBody (top 24)) (defScope (top 24)) .none kV9 dc9 pm9 an9 cd9 ct9), sl9⟩) (q9 : PySem.W.codeIn K cd9 "meet" = true) (k9 : PySem.W.keepIn K (.ref f9) = true)
    {f10 : Addr} {od10 an10 : Option Addr} {sl10 : Array (Option Value)} {oc10 kV10 dc10 pm10 ct10 : Value} {cd10 : Value} (a10 : PySem.W.nsIn K mainGlobals "_law_cell_at" = some (some (.ref f10)))
    (l10 : K.lookup f10 = some ⟨oc10, od10, .func (PySem.W.fnOf "_law_cell_at" "_law_cell_at" (defArgs (top 26)) (defBody (top 26)) (defScope (top 26)) .none kV10 dc10 pm10 an10 cd10 ct10), sl10⟩) (q10 : PySem.W.codeIn K cd10 "_law_cell_at" = true) (k10 : PySem.W.keepIn K (.ref f10) = true)
    {f11 : Addr} {od11 an11 : Option Addr} {sl11 : Array (Option Value)} {oc11 kV11 dc11 pm11 ct11 : Value} {cd11 : Value} (a11 : PySem.W.nsIn K mainGlobals "_law_state" = some (some (.ref f11)))
    (l11 : K.lookup f11 = some ⟨oc11, od11, .func (PySem.W.fnOf "_law_state" "_law_state" (defArgs (top 27)) (defBody (top 27)) (defScope (top 27)) .none kV11 dc11 pm11 an11 cd11 ct11), sl11⟩) (q11 : PySem.W.codeIn K cd11 "_law_state" = true) (k11 : PySem.W.keepIn K (.ref f11) = true)
    {f12 : Addr} {od12 an12 : Option Addr} {sl12 : Array (Option Value)} {oc12 kV12 dc12 pm12 ct12 : Value} {cd12 : Value} (a12 : PySem.W.nsIn K mainGlobals "_law_take" = some (some (.ref f12)))
    (l12 : K.lookup f12 = some ⟨oc12, od12, .func (PySem.W.fnOf "_law_take" "_law_take" (defArgs (top 28)) (defBody (top 28)) (defScope (top 28)) .none kV12 dc12 pm12 an12 cd12 ct12), sl12⟩) (q12 : PySem.W.codeIn K cd12 "_law_take" = true) (k12 : PySem.W.keepIn K (.ref f12) = true)
    {f13 : Addr} {od13 an13 : Option Addr} {sl13 : Array (Option Value)} {oc13 kV13 dc13 pm13 ct13 : Value} {cd13 : Value} (a13 : PySem.W.nsIn K mainGlobals "_law_term" = some (some (.ref f13)))
    (l13 : K.lookup f13 = some ⟨oc13, od13, .func (PySem.W.fnOf "_law_term" "_law_term" (defArgs (top 29)) (defBody (top 29)) (defScope (top 29)) .none kV13 dc13 pm13 an13 cd13 ct13), sl13⟩) (q13 : PySem.W.codeIn K cd13 "_law_term" = true) (k13 : PySem.W.keepIn K (.ref f13) = true)
    {f14 : Addr} {od14 an14 : Option Addr} {sl14 : Array (Option Value)} {oc14 kV14 dc14 pm14 ct14 : Value} {cd14 : Value} (a14 : PySem.W.nsIn K mainGlobals "_law_bits" = some (some (.ref f14)))
    (l14 : K.lookup f14 = some ⟨oc14, od14, .func (PySem.W.fnOf "_law_bits" "_law_bits" (defArgs (top 30)) (defBody (top 30)) (defScope (top 30)) .none kV14 dc14 pm14 an14 cd14 ct14), sl14⟩) (q14 : PySem.W.codeIn K cd14 "_law_bits" = true) (k14 : PySem.W.keepIn K (.ref f14) = true)
    {f15 : Addr} {od15 an15 : Option Addr} {sl15 : Array (Option Value)} {oc15 kV15 dc15 pm15 ct15 : Value} {cd15 : Value} (a15 : PySem.W.nsIn K mainGlobals "_law_points" = some (some (.ref f15)))
    (l15 : K.lookup f15 = some ⟨oc15, od15, .func (PySem.W.fnOf "_law_points" "_law_points" (defArgs (top 31)) (defBody (top 31)) (defScope (top 31)) .none kV15 dc15 pm15 an15 cd15 ct15), sl15⟩) (q15 : PySem.W.codeIn K cd15 "_law_points" = true) (k15 : PySem.W.keepIn K (.ref f15) = true)
    {f16 : Addr} {od16 an16 : Option Addr} {sl16 : Array (Option Value)} {oc16 kV16 dc16 pm16 ct16 : Value} {cd16 : Value} (a16 : PySem.W.nsIn K mainGlobals "_law_same" = some (some (.ref f16)))
    (l16 : K.lookup f16 = some ⟨oc16, od16, .func (PySem.W.fnOf "_law_same" "_law_same" (defArgs (top 32)) (defBody (top 32)) (defScope (top 32)) .none kV16 dc16 pm16 an16 cd16 ct16), sl16⟩) (q16 : PySem.W.codeIn K cd16 "_law_same" = true) (k16 : PySem.W.keepIn K (.ref f16) = true)
    {f17 : Addr} {od17 an17 : Option Addr} {sl17 : Array (Option Value)} {oc17 kV17 dc17 pm17 ct17 : Value} {cd17 : Value} (a17 : PySem.W.nsIn K mainGlobals "_law_refused" = some (some (.ref f17)))
    (l17 : K.lookup f17 = some ⟨oc17, od17, .func (PySem.W.fnOf "_law_refused" "_law_refused" (defArgs (top 33)) (defBody (top 33)) (defScope (top 33)) .none kV17 dc17 pm17 an17 cd17 ct17), sl17⟩) (q17 : PySem.W.codeIn K cd17 "_law_refused" = true) (k17 : PySem.W.keepIn K (.ref f17) = true)
    {f18 : Addr} {od18 an18 : Option Addr} {sl18 : Array (Option Value)} {oc18 kV18 dc18 pm18 ct18 : Value} {cd18 : Value} (a18 : PySem.W.nsIn K mainGlobals "_law_is_term" = some (some (.ref f18)))
    (l18 : K.lookup f18 = some ⟨oc18, od18, .func (PySem.W.fnOf "_law_is_term" "_law_is_term" (defArgs (top 34)) (defBody (top 34)) (defScope (top 34)) .none kV18 dc18 pm18 an18 cd18 ct18), sl18⟩) (q18 : PySem.W.codeIn K cd18 "_law_is_term" = true) (k18 : PySem.W.keepIn K (.ref f18) = true)
    {f19 : Addr} {od19 an19 : Option Addr} {sl19 : Array (Option Value)} {oc19 kV19 dc19 pm19 ct19 : Value} {cd19 : Value} (a19 : PySem.W.nsIn K mainGlobals "_law_bent" = some (some (.ref f19)))
    (l19 : K.lookup f19 = some ⟨oc19, od19, .func (PySem.W.fnOf "_law_bent" "_law_bent" (defArgs (top 35)) (defBody (top 35)) (defScope (top 35)) .none kV19 dc19 pm19 an19 cd19 ct19), sl19⟩) (q19 : PySem.W.codeIn K cd19 "_law_bent" = true) (k19 : PySem.W.keepIn K (.ref f19) = true)
    {f20 : Addr} {od20 an20 : Option Addr} {sl20 : Array (Option Value)} {oc20 kV20 dc20 pm20 ct20 : Value} {cd20 : Addr} (a20 : PySem.W.nsIn K mainGlobals "law" = some (some (.ref f20)))
    (l20 : K.lookup f20 = some ⟨oc20, od20, .func (PySem.W.fnOf "law" "law" (defArgs (top 36)) (defBody (top 36)) (defScope (top 36)) .none kV20 dc20 pm20 an20 (.ref cd20) ct20), sl20⟩) (q20 : PySem.W.codeIn K (.ref cd20) "law" = true) (k20 : PySem.W.keepIn K (.ref f20) = true)
    (z_ValueError : PySem.W.nsIn K mainGlobals "ValueError" = some none)
    (z_all : PySem.W.nsIn K mainGlobals "all" = some none)
    (z_bool : PySem.W.nsIn K mainGlobals "bool" = some none)
    (z_int : PySem.W.nsIn K mainGlobals "int" = some none)
    (z_isinstance : PySem.W.nsIn K mainGlobals "isinstance" = some none)
    (z_len : PySem.W.nsIn K mainGlobals "len" = some none)
    (z_list : PySem.W.nsIn K mainGlobals "list" = some none)
    (z_max : PySem.W.nsIn K mainGlobals "max" = some none)
    (z_min : PySem.W.nsIn K mainGlobals "min" = some none)
    (z_range : PySem.W.nsIn K mainGlobals "range" = some none)
    (z_str : PySem.W.nsIn K mainGlobals "str" = some none)
    (z_tuple : PySem.W.nsIn K mainGlobals "tuple" = some none)
    (z_zip : PySem.W.nsIn K mainGlobals "zip" = some none)
    {t_SIGNS : Tok} (s_SIGNS : PySem.W.nsIn K mainGlobals "SIGNS" = some (some (.str ⟨([45, 48, 49] : List Nat).toArray⟩ t_SIGNS)))
    {t_MOST_SWITCHES : Tok} (s_MOST_SWITCHES : PySem.W.nsIn K mainGlobals "MOST_SWITCHES" = some (some (.int 4 t_MOST_SWITCHES)))
    (xg_NoFunction : PySem.W.nsIn K mainGlobals "NoFunction" = some (some (.ref 37)))
    (xg_NoTerm : PySem.W.nsIn K mainGlobals "NoTerm" = some (some (.ref 49)))
    (xg_NoPoint : PySem.W.nsIn K mainGlobals "NoPoint" = some (some (.ref 61)))
    (xg_NoNumber : PySem.W.nsIn K mainGlobals "NoNumber" = some (some (.ref 73)))
    (xg_NoForm : PySem.W.nsIn K mainGlobals "NoForm" = some (some (.ref 85)))
    (xg_NoChange : PySem.W.nsIn K mainGlobals "NoChange" = some (some (.ref 97)))
    (xg_NoText : PySem.W.nsIn K mainGlobals "NoText" = some (some (.ref 109)))
    (xg_NoLine : PySem.W.nsIn K mainGlobals "NoLine" = some (some (.ref 121)))
    (xg_NoDeed : PySem.W.nsIn K mainGlobals "NoDeed" = some (some (.ref 133)))
    (xg_TermError : PySem.W.nsIn K mainGlobals "TermError" = some (some (.ref 24)))
    (xn_NoFunction : PySem.W.kitOne K (.type "NoneType") (.ref 37) = some false)
    (xn_NoTerm : PySem.W.kitOne K (.type "NoneType") (.ref 49) = some false)
    (xn_NoPoint : PySem.W.kitOne K (.type "NoneType") (.ref 61) = some false)
    (xn_NoNumber : PySem.W.kitOne K (.type "NoneType") (.ref 73) = some false)
    (xn_NoForm : PySem.W.kitOne K (.type "NoneType") (.ref 85) = some false)
    (xn_NoChange : PySem.W.kitOne K (.type "NoneType") (.ref 97) = some false)
    (xn_NoText : PySem.W.kitOne K (.type "NoneType") (.ref 109) = some false)
    (xn_NoLine : PySem.W.kitOne K (.type "NoneType") (.ref 121) = some false)
    (xn_NoDeed : PySem.W.kitOne K (.type "NoneType") (.ref 133) = some false)
    (xn_VE : PySem.W.kitOne K (.type "NoneType") (.type "ValueError") = some false)
    (xm_NoNumber : PySem.W.exmOne K (.ref 73) (.ref 24) = some true)
    (xk_NoNumber_NoFunction : PySem.W.kitOne K (.ref 73) (.ref 37) = some false)
    (xk_NoNumber_NoTerm : PySem.W.kitOne K (.ref 73) (.ref 49) = some false)
    (xk_NoNumber_NoPoint : PySem.W.kitOne K (.ref 73) (.ref 61) = some false)
    (xk_NoNumber_NoNumber : PySem.W.kitOne K (.ref 73) (.ref 73) = some true)
    (xk_NoNumber_NoForm : PySem.W.kitOne K (.ref 73) (.ref 85) = some false)
    (xk_NoNumber_NoChange : PySem.W.kitOne K (.ref 73) (.ref 97) = some false)
    (xk_NoNumber_NoText : PySem.W.kitOne K (.ref 73) (.ref 109) = some false)
    (xk_NoNumber_NoLine : PySem.W.kitOne K (.ref 73) (.ref 121) = some false)
    (xk_NoNumber_NoDeed : PySem.W.kitOne K (.ref 73) (.ref 133) = some false)
    (xk_NoNumber_VE : PySem.W.kitOne K (.ref 73) (.type "ValueError") = some true)
    {cd_NoNumber : ClassData}
    (yga_NoNumber : PySem.W.findIn K (.ref 73) "__getattribute__" = some (some (.builtin "BaseException.__getattribute__")))
    (ynh_NoNumber : PySem.W.findIn K (.ref 73) "__getattr__" = some none)
    (ycl_NoNumber : PySem.W.clsIn K 73 = some cd_NoNumber)
    (yat_NoNumber : PySem.W.findIn K (.ref 73) "__class__" = some (some (.builtin "object.__class__")))
    (ygt_NoNumber : PySem.W.specialIn K (.builtin "object.__class__") "__get__" = some (some (.builtin "getset_descriptor.__get__")))
    (ytk_NoNumber : PySem.W.takesIn K (.builtin "object.__class__") = some true)
    (yob_NoNumber : PySem.W.mroIn K 73 (.type "object") = some true)
    (ybx_NoNumber : PySem.W.mroIn K 73 (.type "BaseException") = some true)
    (yi_int_NoNumber : PySem.W.kitOne K (.ref 73) (.type "int") = some false)
    (yi_bool_NoNumber : PySem.W.kitOne K (.ref 73) (.type "bool") = some false)
    (yi_str_NoNumber : PySem.W.kitOne K (.ref 73) (.type "str") = some false)
    (yi_list_NoNumber : PySem.W.kitOne K (.ref 73) (.type "list") = some false)
    (yi_tuple_NoNumber : PySem.W.kitOne K (.ref 73) (.type "tuple") = some false)
    (yi_dict_NoNumber : PySem.W.kitOne K (.ref 73) (.type "dict") = some false)
    (yow_NoNumber : PySem.W.excIn K 73 bmVE "ValueError.__new__" = true)
    {Pt : Addr} {oc_t : Value} {od_t : Option Addr} {sl_t : Array (Option Value)} {vs_t : Array Value} (h4 : K.lookup cd20 = some ⟨oc_t, od_t, .fields vs_t, sl_t⟩) (h5 : vs_t[11]? = some (.ref Pt)) (hnt : PySem.W.noTabs K = true)
    : Txt K mg ∧ mg "law" = some (.ref f20) ∧ L2.Fun K "law" "law" (top 36) f20 (PySem.W.fnOf "law" "law" (defArgs (top 36)) (defBody (top 36)) (defScope (top 36)) .none kV20 dc20 pm20 an20 (.ref cd20) ct20) :=
  ⟨⟨⟨f0, _, PySem.W.mg_of X G a0, fun_mk l0 q0 k0⟩, ⟨f1, _, PySem.W.mg_of X G a1, fun_mk l1 q1 k1⟩, ⟨f2, _, PySem.W.mg_of X G a2, fun_mk l2 q2 k2⟩, ⟨f3, _, PySem.W.mg_of X G a3, fun_mk l3 q3 k3⟩, ⟨f4, _, PySem.W.mg_of X G a4, fun_mk l4 q4 k4⟩, ⟨f5, _, PySem.W.mg_of X G a5, fun_mk l5 q5 k5⟩, ⟨f6, _, PySem.W.mg_of X G a6, fun_mk l6 q6 k6⟩, ⟨f7, _, PySem.W.mg_of X G a7, fun_mk l7 q7 k7⟩, ⟨f8, _, PySem.W.mg_of X G a8, fun_mk l8 q8 k8⟩, ⟨f9, _, PySem.W.mg_of X G a9, fun_mk l9 q9 k9⟩, ⟨f10, _, PySem.W.mg_of X G a10, fun_mk l10 q10 k10⟩, ⟨f11, _, PySem.W.mg_of X G a11, fun_mk l11 q11 k11⟩, ⟨f12, _, PySem.W.mg_of X G a12, fun_mk l12 q12 k12⟩, ⟨f13, _, PySem.W.mg_of X G a13, fun_mk l13 q13 k13⟩, ⟨f14, _, PySem.W.mg_of X G a14, fun_mk l14 q14 k14⟩, ⟨f15, _, PySem.W.mg_of X G a15, fun_mk l15 q15 k15⟩, ⟨f16, _, PySem.W.mg_of X G a16, fun_mk l16 q16 k16⟩, ⟨f17, _, PySem.W.mg_of X G a17, fun_mk l17 q17 k17⟩, ⟨f18, _, PySem.W.mg_of X G a18, fun_mk l18 q18 k18⟩, ⟨f19, _, PySem.W.mg_of X G a19, fun_mk l19 q19 k19⟩, ⟨f20, _, PySem.W.mg_of X G a20, fun_mk l20 q20 k20⟩, PySem.W.mg_none_of X G z_ValueError, PySem.W.mg_none_of X G z_all, PySem.W.mg_none_of X G z_bool, PySem.W.mg_none_of X G z_int, PySem.W.mg_none_of X G z_isinstance, PySem.W.mg_none_of X G z_len, PySem.W.mg_none_of X G z_list, PySem.W.mg_none_of X G z_max, PySem.W.mg_none_of X G z_min, PySem.W.mg_none_of X G z_range, PySem.W.mg_none_of X G z_str, PySem.W.mg_none_of X G z_tuple, PySem.W.mg_none_of X G z_zip, ⟨_, PySem.W.mg_of X G s_SIGNS⟩, ⟨_, PySem.W.mg_of X G s_MOST_SWITCHES⟩, PySem.W.mg_of X G xg_NoFunction, PySem.W.mg_of X G xg_NoTerm, PySem.W.mg_of X G xg_NoPoint, PySem.W.mg_of X G xg_NoNumber, PySem.W.mg_of X G xg_NoForm, PySem.W.mg_of X G xg_NoChange, PySem.W.mg_of X G xg_NoText, PySem.W.mg_of X G xg_NoLine, PySem.W.mg_of X G xg_NoDeed, PySem.W.mg_of X G xg_TermError, xn_NoFunction, xn_NoTerm, xn_NoPoint, xn_NoNumber, xn_NoForm, xn_NoChange, xn_NoText, xn_NoLine, xn_NoDeed, xn_VE, xm_NoNumber, xk_NoNumber_NoFunction, xk_NoNumber_NoTerm, xk_NoNumber_NoPoint, xk_NoNumber_NoNumber, xk_NoNumber_NoForm, xk_NoNumber_NoChange, xk_NoNumber_NoText, xk_NoNumber_NoLine, xk_NoNumber_NoDeed, xk_NoNumber_VE, xck_of yga_NoNumber ynh_NoNumber ycl_NoNumber yat_NoNumber ygt_NoNumber ytk_NoNumber yob_NoNumber ybx_NoNumber yi_int_NoNumber yi_bool_NoNumber yi_str_NoNumber yi_list_NoNumber yi_tuple_NoNumber yi_dict_NoNumber⟩, PySem.W.mg_of X G a20, fun_mk l20 q20 k20⟩
theorem all_mk {P : Program} {w : World} {K : PySem.W.Frag} {h : Heap} {mg : Str → Option Value} {fa : Addr} (X : K.In h) (G : h.Ns mainGlobals mg) (hfa : mg "law" = some (.ref fa))
    {f0 : Addr} {od0 an0 : Option Addr} {sl0 : Array (Option Value)} {oc0 kV0 dc0 pm0 ct0 : Value} {cd0 : Value} (a0 : PySem.W.nsIn K mainGlobals "is_whole" = some (some (.ref f0)))
    (l0 : K.lookup f0 = some ⟨oc0, od0, .func (PySem.W.fnOf "is_whole" "is_whole" (defArgs (top 13)) (defBody (top 13)) (defScope (top 13)) .none kV0 dc0 pm0 an0 cd0 ct0), sl0⟩) (q0 : PySem.W.codeIn K cd0 "is_whole" = true) (k0 : PySem.W.keepIn K (.ref f0) = true)
    {f1 : Addr} {od1 an1 : Option Addr} {sl1 : Array (Option Value)} {oc1 kV1 dc1 pm1 ct1 : Value} {cd1 : Value} (a1 : PySem.W.nsIn K mainGlobals "is_whole_within" = some (some (.ref f1)))
    (l1 : K.lookup f1 = some ⟨oc1, od1, .func (PySem.W.fnOf "is_whole_within" "is_whole_within" (defArgs (top 14)) (defBody (top 14)) (defScope (top 14)) .none kV1 dc1 pm1 an1 cd1 ct1), sl1⟩) (q1 : PySem.W.codeIn K cd1 "is_whole_within" = true) (k1 : PySem.W.keepIn K (.ref f1) = true)
    {f2 : Addr} {od2 an2 : Option Addr} {sl2 : Array (Option Value)} {oc2 kV2 dc2 pm2 ct2 : Value} {cd2 : Value} (a2 : PySem.W.nsIn K mainGlobals "need_whole_within" = some (some (.ref f2)))
    (l2 : K.lookup f2 = some ⟨oc2, od2, .func (PySem.W.fnOf "need_whole_within" "need_whole_within" (defArgs (top 15)) (defBody (top 15)) (defScope (top 15)) .none kV2 dc2 pm2 an2 cd2 ct2), sl2⟩) (q2 : PySem.W.codeIn K cd2 "need_whole_within" = true) (k2 : PySem.W.keepIn K (.ref f2) = true)
    {f3 : Addr} {od3 an3 : Option Addr} {sl3 : Array (Option Value)} {oc3 kV3 dc3 pm3 ct3 : Value} {cd3 : Value} (a3 : PySem.W.nsIn K mainGlobals "need_switches" = some (some (.ref f3)))
    (l3 : K.lookup f3 = some ⟨oc3, od3, .func (PySem.W.fnOf "need_switches" "need_switches" (defArgs (top 16)) (defBody (top 16)) (defScope (top 16)) .none kV3 dc3 pm3 an3 cd3 ct3), sl3⟩) (q3 : PySem.W.codeIn K cd3 "need_switches" = true) (k3 : PySem.W.keepIn K (.ref f3) = true)
    {f4 : Addr} {od4 an4 : Option Addr} {sl4 : Array (Option Value)} {oc4 kV4 dc4 pm4 ct4 : Value} {cd4 : Value} (a4 : PySem.W.nsIn K mainGlobals "has_term_signs" = some (some (.ref f4)))
    (l4 : K.lookup f4 = some ⟨oc4, od4, .func (PySem.W.fnOf "has_term_signs" "has_term_signs" (defArgs (top 19)) (defBody (top 19)) (defScope (top 19)) .none kV4 dc4 pm4 an4 cd4 ct4), sl4⟩) (q4 : PySem.W.codeIn K cd4 "has_term_signs" = true) (k4 : PySem.W.keepIn K (.ref f4) = true)
    {f5 : Addr} {od5 an5 : Option Addr} {sl5 : Array (Option Value)} {oc5 kV5 dc5 pm5 ct5 : Value} {cd5 : Value} (a5 : PySem.W.nsIn K mainGlobals "is_term" = some (some (.ref f5)))
    (l5 : K.lookup f5 = some ⟨oc5, od5, .func (PySem.W.fnOf "is_term" "is_term" (defArgs (top 20)) (defBody (top 20)) (defScope (top 20)) .none kV5 dc5 pm5 an5 cd5 ct5), sl5⟩) (q5 : PySem.W.codeIn K cd5 "is_term" = true) (k5 : PySem.W.keepIn K (.ref f5) = true)
    {f6 : Addr} {od6 an6 : Option Addr} {sl6 : Array (Option Value)} {oc6 kV6 dc6 pm6 ct6 : Value} {cd6 : Value} (a6 : PySem.W.nsIn K mainGlobals "bits_of" = some (some (.ref f6)))
    (l6 : K.lookup f6 = some ⟨oc6, od6, .func (PySem.W.fnOf "bits_of" "bits_of" (defArgs (top 21)) (defBody (top 21)) (defScope (top 21)) .none kV6 dc6 pm6 an6 cd6 ct6), sl6⟩) (q6 : PySem.W.codeIn K cd6 "bits_of" = true) (k6 : PySem.W.keepIn K (.ref f6) = true)
    {f7 : Addr} {od7 an7 : Option Addr} {sl7 : Array (Option Value)} {oc7 kV7 dc7 pm7 ct7 : Value} {cd7 : Value} (a7 : PySem.W.nsIn K mainGlobals "points_of" = some (some (.ref f7)))
    (l7 : K.lookup f7 = some ⟨oc7, od7, .func (PySem.W.fnOf "points_of" "points_of" (defArgs (top 22)) (defBody (top 22)) (defScope (top 22)) .none kV7 dc7 pm7 an7 cd7 ct7), sl7⟩) (q7 : PySem.W.codeIn K cd7 "points_of" = true) (k7 : PySem.W.keepIn K (.ref f7) = true)
    {f8 : Addr} {od8 an8 : Option Addr} {sl8 : Array (Option Value)} {oc8 kV8 dc8 pm8 ct8 : Value} {cd8 : Value} (a8 : PySem.W.nsIn K mainGlobals "lies_in" = some (some (.ref f8)))
    (l8 : K.lookup f8 = some ⟨oc8, od8, .func (PySem.W.fnOf "lies_in" "lies_in" (defArgs (top 23)) (defBody (top 23)) (defScope (top 23)) .none kV8 dc8 pm8 an8 cd8 ct8), sl8⟩) (q8 : PySem.W.codeIn K cd8 "lies_in" = true) (k8 : PySem.W.keepIn K (.ref f8) = true)
    {f9 : Addr} {od9 an9 : Option Addr} {sl9 : Array (Option Value)} {oc9 kV9 dc9 pm9 ct9 : Value} {cd9 : Value} (a9 : PySem.W.nsIn K mainGlobals "meet" = some (some (.ref f9)))
    (l9 : K.lookup f9 = some ⟨oc9, od9, .func (PySem.W.fnOf "meet" "meet" (defArgs (top 24)) (defBody (top 24)) (defScope (top 24)) .none kV9 dc9 pm9 an9 cd9 ct9), sl9⟩) (q9 : PySem.W.codeIn K cd9 "meet" = true) (k9 : PySem.W.keepIn K (.ref f9) = true)
    {f10 : Addr} {od10 an10 : Option Addr} {sl10 : Array (Option Value)} {oc10 kV10 dc10 pm10 ct10 : Value} {cd10 : Value} (a10 : PySem.W.nsIn K mainGlobals "_law_cell_at" = some (some (.ref f10)))
    (l10 : K.lookup f10 = some ⟨oc10, od10, .func (PySem.W.fnOf "_law_cell_at" "_law_cell_at" (defArgs (top 26)) (defBody (top 26)) (defScope (top 26)) .none kV10 dc10 pm10 an10 cd10 ct10), sl10⟩) (q10 : PySem.W.codeIn K cd10 "_law_cell_at" = true) (k10 : PySem.W.keepIn K (.ref f10) = true)
    {f11 : Addr} {od11 an11 : Option Addr} {sl11 : Array (Option Value)} {oc11 kV11 dc11 pm11 ct11 : Value} {cd11 : Value} (a11 : PySem.W.nsIn K mainGlobals "_law_state" = some (some (.ref f11)))
    (l11 : K.lookup f11 = some ⟨oc11, od11, .func (PySem.W.fnOf "_law_state" "_law_state" (defArgs (top 27)) (defBody (top 27)) (defScope (top 27)) .none kV11 dc11 pm11 an11 cd11 ct11), sl11⟩) (q11 : PySem.W.codeIn K cd11 "_law_state" = true) (k11 : PySem.W.keepIn K (.ref f11) = true)
    {f12 : Addr} {od12 an12 : Option Addr} {sl12 : Array (Option Value)} {oc12 kV12 dc12 pm12 ct12 : Value} {cd12 : Value} (a12 : PySem.W.nsIn K mainGlobals "_law_take" = some (some (.ref f12)))
    (l12 : K.lookup f12 = some ⟨oc12, od12, .func (PySem.W.fnOf "_law_take" "_law_take" (defArgs (top 28)) (defBody (top 28)) (defScope (top 28)) .none kV12 dc12 pm12 an12 cd12 ct12), sl12⟩) (q12 : PySem.W.codeIn K cd12 "_law_take" = true) (k12 : PySem.W.keepIn K (.ref f12) = true)
    {f13 : Addr} {od13 an13 : Option Addr} {sl13 : Array (Option Value)} {oc13 kV13 dc13 pm13 ct13 : Value} {cd13 : Value} (a13 : PySem.W.nsIn K mainGlobals "_law_term" = some (some (.ref f13)))
    (l13 : K.lookup f13 = some ⟨oc13, od13, .func (PySem.W.fnOf "_law_term" "_law_term" (defArgs (top 29)) (defBody (top 29)) (defScope (top 29)) .none kV13 dc13 pm13 an13 cd13 ct13), sl13⟩) (q13 : PySem.W.codeIn K cd13 "_law_term" = true) (k13 : PySem.W.keepIn K (.ref f13) = true)
    {f14 : Addr} {od14 an14 : Option Addr} {sl14 : Array (Option Value)} {oc14 kV14 dc14 pm14 ct14 : Value} {cd14 : Value} (a14 : PySem.W.nsIn K mainGlobals "_law_bits" = some (some (.ref f14)))
    (l14 : K.lookup f14 = some ⟨oc14, od14, .func (PySem.W.fnOf "_law_bits" "_law_bits" (defArgs (top 30)) (defBody (top 30)) (defScope (top 30)) .none kV14 dc14 pm14 an14 cd14 ct14), sl14⟩) (q14 : PySem.W.codeIn K cd14 "_law_bits" = true) (k14 : PySem.W.keepIn K (.ref f14) = true)
    {f15 : Addr} {od15 an15 : Option Addr} {sl15 : Array (Option Value)} {oc15 kV15 dc15 pm15 ct15 : Value} {cd15 : Value} (a15 : PySem.W.nsIn K mainGlobals "_law_points" = some (some (.ref f15)))
    (l15 : K.lookup f15 = some ⟨oc15, od15, .func (PySem.W.fnOf "_law_points" "_law_points" (defArgs (top 31)) (defBody (top 31)) (defScope (top 31)) .none kV15 dc15 pm15 an15 cd15 ct15), sl15⟩) (q15 : PySem.W.codeIn K cd15 "_law_points" = true) (k15 : PySem.W.keepIn K (.ref f15) = true)
    {f16 : Addr} {od16 an16 : Option Addr} {sl16 : Array (Option Value)} {oc16 kV16 dc16 pm16 ct16 : Value} {cd16 : Value} (a16 : PySem.W.nsIn K mainGlobals "_law_same" = some (some (.ref f16)))
    (l16 : K.lookup f16 = some ⟨oc16, od16, .func (PySem.W.fnOf "_law_same" "_law_same" (defArgs (top 32)) (defBody (top 32)) (defScope (top 32)) .none kV16 dc16 pm16 an16 cd16 ct16), sl16⟩) (q16 : PySem.W.codeIn K cd16 "_law_same" = true) (k16 : PySem.W.keepIn K (.ref f16) = true)
    {f17 : Addr} {od17 an17 : Option Addr} {sl17 : Array (Option Value)} {oc17 kV17 dc17 pm17 ct17 : Value} {cd17 : Value} (a17 : PySem.W.nsIn K mainGlobals "_law_refused" = some (some (.ref f17)))
    (l17 : K.lookup f17 = some ⟨oc17, od17, .func (PySem.W.fnOf "_law_refused" "_law_refused" (defArgs (top 33)) (defBody (top 33)) (defScope (top 33)) .none kV17 dc17 pm17 an17 cd17 ct17), sl17⟩) (q17 : PySem.W.codeIn K cd17 "_law_refused" = true) (k17 : PySem.W.keepIn K (.ref f17) = true)
    {f18 : Addr} {od18 an18 : Option Addr} {sl18 : Array (Option Value)} {oc18 kV18 dc18 pm18 ct18 : Value} {cd18 : Value} (a18 : PySem.W.nsIn K mainGlobals "_law_is_term" = some (some (.ref f18)))
    (l18 : K.lookup f18 = some ⟨oc18, od18, .func (PySem.W.fnOf "_law_is_term" "_law_is_term" (defArgs (top 34)) (defBody (top 34)) (defScope (top 34)) .none kV18 dc18 pm18 an18 cd18 ct18), sl18⟩) (q18 : PySem.W.codeIn K cd18 "_law_is_term" = true) (k18 : PySem.W.keepIn K (.ref f18) = true)
    {f19 : Addr} {od19 an19 : Option Addr} {sl19 : Array (Option Value)} {oc19 kV19 dc19 pm19 ct19 : Value} {cd19 : Value} (a19 : PySem.W.nsIn K mainGlobals "_law_bent" = some (some (.ref f19)))
    (l19 : K.lookup f19 = some ⟨oc19, od19, .func (PySem.W.fnOf "_law_bent" "_law_bent" (defArgs (top 35)) (defBody (top 35)) (defScope (top 35)) .none kV19 dc19 pm19 an19 cd19 ct19), sl19⟩) (q19 : PySem.W.codeIn K cd19 "_law_bent" = true) (k19 : PySem.W.keepIn K (.ref f19) = true)
    {f20 : Addr} {od20 an20 : Option Addr} {sl20 : Array (Option Value)} {oc20 kV20 dc20 pm20 ct20 : Value} {cd20 : Addr} (a20 : PySem.W.nsIn K mainGlobals "law" = some (some (.ref f20)))
    (l20 : K.lookup f20 = some ⟨oc20, od20, .func (PySem.W.fnOf "law" "law" (defArgs (top 36)) (defBody (top 36)) (defScope (top 36)) .none kV20 dc20 pm20 an20 (.ref cd20) ct20), sl20⟩) (q20 : PySem.W.codeIn K (.ref cd20) "law" = true) (k20 : PySem.W.keepIn K (.ref f20) = true)
    (z_ValueError : PySem.W.nsIn K mainGlobals "ValueError" = some none)
    (z_all : PySem.W.nsIn K mainGlobals "all" = some none)
    (z_bool : PySem.W.nsIn K mainGlobals "bool" = some none)
    (z_int : PySem.W.nsIn K mainGlobals "int" = some none)
    (z_isinstance : PySem.W.nsIn K mainGlobals "isinstance" = some none)
    (z_len : PySem.W.nsIn K mainGlobals "len" = some none)
    (z_list : PySem.W.nsIn K mainGlobals "list" = some none)
    (z_max : PySem.W.nsIn K mainGlobals "max" = some none)
    (z_min : PySem.W.nsIn K mainGlobals "min" = some none)
    (z_range : PySem.W.nsIn K mainGlobals "range" = some none)
    (z_str : PySem.W.nsIn K mainGlobals "str" = some none)
    (z_tuple : PySem.W.nsIn K mainGlobals "tuple" = some none)
    (z_zip : PySem.W.nsIn K mainGlobals "zip" = some none)
    {t_SIGNS : Tok} (s_SIGNS : PySem.W.nsIn K mainGlobals "SIGNS" = some (some (.str ⟨([45, 48, 49] : List Nat).toArray⟩ t_SIGNS)))
    {t_MOST_SWITCHES : Tok} (s_MOST_SWITCHES : PySem.W.nsIn K mainGlobals "MOST_SWITCHES" = some (some (.int 4 t_MOST_SWITCHES)))
    (xg_NoFunction : PySem.W.nsIn K mainGlobals "NoFunction" = some (some (.ref 37)))
    (xg_NoTerm : PySem.W.nsIn K mainGlobals "NoTerm" = some (some (.ref 49)))
    (xg_NoPoint : PySem.W.nsIn K mainGlobals "NoPoint" = some (some (.ref 61)))
    (xg_NoNumber : PySem.W.nsIn K mainGlobals "NoNumber" = some (some (.ref 73)))
    (xg_NoForm : PySem.W.nsIn K mainGlobals "NoForm" = some (some (.ref 85)))
    (xg_NoChange : PySem.W.nsIn K mainGlobals "NoChange" = some (some (.ref 97)))
    (xg_NoText : PySem.W.nsIn K mainGlobals "NoText" = some (some (.ref 109)))
    (xg_NoLine : PySem.W.nsIn K mainGlobals "NoLine" = some (some (.ref 121)))
    (xg_NoDeed : PySem.W.nsIn K mainGlobals "NoDeed" = some (some (.ref 133)))
    (xg_TermError : PySem.W.nsIn K mainGlobals "TermError" = some (some (.ref 24)))
    (xn_NoFunction : PySem.W.kitOne K (.type "NoneType") (.ref 37) = some false)
    (xn_NoTerm : PySem.W.kitOne K (.type "NoneType") (.ref 49) = some false)
    (xn_NoPoint : PySem.W.kitOne K (.type "NoneType") (.ref 61) = some false)
    (xn_NoNumber : PySem.W.kitOne K (.type "NoneType") (.ref 73) = some false)
    (xn_NoForm : PySem.W.kitOne K (.type "NoneType") (.ref 85) = some false)
    (xn_NoChange : PySem.W.kitOne K (.type "NoneType") (.ref 97) = some false)
    (xn_NoText : PySem.W.kitOne K (.type "NoneType") (.ref 109) = some false)
    (xn_NoLine : PySem.W.kitOne K (.type "NoneType") (.ref 121) = some false)
    (xn_NoDeed : PySem.W.kitOne K (.type "NoneType") (.ref 133) = some false)
    (xn_VE : PySem.W.kitOne K (.type "NoneType") (.type "ValueError") = some false)
    (xm_NoNumber : PySem.W.exmOne K (.ref 73) (.ref 24) = some true)
    (xk_NoNumber_NoFunction : PySem.W.kitOne K (.ref 73) (.ref 37) = some false)
    (xk_NoNumber_NoTerm : PySem.W.kitOne K (.ref 73) (.ref 49) = some false)
    (xk_NoNumber_NoPoint : PySem.W.kitOne K (.ref 73) (.ref 61) = some false)
    (xk_NoNumber_NoNumber : PySem.W.kitOne K (.ref 73) (.ref 73) = some true)
    (xk_NoNumber_NoForm : PySem.W.kitOne K (.ref 73) (.ref 85) = some false)
    (xk_NoNumber_NoChange : PySem.W.kitOne K (.ref 73) (.ref 97) = some false)
    (xk_NoNumber_NoText : PySem.W.kitOne K (.ref 73) (.ref 109) = some false)
    (xk_NoNumber_NoLine : PySem.W.kitOne K (.ref 73) (.ref 121) = some false)
    (xk_NoNumber_NoDeed : PySem.W.kitOne K (.ref 73) (.ref 133) = some false)
    (xk_NoNumber_VE : PySem.W.kitOne K (.ref 73) (.type "ValueError") = some true)
    {cd_NoNumber : ClassData}
    (yga_NoNumber : PySem.W.findIn K (.ref 73) "__getattribute__" = some (some (.builtin "BaseException.__getattribute__")))
    (ynh_NoNumber : PySem.W.findIn K (.ref 73) "__getattr__" = some none)
    (ycl_NoNumber : PySem.W.clsIn K 73 = some cd_NoNumber)
    (yat_NoNumber : PySem.W.findIn K (.ref 73) "__class__" = some (some (.builtin "object.__class__")))
    (ygt_NoNumber : PySem.W.specialIn K (.builtin "object.__class__") "__get__" = some (some (.builtin "getset_descriptor.__get__")))
    (ytk_NoNumber : PySem.W.takesIn K (.builtin "object.__class__") = some true)
    (yob_NoNumber : PySem.W.mroIn K 73 (.type "object") = some true)
    (ybx_NoNumber : PySem.W.mroIn K 73 (.type "BaseException") = some true)
    (yi_int_NoNumber : PySem.W.kitOne K (.ref 73) (.type "int") = some false)
    (yi_bool_NoNumber : PySem.W.kitOne K (.ref 73) (.type "bool") = some false)
    (yi_str_NoNumber : PySem.W.kitOne K (.ref 73) (.type "str") = some false)
    (yi_list_NoNumber : PySem.W.kitOne K (.ref 73) (.type "list") = some false)
    (yi_tuple_NoNumber : PySem.W.kitOne K (.ref 73) (.type "tuple") = some false)
    (yi_dict_NoNumber : PySem.W.kitOne K (.ref 73) (.type "dict") = some false)
    (yow_NoNumber : PySem.W.excIn K 73 bmVE "ValueError.__new__" = true)
    {Pt : Addr} {oc_t : Value} {od_t : Option Addr} {sl_t : Array (Option Value)} {vs_t : Array Value} (h4 : K.lookup cd20 = some ⟨oc_t, od_t, .fields vs_t, sl_t⟩) (h5 : vs_t[11]? = some (.ref Pt)) (hnt : PySem.W.noTabs K = true)
    : PySem.W.noTabs K = true ∧ ∃ (c Pt : Addr), PySem.W.tabIn K "law" = some (c, Pt) ∧ ∃ fd : FuncData, (∀ (s : Shared) (u : Value), BindsTo s fd ⟨[u], []⟩ [("_law_script", u)]) ∧ ∀ base : Heap, K.In base → base.Ns mainGlobals mg → LamOk mg base c Pt → FnOk P w K mg base (CXr P w Cl) 8 fa fd ["_law_script"] (DSpT K (Xk Cl) 1 Pt (F_law Pt)) := by
  obtain ⟨T, hm, hF⟩ := txt_mk X G a0 l0 q0 k0 a1 l1 q1 k1 a2 l2 q2 k2 a3 l3 q3 k3 a4 l4 q4 k4 a5 l5 q5 k5 a6 l6 q6 k6 a7 l7 q7 k7 a8 l8 q8 k8 a9 l9 q9 k9 a10 l10 q10 k10 a11 l11 q11 k11 a12 l12 q12 k12 a13 l13 q13 k13 a14 l14 q14 k14 a15 l15 q15 k15 a16 l16 q16 k16 a17 l17 q17 k17 a18 l18 q18 k18 a19 l19 q19 k19 a20 l20 q20 k20 z_ValueError z_all z_bool z_int z_isinstance z_len z_list z_max z_min z_range z_str z_tuple z_zip s_SIGNS s_MOST_SWITCHES xg_NoFunction xg_NoTerm xg_NoPoint xg_NoNumber xg_NoForm xg_NoChange xg_NoText xg_NoLine xg_NoDeed xg_TermError xn_NoFunction xn_NoTerm xn_NoPoint xn_NoNumber xn_NoForm xn_NoChange xn_NoText xn_NoLine xn_NoDeed xn_VE xm_NoNumber xk_NoNumber_NoFunction xk_NoNumber_NoTerm xk_NoNumber_NoPoint xk_NoNumber_NoNumber xk_NoNumber_NoForm xk_NoNumber_NoChange xk_NoNumber_NoText xk_NoNumber_NoLine xk_NoNumber_NoDeed xk_NoNumber_VE yga_NoNumber ynh_NoNumber ycl_NoNumber yat_NoNumber ygt_NoNumber ytk_NoNumber yob_NoNumber ybx_NoNumber yi_int_NoNumber yi_bool_NoNumber yi_str_NoNumber yi_list_NoNumber yi_tuple_NoNumber yi_dict_NoNumber yow_NoNumber h4 h5 hnt
  have e := hfa.symm.trans hm
  cases e
  exact ⟨hnt, cd20, Pt, tab_mk a20 l20 h4 h5, _, fun s u => .of_eq rfl, fun base kb nb L => ok_all hF rfl T ⟨ownX_of kb T.g_NoNumber yow_NoNumber⟩ L⟩
end K02
-- DEPTH 8

namespace K02
open PySem DL
def terms : Nat → List (List Nat)
  | 0 => [[]]
  | n + 1 => (terms n).flatMap fun t => [t ++ [45], t ++ [48], t ++ [49]]
def bitsOf : Nat → List Nat
  | 45 => [0, 1]
  | 49 => [1]
  | _ => [0]
def pts (cs : List Nat) : List Nat := cs.foldl (fun ps c => ps.flatMap fun p => (bitsOf c).map (2 * p + ·)) [0]
def dInts (l : List Nat) : List D := l.map fun (p : Nat) => D.int (p : Int)
def allT : List (List Nat) := terms 1 ++ terms 2 ++ terms 3 ++ terms 4
theorem pts_all (O : Ow) : (allT.map fun cs => F_points_of [.str cs] O) = allT.map fun cs => R.ok (.lst (dInts (pts cs))) O := by kernel_rfl

def bitsL : Nat → Nat → List Nat
  | 0, _ => []
  | n + 1, p => bitsL n (p / 2) ++ [48 + p % 2]
def allP : List (List Nat × Nat) := allT.flatMap fun cs => (List.range (2 ^ cs.length)).map fun p => (cs, p)
def allN : List (Nat × Nat) := [1, 2, 3, 4].flatMap fun n => (List.range (2 ^ n)).map fun p => (n, p)
theorem bits_all (O : Ow) : (allN.map fun q => F__law_bits [.int (q.1 : Nat), .int (q.2 : Nat)] O) = allN.map fun q => R.ok (.str (bitsL q.1 q.2)) O := by kernel_rfl
theorem mem_allN {n p : Nat} (h1 : 1 ≤ n) (h4 : n ≤ 4) (hp : p < 2 ^ n) : (n, p) ∈ allN := by
  unfold allN
  rw [List.mem_flatMap]
  refine ⟨n, ?_, List.mem_map.mpr ⟨p, List.mem_range.mpr hp, rfl⟩⟩
  have : n = 1 ∨ n = 2 ∨ n = 3 ∨ n = 4 := by omega
  rcases this with rfl | rfl | rfl | rfl <;> simp
def testP : DT := dTst (dOp (fPy eqF) (dComp false 1 (dRng1 (dCons (dCall fLen (dCons (dVar 0) dNil)) dNil)) (.one 4) [(dTst (dOp fNin (dOp fIx (dVar 0) (dVar 4)) (dTup (dCons (dC (.str [45])) (dCons (dOp fIx (dVar 3) (dVar 4)) dNil)))))] [] (dVar 4)) (dLst dNil))
/-- cs holds the point whose signs are bs -/
def matchB (cs bs : List Nat) : Bool := (List.range cs.length).all fun i => cs.getD i 0 == 45 || cs.getD i 0 == bs.getD i 1
def sgn (c : Nat) : Bool := c == 45 || c == 48 || c == 49
def bit (c : Nat) : Bool := c == 48 || c == 49
theorem nin_eq (O : Ow) {c b : Nat} (hc : sgn c = true) (hb : bit b = true) : fNin O (.str [c]) (.tup [.str [45], .str [b]]) = .ok (.bl (!(c == 45 || c == b))) O := by
  unfold sgn at hc
  unfold bit at hb
  simp only [Bool.or_eq_true, beq_iff_eq] at hc hb
  rcases hc with (rfl | rfl) | rfl <;> rcases hb with rfl | rfl <;> kernel_rfl
theorem match_pts : (allP.all fun q => matchB q.1 (bitsL q.1.length q.2) == (pts q.1).contains q.2 && (bitsL q.1.length q.2).length == q.1.length && (bitsL q.1.length q.2).all bit && q.1.all sgn) = true := by decide +kernel
theorem range_pts : (allT.all fun cs => decide ((List.range (2 ^ cs.length)).filter (fun p => (pts cs).contains p) = pts cs)) = true := by decide +kernel
theorem mem_allP {cs : List Nat} {p : Nat} (h : cs ∈ allT) (hp : p < 2 ^ cs.length) : (cs, p) ∈ allP := by
  unfold allP
  rw [List.mem_flatMap]
  exact ⟨cs, h, List.mem_map.mpr ⟨p, List.mem_range.mpr hp, rfl⟩⟩
theorem len1_allT : (allT.all fun cs => decide (1 ≤ cs.length)) = true := by decide +kernel
theorem len_allT : (allT.all fun cs => decide (cs.length ≤ 4)) = true := by decide +kernel
theorem points_of_eq {cs : List Nat} (h : cs ∈ allT) (O : Ow) : F_points_of [.str cs] O = .ok (.lst (dInts (pts cs))) O := List.map_inj_left.mp (pts_all O) cs h
end K02

namespace K02
open PySem DL
theorem testP_eq {cs bs : List Nat} {O : Ow} {k : Nat} {x : Option D} (hl : bs.length = cs.length) (h4 : cs.length ≤ 4) (hc : ∀ c ∈ cs, sgn c = true) (hb : ∀ b ∈ bs, bit b = true) :
    testP [some (.str cs), some (.own k), x, some (.str bs)] O = .ok (matchB cs bs) O := by
  let p : D → Bool := fun d => match d with | .int i => !(cs.getD i.toNat 0 == 45 || cs.getD i.toNat 0 == bs.getD i.toNat 1) | _ => false
  have hi : dRng1 (dCons (dCall fLen (dCons (dVar 0) dNil)) dNil) [some (.str cs), some (.own k), x, some (.str bs)] O = .ok (.val ((List.range cs.length).map fun (i : Nat) => D.int (i : Int))) O :=
    dRng1_eq (dCons1 ((dCall_eq (dCons1 rfl)).trans (fLen_str (by omega)))) (by omega)
  have hcomp := dComp_one (ext := 1) (i := 4) (ts := [(dTst (dOp fNin (dOp fIx (dVar 0) (dVar 4)) (dTup (dCons (dC (.str [45])) (dCons (dOp fIx (dVar 3) (dVar 4)) dNil)))))]) (te := dVar 4) (p := p) (e := fun d => d) hi (by simp; omega) (fun d hd => by
    obtain ⟨i, hi, rfl⟩ := List.mem_map.mp hd
    have hi : i < cs.length := List.mem_range.mp hi
    have hib : i < bs.length := by omega
    have hp : p (.int (i : Int)) = !(cs[i] == 45 || cs[i] == bs[i]) := by
      show (!(cs.getD (i : Int).toNat 0 == 45 || cs.getD (i : Int).toNat 0 == bs.getD (i : Int).toNat 1)) = _
      have : ((i : Int)).toNat = i := by omega
      rw [this, List.getD_eq_getElem?_getD, List.getD_eq_getElem?_getD, List.getElem?_eq_getElem hi, List.getElem?_eq_getElem hib]; rfl
    rw [hp]
    have tt : dTst (dOp fNin (dOp fIx (dVar 0) (dVar 4)) (dTup (dCons (dC (.str [45])) (dCons (dOp fIx (dVar 3) (dVar 4)) dNil)))) [some (.str cs), some (.own k), x, some (.str bs), some (.int (i : Int))] O = .ok (!(cs[i] == 45 || cs[i] == bs[i])) O := by
      refine dTst_eq ((dOp_eq ((dOp_eq rfl rfl).trans (fIx_str (by omega) hi)) ?_).trans (nin_eq O (hc _ (List.getElem_mem hi)) (hb _ (List.getElem_mem hib))))
      show ((dCons (dC (.str [45])) (dCons (dOp fIx (dVar 3) (dVar 4)) dNil) _ O).bnd _) = _
      rw [dCons2 rfl ((dOp_eq rfl rfl).trans (fIx_str (by omega) hib))]
      rfl
    show ((dTst (dOp fNin (dOp fIx (dVar 0) (dVar 4)) (dTup (dCons (dC (.str [45])) (dCons (dOp fIx (dVar 3) (dVar 4)) dNil)))) [some (.str cs), some (.own k), x, some (.str bs), some (.int (i : Int))] O).bnd _) = _
    rw [tt]
    cases (!(cs[i] == 45 || cs[i] == bs[i])) <;> rfl) (fun d hd _ => rfl) false
  have e2 : (((List.range cs.length).map fun (i : Nat) => D.int (i : Int)).filter p).map (fun d => d) = (((List.range cs.length).filter fun i => !(cs.getD i 0 == 45 || cs.getD i 0 == bs.getD i 1)).map fun (i : Nat) => ((i : Nat) : Int)).map D.int := by
    rw [List.map_id', List.filter_map, List.map_map]
    rfl
  rw [e2] at hcomp
  have fin : dOp (fPy eqF) (dComp false 1 (dRng1 (dCons (dCall fLen (dCons (dVar 0) dNil)) dNil)) (.one 4) [(dTst (dOp fNin (dOp fIx (dVar 0) (dVar 4)) (dTup (dCons (dC (.str [45])) (dCons (dOp fIx (dVar 3) (dVar 4)) dNil)))))] [] (dVar 4)) (dLst dNil) [some (.str cs), some (.own k), x, some (.str bs)] O = .ok (.bl (matchB cs bs)) O := by
    refine (dOp_eq hcomp rfl).trans ((eq_nil O _).trans ?_)
    congr 2
    unfold matchB
    rw [Bool.eq_iff_iff, List.isEmpty_iff, List.map_eq_nil_iff, List.filter_eq_nil_iff, List.all_eq_true]
    simp [Decidable.or_iff_not_imp_left]
  exact dTst_eq fin
theorem test_all {cs : List Nat} {p : Nat} (h : (cs, p) ∈ allP) (h4 : cs.length ≤ 4) (O : Ow) (k : Nat) (x : Option D) : testP [some (.str cs), some (.own k), x, some (.str (bitsL cs.length p))] O = .ok ((pts cs).contains p) O := by
  have := List.all_eq_true.mp match_pts _ h
  simp only [Bool.and_eq_true, beq_iff_eq] at this
  obtain ⟨⟨⟨h1, h2⟩, h3⟩, h5⟩ := this
  rw [testP_eq h2 h4 (fun c hc => List.all_eq_true.mp h5 c hc) (fun c hc => List.all_eq_true.mp h3 c hc), h1]
theorem law_points_eq {cs : List Nat} (h : cs ∈ allT) {O : Ow} (hO : Flat O) : F__law_points [.str cs] O = .ok (.lst (dInts (pts cs))) O := by
  have h4 : cs.length ≤ 4 := by simpa using List.all_eq_true.mp len_allT cs h
  have h1 : 1 ≤ cs.length := by simpa using List.all_eq_true.mp len1_allT cs h
  have hpw : 2 ^ cs.length ≤ 16 := Nat.le_trans (Nat.pow_le_pow_right (by decide) h4) (by decide)
  unfold F__law_points frzF runF B__law_points
  let n := O.length
  let body : DS := sSeq (sSet 3 (dFn 2 F__law_bits (dCons (dCall fLen (dCons (dVar 0) dNil)) (dCons (dVar 2) dNil)))) (sIf testP (sDrop (dApp (dVar 1) (dCons (dVar 2) dNil))) sNil)
  have step : ∀ i σ O' d, (∃ y z, σ = [some (.str cs), some (.own O.length), y, z] ∧ O' = O ++ [dInts ((List.range i).filter fun p => (pts cs).contains p)]) → ((List.range (2 ^ cs.length)).map fun (i : Nat) => D.int (i : Int))[i]? = some d →
      ∃ σ' O2, (match Tg.put (.one 2) d σ with | some σ' => body σ' O' | none => .bad) = .nx σ' O2 ∧ (∃ y z, σ' = [some (.str cs), some (.own O.length), y, z] ∧ O2 = O ++ [dInts ((List.range (i + 1)).filter fun p => (pts cs).contains p)]) := by
    rintro i σ O' d ⟨y, z, rfl, rfl⟩ hd
    rw [List.getElem?_map] at hd
    have hi : i < 2 ^ cs.length := by
      by_cases hi : i < 2 ^ cs.length
      · exact hi
      · rw [List.getElem?_eq_none_iff.mpr (by simpa using hi)] at hd; cases hd
    rw [List.getElem?_range hi] at hd
    cases hd
    have hm := mem_allP h hi
    generalize hOO : (O ++ [dInts ((List.range i).filter fun p => (pts cs).contains p)]) = OO
    have hb := List.map_inj_left.mp (bits_all OO) _ (mem_allN h1 h4 hi)
    have ht := test_all hm h4 OO O.length (some (D.int (i : Nat)))
    dsimp only at hb
    have e1 : sSet 3 (dFn 2 F__law_bits (dCons (dCall fLen (dCons (dVar 0) dNil)) (dCons (dVar 2) dNil))) [some (.str cs), some (.own O.length), some (.int (i : Nat)), z] OO = .nx [some (.str cs), some (.own O.length), some (.int (i : Nat)), some (.str (bitsL cs.length i))] OO :=
      sSet_eq ((dFn_eq (dCons2 ((dCall_eq (dCons1 rfl)).trans (fLen_str (by omega))) rfl) rfl).trans hb)
    show ∃ σ' O2, (match sSet 3 (dFn 2 F__law_bits (dCons (dCall fLen (dCons (dVar 0) dNil)) (dCons (dVar 2) dNil))) [some (.str cs), some (.own O.length), some (.int (i : Nat)), z] OO with | .nx σ' O' => sIf testP (sDrop (dApp (dVar 1) (dCons (dVar 2) dNil))) sNil σ' O' | r => r) = .nx σ' O2 ∧ _
    rw [e1]
    dsimp only
    unfold sIf
    rw [ht]
    dsimp only [R.bnS]
    subst hOO
    by_cases hc : (pts cs).contains i = true
    · rw [if_pos hc]
      have hf : (List.range (i + 1)).filter (fun p => (pts cs).contains p) = (List.range i).filter (fun p => (pts cs).contains p) ++ [i] := by
        rw [List.range_succ, List.filter_append, List.filter_cons, List.filter_nil, if_pos hc]
      have hll : ((List.range i).filter fun p => (pts cs).contains p).length ≤ i := by
        have := List.length_filter_le (fun p => (pts cs).contains p) (List.range i)
        simpa using this
      refine ⟨[some (.str cs), some (.own O.length), some (.int (i : Nat)), some (.str (bitsL cs.length i))], O ++ [dInts ((List.range (i + 1)).filter fun p => (pts cs).contains p)], ?_, _, _, rfl, rfl⟩
      unfold sDrop dApp dVar
      dsimp only [List.getElem?_cons_succ, List.getElem?_cons_zero, R.bnd, dCons, dNil]
      have hk : (O ++ [dInts ((List.range i).filter fun p => (pts cs).contains p)])[O.length]? = some (dInts ((List.range i).filter fun p => (pts cs).contains p)) := by simp
      rw [hk]
      dsimp only
      rw [if_pos (by unfold dInts; rw [List.length_map]; omega)]
      dsimp only [R.bnS]
      rw [List.set_append_right _ _ (Nat.le_refl _), Nat.sub_self, List.set_cons_zero, hf]
      unfold dInts
      rw [List.map_append]
      rfl
    · rw [if_neg hc]
      refine ⟨_, _, rfl, _, _, rfl, ?_⟩
      rw [List.range_succ, List.filter_append, List.filter_cons, List.filter_nil, if_neg hc, List.append_nil]
  have e0 : sSet 1 (dLstO dNil) [some (.str cs), none, none, none] O = .nx [some (.str cs), some (.own O.length), none, none] (O ++ [[]]) := rfl
  have hr : dRng1 (dCons (dOp (fI gShl) (dC (.int 1)) (dCall fLen (dCons (dVar 0) dNil))) dNil) [some (.str cs), some (.own O.length), none, none] (O ++ [[]]) = .ok (.val ((List.range (2 ^ cs.length)).map fun (i : Nat) => D.int (i : Int))) (O ++ [[]]) := by
    refine dRng1_eq (dCons1 ((dOp_eq rfl ((dCall_eq (dCons1 rfl)).trans (fLen_str (by omega)))).trans ?_)) (by omega)
    have : cs.length = 1 ∨ cs.length = 2 ∨ cs.length = 3 ∨ cs.length = 4 := by omega
    rcases this with e | e | e | e <;> rw [e] <;> rfl
  obtain ⟨σ', O2, f1, y, z, rfl, rfl⟩ := loopS_inv (fun i σ O' => ∃ y z, σ = [some (.str cs), some (.own O.length), y, z] ∧ O' = O ++ [dInts ((List.range i).filter fun p => (pts cs).contains p)]) step (2 ^ cs.length) 0 [some (.str cs), some (.own O.length), none, none] (O ++ [[]]) ⟨none, none, rfl, rfl⟩ (by simp) (Nat.zero_le _)
  have hl : ((List.range (2 ^ cs.length)).map fun (i : Nat) => D.int (i : Int)).length = 2 ^ cs.length := by simp
  rw [hl] at f1
  have hpts : (List.range (2 ^ cs.length)).filter (fun p => (pts cs).contains p) = pts cs := by simpa using List.all_eq_true.mp range_pts cs h
  rw [hpts] at f1
  show frzR O.length (fin (sSeq (sSet 1 (dLstO dNil)) _ [some (.str cs), none, none, none] O)) = _
  rw [sSeq_nx e0, sSeq_nx ((sFor_eq hr).trans (by
    show loopS _ _ ((List.range (2 ^ cs.length)).map fun (i : Nat) => D.int (i : Int)).length 0 _ _ = _
    rw [hl]; exact f1)), sRet_eq (x := .own O.length) rfl]
  refine frzR_flat hO [dInts (pts cs)] ?_
  unfold frz
  dsimp only
  rw [if_neg (Nat.lt_irrefl _)]
  have hk : (O ++ [dInts (pts cs)])[O.length]? = some (dInts (pts cs)) := by simp
  rw [hk]
  dsimp only
  rw [mapO_id fun d hd => ?_]
  · rfl
  · obtain ⟨q, _, rfl⟩ := List.mem_map.mp hd
    exact frz_flat rfl
end K02

namespace K02
open PySem DL
def Ans (d : D) : Prop := d = .int 0 ∨ d = .int 1 ∨ d = .non
structure Fn (n : Nat) (f : List D) : Prop where
  n1 : 1 ≤ n
  n4 : n ≤ 4
  len : f.length = 2 ^ n
  ans : ∀ d ∈ f, Ans d
theorem four {n : Nat} (h1 : 1 ≤ n) (h4 : n ≤ 4) : n = 1 ∨ n = 2 ∨ n = 3 ∨ n = 4 := by omega
theorem terms_in {n : Nat} (h1 : 1 ≤ n) (h4 : n ≤ 4) {cs : List Nat} (h : cs ∈ terms n) : cs ∈ allT := by
  unfold allT
  rcases four h1 h4 with rfl | rfl | rfl | rfl <;> simp [h]
theorem terms_len_all : ([1, 2, 3, 4].all fun n => (terms n).all fun cs => cs.length == n) = true := by decide +kernel
theorem terms_len {n : Nat} (h1 : 1 ≤ n) (h4 : n ≤ 4) {cs : List Nat} (h : cs ∈ terms n) : cs.length = n := by
  have := List.all_eq_true.mp terms_len_all n (by rcases four h1 h4 with rfl | rfl | rfl | rfl <;> simp)
  simpa using List.all_eq_true.mp this cs h
theorem pts_lt_all : (allT.all fun cs => (pts cs).all fun p => decide (p < 2 ^ cs.length)) = true := by decide +kernel
theorem pts_lt {cs : List Nat} (h : cs ∈ allT) {p : Nat} (hp : p ∈ pts cs) : p < 2 ^ cs.length := by
  have := List.all_eq_true.mp pts_lt_all cs h
  simpa using List.all_eq_true.mp this p hp
theorem pts_len_all : (allT.all fun cs => decide ((pts cs).length ≤ 16)) = true := by decide +kernel
theorem pts_len {cs : List Nat} (h : cs ∈ allT) : (pts cs).length ≤ 16 := by simpa using List.all_eq_true.mp pts_len_all cs h
end K02

namespace K02
open PySem DL
/-- the cell at m is a state -/
structure StAt (O : Ow) (m : Nat) (s : Int) (b : Bool) : Prop where
  at_ : O[m]? = some [.int s, .bl b]
  nn : 0 ≤ s
  lt : b = false → s < 2147483647
theorem StAt.len {O : Ow} {m : Nat} {s : Int} {b : Bool} (h : StAt O m s b) : m < O.length := (List.getElem?_eq_some_iff.mp h.at_).1
theorem fIx_own0 {O : Ow} {m : Nat} {x y : D} (h : O[m]? = some [x, y]) : fIx O (.own m) (.int 0) = .ok x O := by
  show (match O[m]? with | some ds => (match L2.atI ds 0 with | some d => R.ok d O | none => R.bad) | none => _) = _
  rw [h]; rfl
theorem fIx_own1 {O : Ow} {m : Nat} {x y : D} (h : O[m]? = some [x, y]) : fIx O (.own m) (.int 1) = .ok y O := by
  show (match O[m]? with | some ds => (match L2.atI ds 1 with | some d => R.ok d O | none => R.bad) | none => _) = _
  rw [h]; rfl
theorem sPut_eq {te to ti : DE} {σ : Sg} {O O1 O2 O3 : Ow} {y : D} {k : Nat} {i : Int} {ds : List D} {j : Nat} (h1 : te σ O = .ok y O1) (h2 : to σ O1 = .ok (.own k) O2) (h3 : ti σ O2 = .ok (.int i) O3) (h4 : O3[k]? = some ds) (h5 : L2.ixN ds.length i = some j) :
    sPut te to ti σ O = .nx σ (O3.set k (ds.set j y)) := by
  show ((te σ O).bnS _) = _
  rw [h1]
  show ((to σ O1).bnS _) = _
  rw [h2]
  show ((ti σ O2).bnS _) = _
  rw [h3]
  show (match O3[k]? with | some ds => (match L2.ixN ds.length i with | some j => RS.nx σ (O3.set k (ds.set j y)) | none => RS.bad) | none => RS.bad) = _
  rw [h4]
  show (match L2.ixN ds.length i with | some j => RS.nx σ (O3.set k (ds.set j y)) | none => RS.bad) = _
  rw [h5]
theorem fI_mod {O : Ow} {i j : Int} (h : 0 < j) : fI gMod O (.int i) (.int j) = .ok (.int (i % j)) O := by
  show (match gMod i j with | some d => R.ok d O | none => R.bad) = _
  unfold gMod; rw [if_pos h]
theorem fI_div {O : Ow} {i j : Int} (h : 0 < j) (h2 : j < 1073741824) : fI gDiv O (.int i) (.int j) = .ok (.int (i / j)) O := by
  show (match gDiv i j with | some d => R.ok d O | none => R.bad) = _
  unfold gDiv; rw [if_pos ⟨h, h2⟩]
theorem fI_mulL {O : Ow} {i j : Int} (h : -1000000000000000 < i) (h2 : i < 1000000000000000) : fI gMul O (.int i) (.int j) = .ok (.int (i * j)) O := by
  show (match gMul i j with | some d => R.ok d O | none => R.bad) = _
  unfold gMul; rw [if_pos (.inl ⟨h, h2⟩)]
theorem fAdd_int {O : Ow} {i j : Int} : fAdd O (.int i) (.int j) = .ok (.int (i + j)) O := rfl
theorem take_eq {O : Ow} {m : Nat} {s : Int} {b : Bool} (h : StAt O m s b) {k : Nat} (k1 : 1 ≤ k) (k2 : k ≤ 1000) :
    ∃ (r : Nat) (s' : Int), r < k ∧ F__law_take [.own m, .int k] O = .ok (.int r) (O.set m [.int s', .bl b]) ∧ StAt (O.set m [.int s', .bl b]) m s' b := by
  have kk : (0 : Int) < (k : Int) := by omega
  have hset : ∀ s', (O.set m [.int s', .bl b])[m]? = some [D.int s', D.bl b] := fun s' => by rw [List.getElem?_set_self h.len]
  have hres : ∀ x : Int, ∃ r : Nat, r < k ∧ x % (k : Int) = (r : Int) := fun x => by
    have a1 := Int.emod_nonneg x (show (k : Int) ≠ 0 by omega)
    have a2 := Int.emod_lt_of_pos x kk
    exact ⟨(x % (k : Int)).toNat, by omega, by omega⟩
  cases b with
  | true =>
    obtain ⟨r, r1, r2⟩ := hres s
    refine ⟨r, s / k, r1, ?_, hset _, Int.ediv_nonneg h.nn (by omega), fun z => by cases z⟩
    have hc : dTru (dOp fIx (dVar 0) (dC (.int 1))) [some (.own m), some (.int k), none, none] O = .ok true O := dTru_bl ((dOp_eq rfl rfl).trans (fIx_own1 h.at_))
    have e1 : sSet 2 (dOp (fI gMod) (dOp fIx (dVar 0) (dC (.int 0))) (dVar 1)) [some (.own m), some (.int k), none, none] O = .nx [some (.own m), some (.int k), some (.int r), none] O := by
      rw [sSet_eq ((dOp_eq ((dOp_eq rfl rfl).trans (fIx_own0 h.at_)) rfl).trans (fI_mod kk)), r2]; rfl
    have e2 : sPut (dOp (fI gDiv) (dOp fIx (dVar 0) (dC (.int 0))) (dVar 1)) (dVar 0) (dC (.int 0)) [some (.own m), some (.int k), some (.int r), none] O = .nx [some (.own m), some (.int k), some (.int r), none] (O.set m [.int (s / k), .bl true]) :=
      sPut_eq (ds := [.int s, .bl true]) (j := 0) ((dOp_eq ((dOp_eq rfl rfl).trans (fIx_own0 h.at_)) rfl).trans (fI_div kk (by omega))) rfl rfl h.at_ rfl
    show fin (sSeq (sIf _ _ _) _ [some (.own m), some (.int k), none, none] O) = _
    have e3 : sIf (dTru (dOp fIx (dVar 0) (dC (.int 1)))) (sSeq (sSet 2 (dOp (fI gMod) (dOp fIx (dVar 0) (dC (.int 0))) (dVar 1))) (sSeq (sPut (dOp (fI gDiv) (dOp fIx (dVar 0) (dC (.int 0))) (dVar 1)) (dVar 0) (dC (.int 0))) (sRet (dVar 2)))) sNil [some (.own m), some (.int k), none, none] O = .rt (.int r) (O.set m [.int (s / k), .bl true]) := by
      rw [sIf_eq hc, if_pos rfl, sSeq_nx e1, sSeq_nx e2]; rfl
    rw [sSeq_rt e3]; rfl
  | false =>
    have hs := h.lt rfl
    let s1 : Int := (s * 48271 + 29) % 2147483647
    have s1n : 0 ≤ s1 := Int.emod_nonneg _ (by decide)
    have s1l : s1 < 2147483647 := Int.emod_lt_of_pos _ (by decide)
    let O1 := O.set m [.int s1, .bl false]
    have hO1 : O1[m]? = some [D.int s1, D.bl false] := hset s1
    let t1 : Int := (s1 * s1 + 39373 * s1 + 7) % 2147483629
    have t1n : 0 ≤ t1 := Int.emod_nonneg _ (by decide)
    have t1l : t1 < 2147483629 := Int.emod_lt_of_pos _ (by decide)
    let t2 : Int := (t1 * t1 + 16807 * t1) % 2147483587
    have hc : dTru (dOp fIx (dVar 0) (dC (.int 1))) [some (.own m), some (.int k), none, none] O = .ok false O := dTru_bl ((dOp_eq rfl rfl).trans (fIx_own1 h.at_))
    have e0 : sIf (dTru (dOp fIx (dVar 0) (dC (.int 1)))) (sSeq (sSet 2 (dOp (fI gMod) (dOp fIx (dVar 0) (dC (.int 0))) (dVar 1))) (sSeq (sPut (dOp (fI gDiv) (dOp fIx (dVar 0) (dC (.int 0))) (dVar 1)) (dVar 0) (dC (.int 0))) (sRet (dVar 2)))) sNil [some (.own m), some (.int k), none, none] O = .nx [some (.own m), some (.int k), none, none] O := by
      rw [sIf_eq hc]; rfl
    have e1 : sPut (dOp (fI gMod) (dOp fAdd (dOp (fI gMul) (dOp fIx (dVar 0) (dC (.int 0))) (dC (.int 48271))) (dC (.int 29))) (dC (.int 2147483647))) (dVar 0) (dC (.int 0)) [some (.own m), some (.int k), none, none] O = .nx [some (.own m), some (.int k), none, none] O1 :=
      sPut_eq (ds := [.int s, .bl false]) (j := 0) ((dOp_eq ((dOp_eq ((dOp_eq ((dOp_eq rfl rfl).trans (fIx_own0 h.at_)) rfl).trans (fI_mulL (by have := h.nn; omega) (by omega))) rfl).trans fAdd_int) rfl).trans (fI_mod (by decide))) rfl rfl h.at_ rfl
    have ix0 : ∀ z w, dOp fIx (dVar 0) (dC (.int 0)) [some (.own m), some (.int k), z, w] O1 = .ok (.int s1) O1 := fun z w => (dOp_eq rfl rfl).trans (fIx_own0 hO1)
    have e2 : sSet 3 (dOp (fI gMod) (dOp fAdd (dOp fAdd (dOp (fI gMul) (dOp fIx (dVar 0) (dC (.int 0))) (dOp fIx (dVar 0) (dC (.int 0)))) (dOp (fI gMul) (dC (.int 39373)) (dOp fIx (dVar 0) (dC (.int 0))))) (dC (.int 7))) (dC (.int 2147483629))) [some (.own m), some (.int k), none, none] O1 = .nx [some (.own m), some (.int k), none, some (.int t1)] O1 :=
      sSet_eq ((dOp_eq ((dOp_eq ((dOp_eq ((dOp_eq (ix0 none none) (ix0 none none)).trans (fI_mulL (by omega) (by omega))) ((dOp_eq rfl (ix0 none none)).trans (fI_mulL (by decide) (by decide)))).trans fAdd_int) rfl).trans fAdd_int) rfl).trans (fI_mod (by decide)))
    have e3 : sSet 3 (dOp (fI gMod) (dOp fAdd (dOp (fI gMul) (dVar 3) (dVar 3)) (dOp (fI gMul) (dC (.int 16807)) (dVar 3))) (dC (.int 2147483587))) [some (.own m), some (.int k), none, some (.int t1)] O1 = .nx [some (.own m), some (.int k), none, some (.int t2)] O1 :=
      sSet_eq ((dOp_eq ((dOp_eq ((dOp_eq rfl rfl).trans (fI_mulL (by omega) (by omega))) ((dOp_eq rfl rfl).trans (fI_mulL (by decide) (by decide)))).trans fAdd_int) rfl).trans (fI_mod (by decide)))
    obtain ⟨r, r1, r2⟩ := hres (t2 / 8)
    refine ⟨r, s1, r1, ?_, hset _, s1n, fun _ => s1l⟩
    have e4 : sRet (dOp (fI gMod) (dOp (fI gDiv) (dVar 3) (dC (.int 8))) (dVar 1)) [some (.own m), some (.int k), none, some (.int t2)] O1 = .rt (.int r) O1 := by
      rw [sRet_eq ((dOp_eq ((dOp_eq rfl rfl).trans (fI_div (by decide) (by decide))) rfl).trans (fI_mod kk)), r2]
    show fin (sSeq _ _ [some (.own m), some (.int k), none, none] O) = _
    rw [sSeq_nx e0, sSeq_nx e1, sSeq_nx e2, sSeq_nx e3, e4]; rfl
theorem state_eq {ns : List Int} {k : Nat} (O : Ow) : ∃ s b, F__law_state [.lst (ns.map .int), .int k] O = .ok (.own O.length) (O ++ [[.int s, .bl b]]) ∧ StAt (O ++ [[.int s, .bl b]]) O.length s b := by
  have hat : ∀ s b, (O ++ [[D.int s, D.bl b]])[O.length]? = some [D.int s, D.bl b] := fun s b => by simp
  obtain ⟨c, hc⟩ : ∃ c : Int, F__law_cell_at [.lst (ns.map .int), .int k] O = .ok (.int c) O := by
    have ht : dTst (dOp fLt (dVar 1) (dCall fLen (dCons (dVar 0) dNil))) [some (.lst (ns.map .int)), some (.int k)] O = .ok (decide ((k : Int) < (ns.map D.int).length)) O := dTst_eq ((dOp_eq rfl ((dCall_eq (dCons1 rfl)).trans rfl)).trans rfl)
    by_cases hk : (k : Int) < (ns.map D.int).length
    · have hk' : k < (ns.map D.int).length := by omega
      have hx : dOp fIx (dVar 0) (dVar 1) [some (.lst (ns.map .int)), some (.int k)] O = .ok (ns.map D.int)[k] O := (dOp_eq rfl rfl).trans (fIx_lst hk')
      refine ⟨ns[k]'(by simpa using hk'), ?_⟩
      show fin (sSeq _ _ [some (.lst (ns.map .int)), some (.int k)] O) = _
      have e1 : sIf (dTst (dOp fLt (dVar 1) (dCall fLen (dCons (dVar 0) dNil)))) (sRet (dOp fIx (dVar 0) (dVar 1))) sNil [some (.lst (ns.map .int)), some (.int k)] O = .rt (.int (ns[k]'(by simpa using hk'))) O := by
        rw [sIf_eq ht, if_pos (decide_eq_true hk), sRet_eq hx]; simp
      rw [sSeq_rt e1]; rfl
    · refine ⟨0, ?_⟩
      show fin (sSeq _ _ [some (.lst (ns.map .int)), some (.int k)] O) = _
      have e1 : sIf (dTst (dOp fLt (dVar 1) (dCall fLen (dCons (dVar 0) dNil)))) (sRet (dOp fIx (dVar 0) (dVar 1))) sNil [some (.lst (ns.map .int)), some (.int k)] O = .nx [some (.lst (ns.map .int)), some (.int k)] O := by
        rw [sIf_eq ht, if_neg (by simpa using hk)]; rfl
      rw [sSeq_nx e1]; rfl
  have e0 : sSet 2 (dFn 2 F__law_cell_at (dCons (dVar 0) (dCons (dVar 1) dNil))) [some (.lst (ns.map .int)), some (.int k), none] O = .nx [some (.lst (ns.map .int)), some (.int k), some (.int c)] O := sSet_eq ((dFn_eq (dCons2 rfl rfl) rfl).trans hc)
  have hp : ∀ σ, dOp (fI gPow) (dC (.int 10)) (dC (.int 18)) σ O = .ok (.int 1000000000000000000) O := fun σ => by
    refine (dOp_eq (σ := σ) (O := O) rfl rfl).trans ?_
    kernel_rfl
  have ht : dTst (dOp fGe (dVar 2) (dOp (fI gPow) (dC (.int 10)) (dC (.int 18)))) [some (.lst (ns.map .int)), some (.int k), some (.int c)] O = .ok (decide ((1000000000000000000 : Int) ≤ c)) O := dTst_eq ((dOp_eq rfl (hp _)).trans rfl)
  by_cases hcc : (1000000000000000000 : Int) ≤ c
  · refine ⟨c - 1000000000000000000, true, ?_, hat _ _, by omega, fun z => by cases z⟩
    have e1 : sIf (dTst (dOp fGe (dVar 2) (dOp (fI gPow) (dC (.int 10)) (dC (.int 18))))) (sRet (dLstO (dCons (dOp (fI gSub) (dVar 2) (dOp (fI gPow) (dC (.int 10)) (dC (.int 18)))) (dCons (dC (.bl true)) dNil)))) sNil [some (.lst (ns.map .int)), some (.int k), some (.int c)] O = .rt (.own O.length) (O ++ [[.int (c - 1000000000000000000), .bl true]]) := by
      rw [sIf_eq ht, if_pos (decide_eq_true hcc)]
      refine sRet_eq ?_
      show ((dCons _ _ _ O).bnd _) = _
      rw [dCons2 ((dOp_eq rfl (hp _)).trans rfl) rfl]
      rfl
    show fin (sSeq _ _ [some (.lst (ns.map .int)), some (.int k), none] O) = _
    rw [sSeq_nx e0, sSeq_rt e1]; rfl
  · refine ⟨c % 2147483647, false, ?_, hat _ _, Int.emod_nonneg _ (by decide), fun _ => Int.emod_lt_of_pos _ (by decide)⟩
    have e1 : sIf (dTst (dOp fGe (dVar 2) (dOp (fI gPow) (dC (.int 10)) (dC (.int 18))))) (sRet (dLstO (dCons (dOp (fI gSub) (dVar 2) (dOp (fI gPow) (dC (.int 10)) (dC (.int 18)))) (dCons (dC (.bl true)) dNil)))) sNil [some (.lst (ns.map .int)), some (.int k), some (.int c)] O = .nx [some (.lst (ns.map .int)), some (.int k), some (.int c)] O := by
      rw [sIf_eq ht, if_neg (by simpa using hcc)]; rfl
    show fin (sSeq _ _ [some (.lst (ns.map .int)), some (.int k), none] O) = _
    rw [sSeq_nx e0, sSeq_nx e1]
    have e2 : dLstO (dCons (dOp (fI gMod) (dVar 2) (dC (.int 2147483647))) (dCons (dC (.bl false)) dNil)) [some (.lst (ns.map .int)), some (.int k), some (.int c)] O = .ok (.own O.length) (O ++ [[.int (c % 2147483647), .bl false]]) := by
      show ((dCons _ _ _ O).bnd _) = _
      rw [dCons2 ((dOp_eq rfl rfl).trans (fI_mod (by decide))) rfl]
      rfl
    rw [sRet_eq e2]; rfl
end K02

namespace K02
open PySem DL
theorem set_same {O : Ow} {m : Nat} {x : List D} (h : O[m]? = some x) : O.set m x = O := by
  obtain ⟨h1, rfl⟩ := List.getElem?_eq_some_iff.mp h
  exact List.set_getElem_self h1
theorem flat_set {O : Ow} (h : Flat O) (m : Nat) (s : Int) (b : Bool) : Flat (O.set m [.int s, .bl b]) := by
  intro c hc d hd
  rw [List.length_set]
  rcases List.mem_or_eq_of_mem_set hc with h1 | rfl
  · exact h c h1 d hd
  · simp only [List.mem_cons, List.not_mem_nil, or_false] at hd
    rcases hd with rfl | rfl <;> rfl
theorem frzR_gen {O' : Ow} (hO : Flat O') (X : Ow) {d d' : D} (h : frz (O' ++ X) O'.length 8 d = some d') : frzR O'.length (.ok d (O' ++ X)) = .ok d' O' := by
  unfold frzR
  dsimp only
  rw [h]
  have : (O' ++ X).take O'.length = O' := by simp
  rw [this, mapO_id fun c hc => mapO_id fun d hd => frz_flat (hO c hc d hd)]
/-- a comprehension that draws -/
theorem dComp_st {ext : Nat} {it0 : DI} {i : Nat} {te : DE} {σ : Sg} {O : Ow} {ds : List D} {m : Nat} {s : Int} {b : Bool} {P : D → Prop} (hst : StAt O m s b) (hi : it0 σ O = .ok (.val ds) O) (hl : ds.length < 50000)
    (he : ∀ d ∈ ds, ∀ s', StAt (O.set m [.int s', .bl b]) m s' b → ∃ v s'', te ((clr (clr (σ ++ List.replicate ext none) [i]) [i]).set i (some d)) (O.set m [.int s', .bl b]) = .ok v (O.set m [.int s'', .bl b]) ∧ StAt (O.set m [.int s'', .bl b]) m s'' b ∧ P v) :
    ∃ vs s', dComp false ext it0 (.one i) [] [] te σ O = .ok (.lst vs) (O.set m [.int s', .bl b]) ∧ StAt (O.set m [.int s', .bl b]) m s' b ∧ vs.length = ds.length ∧ ∀ v ∈ vs, P v := by
  obtain ⟨acc, O', e, s', rfl, h1, h2, h3⟩ := walkD_inv (ds := ds) (step := stepD ⟨it0, .one i, []⟩ [] te (clr (σ ++ List.replicate ext none) (slotsOf [⟨it0, .one i, []⟩])))
    (fun j O' acc => ∃ s', O' = O.set m [.int s', .bl b] ∧ StAt O' m s' b ∧ acc.length = j ∧ ∀ v ∈ acc, P v) (fun j O' acc d hI hd => by
      obtain ⟨s', rfl, h1, h2, h3⟩ := hI
      have hj := (List.getElem?_eq_some_iff.mp hd).1
      obtain ⟨v, s'', q1, q2, q3⟩ := he d (List.mem_of_getElem? hd) s' h1
      refine ⟨acc ++ [v], _, ?_, s'', rfl, q2, by simp [h2], fun w hw => ?_⟩
      · show compD [] te ((clr (clr (σ ++ List.replicate ext none) [i]) [i]).set i (some d)) (O.set m [.int s', .bl b]) acc = _
        unfold compD
        rw [q1]
        show (if acc.length < 100000 then _ else _) = _
        rw [if_pos (by omega)]
      · rcases List.mem_append.mp hw with hw | hw
        · exact h3 w hw
        · have : w = v := by simpa using hw
          rw [this]; exact q3) ds.length 0 O [] ⟨s, (set_same hst.at_).symm, hst, rfl, by simp⟩ (by omega) (Nat.zero_le _)
  refine ⟨acc, s', ?_, h1, h2, h3⟩
  unfold dComp compAll
  rw [hi]
  show outC false (noX (walkD (.val ds) _ ds.length 0 O [])) = _
  rw [e]; rfl
theorem mem_terms : ∀ (n : Nat) (cs : List Nat), cs.length = n → (∀ c ∈ cs, sgn c = true) → cs ∈ terms n
  | 0, cs, h, _ => by
    have : cs = [] := List.length_eq_zero_iff.mp h
    subst this; simp [terms]
  | n + 1, cs, h, hs => by
    have hne : cs ≠ [] := by intro e; subst e; simp at h
    obtain ⟨t, c, rfl⟩ : ∃ t c, cs = t ++ [c] := ⟨_, _, (List.dropLast_concat_getLast hne).symm⟩
    have ht := mem_terms n t (by simpa using h) fun c hc => hs c (List.mem_append_left _ hc)
    unfold terms
    rw [List.mem_flatMap]
    refine ⟨t, ht, ?_⟩
    have hl := hs c (by simp)
    unfold sgn at hl
    simp only [Bool.or_eq_true, beq_iff_eq] at hl
    rcases hl with (z | z) | z <;> rw [z] <;> simp
theorem join_eq {σ : Sg} {O O' : Ow} {tA : DA} : ∀ (cs : List Nat), 1 ≤ cs.length → cs.length ≤ 4 → tA σ O = .ok [.lst (cs.map fun c => .str [c])] O' → dJoin (dC (.str [])) tA σ O = .ok (.str cs) O'
  | [], h, _, _ => by simp at h
  | [a], _, _, h => by show ((tA σ O).bnd _) = _; rw [h]; rfl
  | [a, b], _, _, h => by show ((tA σ O).bnd _) = _; rw [h]; rfl
  | [a, b, c], _, _, h => by show ((tA σ O).bnd _) = _; rw [h]; rfl
  | [a, b, c, d], _, _, h => by show ((tA σ O).bnd _) = _; rw [h]; rfl
  | _ :: _ :: _ :: _ :: _ :: _, _, h, _ => by simp at h
theorem strs_of : ∀ (vs : List D), (∀ v ∈ vs, ∃ c, v = D.str [c] ∧ sgn c = true) → ∃ cs : List Nat, vs = cs.map (fun c => D.str [c]) ∧ ∀ c ∈ cs, sgn c = true
  | [], _ => ⟨[], rfl, by simp⟩
  | v :: vs, h => by
    obtain ⟨c, rfl, hc⟩ := h v List.mem_cons_self
    obtain ⟨cs, rfl, hcs⟩ := strs_of vs fun w hw => h w (List.mem_cons_of_mem _ hw)
    exact ⟨c :: cs, rfl, fun x hx => (List.mem_cons.mp hx).elim (fun e => by rw [e]; exact hc) (hcs x)⟩
theorem term_eq {O : Ow} {m : Nat} {s : Int} {b : Bool} (h : StAt O m s b) {n : Nat} (n1 : 1 ≤ n) (n4 : n ≤ 4) :
    ∃ cs s', cs ∈ terms n ∧ F__law_term [.own m, .int n] O = .ok (.str cs) (O.set m [.int s', .bl b]) ∧ StAt (O.set m [.int s', .bl b]) m s' b := by
  have hi : dRng1 (dCons (dVar 1) dNil) [some (.own m), some (.int n)] O = .ok (.val ((List.range n).map fun (i : Nat) => D.int (i : Int))) O := dRng1_eq (dCons1 rfl) (by omega)
  obtain ⟨vs, s', e1, e2, e3, e4⟩ := dComp_st (ext := 1) (i := 2) (te := dOp fIx (dC (.str [48, 49, 45, 45])) (dFn 2 F__law_take (dCons (dVar 0) (dCons (dC (.int 4)) dNil)))) (P := fun v => ∃ c, v = D.str [c] ∧ sgn c = true) h hi (by simp; omega) (fun d hd s' hs => by
    obtain ⟨r, s'', r1, r2, r3⟩ := take_eq hs (k := 4) (by decide) (by decide)
    rw [List.set_set] at r2 r3
    have r5 : r < [48, 49, 45, 45].length := r1
    refine ⟨D.str [[48, 49, 45, 45][r]], s'', (dOp_eq rfl ((dFn_eq (dCons2 rfl rfl) rfl).trans r2)).trans (fIx_str (by decide) r5), r3, _, rfl, ?_⟩
    have : r = 0 ∨ r = 1 ∨ r = 2 ∨ r = 3 := by omega
    rcases this with rfl | rfl | rfl | rfl <;> rfl)
  obtain ⟨cs, rfl, hcs⟩ := strs_of vs e4
  have hl : cs.length = n := by simpa using e3
  refine ⟨cs, s', mem_terms n cs hl hcs, ?_, e2⟩
  show fin (sRet _ [some (.own m), some (.int n)] O) = _
  rw [sRet_eq (join_eq cs (by omega) (by omega) (dCons1 e1))]; rfl
end K02

namespace K02
open PySem DL
theorem fIn_int (O : Ow) (p : Int) (l : List Int) : fIn O (.int p) (.lst (l.map D.int)) = .ok (.bl (l.any fun q => q == p)) O := by
  show fPy inF O (.int p) (.lst (l.map D.int)) = _
  unfold fPy py
  have e : toPy O 8 (.lst (l.map D.int)) = some (.list (l.map PyData.int)) := by
    show (mapO (toPy O 7) (l.map D.int)).map PyData.list = _
    rw [mapO_int]; rfl
  rw [e]
  show R.ok (D.bl ((l.map PyData.int).any fun y => PyData.eqv y (.int p))) O = _
  rw [List.any_map]
  rfl
theorem frz_tup {O : Ow} {n f : Nat} {ds : List D} (h : ∀ d ∈ ds, flatD n d = true) : frz O n (f + 1) (.tup ds) = some (.tup ds) := by
  show (mapO (frz O n f) ds).map D.tup = _
  rw [mapO_id fun d hd => frz_flat (h d hd)]; rfl
end K02

namespace K02
open PySem DL
/-! ### walks over any source that stands still -/
/-! ### == of a list and its like -/
end K02

namespace K02
open PySem DL
theorem terms_sgn_all : (allT.all fun cs => cs.all sgn) = true := by decide +kernel
theorem terms_sgn {n : Nat} (h1 : 1 ≤ n) (h4 : n ≤ 4) {cs : List Nat} (h : cs ∈ terms n) : ∀ c ∈ cs, sgn c = true := List.all_eq_true.mp (List.all_eq_true.mp terms_sgn_all cs (terms_in h1 h4 h))
theorem ne_sign (O : Ow) {c : Nat} (h : sgn c = true) : fPy neF O (.str [c]) (.str [45]) = .ok (.bl (c != 45)) O := by
  unfold sgn at h
  simp only [Bool.or_eq_true, beq_iff_eq] at h
  rcases h with (rfl | rfl) | rfl <;> kernel_rfl
theorem getD_nat {cs : List Nat} {k : Nat} (h : k < cs.length) : cs.getD k 0 = cs[k] := by rw [List.getD_eq_getElem?_getD, List.getElem?_eq_getElem h]; rfl
def liesB (n : Nat) (a b : List Nat) : Bool := (List.range n).all fun i => b.getD i 0 == 45 || b.getD i 0 == a.getD i 0
theorem mem_pts {n : Nat} (h1 : 1 ≤ n) (h4 : n ≤ 4) {cs : List Nat} (h : cs ∈ terms n) {p : Nat} (hp : p < 2 ^ n) : p ∈ pts cs ↔ matchB cs (bitsL n p) = true := by
  have hl := terms_len h1 h4 h
  have := List.all_eq_true.mp match_pts _ (mem_allP (terms_in h1 h4 h) (by rw [hl]; exact hp))
  simp only [Bool.and_eq_true, beq_iff_eq] at this
  rw [hl] at this
  rw [this.1.1.1]; simp
theorem pts_lt' {n : Nat} (h1 : 1 ≤ n) (h4 : n ≤ 4) {cs : List Nat} (h : cs ∈ terms n) {p : Nat} (hp : p ∈ pts cs) : p < 2 ^ n := by
  have := pts_lt (terms_in h1 h4 h) hp
  rw [terms_len h1 h4 h] at this
  exact this
theorem lies_pts {n : Nat} (h1 : 1 ≤ n) (h4 : n ≤ 4) {a b : List Nat} (ha : a ∈ terms n) (hb : b ∈ terms n) (h : liesB n a b = true) {p : Nat} (hp : p ∈ pts a) : p ∈ pts b := by
  have hlt := pts_lt' h1 h4 ha hp
  have m := (mem_pts h1 h4 ha hlt).mp hp
  refine (mem_pts h1 h4 hb hlt).mpr ?_
  unfold matchB at m ⊢
  unfold liesB at h
  rw [terms_len h1 h4 ha] at m
  rw [terms_len h1 h4 hb]
  rw [List.all_eq_true] at h m ⊢
  intro i hi
  have e1 := h i hi
  have e2 := m i hi
  simp only [Bool.or_eq_true, beq_iff_eq] at e1 e2 ⊢
  rcases e1 with e1 | e1
  · exact .inl e1
  · rcases e2 with e2 | e2
    · exact .inl (e1.trans e2)
    · exact .inr (e1.trans e2)
theorem lies_refl (n : Nat) (a : List Nat) : liesB n a a = true := by
  unfold liesB
  rw [List.all_eq_true]; intro i _; simp
theorem ascii_all : (allT.all fun cs => cs.all (· < 128)) = true := by decide +kernel
theorem zk_term {n : Nat} (h1 : 1 ≤ n) (h4 : n ≤ 4) {cs : List Nat} (h : cs ∈ terms n) : zkD (.str cs) = some (.val (cs.map fun c => .str [c])) := by
  show (if cs.all (· < 128) = true then _ else none) = _
  rw [if_pos (List.all_eq_true.mp ascii_all cs (terms_in h1 h4 h))]
theorem eq_sign (O : Ow) {c d : Nat} (h : sgn c = true) (h' : sgn d = true) : fPy eqF O (.str [c]) (.str [d]) = .ok (.bl (c == d)) O := by
  unfold sgn at h h'
  simp only [Bool.or_eq_true, beq_iff_eq] at h h'
  rcases h with (rfl | rfl) | rfl <;> rcases h' with (rfl | rfl) | rfl <;> kernel_rfl
theorem range_map_get {α : Type} {n i : Nat} (f : Nat → α) : ((List.range n).map f)[i]? = if i < n then some (f i) else none := by
  rw [List.getElem?_map]
  by_cases h : i < n
  · rw [List.getElem?_range h, if_pos h]; rfl
  · rw [List.getElem?_eq_none_iff.mpr (by simpa using h), if_neg h]; rfl
theorem getD_map_get {cs : List Nat} {i : Nat} (h : i < cs.length) (g : Nat → D) : (cs.map g)[i]? = some (g (cs.getD i 0)) := by
  rw [List.getElem?_map, List.getElem?_eq_getElem h, getD_nat h]; rfl
theorem sgn_getD {n : Nat} (h1 : 1 ≤ n) (h4 : n ≤ 4) {cs : List Nat} (h : cs ∈ terms n) {i : Nat} (hi : i < n) : sgn (cs.getD i 0) = true := by
  have hl := terms_len h1 h4 h
  rw [getD_nat (by omega)]
  exact terms_sgn h1 h4 h _ (List.getElem_mem _)
theorem filt_true {α β : Type} (l : List α) (e : α → β) : (l.filter fun _ => true).map e = l.map e := by rw [List.filter_eq_self.mpr (fun _ _ => rfl)]
theorem lies_eq {n : Nat} (h1 : 1 ≤ n) (h4 : n ≤ 4) {a b : List Nat} (ha : a ∈ terms n) (hb : b ∈ terms n) (O : Ow) : F_lies_in [.str a, .str b] O = .ok (.bl (liesB n a b)) O := by
  have la := terms_len h1 h4 ha
  have lb := terms_len h1 h4 hb
  have hi : dZipW (dCons (dVar 0) (dCons (dVar 1) dNil)) [some (.str a), some (.str b)] O = .ok (.zip (.val (a.map fun c => .str [c])) (.val (b.map fun c => .str [c]))) O := by
    show (match zkD (.str a), zkD (.str b) with | some p, some q => R.ok (Src.zip p q) O | _, _ => R.bad) = _
    rw [zk_term h1 h4 ha, zk_term h1 h4 hb]
  have hc := comp_src (o := false) (ext := 2) (g := .two 2 3) (ts := []) (te := dOr (dOp (fPy eqF) (dVar 3) (dC (.str [45]))) (dOp (fPy eqF) (dVar 3) (dVar 2))) (l := List.range n) (inj := fun k => D.tup [.str [a.getD k 0], .str [b.getD k 0]]) (p := fun _ => true) (e := fun k => D.bl (b.getD k 0 == 45 || b.getD k 0 == a.getD k 0))
    (τ := fun k => [some (.str a), some (.str b), some (.str [a.getD k 0]), some (.str [b.getD k 0])]) hi (fun i => by
      rw [range_map_get]
      show (match (a.map fun c => D.str [c])[i]?, (b.map fun c => D.str [c])[i]? with | some x, some y => some (D.tup [x, y]) | _, _ => none) = _
      by_cases hi : i < n
      · rw [if_pos hi, getD_map_get (by omega) fun c => D.str [c], getD_map_get (by omega) fun c => D.str [c]]
      · rw [if_neg hi, List.getElem?_eq_none_iff.mpr (by simp; omega)]) (by
      show min (a.map fun c => D.str [c]).length (b.map fun c => D.str [c]).length = _
      simp [la, lb]) (by rw [List.length_range]; omega) (fun k _ => rfl) (fun k _ => rfl) (fun k hk _ => by
      have hk := List.mem_range.mp hk
      have s1 := sgn_getD h1 h4 ha hk
      have s2 := sgn_getD h1 h4 hb hk
      simp only [sSeq, sSet, sIf, sRet, sDrop, sNil, dVar, dC, dCons, dNil, dFn, dCall, dOp, dTst, dTru, dNotT, truD, R.bnd, R.bnS, fin, List.getElem?_cons_zero, List.getElem?_cons_succ, List.set_cons_zero, List.set_cons_succ, List.length_cons, List.length_nil, Nat.zero_add, Nat.reduceAdd, Nat.reduceLeDiff, Nat.reduceLT, if_true, if_false, Bool.not_true, Bool.not_false, Bool.false_eq_true, ite_true, ite_false, dOr, eq_sign O s2 (show sgn 45 = true from rfl), eq_sign O s2 s1]
      cases (b.getD k 0 == 45) <;> rfl)
  rw [filt_true] at hc
  show fin (B_lies_in [some (.str a), some (.str b)] O) = _
  unfold B_lies_in
  rw [sRet_eq ((dCall_eq (dCons1 hc)).trans (fAll_map' O _ _))]; rfl
theorem ne_bl (O : Ow) (b : Bool) : fPy neF O (.bl b) (.bl b) = .ok (.bl false) O := by cases b <;> kernel_rfl
theorem in_pts {n : Nat} (h1 : 1 ≤ n) (h4 : n ≤ 4) {cs : List Nat} (h : cs ∈ terms n) (p : Nat) (O : Ow) : fIn O (.int (p : Nat)) (.lst (dInts (pts cs))) = .ok (.bl ((pts cs).contains p)) O := by
  have e : dInts (pts cs) = ((pts cs).map fun (q : Nat) => (q : Int)).map D.int := by unfold dInts; rw [List.map_map]; rfl
  rw [e, fIn_int]
  congr 2
  rw [List.any_map, Bool.eq_iff_iff, List.any_eq_true]
  simp only [Function.comp, beq_iff_eq, List.contains_iff_mem]
  constructor
  · rintro ⟨q, hq, e⟩
    have : q = p := by omega
    rw [← this]; exact hq
  · exact fun hq => ⟨p, hq, rfl⟩
theorem same_bl (O : Ow) (b : Bool) : F__law_same [.bl b, .bl b] O = .ok (.bl true) O := by cases b <;> kernel_rfl
theorem mulS_n {O : Ow} {c n : Nat} (h : n ≤ 16) : fMulS O (.str [c]) (.int (n : Nat)) = .ok (.str (List.replicate n c)) O := by
  show (if 0 ≤ ((n : Nat) : Int) ∧ ((n : Nat) : Int) ≤ 16 then R.ok (D.str (List.replicate ((n : Nat) : Int).toNat c)) O else R.bad) = _
  rw [if_pos (by omega)]
  have : ((n : Nat) : Int).toNat = n := by omega
  rw [this]
theorem ne_self_all (O : Ow) : (allT.map fun cs => fPy neF O (.str cs) (.str cs)) = allT.map fun _ => R.ok (.bl false) O := by kernel_rfl
theorem ne_self {cs : List Nat} (h : cs ∈ allT) (O : Ow) : fPy neF O (.str cs) (.str cs) = .ok (.bl false) O := List.map_inj_left.mp (ne_self_all O) cs h
theorem range_get {n k a : Nat} (h : (List.range n)[k]? = some a) : a = k ∧ k < n := by
  obtain ⟨h1, h2⟩ := List.getElem?_eq_some_iff.mp h
  have : k < n := by simpa using h1
  rw [List.getElem_range] at h2
  exact ⟨h2.symm, this⟩
theorem flat_app {O X : Ow} (h : Flat O) (hx : ∀ c ∈ X, ∀ d ∈ c, flatD (O.length + X.length) d = true) : Flat (O ++ X) := by
  intro c hc d hd
  rw [List.length_append]
  rcases List.mem_append.mp hc with hc | hc
  · have := h c hc d hd
    cases d with
    | own k =>
      have : k < O.length := by simpa [flatD] using this
      show decide (k < O.length + X.length) = true
      exact decide_eq_true (by omega)
    | lst _ => cases this
    | tup _ => cases this
    | _ => rfl
  · exact hx c hc d hd
theorem StAt.more {O X : Ow} {m : Nat} {s : Int} {b : Bool} (h : StAt O m s b) : StAt (O ++ X) m s b := ⟨by rw [List.getElem?_append_left h.len]; exact h.at_, h.nn, h.lt⟩
theorem flat_one {O : Ow} (h : Flat O) {c : List D} (hc : ∀ d ∈ c, flatD (O.length + 1) d = true) : Flat (O ++ [c]) := flat_app h fun x hx d hd => by
  have : x = c := by simpa using hx
  subst this; exact hc d hd
theorem turns_eq {ns : List Int} (hn : ns.length ≤ 63) (σ : Sg) (c : Nat) (hc : c < 1000) (h0 : dVar 0 σ [] = .ok (.lst (ns.map .int)) []) : ∃ m : Nat, m < 100000 ∧ dCall fMax2 (dCons (dC (.int 1)) (dCons (dCall fMin2 (dCons (dCall fLen (dCons (dVar 0) dNil)) (dCons (dC (.int (c : Nat))) dNil))) dNil)) σ [] = .ok (.int (m : Nat)) [] := by
  have h1 : dCall fMin2 (dCons (dCall fLen (dCons (dVar 0) dNil)) (dCons (dC (.int (c : Nat))) dNil)) σ [] = .ok (.int (if (c : Int) < ((ns.map D.int).length : Nat) then (c : Int) else ((ns.map D.int).length : Nat))) [] := (dCall_eq (dCons2 ((dCall_eq (dCons1 h0)).trans rfl) rfl)).trans rfl
  have h2 := (dCall_eq (f := fMax2) (dCons2 (t := dC (.int 1)) rfl h1))
  refine ⟨(if (if (c : Int) < ((ns.map D.int).length : Nat) then (c : Int) else ((ns.map D.int).length : Nat)) > 1 then (if (c : Int) < ((ns.map D.int).length : Nat) then (c : Int) else ((ns.map D.int).length : Nat)) else 1).toNat, ?_, h2.trans ?_⟩
  · rw [List.length_map]; split <;> split <;> omega
  · show R.ok (D.int (if (if (c : Int) < ((ns.map D.int).length : Nat) then (c : Int) else ((ns.map D.int).length : Nat)) > 1 then (if (c : Int) < ((ns.map D.int).length : Nat) then (c : Int) else ((ns.map D.int).length : Nat)) else 1)) [] = _
    congr 2
    rw [List.length_map]; split <;> split <;> omega
end K02

namespace K02
open PySem DL
/-- a loop as far as `stop` -/
theorem loop_go {α : Type} {src : Src} {step : D → Sg → Ow → RS} {l : List α} {inj : α → D} {stop : Nat} (hg : ∀ O i, src.get O i = (l.map inj)[i]?) (hs : stop ≤ l.length) (I : Nat → Sg → Ow → Prop) (h : ∀ k a σ O, k < stop → l[k]? = some a → I k σ O → ∃ σ' O', step (inj a) σ O = .nx σ' O' ∧ I (k + 1) σ' O') :
    ∀ (d i f : Nat) (σ : Sg) (O : Ow), i + d = stop → l.length ≤ i + f → I i σ O → ∃ σ' O' f', I stop σ' O' ∧ l.length ≤ stop + f' ∧ loopS src step f i σ O = loopS src step f' stop σ' O'
  | 0, i, f, σ, O, hd, hl, hI => by
    have : i = stop := by omega
    subst this
    exact ⟨σ, O, f, hI, hl, rfl⟩
  | d + 1, i, f, σ, O, hd, hl, hI => by
    have hi : i < l.length := by omega
    cases f with
    | zero => omega
    | succ f =>
      have e : l[i]? = some l[i] := List.getElem?_eq_getElem hi
      obtain ⟨σ1, O1, e1, I1⟩ := h i l[i] σ O (by omega) e hI
      obtain ⟨σ', O', f', q1, q2, q3⟩ := loop_go hg hs I h d (i + 1) f σ1 O1 (by omega) (by omega) I1
      refine ⟨σ', O', f', q1, q2, ?_⟩
      rw [← q3]
      show (match src.get O i with | none => RS.nx σ O | some d => match step d σ O with | .nx σ' O' => loopS src step f (i + 1) σ' O' | .ct σ' O' => loopS src step f (i + 1) σ' O' | .bk σ' O' => .nx σ' O' | r => r) = _
      rw [hg, List.getElem?_map, e]
      show (match step (inj l[i]) σ O with | .nx σ' O' => loopS src step f (i + 1) σ' O' | .ct σ' O' => loopS src step f (i + 1) σ' O' | .bk σ' O' => .nx σ' O' | r => r) = _
      rw [e1]
theorem loop_end {α : Type} {src : Src} {step : D → Sg → Ow → RS} {l : List α} {inj : α → D} (hg : ∀ O i, src.get O i = (l.map inj)[i]?) (f : Nat) (σ : Sg) (O : Ow) : loopS src step f l.length σ O = .nx σ O := by
  have e : src.get O l.length = none := by rw [hg]; simp
  cases f <;> (unfold loopS; rw [e])
theorem loop_rt {α : Type} {src : Src} {step : D → Sg → Ow → RS} {l : List α} {inj : α → D} (hg : ∀ O i, src.get O i = (l.map inj)[i]?) {i f : Nat} {σ : Sg} {O O' : Ow} {a : α} {d : D} (e : l[i]? = some a) (hf : l.length ≤ i + f) (hs : step (inj a) σ O = .rt d O') : loopS src step f i σ O = .rt d O' := by
  have hi := (List.getElem?_eq_some_iff.mp e).1
  cases f with
  | zero => omega
  | succ f =>
    show (match src.get O i with | none => RS.nx σ O | some d => match step d σ O with | .nx σ' O' => loopS src step f (i + 1) σ' O' | .ct σ' O' => loopS src step f (i + 1) σ' O' | .bk σ' O' => .nx σ' O' | r => r) = _
    rw [hg, List.getElem?_map, e]
    show (match step (inj a) σ O with | .nx σ' O' => loopS src step f (i + 1) σ' O' | .ct σ' O' => loopS src step f (i + 1) σ' O' | .bk σ' O' => .nx σ' O' | r => r) = _
    rw [hs]
/-! ### what both hold -/
def clash (a b : List Nat) (k : Nat) : Bool := a.getD k 0 != 45 && (b.getD k 0 != 45 && a.getD k 0 != b.getD k 0)
def both (a b : List Nat) (k : Nat) : Nat := if a.getD k 0 == 45 then b.getD k 0 else a.getD k 0
def met (n : Nat) (a b : List Nat) : List Nat := (List.range n).map (both a b)
theorem met_terms {n : Nat} (h1 : 1 ≤ n) (h4 : n ≤ 4) {a b : List Nat} (ha : a ∈ terms n) (hb : b ∈ terms n) : met n a b ∈ terms n := by
  refine mem_terms n _ (by unfold met; simp) fun c hc => ?_
  obtain ⟨k, hk, rfl⟩ := List.mem_map.mp hc
  unfold both
  split
  · exact sgn_getD h1 h4 hb (List.mem_range.mp hk)
  · exact sgn_getD h1 h4 ha (List.mem_range.mp hk)
theorem met_getD {n : Nat} {a b : List Nat} {k : Nat} (hk : k < n) : (met n a b).getD k 0 = both a b k := by
  unfold met
  rw [List.getD_eq_getElem?_getD, range_map_get, if_pos hk]; rfl
theorem ne_signs (O : Ow) {c d : Nat} (h : sgn c = true) (h' : sgn d = true) : fPy neF O (.str [c]) (.str [d]) = .ok (.bl (c != d)) O := by
  unfold sgn at h h'
  simp only [Bool.or_eq_true, beq_iff_eq] at h h'
  rcases h with (rfl | rfl) | rfl <;> rcases h' with (rfl | rfl) | rfl <;> kernel_rfl
theorem dAndT_eq {c d : DT} {σ : Sg} {O : Ow} {a b : Bool} (h1 : c σ O = .ok a O) (h2 : a = true → d σ O = .ok b O) : dAndT c d σ O = .ok (a && b) O := by
  show ((c σ O).bnd _) = _
  rw [h1]
  cases a with
  | true => exact h2 rfl
  | false => rfl
def bodyM : DS := sSeq (sIf (dAndT (dTst (dOp (fPy neF) (dVar 3) (dC (.str [45])))) (dAndT (dTst (dOp (fPy neF) (dVar 4) (dC (.str [45])))) (dTst (dOp (fPy neF) (dVar 3) (dVar 4))))) (sRet (dC .non)) sNil) (sDrop (dApp (dVar 2) (dCons (dIf (dTst (dOp (fPy eqF) (dVar 3) (dC (.str [45])))) (dVar 4) (dVar 3)) dNil)))
theorem bodyM_eq {x y : Nat} (hx : sgn x = true) (hy : sgn y = true) {O : Ow} {k : Nat} {c : List D} (hk : O[k]? = some c) (hc : c.length < 100000) (p q : Option D) :
    bodyM [p, q, some (.own k), some (.str [x]), some (.str [y])] O = if (x != 45 && (y != 45 && x != y)) = true then .rt .non O else .nx [p, q, some (.own k), some (.str [x]), some (.str [y])] (O.set k (c ++ [.str [if x == 45 then y else x]])) := by
  let σ : Sg := [p, q, some (.own k), some (.str [x]), some (.str [y])]
  have t1 : dAndT (dTst (dOp (fPy neF) (dVar 3) (dC (.str [45])))) (dAndT (dTst (dOp (fPy neF) (dVar 4) (dC (.str [45])))) (dTst (dOp (fPy neF) (dVar 3) (dVar 4)))) σ O = .ok (x != 45 && (y != 45 && x != y)) O :=
    dAndT_eq (dTst_eq ((dOp_eq rfl rfl).trans (ne_signs O hx (show sgn 45 = true from rfl)))) fun _ => dAndT_eq (dTst_eq ((dOp_eq rfl rfl).trans (ne_signs O hy (show sgn 45 = true from rfl)))) fun _ => dTst_eq ((dOp_eq rfl rfl).trans (ne_signs O hx hy))
  unfold bodyM
  cases h : (x != 45 && (y != 45 && x != y)) with
  | true =>
    rw [h] at t1
    have e1 : sIf (dAndT (dTst (dOp (fPy neF) (dVar 3) (dC (.str [45])))) (dAndT (dTst (dOp (fPy neF) (dVar 4) (dC (.str [45])))) (dTst (dOp (fPy neF) (dVar 3) (dVar 4))))) (sRet (dC .non)) sNil σ O = .rt .non O := by rw [sIf_eq t1]; rfl
    rw [if_pos rfl]
    exact sSeq_rt e1
  | false =>
    rw [h] at t1
    have e1 : sIf (dAndT (dTst (dOp (fPy neF) (dVar 3) (dC (.str [45])))) (dAndT (dTst (dOp (fPy neF) (dVar 4) (dC (.str [45])))) (dTst (dOp (fPy neF) (dVar 3) (dVar 4))))) (sRet (dC .non)) sNil σ O = .nx σ O := by rw [sIf_eq t1]; rfl
    rw [if_neg (by decide)]
    refine (sSeq_nx e1).trans ?_
    simp only [sSeq, sSet, sIf, sRet, sDrop, sNil, dVar, dC, dCons, dNil, dFn, dCall, dOp, dTst, dTru, dNotT, truD, R.bnd, R.bnS, fin, List.getElem?_cons_zero, List.getElem?_cons_succ, List.set_cons_zero, List.set_cons_succ, List.length_cons, List.length_nil, Nat.zero_add, Nat.reduceAdd, Nat.reduceLeDiff, Nat.reduceLT, if_true, if_false, Bool.not_true, Bool.not_false, Bool.false_eq_true, ite_true, ite_false, σ, dApp, dIf, eq_sign O hx (show sgn 45 = true from rfl)]
    cases hx45 : (x == 45) with
    | true => simp only [sSeq, sSet, sIf, sRet, sDrop, sNil, dVar, dC, dCons, dNil, dFn, dCall, dOp, dTst, dTru, dNotT, truD, R.bnd, R.bnS, fin, List.getElem?_cons_zero, List.getElem?_cons_succ, List.set_cons_zero, List.set_cons_succ, List.length_cons, List.length_nil, Nat.zero_add, Nat.reduceAdd, Nat.reduceLeDiff, Nat.reduceLT, if_true, if_false, Bool.not_true, Bool.not_false, Bool.false_eq_true, ite_true, ite_false, hk, hc]
    | false => simp only [sSeq, sSet, sIf, sRet, sDrop, sNil, dVar, dC, dCons, dNil, dFn, dCall, dOp, dTst, dTru, dNotT, truD, R.bnd, R.bnS, fin, List.getElem?_cons_zero, List.getElem?_cons_succ, List.set_cons_zero, List.set_cons_succ, List.length_cons, List.length_nil, Nat.zero_add, Nat.reduceAdd, Nat.reduceLeDiff, Nat.reduceLT, if_true, if_false, Bool.not_true, Bool.not_false, Bool.false_eq_true, ite_true, ite_false, hk, hc]
theorem zip_src {n : Nat} (h1 : 1 ≤ n) (h4 : n ≤ 4) {a b : List Nat} (ha : a ∈ terms n) (hb : b ∈ terms n) (σ : Sg) (O : Ow) (i j : Nat) (e1 : dVar i σ O = .ok (.str a) O) (e2 : dVar j σ O = .ok (.str b) O) : dZipW (dCons (dVar i) (dCons (dVar j) dNil)) σ O = .ok (.zip (.val (a.map fun c => .str [c])) (.val (b.map fun c => .str [c]))) O := by
  show ((dCons (dVar i) (dCons (dVar j) dNil) σ O).bnd _) = _
  rw [dCons2 e1 e2]
  show (match zkD (.str a), zkD (.str b) with | some p, some q => R.ok (Src.zip p q) O | _, _ => R.bad) = _
  rw [zk_term h1 h4 ha, zk_term h1 h4 hb]
theorem zip_get {n : Nat} (h1 : 1 ≤ n) (h4 : n ≤ 4) {a b : List Nat} (ha : a ∈ terms n) (hb : b ∈ terms n) (O : Ow) (i : Nat) : (Src.zip (.val (a.map fun c => D.str [c])) (.val (b.map fun c => D.str [c]))).get O i = ((List.range n).map fun k => D.tup [.str [a.getD k 0], .str [b.getD k 0]])[i]? := by
  have la := terms_len h1 h4 ha
  have lb := terms_len h1 h4 hb
  rw [range_map_get]
  show (match (a.map fun c => D.str [c])[i]?, (b.map fun c => D.str [c])[i]? with | some x, some y => some (D.tup [x, y]) | _, _ => none) = _
  by_cases hi : i < n
  · rw [if_pos hi, getD_map_get (by omega) fun c => D.str [c], getD_map_get (by omega) fun c => D.str [c]]
  · rw [if_neg hi, List.getElem?_eq_none_iff.mpr (by simp; omega)]
def meetO (n : Nat) (a b : List Nat) : D := if (List.range n).any (clash a b) = true then .non else .str (met n a b)
theorem meet_eq {n : Nat} (h1 : 1 ≤ n) (h4 : n ≤ 4) {a b : List Nat} (ha : a ∈ terms n) (hb : b ∈ terms n) {O : Ow} (hO : Flat O) : F_meet [.str a, .str b] O = .ok (meetO n a b) O := by
  have la := terms_len h1 h4 ha
  have lb := terms_len h1 h4 hb
  have e0 : sSet 2 (dLstO dNil) [some (.str a), some (.str b), none, none, none] O = .nx [some (.str a), some (.str b), some (.own O.length), none, none] (O ++ [[]]) := rfl
  have hi := zip_src h1 h4 ha hb [some (.str a), some (.str b), some (.own O.length), none, none] (O ++ [[]]) 0 1 rfl rfl
  let src : Src := .zip (.val (a.map fun c => D.str [c])) (.val (b.map fun c => D.str [c]))
  let step : D → Sg → Ow → RS := fun d σ O => match Tg.put (.two 3 4) d σ with | some σ' => bodyM σ' O | none => .bad
  have hg : ∀ O i, src.get O i = ((List.range n).map fun k => D.tup [.str [a.getD k 0], .str [b.getD k 0]])[i]? := fun O i => zip_get h1 h4 ha hb O i
  have hsz : src.size (O ++ [[]]) = n := by
    show min (a.map fun c => D.str [c]).length (b.map fun c => D.str [c]).length = n
    simp [la, lb]
  let I : Nat → Sg → Ow → Prop := fun k σ O' => ∃ y3 y4, σ = [some (.str a), some (.str b), some (.own O.length), y3, y4] ∧ O' = O ++ [(List.range k).map fun j => D.str [both a b j]]
  have cell : ∀ l : List D, (O ++ [l])[O.length]? = some l := fun l => by simp
  have stp : ∀ k σ O', k < n → I k σ O' → step (D.tup [.str [a.getD k 0], .str [b.getD k 0]]) σ O' = (if clash a b k = true then RS.rt .non O' else RS.nx [some (.str a), some (.str b), some (.own O.length), some (.str [a.getD k 0]), some (.str [b.getD k 0])] (O ++ [(List.range (k + 1)).map fun j => D.str [both a b j]])) := by
    rintro k σ O' hk ⟨y3, y4, rfl, rfl⟩
    have := bodyM_eq (sgn_getD h1 h4 ha hk) (sgn_getD h1 h4 hb hk) (cell ((List.range k).map fun j => D.str [both a b j])) (by simp; omega) (some (.str a)) (some (.str b))
    refine this.trans ?_
    have hs : (O ++ [(List.range k).map fun j => D.str [both a b j]]).set O.length ((List.range k).map (fun j => D.str [both a b j]) ++ [.str [if a.getD k 0 == 45 then b.getD k 0 else a.getD k 0]]) = O ++ [(List.range (k + 1)).map fun j => D.str [both a b j]] := by
      rw [List.set_append_right _ _ (Nat.le_refl _), Nat.sub_self, List.range_succ, List.map_append]; rfl
    rw [hs]; rfl
  show frzR O.length (fin (sSeq _ (sSeq (sFor _ (.two 3 4) bodyM) (sRet (dJoin (dC (.str [])) (dCons (dVar 2) dNil)))) [some (.str a), some (.str b), none, none, none] O)) = _
  rw [sSeq_nx e0]
  have hfor : sFor (dZipW (dCons (dVar 0) (dCons (dVar 1) dNil))) (.two 3 4) bodyM [some (.str a), some (.str b), some (.own O.length), none, none] (O ++ [[]]) = loopS src step n 0 [some (.str a), some (.str b), some (.own O.length), none, none] (O ++ [[]]) := by
    refine (sFor_eq hi).trans ?_
    show loopS src step (src.size (O ++ [[]])) 0 _ _ = _
    rw [hsz]
  unfold meetO
  by_cases hcl : (List.range n).any (clash a b) = true
  · rw [if_pos hcl]
    -- the first place where they clash
    obtain ⟨j, hj, hcj, hmin⟩ : ∃ j, j < n ∧ clash a b j = true ∧ ∀ k, k < j → clash a b k = false := by
      obtain ⟨k, hk, hc⟩ := List.any_eq_true.mp hcl
      have : ∃ j, j < n ∧ clash a b j = true := ⟨k, List.mem_range.mp hk, hc⟩
      have key : ∀ m, (∃ j, j < m ∧ clash a b j = true) → ∃ j, j < m ∧ clash a b j = true ∧ ∀ k, k < j → clash a b k = false := by
        intro m
        induction m with
        | zero => rintro ⟨j, hj, _⟩; omega
        | succ m ih =>
          rintro ⟨j, hj, hc⟩
          by_cases h : ∃ j, j < m ∧ clash a b j = true
          · obtain ⟨j', q1, q2, q3⟩ := ih h
            exact ⟨j', by omega, q2, q3⟩
          · refine ⟨j, hj, hc, fun k hk => ?_⟩
            cases e : clash a b k with
            | false => rfl
            | true => exact absurd ⟨k, by omega, e⟩ h
      exact key n this
    obtain ⟨σ', O', f', q1, q2, q3⟩ := loop_go (l := List.range n) (stop := j) (step := step) hg (by simp; omega) I (fun k x σ O' hk e hI => by
      obtain ⟨rfl, hkn⟩ := range_get e
      refine ⟨_, _, (stp x σ O' hkn hI).trans (if_neg (by rw [hmin x hk]; decide)), _, _, rfl, rfl⟩) j 0 n [some (.str a), some (.str b), some (.own O.length), none, none] (O ++ [[]]) (by omega) (by simp) ⟨none, none, rfl, rfl⟩
    have hr : loopS src step n 0 [some (.str a), some (.str b), some (.own O.length), none, none] (O ++ [[]]) = .rt .non O' := by
      rw [q3]
      refine loop_rt (l := List.range n) hg (a := j) (List.getElem?_range hj) q2 ?_
      exact (stp j σ' O' hj q1).trans (if_pos hcj)
    obtain ⟨y3, y4, rfl, rfl⟩ := q1
    rw [sSeq_rt (hfor.trans hr)]
    exact frzR_gen hO [(List.range j).map fun k => D.str [both a b k]] rfl
  · rw [if_neg hcl]
    have hno : ∀ k, k < n → clash a b k = false := fun k hk => by
      cases e : clash a b k with
      | false => rfl
      | true => exact absurd (List.any_eq_true.mpr ⟨k, List.mem_range.mpr hk, e⟩) hcl
    obtain ⟨σ', O', f', q1, q2, q3⟩ := loop_go (l := List.range n) (stop := n) (step := step) hg (by simp) I (fun k x σ O' hk e hI => by
      obtain ⟨rfl, hkn⟩ := range_get e
      refine ⟨_, _, (stp x σ O' hkn hI).trans (if_neg (by rw [hno x hkn]; decide)), _, _, rfl, rfl⟩) n 0 n [some (.str a), some (.str b), some (.own O.length), none, none] (O ++ [[]]) (by omega) (by simp) ⟨none, none, rfl, rfl⟩
    obtain ⟨y3, y4, rfl, rfl⟩ := q1
    have hend := loop_end (l := List.range n) (step := step) hg f' [some (.str a), some (.str b), some (.own O.length), y3, y4] (O ++ [(List.range n).map fun k => D.str [both a b k]])
    rw [List.length_range] at hend
    rw [hend] at q3
    rw [sSeq_nx (hfor.trans q3)]
    have hjn : dJoin (dC (.str [])) (dCons (dVar 2) dNil) [some (.str a), some (.str b), some (.own O.length), y3, y4] (O ++ [(List.range n).map fun k => D.str [both a b k]]) = .ok (.str (met n a b)) (O ++ [(List.range n).map fun k => D.str [both a b k]]) := by
      have hm : (List.range n).map (fun k => D.str [both a b k]) = (met n a b).map fun c => D.str [c] := by unfold met; rw [List.map_map]; rfl
      have h2 := join_eq (σ := []) (O := O ++ [(List.range n).map fun k => D.str [both a b k]]) (O' := O ++ [(List.range n).map fun k => D.str [both a b k]]) (tA := fun _ O => .ok [.lst ((met n a b).map fun c => .str [c])] O) (met n a b) (by unfold met; simp; omega) (by unfold met; simp; omega) rfl
      have h3 : lsV (O ++ [(List.range n).map fun k => D.str [both a b k]]) (.own O.length) = some ((met n a b).map fun c => D.str [c]) := by rw [← hm]; exact cell _
      have h4 : lsV (O ++ [(List.range n).map fun k => D.str [both a b k]]) (.lst ((met n a b).map fun c => .str [c])) = some ((met n a b).map fun c => D.str [c]) := rfl
      unfold dJoin at h2 ⊢
      simp only [dC, dCons, dNil, dVar, R.bnd, List.getElem?_cons_zero, List.getElem?_cons_succ] at h2 ⊢
      simp only [h3]
      simp only [h4] at h2
      exact h2
    rw [sRet_eq hjn]
    exact frzR_gen hO [(List.range n).map fun k => D.str [both a b k]] rfl
end K02

namespace K02
open PySem DL
/-! ### points -/
theorem wit_all : (allT.all fun a => (List.range a.length).all fun i => [48, 49].all fun c => !(a.getD i 0 == 45 || a.getD i 0 == c) || (pts a).any fun p => (bitsL a.length p).getD i 1 == c) = true := by decide +kernel
theorem lies_iff {n : Nat} (h1 : 1 ≤ n) (h4 : n ≤ 4) {a b : List Nat} (ha : a ∈ terms n) (hb : b ∈ terms n) : liesB n a b = (pts a).all fun p => (pts b).contains p := by
  have la := terms_len h1 h4 ha
  rw [Bool.eq_iff_iff]
  constructor
  · intro h
    rw [List.all_eq_true]
    intro p hp
    have := lies_pts h1 h4 ha hb h hp
    simpa using this
  · intro h
    rw [List.all_eq_true] at h
    unfold liesB
    rw [List.all_eq_true]
    intro i hi
    have hi := List.mem_range.mp hi
    have sa := sgn_getD h1 h4 ha hi
    have sb := sgn_getD h1 h4 hb hi
    cases hx : (b.getD i 0 == 45 || b.getD i 0 == a.getD i 0) with
    | true => rfl
    | false =>
      exfalso
      simp only [Bool.or_eq_false_iff, beq_eq_false_iff_ne, ne_eq] at hx
      obtain ⟨x1, x2⟩ := hx
      unfold sgn at sa sb
      simp only [Bool.or_eq_true, beq_iff_eq] at sa sb
      -- the other figure
      obtain ⟨c, hc, hcb, hca⟩ : ∃ c, c ∈ [48, 49] ∧ c ≠ b.getD i 0 ∧ (a.getD i 0 = 45 ∨ a.getD i 0 = c) := by
        rcases sb with (sb | sb) | sb
        · exact absurd sb x1
        · refine ⟨49, by simp, by rw [sb]; decide, ?_⟩
          rcases sa with (sa | sa) | sa
          · exact .inl sa
          · exact absurd (sb.trans sa.symm) x2
          · exact .inr sa
        · refine ⟨48, by simp, by rw [sb]; decide, ?_⟩
          rcases sa with (sa | sa) | sa
          · exact .inl sa
          · exact .inr sa
          · exact absurd (sb.trans sa.symm) x2
      have w := List.all_eq_true.mp (List.all_eq_true.mp (List.all_eq_true.mp wit_all a (terms_in h1 h4 ha)) i (List.mem_range.mpr (by omega))) c hc
      have hcond : (a.getD i 0 == 45 || a.getD i 0 == c) = true := by simpa using hca
      rw [hcond] at w
      simp only [Bool.not_true, Bool.false_or] at w
      obtain ⟨p, hp, hbit⟩ := List.any_eq_true.mp w
      have hbit : (bitsL n p).getD i 1 = c := by rw [la] at hbit; simpa using hbit
      have hlt := pts_lt' h1 h4 ha hp
      have hpb : p ∈ pts b := by have := h p hp; simpa using this
      have m := (mem_pts h1 h4 hb hlt).mp hpb
      unfold matchB at m
      rw [terms_len h1 h4 hb, List.all_eq_true] at m
      have mi := m i (List.mem_range.mpr hi)
      simp only [Bool.or_eq_true, beq_iff_eq] at mi
      rcases mi with z | z
      · exact x1 z
      · exact hcb (by rw [z, hbit])
def bothP (a b : List Nat) : List Nat := (pts a).filter fun p => (pts b).contains p
theorem pts_range {n : Nat} (h1 : 1 ≤ n) (h4 : n ≤ 4) {a : List Nat} (ha : a ∈ terms n) : pts a = (List.range (2 ^ n)).filter fun p => (pts a).contains p := by
  have := List.all_eq_true.mp range_pts a (terms_in h1 h4 ha)
  rw [terms_len h1 h4 ha] at this
  have := of_decide_eq_true this
  exact this.symm
theorem clash_none {n : Nat} (h1 : 1 ≤ n) (h4 : n ≤ 4) {a b : List Nat} (ha : a ∈ terms n) (hb : b ∈ terms n) (h : (List.range n).any (clash a b) = true) : bothP a b = [] := by
  obtain ⟨k, hk, hc⟩ := List.any_eq_true.mp h
  unfold clash at hc
  simp only [Bool.and_eq_true, bne_iff_ne, ne_eq] at hc
  unfold bothP
  rw [List.filter_eq_nil_iff]
  intro p hp hpb
  have hlt := pts_lt' h1 h4 ha hp
  have m1 := (mem_pts h1 h4 ha hlt).mp hp
  have m2 := (mem_pts h1 h4 hb hlt).mp (by simpa using hpb)
  unfold matchB at m1 m2
  rw [terms_len h1 h4 ha, List.all_eq_true] at m1
  rw [terms_len h1 h4 hb, List.all_eq_true] at m2
  have e1 := m1 k hk
  have e2 := m2 k hk
  simp only [Bool.or_eq_true, beq_iff_eq] at e1 e2
  rcases e1 with e1 | e1
  · exact hc.1 e1
  · rcases e2 with e2 | e2
    · exact hc.2.1 e2
    · refine hc.2.2 ?_
      have hbits : k < (bitsL n p).length := by
        have := List.all_eq_true.mp match_pts _ (mem_allP (terms_in h1 h4 ha) (p := p) (by rw [terms_len h1 h4 ha]; exact hlt))
        simp only [Bool.and_eq_true, beq_iff_eq] at this
        rw [terms_len h1 h4 ha] at this
        rw [this.1.1.2]; exact List.mem_range.mp hk
      rw [e1, e2]
theorem met_pts {n : Nat} (h1 : 1 ≤ n) (h4 : n ≤ 4) {a b : List Nat} (ha : a ∈ terms n) (hb : b ∈ terms n) (h : (List.range n).any (clash a b) ≠ true) : bothP a b = pts (met n a b) := by
  have hm := met_terms h1 h4 ha hb
  rw [pts_range h1 h4 hm]
  unfold bothP
  rw [pts_range h1 h4 ha, List.filter_filter]
  refine List.filter_congr fun p hp => ?_
  have hlt := List.mem_range.mp hp
  rw [Bool.eq_iff_iff, Bool.and_eq_true, List.contains_iff_mem, List.contains_iff_mem, List.contains_iff_mem, mem_pts h1 h4 ha hlt, mem_pts h1 h4 hb hlt, mem_pts h1 h4 hm hlt]
  unfold matchB
  rw [terms_len h1 h4 ha, terms_len h1 h4 hb, terms_len h1 h4 hm, List.all_eq_true, List.all_eq_true, List.all_eq_true]
  constructor
  · rintro ⟨q1, q2⟩ i hi
    have e1 := q1 i hi
    have e2 := q2 i hi
    rw [met_getD (List.mem_range.mp hi)]
    unfold both
    split
    · exact q1 i hi
    · exact q2 i hi
  · intro q
    have key : ∀ i, i ∈ List.range n → (a.getD i 0 == 45 || a.getD i 0 == (bitsL n p).getD i 1) = true ∧ (b.getD i 0 == 45 || b.getD i 0 == (bitsL n p).getD i 1) = true := fun i hi => by
      have e := q i hi
      rw [met_getD (List.mem_range.mp hi)] at e
      have hnc : clash a b i = false := by
        cases hc : clash a b i with
        | false => rfl
        | true => exact absurd (List.any_eq_true.mpr ⟨i, hi, hc⟩) h
      unfold clash at hnc
      unfold both at e
      by_cases ea : a.getD i 0 = 45
      · rw [if_pos (by simpa using ea)] at e
        exact ⟨by rw [ea]; rfl, e⟩
      · rw [if_neg (by simpa using ea)] at e
        refine ⟨e, ?_⟩
        simp only [Bool.or_eq_true, beq_iff_eq] at e ⊢
        by_cases eb : b.getD i 0 = 45
        · exact .inl eb
        · right
          have hab : a.getD i 0 = b.getD i 0 := by
            simp only [Bool.and_eq_false_iff, bne_eq_false_iff_eq] at hnc
            rcases hnc with z | z | z
            · exact absurd z ea
            · exact absurd z eb
            · exact z
          rcases e with z | z
          · exact absurd z ea
          · rw [← hab]; exact z
    exact ⟨fun i hi => (key i hi).2, fun i hi => (key i hi).1⟩
theorem pts_some_all : (allT.all fun cs => !(pts cs).isEmpty) = true := by decide +kernel
theorem pts_some {n : Nat} (h1 : 1 ≤ n) (h4 : n ≤ 4) {a : List Nat} (ha : a ∈ terms n) : (pts a).isEmpty = false := by
  have := List.all_eq_true.mp pts_some_all a (terms_in h1 h4 ha)
  simpa using this
/-! ### whether it is a term -/
def A7 : List Nat := [48, 49, 45, 50, 32, 120, 43]
theorem in_signs (O : Ow) : (A7.map fun c => fIn O (.str [c]) (.str [45, 48, 49])) = A7.map fun c => R.ok (.bl (sgn c)) O := by kernel_rfl
theorem neI (O : Ow) (a b : Int) : fPy neF O (.int a) (.int b) = .ok (.bl (a != b)) O := rfl
theorem eqI (O : Ow) (a b : Int) : fPy eqF O (.int a) (.int b) = .ok (.bl (a == b)) O := rfl
theorem signs_str {n : Nat} {cs : List Nat} (hc : ∀ c ∈ cs, c ∈ A7) (hl : cs.length ≤ 10) (O : Ow) : F_has_term_signs [.int (n : Nat), .str cs] O = .ok (.bl (cs.length == n && cs.all sgn)) O := by
  have hlen : dCall fLen (dCons (dVar 1) dNil) [some (.int (n : Nat)), some (.str cs)] O = .ok (.int (cs.length : Nat)) O := (dCall_eq (dCons1 rfl)).trans (fLen_str (by omega))
  have t1 : dOrT (dNotT (dTru (dIsi "str" (dVar 1)))) (dTst (dOp (fPy neF) (dCall fLen (dCons (dVar 1) dNil)) (dVar 0))) [some (.int (n : Nat)), some (.str cs)] O = .ok (((cs.length : Nat) : Int) != (n : Nat)) O := by
    have : dTst (dOp (fPy neF) (dCall fLen (dCons (dVar 1) dNil)) (dVar 0)) [some (.int (n : Nat)), some (.str cs)] O = .ok (((cs.length : Nat) : Int) != (n : Nat)) O := dTst_eq ((dOp_eq hlen rfl).trans (neI O _ _))
    exact this
  have hb : (((cs.length : Nat) : Int) != (n : Nat)) = !(cs.length == n) := by
    rw [Bool.eq_iff_iff]; simp; omega
  rw [hb] at t1
  have hcmp := comp0 (o := false) (ext := 1) (i := 2) (it0 := dIt (dVar 1)) (σ := [some (.int (n : Nat)), some (.str cs)]) (O0 := O) (O := O) (l := cs) (inj := fun c => D.str [c]) (te := dOp fIn (dVar 2) (dC (.str [45, 48, 49]))) (e := fun c => D.bl (sgn c)) (τ := fun c => [some (.int (n : Nat)), some (.str cs), some (.str [c])]) rfl (by omega) (fun _ => rfl) (fun c h => (dOp_eq rfl rfl).trans (List.map_inj_left.mp (in_signs O) c (hc c h)))
  show fin (sSeq (sIf _ (sRet (dC (.bl false))) sNil) (sRet _) [some (.int (n : Nat)), some (.str cs)] O) = _
  cases hx : (cs.length == n) with
  | false =>
    rw [hx] at t1
    have e1 : sIf (dOrT (dNotT (dTru (dIsi "str" (dVar 1)))) (dTst (dOp (fPy neF) (dCall fLen (dCons (dVar 1) dNil)) (dVar 0)))) (sRet (dC (.bl false))) sNil [some (.int (n : Nat)), some (.str cs)] O = .rt (.bl false) O := by rw [sIf_eq t1]; rfl
    rw [sSeq_rt e1]; rfl
  | true =>
    rw [hx] at t1
    have e1 : sIf (dOrT (dNotT (dTru (dIsi "str" (dVar 1)))) (dTst (dOp (fPy neF) (dCall fLen (dCons (dVar 1) dNil)) (dVar 0)))) (sRet (dC (.bl false))) sNil [some (.int (n : Nat)), some (.str cs)] O = .nx [some (.int (n : Nat)), some (.str cs)] O := by rw [sIf_eq t1]; rfl
    rw [sSeq_nx e1, sRet_eq ((dCall_eq (dCons1 hcmp)).trans (fAll_map' O _ _))]
    rfl
end K02

namespace K02
open PySem DL
def words : Nat → List (List Nat)
  | 0 => [[]]
  | n + 1 => A7.flatMap fun c => (words n).map fun w => c :: w
theorem mem_words : ∀ (n : Nat) (cs : List Nat), cs.length = n → (∀ c ∈ cs, c ∈ A7) → cs ∈ words n
  | 0, cs, h, _ => by
    have : cs = [] := List.length_eq_zero_iff.mp h
    subst this; exact List.mem_singleton.mpr rfl
  | n + 1, [], h, _ => by cases h
  | n + 1, c :: cs, h, hc => List.mem_flatMap.mpr ⟨c, hc c (by simp), List.mem_map.mpr ⟨cs, mem_words n cs (by simpa using h) fun d hd => hc d (by simp [hd]), rfl⟩⟩
theorem lit_1 (O : Ow) : ((words 1).map fun cs => F__law_is_term [.int (1 : Nat), .str cs] O) = (words 1).map fun cs => R.ok (.bl (cs.all sgn)) O := by kernel_rfl
theorem lit_2 (O : Ow) : ((words 2).map fun cs => F__law_is_term [.int (2 : Nat), .str cs] O) = (words 2).map fun cs => R.ok (.bl (cs.all sgn)) O := by kernel_rfl
theorem lit_3 (O : Ow) : ((words 3).map fun cs => F__law_is_term [.int (3 : Nat), .str cs] O) = (words 3).map fun cs => R.ok (.bl (cs.all sgn)) O := by kernel_rfl
theorem lit_4 (O : Ow) : ((words 4).map fun cs => F__law_is_term [.int (4 : Nat), .str cs] O) = (words 4).map fun cs => R.ok (.bl (cs.all sgn)) O := by kernel_rfl
theorem lit_len {n : Nat} (h1 : 1 ≤ n) (h4 : n ≤ 4) {cs : List Nat} (hc : ∀ c ∈ cs, c ∈ A7) (hl : cs.length = n) (O : Ow) : F__law_is_term [.int (n : Nat), .str cs] O = .ok (.bl (cs.all sgn)) O := by
  have hw := mem_words n cs hl hc
  rcases four h1 h4 with rfl | rfl | rfl | rfl
  · exact List.map_inj_left.mp (lit_1 O) cs hw
  · exact List.map_inj_left.mp (lit_2 O) cs hw
  · exact List.map_inj_left.mp (lit_3 O) cs hw
  · exact List.map_inj_left.mp (lit_4 O) cs hw
theorem lit_str {n : Nat} (h1 : 1 ≤ n) (h4 : n ≤ 4) {cs : List Nat} (hc : ∀ c ∈ cs, c ∈ A7) (hl : cs.length ≤ 10) (O : Ow) : F__law_is_term [.int (n : Nat), .str cs] O = .ok (.bl (cs.length == n && cs.all sgn)) O := by
  by_cases h : cs.length = n
  · rw [lit_len h1 h4 hc h O, h]; simp
  · have hx : (cs.length == n) = false := by simpa using h
    rw [hx]
    have e1 : dOp (fPy eqF) (dCall fLen (dCons (dVar 1) dNil)) (dVar 0) [some (.int (n : Nat)), some (.str cs)] O = .ok (.bl false) O := by
      refine (dOp_eq ((dCall_eq (dCons1 rfl)).trans (fLen_str (by omega))) rfl).trans ?_
      rw [eqI]
      congr 2
      rw [Bool.eq_iff_iff]; simp; omega
    show fin (sRet (dAnd (dIsi "str" (dVar 1)) (dAnd (dOp (fPy eqF) (dCall fLen (dCons (dVar 1) dNil)) (dVar 0)) _)) [some (.int (n : Nat)), some (.str cs)] O) = _
    have e2 : dAnd (dIsi "str" (dVar 1)) (dAnd (dOp (fPy eqF) (dCall fLen (dCons (dVar 1) dNil)) (dVar 0)) (dOp (fPy eqF) (dS1 gStrip (dVar 1) (dCons (dC (.str [48, 49, 45])) dNil)) (dC (.str [])))) [some (.int (n : Nat)), some (.str cs)] O = .ok (.bl false) O := by
      show ((dOp (fPy eqF) (dCall fLen (dCons (dVar 1) dNil)) (dVar 0) [some (.int (n : Nat)), some (.str cs)] O).bnd _) = _
      rw [e1]; rfl
    rw [sRet_eq e2]; rfl
/-- what is asked -/
def Thing (d : D) : Prop := (∃ w : List Nat, d = .str w ∧ (∀ c ∈ w, c ∈ A7) ∧ w.length ≤ 10) ∨ (∃ xs, d = .tup xs) ∨ d = .non ∨ d = .int 0 ∨ ∃ xs, d = .lst xs
def ansT (n : Nat) : D → Bool
  | .str w => w.length == n && w.all sgn
  | _ => false
theorem signs_thing (n : Nat) {d : D} (h : Thing d) (O : Ow) : F_has_term_signs [.int (n : Nat), d] O = .ok (.bl (ansT n d)) O := by
  rcases h with ⟨w, rfl, hc, hl⟩ | ⟨xs, rfl⟩ | rfl | rfl | ⟨xs, rfl⟩
  · exact signs_str hc hl O
  all_goals rfl
theorem lit_thing {n : Nat} (h1 : 1 ≤ n) (h4 : n ≤ 4) {d : D} (h : Thing d) (O : Ow) : F__law_is_term [.int (n : Nat), d] O = .ok (.bl (ansT n d)) O := by
  rcases h with ⟨w, rfl, hc, hl⟩ | ⟨xs, rfl⟩ | rfl | rfl | ⟨xs, rfl⟩
  · exact lit_str h1 h4 hc hl O
  all_goals rfl
theorem sw_all (O : Ow) : ([1, 2, 3, 4].map fun n => F_need_switches [.int (n : Nat)] O) = [1, 2, 3, 4].map fun _ => R.ok .non O := by kernel_rfl
def bads : List D := [.int 0, .int 5, .int (-1), .bl true, .non, .str [50], .tup [.int 1]]
theorem bad_all (O : Ow) : (bads.map fun d => F_need_switches [d] O) = bads.map fun _ => R.exc 0 O := by kernel_rfl
theorem sw_ok {n : Nat} (h1 : 1 ≤ n) (h4 : n ≤ 4) (O : Ow) : F_need_switches [.int (n : Nat)] O = .ok .non O :=
  List.map_inj_left.mp (sw_all O) n (by rcases four h1 h4 with rfl | rfl | rfl | rfl <;> simp)
theorem is_term_thing {n : Nat} (h1 : 1 ≤ n) (h4 : n ≤ 4) {d : D} (h : Thing d) (O : Ow) : F_is_term [.int (n : Nat), d] O = .ok (.bl (ansT n d)) O := by
  show fin (B_is_term [some (.int (n : Nat)), some d] O) = _
  unfold B_is_term
  simp only [sSeq, sSet, sIf, sRet, sDrop, sNil, dVar, dC, dCons, dNil, dFn, dCall, dOp, dTst, dTru, dNotT, truD, R.bnd, R.bnS, fin, List.getElem?_cons_zero, List.getElem?_cons_succ, List.set_cons_zero, List.set_cons_succ, List.length_cons, List.length_nil, Nat.zero_add, Nat.reduceAdd, Nat.reduceLeDiff, Nat.reduceLT, if_true, if_false, Bool.not_true, Bool.not_false, Bool.false_eq_true, ite_true, ite_false, sw_ok h1 h4 O, signs_thing n h O]
theorem is_term_bad {d e : D} (h : d ∈ bads) (O : Ow) : F_is_term [d, e] O = .exc 0 O := by
  show fin (B_is_term [some d, some e] O) = _
  unfold B_is_term
  simp only [sSeq, sSet, sIf, sRet, sDrop, sNil, dVar, dC, dCons, dNil, dFn, dCall, dOp, dTst, dTru, dNotT, truD, R.bnd, R.bnS, fin, List.getElem?_cons_zero, List.getElem?_cons_succ, List.set_cons_zero, List.set_cons_succ, List.length_cons, List.length_nil, Nat.zero_add, Nat.reduceAdd, Nat.reduceLeDiff, Nat.reduceLT, if_true, if_false, Bool.not_true, Bool.not_false, Bool.false_eq_true, ite_true, ite_false, List.map_inj_left.mp (bad_all O) d h]
theorem sgn_A7 {c : Nat} (h : sgn c = true) : c ∈ A7 := by
  unfold sgn at h
  simp only [Bool.or_eq_true, beq_iff_eq] at h
  rcases h with (rfl | rfl) | rfl <;> decide
theorem term_thing {n : Nat} (h1 : 1 ≤ n) (h4 : n ≤ 4) {cs : List Nat} (h : cs ∈ terms n) : Thing (.str cs) := .inl ⟨cs, rfl, fun c hc => sgn_A7 (terms_sgn h1 h4 h c hc), by rw [terms_len h1 h4 h]; omega⟩
theorem ansT_term {n : Nat} (h1 : 1 ≤ n) (h4 : n ≤ 4) {cs : List Nat} (h : cs ∈ terms n) : ansT n (.str cs) = true := by
  show (cs.length == n && cs.all sgn) = true
  rw [terms_len h1 h4 h, List.all_eq_true.mpr (terms_sgn h1 h4 h)]; simp
/-! ### what is bent -/
def bentL : DA := (dCons (dOp fAdd (dOp fAdd (dSl (dVar 1) oNone (oSome (dVar 2))) (dVar 3)) (dSl (dVar 1) (oSome (dOp fAdd (dVar 2) (dC (.int 1)))) oNone)) (dCons (dSl (dVar 1) (oSome (dC (.int 1))) oNone) (dCons (dOp fAdd (dVar 1) (dVar 3)) (dCons (dOp fAdd (dVar 1) (dC (.str [32]))) (dCons (dCall fTupS (dCons (dVar 1) dNil)) (dCons (dC .non) (dCons (dC (.int 0)) (dCons (dLst (dCons (dVar 1) dNil)) dNil))))))))
def some8 (cs : List Nat) (r c : Nat) : List D := [.str (cs.set r c), .str (cs.drop 1), .str (cs ++ [c]), .str (cs ++ [32]), .tup (cs.map fun c => .str [c]), .non, .int 0, .lst [.str cs]]
def triples : List (List Nat × Nat × Nat) := allT.flatMap fun cs => (List.range cs.length).flatMap fun r => A7.map fun c => (cs, r, c)
theorem bentL_all (m : Nat) (O : Ow) (y : Option D) : (triples.map fun q => bentL [some (.own m), some (.str q.1), some (.int (q.2.1 : Nat)), some (.str [q.2.2]), y] O) = triples.map fun q => R.ok (some8 q.1 q.2.1 q.2.2) O := by kernel_rfl
theorem up_all : (allT.map gUp) = allT.map fun cs => some (.str cs) := by kernel_rfl
theorem A7_at (O : Ow) {r : Nat} (h : r < 7) : ∃ c, c ∈ A7 ∧ fIx O (.str [48, 49, 45, 50, 32, 120, 43]) (.int (r : Nat)) = .ok (.str [c]) O := by
  refine ⟨A7.getD r 0, ?_, ?_⟩
  · have : ∀ r : Fin 7, A7.getD r.1 0 ∈ A7 := by decide
    exact this ⟨r, h⟩
  · have : (r = 0 ∨ r = 1 ∨ r = 2 ∨ r = 3 ∨ r = 4 ∨ r = 5 ∨ r = 6) := by omega
    rcases this with rfl | rfl | rfl | rfl | rfl | rfl | rfl <;> kernel_rfl
theorem fIx_own {O : Ow} {k : Nat} {ds : List D} (h : O[k]? = some ds) (i : Int) : fIx O (.own k) (.int i) = match L2.atI ds i with | some d => .ok d O | none => .bad := by
  show (match O[k]? with | some ds => (match L2.atI ds i with | some d => R.ok d O | none => R.bad) | none => _) = _
  rw [h]
def FThing (d : D) : Prop := Thing d ∧ ∀ O k, frz O k 8 d = some d
theorem thing_str {w : List Nat} (h : ∀ c ∈ w, c ∈ A7) (hl : w.length ≤ 10) : FThing (.str w) := ⟨.inl ⟨w, rfl, h, hl⟩, fun _ _ => rfl⟩
theorem nine {n : Nat} (h1 : 1 ≤ n) (h4 : n ≤ 4) {cs : List Nat} (h : cs ∈ terms n) {r c q : Nat} (hr : r < n) (hc : c ∈ A7) (hq : q < 9) : ∃ d, FThing d ∧ L2.atI (some8 cs r c ++ [.str cs]) (q : Nat) = some d := by
  have hs : ∀ x ∈ cs, x ∈ A7 := fun x hx => sgn_A7 (terms_sgn h1 h4 h x hx)
  have hl := terms_len h1 h4 h
  have : (q = 0 ∨ q = 1 ∨ q = 2 ∨ q = 3 ∨ q = 4 ∨ q = 5 ∨ q = 6 ∨ q = 7 ∨ q = 8) := by omega
  rcases this with rfl | rfl | rfl | rfl | rfl | rfl | rfl | rfl | rfl
  · refine ⟨.str (cs.set r c), thing_str (fun x hx => ?_) (by simp; omega), rfl⟩
    rcases List.mem_or_eq_of_mem_set hx with z | rfl
    · exact hs x z
    · exact hc
  · exact ⟨.str (cs.drop 1), thing_str (fun x hx => hs x (List.mem_of_mem_drop hx)) (by simp; omega), rfl⟩
  · refine ⟨.str (cs ++ [c]), thing_str (fun x hx => ?_) (by simp; omega), rfl⟩
    rcases List.mem_append.mp hx with z | z
    · exact hs x z
    · have : x = c := by simpa using z
      subst this; exact hc
  · refine ⟨.str (cs ++ [32]), thing_str (fun x hx => ?_) (by simp; omega), rfl⟩
    rcases List.mem_append.mp hx with z | z
    · exact hs x z
    · have : x = 32 := by simpa using z
      subst this; decide
  · exact ⟨.tup (cs.map fun c => .str [c]), ⟨.inr (.inl ⟨_, rfl⟩), fun O k => frz_tup fun d hd => by
      obtain ⟨x, _, rfl⟩ := List.mem_map.mp hd; rfl⟩, rfl⟩
  · exact ⟨.non, ⟨.inr (.inr (.inl rfl)), fun _ _ => rfl⟩, rfl⟩
  · exact ⟨.int 0, ⟨.inr (.inr (.inr (.inl rfl))), fun _ _ => rfl⟩, rfl⟩
  · exact ⟨.lst [.str cs], ⟨.inr (.inr (.inr (.inr ⟨_, rfl⟩))), fun _ _ => rfl⟩, rfl⟩
  · exact ⟨.str cs, thing_str hs (by omega), rfl⟩
theorem bent_eq {n : Nat} (h1 : 1 ≤ n) (h4 : n ≤ 4) {cs : List Nat} (h : cs ∈ terms n) {O : Ow} (hO : Flat O) {m : Nat} {s : Int} {b : Bool} (hst : StAt O m s b) :
    ∃ d s', Thing d ∧ F__law_bent [.own m, .str cs] O = .ok d (O.set m [.int s', .bl b]) ∧ StAt (O.set m [.int s', .bl b]) m s' b := by
  have hl := terms_len h1 h4 h
  have hA := terms_in h1 h4 h
  obtain ⟨r, s1, hr, t1, st1⟩ := take_eq hst (k := n) h1 (by omega)
  obtain ⟨q, s2, hq, t2, st2⟩ := take_eq st1 (k := 7) (by decide) (by decide)
  rw [List.set_set] at t2 st2
  obtain ⟨c, hc, ec⟩ := A7_at (O.set m [.int s2, .bl b]) hq
  generalize hO1 : O.set m [.int s1, .bl b] = O1 at *
  generalize hO2 : O.set m [.int s2, .bl b] = O2 at *
  have l2 : O2.length = O.length := by rw [← hO2]; simp
  obtain ⟨p, s3, hp, t3, st3⟩ := take_eq (st2.more (X := [some8 cs r c ++ [.str cs]])) (k := 9) (by decide) (by decide)
  obtain ⟨d, hd, ed⟩ := nine h1 h4 h hr hc hp
  have hm2 : m < O2.length := st2.len
  have hset : (O2 ++ [some8 cs r c ++ [D.str cs]]).set m [.int s3, .bl b] = O2.set m [.int s3, .bl b] ++ [some8 cs r c ++ [D.str cs]] := by
    rw [List.set_append_left _ _ hm2]
  have hO3 : O2.set m [.int s3, .bl b] = O.set m [.int s3, .bl b] := by rw [← hO2, List.set_set]
  rw [hset, hO3] at t3
  refine ⟨d, s3, hd.1, ?_, ?_⟩
  · let T1 : Option D := some (.own m)
    let T2 : Option D := some (.str cs)
    have e1 : sSet 2 (dFn 2 F__law_take (dCons (dVar 0) (dCons (dCall fLen (dCons (dVar 1) dNil)) dNil))) [T1, T2, none, none, none] O = .nx [T1, T2, some (.int (r : Nat)), none, none] O1 :=
      sSet_eq ((dFn_eq (dCons2 rfl ((dCall_eq (dCons1 rfl)).trans (fLen_str (by omega)))) rfl).trans (by rw [hl]; exact t1))
    have e2 : sSet 3 (dOp fIx (dC (.str [48, 49, 45, 50, 32, 120, 43])) (dFn 2 F__law_take (dCons (dVar 0) (dCons (dC (.int 7)) dNil)))) [T1, T2, some (.int (r : Nat)), none, none] O1 = .nx [T1, T2, some (.int (r : Nat)), some (.str [c]), none] O2 :=
      sSet_eq ((dOp_eq rfl ((dFn_eq (dCons2 rfl rfl) rfl).trans t2)).trans ec)
    have hL : bentL [T1, T2, some (.int (r : Nat)), some (.str [c]), none] O2 = .ok (some8 cs r c) O2 :=
      List.map_inj_left.mp (bentL_all m O2 none) (cs, r, c) (List.mem_flatMap.mpr ⟨cs, hA, List.mem_flatMap.mpr ⟨r, List.mem_range.mpr (by omega), List.mem_map.mpr ⟨c, hc, rfl⟩⟩⟩)
    have e3 : sSet 4 (dLstO bentL) [T1, T2, some (.int (r : Nat)), some (.str [c]), none] O2 = .nx [T1, T2, some (.int (r : Nat)), some (.str [c]), some (.own O2.length)] (O2 ++ [some8 cs r c]) := by
      refine sSet_eq (i := 4) ?_
      show ((bentL [T1, T2, some (.int (r : Nat)), some (.str [c]), none] O2).bnd _) = _
      rw [hL]; rfl
    have hup : gUp cs = some (.str cs) := List.map_inj_left.mp up_all cs hA
    have hk : (O2 ++ [some8 cs r c])[O2.length]? = some (some8 cs r c) := by simp
    have hk2 : (O2 ++ [some8 cs r c]).set O2.length (some8 cs r c ++ [.str cs]) = O2 ++ [some8 cs r c ++ [.str cs]] := by simp
    have e4 : sDrop (dApp (dVar 4) (dCons (dS0 gUp (dVar 1)) dNil)) [T1, T2, some (.int (r : Nat)), some (.str [c]), some (.own O2.length)] (O2 ++ [some8 cs r c]) = .nx [T1, T2, some (.int (r : Nat)), some (.str [c]), some (.own O2.length)] (O2 ++ [some8 cs r c ++ [.str cs]]) := by
      rw [← hk2]
      simp only [sSeq, sSet, sIf, sRet, sDrop, sNil, dVar, dC, dCons, dNil, dFn, dCall, dOp, dTst, dTru, dNotT, truD, R.bnd, R.bnS, fin, List.getElem?_cons_zero, List.getElem?_cons_succ, List.set_cons_zero, List.set_cons_succ, List.length_cons, List.length_nil, Nat.zero_add, Nat.reduceAdd, Nat.reduceLeDiff, Nat.reduceLT, if_true, if_false, Bool.not_true, Bool.not_false, Bool.false_eq_true, ite_true, ite_false, T2, dApp, dS0, hup, hk]
      rfl
    have e5 : dOp fIx (dVar 4) (dFn 2 F__law_take (dCons (dVar 0) (dCons (dC (.int 9)) dNil))) [T1, T2, some (.int (r : Nat)), some (.str [c]), some (.own O2.length)] (O2 ++ [some8 cs r c ++ [.str cs]]) = .ok d (O.set m [.int s3, .bl b] ++ [some8 cs r c ++ [.str cs]]) := by
      refine (dOp_eq rfl ((dFn_eq (dCons2 rfl rfl) rfl).trans t3)).trans ?_
      have : (O.set m [.int s3, .bl b] ++ [some8 cs r c ++ [D.str cs]])[O2.length]? = some (some8 cs r c ++ [D.str cs]) := by rw [l2]; simp
      rw [fIx_own this, ed]
    show frzR O.length (fin (sSeq _ (sSeq _ (sSeq (sSet 4 (dLstO bentL)) (sSeq _ (sRet _)))) [T1, T2, none, none, none] O)) = _
    rw [sSeq_nx e1, sSeq_nx e2, sSeq_nx e3, sSeq_nx e4, sRet_eq e5]
    have fl := flat_set hO m s3 b
    have := frzR_gen fl [some8 cs r c ++ [D.str cs]] (d := d) (d' := d) (hd.2 _ _)
    rw [List.length_set] at this
    exact this
  · have : (O.set m [.int s3, .bl b])[m]? = some [.int s3, .bl b] := by rw [List.getElem?_set_self hst.len]
    exact ⟨this, st3.nn, st3.lt⟩
end K02

namespace K02
open PySem DL
theorem fNin_int (O : Ow) (p : Int) (l : List Int) : fNin O (.int p) (.lst (l.map D.int)) = .ok (.bl (!l.any fun q => q == p)) O := by
  have h := fIn_int O p l
  have e : toPy O 8 (.lst (l.map D.int)) = some (.list (l.map PyData.int)) := by
    show (mapO (toPy O 7) (l.map D.int)).map PyData.list = _
    rw [mapO_int]; rfl
  have e2 : toPy O 8 (.int p) = some (.int p) := rfl
  show fPy ninF O (.int p) (.lst (l.map D.int)) = _
  have h : fPy inF O (.int p) (.lst (l.map D.int)) = _ := h
  unfold fPy py at h ⊢
  rw [e, e2] at h ⊢
  have h' : R.ok (D.bl ((l.map PyData.int).any fun y => PyData.eqv y (.int p))) O = R.ok (D.bl (l.any fun q => q == p)) O := h
  show R.ok (D.bl (!(l.map PyData.int).any fun y => PyData.eqv y (.int p))) O = _
  injection h' with h1 h2
  injection h1 with h1
  rw [h1]
theorem nin_pts {n : Nat} (h1 : 1 ≤ n) (h4 : n ≤ 4) {cs : List Nat} (h : cs ∈ terms n) (p : Nat) (O : Ow) : fNin O (.int (p : Nat)) (.lst (dInts (pts cs))) = .ok (.bl (!(pts cs).contains p)) O := by
  have e : dInts (pts cs) = ((pts cs).map fun (q : Nat) => (q : Int)).map D.int := by unfold dInts; rw [List.map_map]; rfl
  rw [e, fNin_int]
  congr 3
  rw [List.any_map, Bool.eq_iff_iff, List.any_eq_true]
  simp only [Function.comp, beq_iff_eq, List.contains_iff_mem]
  constructor
  · rintro ⟨q, hq, e⟩
    have : q = p := by omega
    rw [← this]; exact hq
  · exact fun hq => ⟨p, hq, rfl⟩
theorem eq_nilI (O : Ow) (l : List Nat) : fPy eqF O (.lst (dInts l)) (.lst []) = .ok (.bl l.isEmpty) O := by
  have e0 : dInts l = (l.map fun (q : Nat) => (q : Int)).map D.int := by unfold dInts; rw [List.map_map]; rfl
  unfold fPy py
  have e : toPy O 8 (.lst (dInts l)) = some (.list ((l.map fun (q : Nat) => (q : Int)).map PyData.int)) := by
    rw [e0]
    show (mapO (toPy O 7) (_ : List D)).map PyData.list = _
    rw [mapO_int]; rfl
  rw [e]
  cases l <;> rfl
theorem same_pts_all (O : Ow) : (allT.map fun cs => F__law_same [.lst (dInts (pts cs)), .lst (dInts (pts cs))] O) = allT.map fun _ => R.ok (.bl true) O := by kernel_rfl
theorem ne_pts_all (O : Ow) : (allT.map fun cs => fPy neF O (.lst (dInts (pts cs))) (.lst (dInts (pts cs)))) = allT.map fun _ => R.ok (.bl false) O := by kernel_rfl
theorem met_self {n : Nat} (h1 : 1 ≤ n) (h4 : n ≤ 4) {a : List Nat} (ha : a ∈ terms n) : meetO n a a = .str a := by
  have hc : ¬ (List.range n).any (clash a a) = true := by
    intro h
    obtain ⟨k, _, hc⟩ := List.any_eq_true.mp h
    unfold clash at hc
    simp at hc
  unfold meetO
  rw [if_neg hc]
  congr 1
  have la := terms_len h1 h4 ha
  refine List.ext_getElem (by unfold met; simp [la]) fun i h2 h3 => ?_
  have hi : i < n := by omega
  have e1 := met_getD (a := a) (b := a) hi
  rw [getD_nat h2] at e1
  rw [e1]
  unfold both
  rw [ite_self, getD_nat h3]
theorem wide_all {n : Nat} (h1 : 1 ≤ n) (h4 : n ≤ 4) {a : List Nat} : List.replicate n 45 ∈ terms n ∧ liesB n a (List.replicate n 45) = true := by
  refine ⟨mem_terms n _ (by simp) fun c hc => ?_, ?_⟩
  · rw [List.eq_of_mem_replicate hc]; rfl
  · unfold liesB
    rw [List.all_eq_true]
    intro i hi
    have hi := List.mem_range.mp hi
    have : (List.replicate n 45).getD i 0 = 45 := by
      rw [List.getD_eq_getElem?_getD, List.getElem?_replicate, if_pos hi]; rfl
    rw [this]; rfl
theorem lies_empty {n : Nat} (h1 : 1 ≤ n) (h4 : n ≤ 4) {a b : List Nat} (ha : a ∈ terms n) (hb : b ∈ terms n) : ((pts a).filter fun p => !(pts b).contains p).isEmpty = liesB n a b := by
  rw [lies_iff h1 h4 ha hb, Bool.eq_iff_iff, List.isEmpty_iff, List.filter_eq_nil_iff, List.all_eq_true]
  constructor
  · intro h p hp
    have := h p hp
    simpa using this
  · intro h p hp
    rw [h p hp]; decide
theorem bads_at (O : Ow) {r : Nat} (h : r < 7) : ∃ d, d ∈ bads ∧ fIx O (.lst bads) (.int (r : Nat)) = .ok d O := by
  have : (r = 0 ∨ r = 1 ∨ r = 2 ∨ r = 3 ∨ r = 4 ∨ r = 5 ∨ r = 6) := by omega
  rcases this with rfl | rfl | rfl | rfl | rfl | rfl | rfl
  · exact ⟨.int 0, by simp [bads], by kernel_rfl⟩
  · exact ⟨.int 5, by simp [bads], by kernel_rfl⟩
  · exact ⟨.int (-1), by simp [bads], by kernel_rfl⟩
  · exact ⟨.bl true, by simp [bads], by kernel_rfl⟩
  · exact ⟨.non, by simp [bads], by kernel_rfl⟩
  · exact ⟨.str [50], by simp [bads], by kernel_rfl⟩
  · exact ⟨.tup [.int 1], by simp [bads], by kernel_rfl⟩
theorem ref_0 (O : Ow) : refR Ca 4 1 B_rest (.exc 0 O) = .ok (.lst [.int 3]) O := by kernel_rfl
theorem ne_3 (O : Ow) : fPy neF O (.lst [.int 3]) (.lst [.int 3]) = .ok (.bl false) O := by kernel_rfl
theorem isnT (O : Ow) : fIsnB O (.bl true) (.bl true) = .ok (.bl false) O := rfl
def bodyI : DS := sIf (dNotT (dTru (dFn 2 F__law_same (dCons (dFn 2 F_is_term (dCons (dVar 3) (dCons (dVar 6) dNil))) (dCons (dFn 2 F__law_is_term (dCons (dVar 3) (dCons (dVar 6) dNil))) dNil))))) (sRet (dC (.bl false))) sNil
theorem bodyI_eq {n : Nat} (h1 : 1 ≤ n) (h4 : n ≤ 4) {d : D} (h : Thing d) (O : Ow) {a b c y4 y5 y7 y8 y9 y10 y11 y12 : Option D} : bodyI [a, b, c, some (.int (n : Nat)), y4, y5, some d, y7, y8, y9, y10, y11, y12] O = .nx [a, b, c, some (.int (n : Nat)), y4, y5, some d, y7, y8, y9, y10, y11, y12] O := by
  unfold bodyI
  simp only [sSeq, sSet, sIf, sRet, sDrop, sNil, dVar, dC, dCons, dNil, dFn, dCall, dOp, dTst, dTru, dNotT, truD, R.bnd, R.bnS, fin, List.getElem?_cons_zero, List.getElem?_cons_succ, List.set_cons_zero, List.set_cons_succ, List.length_cons, List.length_nil, Nat.zero_add, Nat.reduceAdd, Nat.reduceLeDiff, Nat.reduceLT, if_true, if_false, Bool.not_true, Bool.not_false, Bool.false_eq_true, ite_true, ite_false, is_term_thing h1 h4 h O, lit_thing h1 h4 h O, same_bl]
def s7 : DS := sIf (dNotT (dTru (dFn 2 F__law_same (dCons (dFn 1 F_points_of (dCons (dVar 4) dNil)) (dCons (dVar 7) dNil))))) (sRet (dC (.bl false))) sNil
def s8 : DS := sIf (dNotT (dTru (dFn 2 F__law_same (dCons (dFn 2 F_lies_in (dCons (dVar 4) (dCons (dVar 5) dNil))) (dCons (dOp (fPy eqF) (dComp false 1 (dIt (dVar 7)) (.one 13) [(dTst (dOp fNin (dVar 13) (dVar 8)))] [] (dVar 13)) (dLst dNil)) dNil))))) (sRet (dC (.bl false))) sNil
def s9 : DS := sSet 9 (dComp false 1 (dIt (dVar 7)) (.one 13) [(dTst (dOp fIn (dVar 13) (dVar 8)))] [] (dVar 13))
def s10 : DS := sSet 10 (dFn 2 F_meet (dCons (dVar 4) (dCons (dVar 5) dNil)))
def s11 : DS := sIf (dTst (dOp (fPy neF) (dOp fIsN (dVar 10) (dC .non)) (dOp (fPy eqF) (dVar 9) (dLst dNil)))) (sRet (dC (.bl false))) sNil
def s12 : DS := sIf (dAndT (dTst (dOp fNotN (dVar 10) (dC .non))) (dOrT (dNotT (dTru (dFn 2 F__law_is_term (dCons (dVar 3) (dCons (dVar 10) dNil))))) (dTst (dOp (fPy neF) (dFn 1 F__law_points (dCons (dVar 10) dNil)) (dVar 9))))) (sRet (dC (.bl false))) sNil
def s13 : DS := sIf (dOrT (dTst (dOp fIsnB (dFn 2 F_lies_in (dCons (dVar 4) (dCons (dVar 4) dNil))) (dC (.bl true)))) (dOrT (dTst (dOp (fPy neF) (dFn 2 F_meet (dCons (dVar 4) (dCons (dVar 4) dNil))) (dVar 4))) (dTst (dOp fIsnB (dFn 2 F_lies_in (dCons (dVar 4) (dCons (dOp fMulS (dC (.str [45])) (dVar 3)) dNil))) (dC (.bl true)))))) (sRet (dC (.bl false))) sNil
def s14 : DS := sSet 11 (dOp fIx (dLst (dCons (dC (.int 0)) (dCons (dC (.int 5)) (dCons (dNeg (dC (.int 1))) (dCons (dC (.bl true)) (dCons (dC .non) (dCons (dC (.str [50])) (dCons (dTup (dCons (dC (.int 1)) dNil)) dNil)))))))) (dFn 2 F__law_take (dCons (dVar 2) (dCons (dC (.int 7)) dNil))))
def s15 (Pt : Nat) : DS := sIf (dTst (dOp (fPy neF) (dRefused Pt 12 Ca 4 1 (dFn 2 F_is_term (dCons (dVar 11) (dCons (dVar 4) dNil))) B_rest) (dLst (dCons (dC (.int 3)) dNil)))) (sRet (dC (.bl false))) sNil
def bodyK (Pt : Nat) : DS := sSeq (sSet 2 (dFn 2 F__law_state (dCons (dVar 0) (dCons (dVar 1) dNil)))) (sSeq (sSet 3 (dOp fAdd (dC (.int 1)) (dFn 2 F__law_take (dCons (dVar 2) (dCons (dC (.int 4)) dNil))))) (sSeq (sAsg (.two 4 5) (dTup (dCons (dFn 2 F__law_term (dCons (dVar 2) (dCons (dVar 3) dNil))) (dCons (dFn 2 F__law_term (dCons (dVar 2) (dCons (dVar 3) dNil))) dNil)))) (sSeq (sFor (dIt (dLst (dCons (dVar 4) (dCons (dFn 2 F__law_bent (dCons (dVar 2) (dCons (dVar 4) dNil))) (dCons (dFn 2 F__law_bent (dCons (dVar 2) (dCons (dVar 4) dNil))) (dCons (dC (.str [])) dNil)))))) (.one 6) bodyI) (sSeq (sAsg (.two 7 8) (dTup (dCons (dFn 1 F__law_points (dCons (dVar 4) dNil)) (dCons (dFn 1 F__law_points (dCons (dVar 5) dNil)) dNil)))) (sSeq s7 (sSeq s8 (sSeq s9 (sSeq s10 (sSeq s11 (sSeq s12 (sSeq s13 (sSeq s14 (s15 Pt)))))))))))))
theorem bodyK_eq {Pt : Nat} {ns : List Int} {k : Nat} {O : Ow} (hO : Flat O) {y2 y3 y4 y5 y6 y7 y8 y9 y10 y11 : Option D} :
    ∃ z2 z3 z4 z5 z6 z7 z8 z9 z10 z11 O', bodyK Pt [some (.lst (ns.map .int)), some (.int (k : Int)), y2, y3, y4, y5, y6, y7, y8, y9, y10, y11, some (.tab Pt)] O = .nx [some (.lst (ns.map .int)), some (.int (k : Int)), z2, z3, z4, z5, z6, z7, z8, z9, z10, z11, some (.tab Pt)] O' ∧ Flat O' := by
  obtain ⟨s, b, s1, st1⟩ := state_eq (ns := ns) (k := k) O
  have fl1 : Flat (O ++ [[.int s, .bl b]]) := flat_one hO fun d hd => by
    simp only [List.mem_cons, List.not_mem_nil, or_false] at hd
    rcases hd with rfl | rfl <;> rfl
  generalize hO1 : O ++ [[D.int s, D.bl b]] = O1 at *
  generalize hm : O.length = m at *
  obtain ⟨r, sa, hr, t2, st2⟩ := take_eq st1 (k := 4) (by decide) (by decide)
  have fl2 := flat_set fl1 m sa b
  generalize hO2 : O1.set m [D.int sa, D.bl b] = O2 at *
  have n1 : 1 ≤ 1 + r := by omega
  have n4 : 1 + r ≤ 4 := by omega
  have en : fAdd O2 (.int 1) (.int (r : Nat)) = .ok (.int ((1 + r : Nat) : Int)) O2 := by rw [fAdd_int]; congr 2
  generalize hn : 1 + r = n at *
  obtain ⟨ca, sb, ha, t3, st3⟩ := term_eq st2 n1 n4
  have fl3 := flat_set fl2 m sb b
  generalize hO3 : O2.set m [D.int sb, D.bl b] = O3 at *
  obtain ⟨cb, sc, hb, t4, st4⟩ := term_eq st3 n1 n4
  have fl4 := flat_set fl3 m sc b
  generalize hO4 : O3.set m [D.int sc, D.bl b] = O4 at *
  obtain ⟨d1, sd, hd1, t5, st5⟩ := bent_eq n1 n4 ha fl4 st4
  have fl5 := flat_set fl4 m sd b
  generalize hO5 : O4.set m [D.int sd, D.bl b] = O5 at *
  obtain ⟨d2, se, hd2, t6, st6⟩ := bent_eq n1 n4 ha fl5 st5
  have fl6 := flat_set fl5 m se b
  generalize hO6 : O5.set m [D.int se, D.bl b] = O6 at *
  let A : Option D := some (.lst (ns.map .int))
  let B : Option D := some (.int (k : Int))
  let M : Option D := some (.own m)
  let N : Option D := some (.int (n : Nat))
  let Ta : Option D := some (.str ca)
  let Tb : Option D := some (.str cb)
  let T : Option D := some (.tab Pt)
  have e1 : sSet 2 (dFn 2 F__law_state (dCons (dVar 0) (dCons (dVar 1) dNil))) [A, B, y2, y3, y4, y5, y6, y7, y8, y9, y10, y11, T] O = .nx [A, B, M, y3, y4, y5, y6, y7, y8, y9, y10, y11, T] O1 := sSet_eq ((dFn_eq (dCons2 rfl rfl) rfl).trans s1)
  have e2 : sSet 3 (dOp fAdd (dC (.int 1)) (dFn 2 F__law_take (dCons (dVar 2) (dCons (dC (.int 4)) dNil)))) [A, B, M, y3, y4, y5, y6, y7, y8, y9, y10, y11, T] O1 = .nx [A, B, M, N, y4, y5, y6, y7, y8, y9, y10, y11, T] O2 := sSet_eq ((dOp_eq rfl ((dFn_eq (dCons2 rfl rfl) rfl).trans t2)).trans en)
  have e3 : sAsg (.two 4 5) (dTup (dCons (dFn 2 F__law_term (dCons (dVar 2) (dCons (dVar 3) dNil))) (dCons (dFn 2 F__law_term (dCons (dVar 2) (dCons (dVar 3) dNil))) dNil))) [A, B, M, N, y4, y5, y6, y7, y8, y9, y10, y11, T] O2 = .nx [A, B, M, N, Ta, Tb, y6, y7, y8, y9, y10, y11, T] O4 := by
    unfold sAsg dTup
    simp only [sSeq, sSet, sIf, sRet, sDrop, sNil, dVar, dC, dCons, dNil, dFn, dCall, dOp, dTst, dTru, dNotT, truD, R.bnd, R.bnS, fin, List.getElem?_cons_zero, List.getElem?_cons_succ, List.set_cons_zero, List.set_cons_succ, List.length_cons, List.length_nil, Nat.zero_add, Nat.reduceAdd, Nat.reduceLeDiff, Nat.reduceLT, if_true, if_false, Bool.not_true, Bool.not_false, Bool.false_eq_true, ite_true, ite_false, M, N, t3, t4]
    rfl
  have hi : dIt (dLst (dCons (dVar 4) (dCons (dFn 2 F__law_bent (dCons (dVar 2) (dCons (dVar 4) dNil))) (dCons (dFn 2 F__law_bent (dCons (dVar 2) (dCons (dVar 4) dNil))) (dCons (dC (.str [])) dNil))))) [A, B, M, N, Ta, Tb, y6, y7, y8, y9, y10, y11, T] O4 = .ok (.val ([.str ca, d1, d2, .str []].map fun d => d)) O6 := by
    refine dIt_lst ?_
    unfold dLst
    simp only [sSeq, sSet, sIf, sRet, sDrop, sNil, dVar, dC, dCons, dNil, dFn, dCall, dOp, dTst, dTru, dNotT, truD, R.bnd, R.bnS, fin, List.getElem?_cons_zero, List.getElem?_cons_succ, List.set_cons_zero, List.set_cons_succ, List.length_cons, List.length_nil, Nat.zero_add, Nat.reduceAdd, Nat.reduceLeDiff, Nat.reduceLT, if_true, if_false, Bool.not_true, Bool.not_false, Bool.false_eq_true, ite_true, ite_false, M, Ta, t5, t6]
    rfl
  obtain ⟨σ4, O4', e4, z6, rfl, rfl⟩ := for_of (i := 6) (body := bodyI) hi (fun _ σ O' => ∃ z6, σ = [A, B, M, N, Ta, Tb, z6, y7, y8, y9, y10, y11, T] ∧ O' = O6) (fun _ d σ O' hk hI => by
    obtain ⟨z6, rfl, rfl⟩ := hI
    have hd : d ∈ [D.str ca, d1, d2, D.str []] := List.mem_of_getElem? hk
    have hth : Thing d := by
      simp only [List.mem_cons, List.not_mem_nil, or_false] at hd
      rcases hd with rfl | rfl | rfl | rfl
      · exact term_thing n1 n4 ha
      · exact hd1
      · exact hd2
      · exact .inl ⟨[], rfl, by simp, by simp⟩
    exact ⟨_, _, bodyI_eq n1 n4 hth _, _, rfl, rfl⟩) ⟨y6, rfl, rfl⟩
  let Pa : Option D := some (.lst (dInts (pts ca)))
  let Pb : Option D := some (.lst (dInts (pts cb)))
  have e5 : sAsg (.two 7 8) (dTup (dCons (dFn 1 F__law_points (dCons (dVar 4) dNil)) (dCons (dFn 1 F__law_points (dCons (dVar 5) dNil)) dNil))) [A, B, M, N, Ta, Tb, z6, y7, y8, y9, y10, y11, T] O4' = .nx [A, B, M, N, Ta, Tb, z6, Pa, Pb, y9, y10, y11, T] O4' := by
    unfold sAsg dTup
    simp only [sSeq, sSet, sIf, sRet, sDrop, sNil, dVar, dC, dCons, dNil, dFn, dCall, dOp, dTst, dTru, dNotT, truD, R.bnd, R.bnS, fin, List.getElem?_cons_zero, List.getElem?_cons_succ, List.set_cons_zero, List.set_cons_succ, List.length_cons, List.length_nil, Nat.zero_add, Nat.reduceAdd, Nat.reduceLeDiff, Nat.reduceLT, if_true, if_false, Bool.not_true, Bool.not_false, Bool.false_eq_true, ite_true, ite_false, Ta, Tb, law_points_eq (terms_in n1 n4 ha) fl6, law_points_eq (terms_in n1 n4 hb) fl6]
    rfl
  have e6 : s7 [A, B, M, N, Ta, Tb, z6, Pa, Pb, y9, y10, y11, T] O4' = .nx [A, B, M, N, Ta, Tb, z6, Pa, Pb, y9, y10, y11, T] O4' := by
    unfold s7
    simp only [sSeq, sSet, sIf, sRet, sDrop, sNil, dVar, dC, dCons, dNil, dFn, dCall, dOp, dTst, dTru, dNotT, truD, R.bnd, R.bnS, fin, List.getElem?_cons_zero, List.getElem?_cons_succ, List.set_cons_zero, List.set_cons_succ, List.length_cons, List.length_nil, Nat.zero_add, Nat.reduceAdd, Nat.reduceLeDiff, Nat.reduceLT, if_true, if_false, Bool.not_true, Bool.not_false, Bool.false_eq_true, ite_true, ite_false, Ta, Pa, points_of_eq (terms_in n1 n4 ha), List.map_inj_left.mp (same_pts_all O4') ca (terms_in n1 n4 ha)]
  have c8 := comp1 (o := false) (ext := 1) (i := 13) (it0 := dIt (dVar 7)) (σ := [A, B, M, N, Ta, Tb, z6, Pa, Pb, y9, y10, y11, T]) (O0 := O4') (O := O4') (l := pts ca) (inj := fun p : Nat => D.int (p : Nat)) (t := dTst (dOp fNin (dVar 13) (dVar 8))) (te := dVar 13) (p := fun p => !(pts cb).contains p) (e := fun p : Nat => D.int (p : Nat)) (τ := fun p => [A, B, M, N, Ta, Tb, z6, Pa, Pb, y9, y10, y11, T, some (.int (p : Nat))]) rfl (by have := pts_len (terms_in n1 n4 ha); omega) (fun _ => rfl) (fun p hp => dTst_eq ((dOp_eq rfl rfl).trans (nin_pts n1 n4 hb p O4'))) (fun _ _ _ => rfl)
  have e7 : s8 [A, B, M, N, Ta, Tb, z6, Pa, Pb, y9, y10, y11, T] O4' = .nx [A, B, M, N, Ta, Tb, z6, Pa, Pb, y9, y10, y11, T] O4' := by
    have q1 : dOp (fPy eqF) (dComp false 1 (dIt (dVar 7)) (.one 13) [(dTst (dOp fNin (dVar 13) (dVar 8)))] [] (dVar 13)) (dLst dNil) [A, B, M, N, Ta, Tb, z6, Pa, Pb, y9, y10, y11, T] O4' = .ok (.bl (liesB n ca cb)) O4' := by
      refine (dOp_eq c8 rfl).trans ?_
      rw [← lies_empty n1 n4 ha hb]
      exact eq_nilI O4' _
    have q2 : dFn 2 F_lies_in (dCons (dVar 4) (dCons (dVar 5) dNil)) [A, B, M, N, Ta, Tb, z6, Pa, Pb, y9, y10, y11, T] O4' = .ok (.bl (liesB n ca cb)) O4' := (dFn_eq (dCons2 rfl rfl) rfl).trans (lies_eq n1 n4 ha hb O4')
    unfold s8
    rw [sIf_eq (b := false) (O1 := O4') (by
      show ((dTru _ _ _).bnd _) = _
      rw [dTru_bl ((dFn_eq (n := 2) (dCons2 q2 q1) rfl).trans (same_bl O4' _))]; rfl)]
    rfl
  have c9 := comp1 (o := false) (ext := 1) (i := 13) (it0 := dIt (dVar 7)) (σ := [A, B, M, N, Ta, Tb, z6, Pa, Pb, y9, y10, y11, T]) (O0 := O4') (O := O4') (l := pts ca) (inj := fun p : Nat => D.int (p : Nat)) (t := dTst (dOp fIn (dVar 13) (dVar 8))) (te := dVar 13) (p := fun p => (pts cb).contains p) (e := fun p : Nat => D.int (p : Nat)) (τ := fun p => [A, B, M, N, Ta, Tb, z6, Pa, Pb, y9, y10, y11, T, some (.int (p : Nat))]) rfl (by have := pts_len (terms_in n1 n4 ha); omega) (fun _ => rfl) (fun p hp => dTst_eq ((dOp_eq rfl rfl).trans (in_pts n1 n4 hb p O4'))) (fun _ _ _ => rfl)
  let Bo : Option D := some (.lst (dInts (bothP ca cb)))
  let Mo : Option D := some (meetO n ca cb)
  have e8 : s9 [A, B, M, N, Ta, Tb, z6, Pa, Pb, y9, y10, y11, T] O4' = .nx [A, B, M, N, Ta, Tb, z6, Pa, Pb, Bo, y10, y11, T] O4' := sSet_eq (i := 9) c9
  have e9 : s10 [A, B, M, N, Ta, Tb, z6, Pa, Pb, Bo, y10, y11, T] O4' = .nx [A, B, M, N, Ta, Tb, z6, Pa, Pb, Bo, Mo, y11, T] O4' := sSet_eq (i := 10) ((dFn_eq (dCons2 rfl rfl) rfl).trans (meet_eq n1 n4 ha hb fl6))
  have hmeet : (meetO n ca cb = .non ∧ bothP ca cb = []) ∨ ∃ w, w ∈ terms n ∧ meetO n ca cb = .str w ∧ bothP ca cb = pts w := by
    unfold meetO
    by_cases hcl : (List.range n).any (clash ca cb) = true
    · rw [if_pos hcl]; exact .inl ⟨rfl, clash_none n1 n4 ha hb hcl⟩
    · rw [if_neg hcl]; exact .inr ⟨_, met_terms n1 n4 ha hb, rfl, met_pts n1 n4 ha hb hcl⟩
  have e10 : s11 [A, B, M, N, Ta, Tb, z6, Pa, Pb, Bo, Mo, y11, T] O4' = .nx [A, B, M, N, Ta, Tb, z6, Pa, Pb, Bo, Mo, y11, T] O4' := by
    unfold s11
    have q2 : dOp (fPy eqF) (dVar 9) (dLst dNil) [A, B, M, N, Ta, Tb, z6, Pa, Pb, Bo, Mo, y11, T] O4' = .ok (.bl (bothP ca cb).isEmpty) O4' := (dOp_eq rfl rfl).trans (eq_nilI O4' _)
    have q1 : dOp fIsN (dVar 10) (dC .non) [A, B, M, N, Ta, Tb, z6, Pa, Pb, Bo, Mo, y11, T] O4' = .ok (.bl (bothP ca cb).isEmpty) O4' := by
      refine (dOp_eq rfl rfl).trans ?_
      rcases hmeet with ⟨q1, q2⟩ | ⟨w, hw, q1, q2⟩
      · rw [q1, q2]; rfl
      · rw [q1, q2, pts_some n1 n4 hw]; rfl
    rw [sIf_eq (dTst_eq ((dOp_eq q1 q2).trans (ne_bl O4' _)))]; rfl
  have e11 : s12 [A, B, M, N, Ta, Tb, z6, Pa, Pb, Bo, Mo, y11, T] O4' = .nx [A, B, M, N, Ta, Tb, z6, Pa, Pb, Bo, Mo, y11, T] O4' := by
    unfold s12
    rcases hmeet with ⟨q1, q2⟩ | ⟨w, hw, q1, q2⟩
    · have : Mo = some .non := congrArg some q1
      rw [this]
      rfl
    · have i1 : Mo = some (.str w) := congrArg some q1
      have i2 : Bo = some (.lst (dInts (pts w))) := by show some (D.lst (dInts (bothP ca cb))) = _; rw [q2]
      rw [i1, i2]
      simp only [sSeq, sSet, sIf, sRet, sDrop, sNil, dVar, dC, dCons, dNil, dFn, dCall, dOp, dTst, dTru, dNotT, truD, R.bnd, R.bnS, fin, List.getElem?_cons_zero, List.getElem?_cons_succ, List.set_cons_zero, List.set_cons_succ, List.length_cons, List.length_nil, Nat.zero_add, Nat.reduceAdd, Nat.reduceLeDiff, Nat.reduceLT, if_true, if_false, Bool.not_true, Bool.not_false, Bool.false_eq_true, ite_true, ite_false, dAndT, dOrT, N, fNotN, isNon, lit_thing n1 n4 (term_thing n1 n4 hw), ansT_term n1 n4 hw, law_points_eq (terms_in n1 n4 hw) fl6, List.map_inj_left.mp (ne_pts_all O4') w (terms_in n1 n4 hw)]
  obtain ⟨w1, w2⟩ := wide_all n1 n4 (a := ca)
  have e12 : s13 [A, B, M, N, Ta, Tb, z6, Pa, Pb, Bo, Mo, y11, T] O4' = .nx [A, B, M, N, Ta, Tb, z6, Pa, Pb, Bo, Mo, y11, T] O4' := by
    unfold s13
    simp only [sSeq, sSet, sIf, sRet, sDrop, sNil, dVar, dC, dCons, dNil, dFn, dCall, dOp, dTst, dTru, dNotT, truD, R.bnd, R.bnS, fin, List.getElem?_cons_zero, List.getElem?_cons_succ, List.set_cons_zero, List.set_cons_succ, List.length_cons, List.length_nil, Nat.zero_add, Nat.reduceAdd, Nat.reduceLeDiff, Nat.reduceLT, if_true, if_false, Bool.not_true, Bool.not_false, Bool.false_eq_true, ite_true, ite_false, dOrT, N, Ta, lies_eq n1 n4 ha ha O4', lies_refl, isnT, meet_eq n1 n4 ha ha fl6, met_self n1 n4 ha, ne_self (terms_in n1 n4 ha) O4', mulS_n (O := O4') (c := 45) (show n ≤ 16 by omega), lies_eq n1 n4 ha w1 O4', w2]
  obtain ⟨r2, sf, hr2, t7, st7⟩ := take_eq st6 (k := 7) (by decide) (by decide)
  have fl7 := flat_set fl6 m sf b
  generalize hO7 : O4'.set m [D.int sf, D.bl b] = O7 at *
  obtain ⟨db, hdb, edb⟩ := bads_at O7 hr2
  have e13 : s14 [A, B, M, N, Ta, Tb, z6, Pa, Pb, Bo, Mo, y11, T] O4' = .nx [A, B, M, N, Ta, Tb, z6, Pa, Pb, Bo, Mo, some db, T] O7 := sSet_eq (i := 11) ((dOp_eq (x := .lst bads) rfl ((dFn_eq (dCons2 rfl rfl) rfl).trans t7)).trans edb)
  have e14 : s15 Pt [A, B, M, N, Ta, Tb, z6, Pa, Pb, Bo, Mo, some db, T] O7 = .nx [A, B, M, N, Ta, Tb, z6, Pa, Pb, Bo, Mo, some db, T] O7 := by
    unfold s15
    simp only [sSeq, sSet, sIf, sRet, sDrop, sNil, dVar, dC, dCons, dNil, dFn, dCall, dOp, dTst, dTru, dNotT, truD, R.bnd, R.bnS, fin, List.getElem?_cons_zero, List.getElem?_cons_succ, List.set_cons_zero, List.set_cons_succ, List.length_cons, List.length_nil, Nat.zero_add, Nat.reduceAdd, Nat.reduceLeDiff, Nat.reduceLT, if_true, if_false, Bool.not_true, Bool.not_false, Bool.false_eq_true, ite_true, ite_false, T, Ta, dRefused, is_term_bad hdb O7, ref_0, dLst, ne_3]
  refine ⟨M, N, Ta, Tb, z6, Pa, Pb, Bo, Mo, some db, O7, ?_, fl7⟩
  unfold bodyK
  rw [sSeq_nx e1, sSeq_nx e2, sSeq_nx e3, sSeq_nx e4, sSeq_nx e5, sSeq_nx e6, sSeq_nx e7, sSeq_nx e8, sSeq_nx e9, sSeq_nx e10, sSeq_nx e11, sSeq_nx e12, sSeq_nx e13, e14]
theorem pure_law (Pt : Nat) (ns : List Int) (hn : ns.length ≤ 63) : ∃ O, F_law Pt [.lst (ns.map .int)] [] = .ok (.bl true) O := by
  let A : Option D := some (.lst (ns.map .int))
  let T : Option D := some (.tab Pt)
  let σ0 : Sg := [A, none, none, none, none, none, none, none, none, none, none, none, T]
  obtain ⟨m, hm, hr⟩ := turns_eq hn σ0 10 (by decide) rfl
  obtain ⟨σ', O', l1, y1, y2, y3, y4, y5, y6, y7, y8, y9, y10, y11, rfl, l2⟩ := for_of (i := 1) (body := bodyK Pt) (dRng1_eq (dCons1 hr) hm) (fun _ σ O' => ∃ y1 y2 y3 y4 y5 y6 y7 y8 y9 y10 y11, σ = [A, y1, y2, y3, y4, y5, y6, y7, y8, y9, y10, y11, T] ∧ Flat O') (fun _ i σ O' _ hI => by
      obtain ⟨y1, y2, y3, y4, y5, y6, y7, y8, y9, y10, y11, rfl, fl⟩ := hI
      obtain ⟨z2, z3, z4, z5, z6, z7, z8, z9, z10, z11, O4, t1, t2⟩ := bodyK_eq (Pt := Pt) (ns := ns) (k := i) fl (y2 := y2) (y3 := y3) (y4 := y4) (y5 := y5) (y6 := y6) (y7 := y7) (y8 := y8) (y9 := y9) (y10 := y10) (y11 := y11)
      exact ⟨_, _, t1, _, _, _, _, _, _, _, _, _, _, _, rfl, t2⟩) ⟨none, none, none, none, none, none, none, none, none, none, none, rfl, fun c hc => by cases hc⟩
  refine ⟨O', ?_⟩
  show fin (sSeq (sFor (dRng1 (dCons (dCall fMax2 (dCons (dC (.int 1)) (dCons (dCall fMin2 (dCons (dCall fLen (dCons (dVar 0) dNil)) (dCons (dC (.int ((10 : Nat) : Int))) dNil))) dNil))) dNil)) (.one 1) (bodyK Pt)) (sRet (dC (.bl true))) σ0 []) = _
  rw [sSeq_nx l1]; rfl
end K02

open PySem PySem.W PyProof.Rows
set_option maxRecDepth 100000 in
set_option maxHeartbeats 0 in
theorem PySem.Challenge.cw_leastterms_k02_terms_known_holds : PySem.Challenge.rw_leastterms_k02_terms_known.Holds := by
  w_on; o_law; k_head; (case hw => w_witness2)
  k_fill
  refine DL.walkT (l := PySem.Challenge.rw_leastterms_k02_terms_known) (k := 8) (x := "_law_script") (Cl := K02.Cl) (F := K02.F_law) rfl rfl ⟨rfl, by decide, by decide⟩ (fun w h Y => PySem.W.km_in_of Y) ?R ?F K02.pure_law
  case R => first | rfl | kernel_rfl
  case F =>
    intro w mg fa h KX G hmg
    refine' K02.all_mk KX G hmg ?Ga0 ?Gl0 ?Gq0 ?Gk0 ?Ga1 ?Gl1 ?Gq1 ?Gk1 ?Ga2 ?Gl2 ?Gq2 ?Gk2 ?Ga3 ?Gl3 ?Gq3 ?Gk3 ?Ga4 ?Gl4 ?Gq4 ?Gk4 ?Ga5 ?Gl5 ?Gq5 ?Gk5 ?Ga6 ?Gl6 ?Gq6 ?Gk6 ?Ga7 ?Gl7 ?Gq7 ?Gk7 ?Ga8 ?Gl8 ?Gq8 ?Gk8 ?Ga9 ?Gl9 ?Gq9 ?Gk9 ?Ga10 ?Gl10 ?Gq10 ?Gk10 ?Ga11 ?Gl11 ?Gq11 ?Gk11 ?Ga12 ?Gl12 ?Gq12 ?Gk12 ?Ga13 ?Gl13 ?Gq13 ?Gk13 ?Ga14 ?Gl14 ?Gq14 ?Gk14 ?Ga15 ?Gl15 ?Gq15 ?Gk15 ?Ga16 ?Gl16 ?Gq16 ?Gk16 ?Ga17 ?Gl17 ?Gq17 ?Gk17 ?Ga18 ?Gl18 ?Gq18 ?Gk18 ?Ga19 ?Gl19 ?Gq19 ?Gk19 ?Ga20 ?Gl20 ?Gq20 ?Gk20 ?Gz_ValueError ?Gz_all ?Gz_bool ?Gz_int ?Gz_isinstance ?Gz_len ?Gz_list ?Gz_max ?Gz_min ?Gz_range ?Gz_str ?Gz_tuple ?Gz_zip ?Gs_SIGNS ?Gs_MOST_SWITCHES ?Gxg_NoFunction ?Gxg_NoTerm ?Gxg_NoPoint ?Gxg_NoNumber ?Gxg_NoForm ?Gxg_NoChange ?Gxg_NoText ?Gxg_NoLine ?Gxg_NoDeed ?Gxg_TermError ?Gxn_NoFunction ?Gxn_NoTerm ?Gxn_NoPoint ?Gxn_NoNumber ?Gxn_NoForm ?Gxn_NoChange ?Gxn_NoText ?Gxn_NoLine ?Gxn_NoDeed ?Gxn_VE ?Gxm_NoNumber ?Gxk_NoNumber_NoFunction ?Gxk_NoNumber_NoTerm ?Gxk_NoNumber_NoPoint ?Gxk_NoNumber_NoNumber ?Gxk_NoNumber_NoForm ?Gxk_NoNumber_NoChange ?Gxk_NoNumber_NoText ?Gxk_NoNumber_NoLine ?Gxk_NoNumber_NoDeed ?Gxk_NoNumber_VE ?Gyga_NoNumber ?Gynh_NoNumber ?Gycl_NoNumber ?Gyat_NoNumber ?Gygt_NoNumber ?Gytk_NoNumber ?Gyob_NoNumber ?Gybx_NoNumber ?Gyi_int_NoNumber ?Gyi_bool_NoNumber ?Gyi_str_NoNumber ?Gyi_list_NoNumber ?Gyi_tuple_NoNumber ?Gyi_dict_NoNumber ?Gyow_NoNumber ?Gh4 ?Gh5 ?Ghnt
    (case Ga0 => k_is)
    (case Gl0 => k_is)
    (case Gq0 => k_is)
    (case Gk0 => k_is)
    (case Ga1 => k_is)
    (case Gl1 => k_is)
    (case Gq1 => k_is)
    (case Gk1 => k_is)
    (case Ga2 => k_is)
    (case Gl2 => k_is)
    (case Gq2 => k_is)
    (case Gk2 => k_is)
    (case Ga3 => k_is)
    (case Gl3 => k_is)
    (case Gq3 => k_is)
    (case Gk3 => k_is)
    (case Ga4 => k_is)
    (case Gl4 => k_is)
    (case Gq4 => k_is)
    (case Gk4 => k_is)
    (case Ga5 => k_is)
    (case Gl5 => k_is)
    (case Gq5 => k_is)
    (case Gk5 => k_is)
    (case Ga6 => k_is)
    (case Gl6 => k_is)
    (case Gq6 => k_is)
    (case Gk6 => k_is)
    (case Ga7 => k_is)
    (case Gl7 => k_is)
    (case Gq7 => k_is)
    (case Gk7 => k_is)
    (case Ga8 => k_is)
    (case Gl8 => k_is)
    (case Gq8 => k_is)
    (case Gk8 => k_is)
    (case Ga9 => k_is)
    (case Gl9 => k_is)
    (case Gq9 => k_is)
    (case Gk9 => k_is)
    (case Ga10 => k_is)
    (case Gl10 => k_is)
    (case Gq10 => k_is)
    (case Gk10 => k_is)
    (case Ga11 => k_is)
    (case Gl11 => k_is)
    (case Gq11 => k_is)
    (case Gk11 => k_is)
    (case Ga12 => k_is)
    (case Gl12 => k_is)
    (case Gq12 => k_is)
    (case Gk12 => k_is)
    (case Ga13 => k_is)
    (case Gl13 => k_is)
    (case Gq13 => k_is)
    (case Gk13 => k_is)
    (case Ga14 => k_is)
    (case Gl14 => k_is)
    (case Gq14 => k_is)
    (case Gk14 => k_is)
    (case Ga15 => k_is)
    (case Gl15 => k_is)
    (case Gq15 => k_is)
    (case Gk15 => k_is)
    (case Ga16 => k_is)
    (case Gl16 => k_is)
    (case Gq16 => k_is)
    (case Gk16 => k_is)
    (case Ga17 => k_is)
    (case Gl17 => k_is)
    (case Gq17 => k_is)
    (case Gk17 => k_is)
    (case Ga18 => k_is)
    (case Gl18 => k_is)
    (case Gq18 => k_is)
    (case Gk18 => k_is)
    (case Ga19 => k_is)
    (case Gl19 => k_is)
    (case Gq19 => k_is)
    (case Gk19 => k_is)
    (case Ga20 => k_is)
    (case Gl20 => k_is)
    (case Gq20 => k_is)
    (case Gk20 => k_is)
    (case Gz_ValueError => k_is)
    (case Gz_all => k_is)
    (case Gz_bool => k_is)
    (case Gz_int => k_is)
    (case Gz_isinstance => k_is)
    (case Gz_len => k_is)
    (case Gz_list => k_is)
    (case Gz_max => k_is)
    (case Gz_min => k_is)
    (case Gz_range => k_is)
    (case Gz_str => k_is)
    (case Gz_tuple => k_is)
    (case Gz_zip => k_is)
    (case Gs_SIGNS => k_is)
    (case Gs_MOST_SWITCHES => k_is)
    (case Gxg_NoFunction => k_is)
    (case Gxg_NoTerm => k_is)
    (case Gxg_NoPoint => k_is)
    (case Gxg_NoNumber => k_is)
    (case Gxg_NoForm => k_is)
    (case Gxg_NoChange => k_is)
    (case Gxg_NoText => k_is)
    (case Gxg_NoLine => k_is)
    (case Gxg_NoDeed => k_is)
    (case Gxg_TermError => k_is)
    (case Gxn_NoFunction => kernel_rfl)
    (case Gxn_NoTerm => kernel_rfl)
    (case Gxn_NoPoint => kernel_rfl)
    (case Gxn_NoNumber => kernel_rfl)
    (case Gxn_NoForm => kernel_rfl)
    (case Gxn_NoChange => kernel_rfl)
    (case Gxn_NoText => kernel_rfl)
    (case Gxn_NoLine => kernel_rfl)
    (case Gxn_NoDeed => kernel_rfl)
    (case Gxn_VE => kernel_rfl)
    (case Gxm_NoNumber => kernel_rfl)
    (case Gxk_NoNumber_NoFunction => kernel_rfl)
    (case Gxk_NoNumber_NoTerm => kernel_rfl)
    (case Gxk_NoNumber_NoPoint => kernel_rfl)
    (case Gxk_NoNumber_NoNumber => kernel_rfl)
    (case Gxk_NoNumber_NoForm => kernel_rfl)
    (case Gxk_NoNumber_NoChange => kernel_rfl)
    (case Gxk_NoNumber_NoText => kernel_rfl)
    (case Gxk_NoNumber_NoLine => kernel_rfl)
    (case Gxk_NoNumber_NoDeed => kernel_rfl)
    (case Gxk_NoNumber_VE => kernel_rfl)
    (case Gyga_NoNumber => k_is)
    (case Gynh_NoNumber => k_is)
    (case Gycl_NoNumber => k_is)
    (case Gyat_NoNumber => k_is)
    (case Gygt_NoNumber => k_is)
    (case Gytk_NoNumber => k_is)
    (case Gyob_NoNumber => k_is)
    (case Gybx_NoNumber => k_is)
    (case Gyi_int_NoNumber => kernel_rfl)
    (case Gyi_bool_NoNumber => kernel_rfl)
    (case Gyi_str_NoNumber => kernel_rfl)
    (case Gyi_list_NoNumber => kernel_rfl)
    (case Gyi_tuple_NoNumber => kernel_rfl)
    (case Gyi_dict_NoNumber => kernel_rfl)
    (case Gyow_NoNumber => first | k_is | kernel_rfl)
    (case Gh4 => k_is)
    (case Gh5 => rfl)
    (case Ghnt => first | k_is | kernel_rfl)

