import PyProof.Rows.All
import Wide.All
import OpenK.AllK
import Wide.FinOn
import Lean
import PyProof.EqAt
import PyProof.EqKinds
import PyProof.TupleCall
import PySem.Challenge.RW_leastterms_k53_products_multiplied_out
set_option Elab.async false
set_option linter.all false
set_option maxRecDepth 100000
namespace K53
open PySem PySem.W
def ty (i : Nat) : Stmt := PySem.Challenge.pw_leastterms_k53_products_multiplied_out.main.body.getD i (.Pass ⟨0, 0, 0, 0⟩)
def Qv : Program := { PySem.Challenge.pw_leastterms_k53_products_multiplied_out with main := { PySem.Challenge.pw_leastterms_k53_products_multiplied_out.main with body := [ty 1, ty 2, ty 3, ty 5, ty 6, ty 7, ty 8, ty 9, ty 10, ty 12, ty 13, ty 14, ty 15, ty 16, ty 17, ty 18, ty 20, ty 21, ty 22, ty 23, ty 25, ty 26, ty 27, ty 28, ty 29, ty 30, ty 31, ty 32, ty 33, ty 34, ty 35, ty 36, ty 37, ty 38, ty 39, ty 40, ty 41, ty 42, ty 43, ty 44, ty 45] } }
def Lv : List PySem.Str := []
def Xv : Shared → Bool := fun s => PySem.W.xlAt Qv [] s && PySem.W.recOk (PySem.W.RowW.records (PySem.W.OpenRow.toRowW PySem.Challenge.rw_leastterms_k53_products_multiplied_out.row)) s
theorem bY {α β γ : Type} {x : Option α} {f : α → β} {g : α → γ} {b : β} {c : γ} (h1 : x.map f = some b) (h2 : x.map g = some c) : x.map (fun s => (f s, g s)) = some (b, c) := by
  cases x with
  | none => cases h1
  | some s =>
    have e1 : f s = b := Option.some.inj h1
    have e2 : g s = c := Option.some.inj h2
    show some (f s, g s) = _
    rw [e1, e2]
end K53
section
open PySem PySem.W PyProof.Rows
local macro_rules | `(tactic| o_head $H) => `(tactic| refine PySem.W.holds_open (q := K53.Qv) (loose := K53.Lv) (N := 3536) (Xt := K53.Xv) (XP := PySem.W.XL K53.Qv []) (Yf := PySem.W.Hook.obs $H) (Ya := PySem.W.Hook.val $H) (YP := PySem.W.Hook.says $H) ?hl (PySem.W.Hook.of $H) (PySem.W.Hook.keeps $H) (fun s e => PySem.W.xl_of s (Bool.and_eq_true_iff.mp e).1) PySem.W.XL.keeps (by rfl) (by rfl) (by rfl) (fun s e => PySem.W.recFacts_of (Bool.and_eq_true_iff.mp e).2) (by rfl) (by first | assumption | decide +kernel) (by decide +kernel) ⟨rfl, rfl, rfl, rfl, rfl, by decide +kernel⟩ ?hw ?hc)
set_option maxRecDepth 100000 in
set_option maxHeartbeats 0 in
theorem K53.hp : False → PySem.Challenge.rw_leastterms_k53_products_multiplied_out.Holds := by
  intro ff
  w_on; o_law; k_head
  all_goals exact ff.elim
end

namespace K53
open PySem PySem.W
abbrev As : List Addr := [2, 3, 15, 22, 23, 24, 25, 28, 35, 36, 37, 40, 47, 48, 49, 52, 54, 55, 57, 58, 59, 61, 62, 64, 65, 66, 68, 69, 71, 72, 73, 75, 76, 78, 79, 80, 83, 84, 85, 88, 89, 90, 93, 94, 95, 98, 99, 100, 102, 103, 105, 106, 107, 109, 110, 112, 113, 114, 116, 117, 119, 120, 121, 123, 124, 126, 127, 128, 131, 132, 133, 136, 137, 138, 141, 142, 143, 145, 146, 148, 149, 150, 153, 154, 155, 157, 158, 160, 161, 162, 164, 165, 167, 168, 169, 171, 172, 174, 175, 176, 178, 179, 181, 182, 183, 185, 186, 188, 189, 190, 192, 193, 195, 196, 197, 200, 201, 202, 205, 206, 207, 210, 211, 212, 215, 216, 217, 220, 221, 222, 225, 226, 227, 229, 230, 232, 233, 234, 237, 238, 239, 242, 243, 244, 247, 248, 249, 252, 253, 254, 257, 258, 259, 261, 262, 264, 265]
noncomputable def Hk : PySem.W.Hook := PySem.W.kHook K53.hp.heap_39 K53.As (fun _ => by kernel_rfl)
abbrev Pg : Program := PySem.Challenge.rw_leastterms_k53_products_multiplied_out.row.prog
set_option maxRecDepth 100000 in
theorem lw : PySem.W.LeftO Pg Qv Lv Xv Hk.obs Hk.val 3536 := fun w => by kernel_rfl
end K53

-- CHANGE: your row's module here, as the last of these rows
namespace L2
open PySem PySem.Spec PyProof.Rows
abbrev Key := Sum Int Str
def z9o : Key -> Value -> Bool
 | .inl k, v => Value.isInt k v
 | .inr x, v => Value.isStrOf x v
def zjn (w : World) : Key -> Int
 | .inl k => hashInt k
 | .inr x => hashStr w x
theorem z0D : ∀ {k : Key} {v : Value}, z9o k v = true -> (∃ i t, k = Sum.inl i /\ v = Value.int i t) \/ (∃ x t, k = Sum.inr x /\ v = Value.str x t)
 | .inl i, v, h => by
  obtain ⟨t, e⟩ := Value.isInt_shape (k := i) (v := v) h
  exact .inl ⟨i, t, rfl, e⟩
 | .inr x, v, h => by
  obtain ⟨t, e⟩ := Value.isStrOf_shape (x := x) (v := v) h
  exact .inr ⟨x, t, rfl, e⟩
theorem zaJ (i : Int) (t : Tok) : z9o (.inl i) (.int i t) = true := by simp [z9o, Value.isInt]
theorem zb7 (x : Str) (t : Tok) : z9o (.inr x) (.str x t) = true := by simp [z9o, Value.isStrOf]
theorem zhx (a b : Int) : decide ((Sum.inl a : Key) = Sum.inl b) = (a == b) := by
 by_cases e : a = b
 ·subst e; simp
 ·have h : ¬ (Sum.inl a : Key) = Sum.inl b := fun q => e (Sum.inl.inj q)
  rw [decide_eq_false h]
  exact (beq_eq_false_iff_ne.mpr e).symm
theorem zgE (a b : Str) : decide ((Sum.inr a : Key) = Sum.inr b) = decide (a = b) := by
 by_cases e : a = b
 ·subst e; simp
 ·have h : ¬ (Sum.inr a : Key) = Sum.inr b := fun q => e (Sum.inr.inj q)
  rw [decide_eq_false h, decide_eq_false e]
theorem zgP (a : Int) (b : Str) : decide ((Sum.inl a : Key) = Sum.inr b) = false := decide_eq_false (fun q => nomatch q)
theorem zhv (a : Str) (b : Int) : decide ((Sum.inr a : Key) = Sum.inl b) = false := decide_eq_false (fun q => nomatch q)
def z19 (prog : Program) (w : World) : PySem.KeyKind prog w Key where
 is := z9o
 hash := zjn w
 inj := fun v a b ha hb => by
  rcases z0D ha with ⟨i, t, rfl, rfl⟩ | ⟨x, t, rfl, rfl⟩
  ·rcases z0D hb with ⟨j, u, rfl, e⟩ | ⟨y, u, rfl, e⟩
   ·injection e with e1 _; rw [e1]
   ·exact nomatch e
  ·rcases z0D hb with ⟨j, u, rfl, e⟩ | ⟨y, u, rfl, e⟩
   ·exact nomatch e
   ·injection e with e1 _; rw [e1]
 byValue := fun k v h => by
  rcases z0D h with ⟨i, t, rfl, rfl⟩ | ⟨x, t, rfl, rfl⟩ <;> rfl
 pyHash := fun hv h => by
  rcases z0D hv with ⟨i, t, rfl, rfl⟩ | ⟨x, t, rfl, rfl⟩
  ·exact wpAny_pyHash_int h
  ·exact wpAny_pyHash_str h
 eqBool := fun hu hv h => by
  rcases z0D hu with ⟨i, t, rfl, rfl⟩ | ⟨x, t, rfl, rfl⟩
  ·rcases z0D hv with ⟨j, u, rfl, rfl⟩ | ⟨y, u, rfl, rfl⟩
   ·rw [zhx] at h; exact wpAny_eqBool_int h
   ·rw [zgP] at h; exact SeqAt.EqAt.int_str i t y u _ _ _ _ h
  ·rcases z0D hv with ⟨j, u, rfl, rfl⟩ | ⟨y, u, rfl, rfl⟩
   ·rw [zhv] at h; exact SeqAt.EqAt.str_int x t j u _ _ _ _ h
   ·rw [zgE] at h; exact wpAny_eqBool_str h
 «strs» := fun k x t v h => by
  rcases z0D h with ⟨i, u, rfl, e⟩ | ⟨y, u, rfl, e⟩
  ·exact nomatch e
  ·injection e with e1 _
   subst e1
   cases v <;> rfl
theorem z7S (prog : Program) (w : World) (i : Int) (t : Tok) : (z19 prog w).is (.inl i) (.int i t) = true := zaJ i t
theorem z7K (prog : Program) (w : World) (x : Str) (t : Tok) : (z19 prog w).is (.inr x) (.str x t) = true := zb7 x t
inductive V where
 | non | bl (b : Bool) | int (i : Int) | str (x : Str) | byt (b : Array UInt8) | flt (b : UInt64) | ref (a : Addr) | ty (n : String)
 deriving DecidableEq
def RelV : V -> Value -> Prop
 | .non, u => u = Value.none
 | .bl b, u => u = Value.bool b
 | .int i, u => ∃ t, u = Value.int i t
 | .str x, u => ∃ t, u = Value.str x t
 | .byt b, u => ∃ t, u = Value.bytes b t
 | .flt b, u => ∃ t, u = Value.float b t
 | .ref a, u => u = Value.ref a
 | .ty n, u => u = Value.type n
abbrev Vals : List V -> List Value -> Prop := Paired RelV
theorem Vals.length {xs : List V} {us : List Value} (r : Vals xs us) : xs.length = us.length := Paired.length r
theorem Vals.get : ∀ {xs : List V} {us : List Value} {i : Nat} {x : V}, Vals xs us -> xs[i]? = some x -> ∃ u, us[i]? = some u /\ RelV x u
 | _, _, _, _, .nil, e => by simp at e
 | _, _, 0, _, .cons r _, e => by simp at e; subst e; exact ⟨_, rfl, r⟩
 | _, _, i + 1, x, .cons _ t, e => by
  obtain ⟨u, h1, h2⟩ := Vals.get (i := i) (x := x) t (by simpa using e)
  exact ⟨u, by simpa using h1, h2⟩
theorem Vals.set {x : V} {u : Value} (r : RelV x u) : ∀ {xs : List V} {us : List Value} (i : Nat), Vals xs us -> Vals (xs.set i x) (us.set i u)
 | _, _, _, .nil => .nil
 | _, _, 0, .cons _ t => .cons r t
 | _, _, i + 1, .cons q t => .cons q (Vals.set r i t)
theorem Vals.append : ∀ {xs ys : List V} {us ws : List Value}, Vals xs us -> Vals ys ws -> Vals (xs ++ ys) (us ++ ws)
 | _, _, _, _, .nil, s => s
 | _, _, _, _, .cons r t, s => .cons r (Vals.append t s)
theorem Vals.take : ∀ {xs : List V} {us : List Value} (n : Nat), Vals xs us -> Vals (xs.take n) (us.take n)
 | _, _, 0, _ => .nil
 | _, _, _ + 1, .nil => .nil
 | _, _, n + 1, .cons r t => .cons r (Vals.take n t)
theorem Vals.drop : ∀ {xs : List V} {us : List Value} (n : Nat), Vals xs us -> Vals (xs.drop n) (us.drop n)
 | _, _, 0, r => r
 | _, _, _ + 1, .nil => .nil
 | _, _, n + 1, .cons _ t => Vals.drop n t
def RelO : Option V -> Option Value -> Prop
 | some v, some u => RelV v u
 | none, none => True
 | _, _ => False
def KV {κ : Type} : List (κ × V) -> List (κ × Value) -> Prop := Paired fun (p : κ × V) (q : κ × Value) => p.1 = q.1 /\ RelV p.2 q.2
def kV : Key -> V
 | .inl i => .int i
 | .inr x => .str x
inductive HO where
 | lst (xs : List V)
 | tup (xs : List V)
 | dK (kvs : List (Key × V)) | dT (kvs : List (List Key × V))
 | set (S : Int -> Bool) (n : Nat)
 | ins (C dx : Addr) (fs : List (Str × V))
 | own (x : Addr)
 | xd (fs : List (Str × V))
 | met (f x : Addr)
 | rng (lo hi : Int)
 | frz (o : Obj) (u : HO)
 | tbl (ps : Array Value)
 | ext (φ : Heap -> Prop)
abbrev Hp := Addr -> Option HO
def upd (H : Hp) (a : Addr) (o : HO) : Hp := fun b => if b = a then some o else H b
theorem z0g {H : Hp} {a : Addr} {o : HO} : upd H a o a = some o := by unfold upd; rw [if_pos rfl]
theorem z09 {H : Hp} {a b : Addr} {o : HO} (h : b ≠ a) : upd H a o b = H b := by unfold upd; rw [if_neg h]
theorem zfs {H : Hp} {a : Addr} {o u : HO} : upd (upd H a o) a u = upd H a u := by
 funext b; unfold upd; split <;> rfl
theorem z0d {H : Hp} {a b : Addr} {o : HO} (h : H a = some o) (h' : H b = none) : a ≠ b := by
 intro e; subst e; rw [h] at h'; cases h'
section
variable (P : Program) (w : World)
def ObjOk (H : Hp) (h : Heap) (a : Addr) : HO -> Prop
 | .lst xs => xs.length <= sizeLine /\ ∃ (its : List Value) (n : Nat), Vals xs its /\ h.get? a = some { cls := .type "list", data := .seq its.toArray n }
 | .tup xs => xs.length <= sizeLine /\ ∃ its : List Value, Vals xs its /\ IsTup h a its.toArray
 | .dK kvs => kvs.length <= sizeLine /\ (a == sysModules) = false /\ ∃ vs, KV kvs vs /\ h.DictOf (z19 P w) a vs
 | .dT kvs => kvs.length <= sizeLine /\ (a == sysModules) = false /\ ∃ xs : List (List Key × Addr × Value),
   Paired (fun (p : List Key × V) (q : List Key × Addr × Value) => p.1 = q.1 /\ H q.2.1 = some (.tup (p.1.map kV)) /\ RelV p.2 q.2.2) kvs xs /\
   ∃ o es ep, h.get? a = some o /\ o.ExactDict /\ o.data = .dict es ep /\ es.toList = xs.map (entryOfKey (tupleKind (z19 P w))) /\ (xs.map (·.1)).Nodup
 | .set S n => h.SetOf (intKind P w) a S n
 | .ins C dx fs => H dx = some (.own a) /\ fs.length <= 1000 /\ dx ≠ a /\ h.get? a = some (PySem.W.instObj C dx) /\
   ∃ mA, h.Ns1 dx mA /\ (∀ f, RelO (fs.lookup f) (mA f)) /\ PySem.Within mA (fs.map (·.1))
 | .own _ => ∃ o, h.get? a = some o
 | .xd fs => ∃ mA, h.Ns1 a mA /\ ∀ f, RelO (fs.lookup f) (mA f)
 | .rng lo hi => ∃ t u v, h.get? a = some { cls := .type "range", data := .fields #[.int lo t, .int hi u, .int 1 v] }
 | .frz o u => h.get? a = some o /\ ObjOk H h a u
 | .tbl ps => h.get? a = some { cls := .none, data := .fields ps }
 | .met f x => h.get? a = some (PySem.W.methodObj (.ref f) (.ref x))
 | .ext φ => φ h /\ (∃ o, h.get? a = some o) /\ ∀ h1 h2 : Heap, φ h1 -> (∀ o, h1.get? a = some o -> h2.get? a = some o) -> φ h2
def HOk (H : Hp) (h : Heap) : Prop := ∀ a o, H a = some o -> ObjOk P w H h a o
end
section
variable {P : Program} {w : World} {H H' : Hp} {h h' : Heap} {a : Addr} {o : HO}
theorem ObjOk.lt (x : ObjOk P w H h a o) : a < h.objs.size := by
 cases o with
 | lst xs => obtain ⟨_, _, _, _, e⟩ := x; exact Heap.lt_size e
 | tup xs => obtain ⟨_, _, _, p⟩ := x; exact p.lt
 | dK kvs => obtain ⟨_, _, _, _, o, _, _, e, _⟩ := x; exact Heap.lt_size e
 | dT kvs => obtain ⟨_, _, _, _, o, _, _, e, _⟩ := x; exact Heap.lt_size e
 | set S n => obtain ⟨o, _, _, _, e, _⟩ := x; exact Heap.lt_size e
 | ins C dx fs => obtain ⟨_, _, _, e, _⟩ := x; exact Heap.lt_size e
 | own y => obtain ⟨_, e⟩ := x; exact Heap.lt_size e
 | xd fs => obtain ⟨_, ⟨_, _, _, e, _⟩, _⟩ := x; exact Heap.lt_size e
 | rng lo hi => obtain ⟨_, _, _, e⟩ := x; exact Heap.lt_size e
 | frz ob u => obtain ⟨e, _⟩ := x; exact Heap.lt_size e
 | tbl ps => exact Heap.lt_size (show h.get? a = some _ from x)
 | met f y => exact Heap.lt_size (show h.get? a = some _ from x)
 | ext φ => obtain ⟨_, ⟨_, e⟩, _⟩ := x; exact Heap.lt_size e
theorem Paired.mapP {α β : Type} {F G : α -> β -> Prop} : ∀ {l₁ : List α} {l₂ : List β}, Paired F l₁ l₂ -> (∀ a b, F a b -> G a b) -> Paired G l₁ l₂
 | _, _, .nil, _ => .nil
 | _, _, .cons r t, f => .cons (f _ _ r) (Paired.mapP t f)
theorem ObjOk.stay (x : ObjOk P w H h a o) (k : ∀ b u, (b = a \/ H b = some (.own a)) -> h.get? b = some u -> h'.get? b = some u)
  (ho : ∀ b, H b = some (.own a) -> H' b = some (.own a)) (ht : ∀ b xs, H b = some (.tup xs) -> H' b = some (.tup xs)) : ObjOk P w H' h' a o := by
 induction o with
 | lst xs => obtain ⟨z, its, n, r, e⟩ := x; exact ⟨z, its, n, r, k _ _ (.inl rfl) e⟩
 | tup xs => obtain ⟨z, its, r, ob, e, c⟩ := x; exact ⟨z, its, r, ob, k _ _ (.inl rfl) e, c⟩
 | dK kvs => obtain ⟨z, y, vs, r, ob, es, ep, e, c⟩ := x; exact ⟨z, y, vs, r, ob, es, ep, k _ _ (.inl rfl) e, c⟩
 | dT kvs =>
  obtain ⟨z, y, xs, r, ob, es, ep, e, c⟩ := x
  exact ⟨z, y, xs, Paired.mapP r fun p q z => ⟨z.1, ht _ _ z.2.1, z.2.2⟩, ob, es, ep, k _ _ (.inl rfl) e, c⟩
 | set S n => obtain ⟨ob, es, ep, t, e, c⟩ := x; exact ⟨ob, es, ep, t, k _ _ (.inl rfl) e, c⟩
 | ins C dx fs =>
  obtain ⟨d, z, ne, e, mA, ⟨od, es, ep, e2, c⟩, r⟩ := x
  exact ⟨ho _ d, z, ne, k _ _ (.inl rfl) e, mA, ⟨od, es, ep, k _ _ (.inr d) e2, c⟩, r⟩
 | own y => obtain ⟨ob, e⟩ := x; exact ⟨ob, k _ _ (.inl rfl) e⟩
 | xd fs => obtain ⟨mA, ⟨od, es, ep, e, c⟩, r⟩ := x; exact ⟨mA, ⟨od, es, ep, k _ _ (.inl rfl) e, c⟩, r⟩
 | rng lo hi => obtain ⟨t, u, v, e⟩ := x; exact ⟨t, u, v, k _ _ (.inl rfl) e⟩
 | frz ob u ih => obtain ⟨e, q⟩ := x; exact ⟨k _ _ (.inl rfl) e, ih q⟩
 | tbl ps =>
  have e : h.get? a = some { cls := .none, data := .fields ps } := x
  show h'.get? a = some { cls := .none, data := .fields ps }
  exact k a _ (.inl rfl) e
 | met f y =>
  have e : h.get? a = some (PySem.W.methodObj (.ref f) (.ref y)) := x
  show h'.get? a = some (PySem.W.methodObj (.ref f) (.ref y))
  exact k a _ (.inl rfl) e
 | ext φ => obtain ⟨p, ⟨o, e⟩, st⟩ := x; exact ⟨st _ _ p fun o q => k _ _ (.inl rfl) q, ⟨o, k _ _ (.inl rfl) e⟩, st⟩
theorem HOk.lt (x : HOk P w H h) (e : H a = some o) : a < h.objs.size := (x a o e).lt
theorem HOk.fresh (x : HOk P w H h) (e : h.objs.size <= a) : H a = none := by
 cases q : H a with
 | none => rfl
 | some u => exact absurd (Nat.lt_of_lt_of_le (x.lt q) e) (Nat.lt_irrefl _)
theorem HOk.kept (x : HOk P w H h) (k : ∀ b u, h.get? b = some u -> h'.get? b = some u) : HOk P w H h' := fun a o e =>
 (x a o e).stay (fun b u _ q => k b u q) (fun _ q => q) fun _ _ q => q
theorem HOk.laid (x : HOk P w H h) (k : ∀ b u, h.get? b = some u -> h'.get? b = some u) (hp : h.objs.size <= a) (new : ObjOk P w (upd H a o) h' a o) : HOk P w (upd H a o) h' := fun b u e => by
 have hn := x.fresh hp
 by_cases hb : b = a
 ·subst hb; rw [z0g] at e; cases e; exact new
 ·rw [z09 hb] at e
  exact (x b u e).stay (fun c v _ q => k c v q) (fun c q => by rw [z09 (z0d q hn)]; exact q) fun c xs q => by rw [z09 (z0d q hn)]; exact q
end
def Rd (H : Hp) (a : Addr) (u : HO) : Prop := H a = some u \/ ∃ o, H a = some (.frz o u)
theorem Rd.ok {P : Program} {w : World} {H : Hp} {h : Heap} {a : Addr} {u : HO} (r : Rd H a u) (x : HOk P w H h) : ObjOk P w H h a u := by
 rcases r with r | ⟨o, r⟩
 ·exact x a u r
 ·obtain ⟨_, q⟩ := x a _ r
  exact q
def Mut : Option HO -> Prop
 | some (.lst _) => True
 | some (.dK _) => True
 | some (.dT _) => True
 | some (.set _ _) => True
 | some (.ins _ _ _) => True
 | some (.ext _) => True
 | _ => False
section
variable {P : Program} {w : World} {H : Hp} {h h' : Heap} {x e : Addr} {o' : HO}
theorem HOk.write (ok : HOk P w H h) (mu : Mut (H x)) (he : e = x \/ H e = some (.own x)) (k : ∀ b u, b ≠ e -> h.get? b = some u -> h'.get? b = some u) (heo : ∃ u, h'.get? e = some u)
  (new : ObjOk P w (upd H x o') h' x o') : HOk P w (upd H x o') h' := fun b u q => by
 have nown : ∀ c y, H c = some (.own y) -> c ≠ x := fun c y r z => by subst z; rw [r] at mu; exact mu
 have ntup : ∀ c xs, H c = some (.tup xs) -> c ≠ x := fun c xs r z => by subst z; rw [r] at mu; exact mu
 by_cases hb : b = x
 ·subst hb; rw [z0g] at q; cases q; exact new
 ·rw [z09 hb] at q
  by_cases hbe : b = e
  ·have q' : H b = some (.own x) := by
    rcases he with z | z
    ·exact absurd (hbe.trans z) hb
    ·rw [hbe]; exact z
   rw [q] at q'; cases q'
   obtain ⟨v, hv⟩ := heo
   exact ⟨v, by rw [hbe]; exact hv⟩
  ·refine (ok b u q).stay (fun c v hc r => k c v ?_ r) (fun c r => by rw [z09 (nown c b r)]; exact r) fun c xs r => by rw [z09 (ntup c xs r)]; exact r
   rcases hc with rfl | hc
   ·exact hbe
   ·rintro rfl
    rcases he with z | z
    ·exact nown c b hc z
    ·rw [hc] at z; cases z; exact hb rfl
end
structure Un (fs ex : List Addr) (H H' : Hp) (h h' : Heap) : Prop where
 keep : ∀ b o, h.get? b = some o -> H b = none -> b ∉ fs -> b ∉ ex -> h'.get? b = some o
 slot : ∀ b o, h.get? b = some o -> H b = none -> b ∈ fs -> b ∉ ex -> ∃ sl, h'.get? b = some { o with slots := sl }
 free : ∀ b o, h.get? b = some o -> H b = none -> b ∉ ex -> H' b = none
 there : ∀ b o, h.get? b = some o -> b ∉ ex -> ∃ o', h'.get? b = some o'
 tups : ∀ b xs, H b = some (.tup xs) -> H' b = some (.tup xs)
 frzs : ∀ b o u, H b = some (.frz o u) -> H' b = some (.frz o u)
 tbls : ∀ b ps, H b = some (.tbl ps) -> ∃ more, H' b = some (.tbl (ps ++ more))
section
variable {fs ex : List Addr} {H H1 H2 : Hp} {h h1 h2 h' : Heap} {a x e : Addr} {o : HO}
theorem Un.any (u : Un fs ex H H1 h h1) {b : Addr} {ob : Obj} (q : h.get? b = some ob) (n : H b = none) (hx : b ∉ ex) : ∃ sl, h1.get? b = some { ob with slots := sl } := by
 by_cases hb : b ∈ fs
 ·exact u.slot b ob q n hb hx
 ·exact ⟨ob.slots, u.keep b ob q n hb hx⟩
theorem Un.trans (a : Un fs ex H H1 h h1) (b : Un fs ex H1 H2 h1 h2) : Un fs ex H H2 h h2 where
 keep := fun c ob q n hc hx => b.keep c ob (a.keep c ob q n hc hx) (a.free c ob q n hx) hc hx
 slot := fun c ob q n hc hx => by
  obtain ⟨sl, e1⟩ := a.slot c ob q n hc hx
  obtain ⟨sl', e2⟩ := b.slot c _ e1 (a.free c ob q n hx) hc hx
  exact ⟨sl', e2⟩
 free := fun c ob q n hx => by
  obtain ⟨o', e1⟩ := a.there c ob q hx
  exact b.free c o' e1 (a.free c ob q n hx) hx
 there := fun c ob q hx => by
  obtain ⟨o', e1⟩ := a.there c ob q hx
  exact b.there c o' e1 hx
 tups := fun c xs q => b.tups c xs (a.tups c xs q)
 frzs := fun c ob xs q => b.frzs c ob xs (a.frzs c ob xs q)
 tbls := fun c ps q => by
  obtain ⟨m1, e1⟩ := a.tbls c ps q
  obtain ⟨m2, e2⟩ := b.tbls c _ e1
  exact ⟨m1 ++ m2, by rw [e2, Array.append_assoc]⟩
theorem Un.kept (k : ∀ b u, h.get? b = some u -> h'.get? b = some u) : Un fs ex H H h h' :=
 ⟨fun b ob q _ _ _ => k b ob q, fun b ob q _ _ _ => ⟨ob.slots, k b ob q⟩, fun _ _ _ n _ => n, fun b ob q _ => ⟨ob, k b ob q⟩, fun _ _ q => q, fun _ _ _ q => q, fun _ ps q => ⟨#[], by rw [q]; simp⟩⟩
theorem Un.refl : Un fs ex H H h h := Un.kept fun _ _ q => q
theorem Un.laid (k : ∀ b u, h.get? b = some u -> h'.get? b = some u) (hp : h.objs.size <= a) (hn : H a = none) : Un fs ex H (upd H a o) h h' where
 keep := fun b u q _ _ _ => k b u q
 slot := fun b u q _ _ _ => ⟨u.slots, k b u q⟩
 free := fun b u q n _ => by rw [z09 (Nat.ne_of_lt (Nat.lt_of_lt_of_le (Heap.lt_size q) hp))]; exact n
 there := fun b u q _ => ⟨u, k b u q⟩
 tups := fun b xs q => by rw [z09 (z0d q hn)]; exact q
 frzs := fun b u xs q => by rw [z09 (z0d q hn)]; exact q
 tbls := fun b ps q => ⟨#[], by rw [z09 (z0d q hn), q]; simp⟩
theorem Un.write (mu : Mut (H x)) (he : e = x \/ H e = some (.own x)) (k : ∀ b u, b ≠ e -> h.get? b = some u -> h'.get? b = some u) (heo : ∃ u, h'.get? e = some u) : Un fs ex H (upd H x o) h h' := by
 have hx : ∀ b, H b = none -> b ≠ x := fun b n z => by subst z; rw [n] at mu; exact mu
 have hb : ∀ b, H b = none -> b ≠ e := fun b n z => by
  subst z
  rcases he with r | r
  ·exact hx b n r
  ·rw [n] at r; cases r
 have hm : ∀ b u, H b = some u -> ¬ Mut (some u) -> b ≠ x := fun b u q nm z => by subst z; rw [q] at mu; exact nm mu
 refine ⟨fun b u q n _ _ => k b u (hb b n) q, fun b u q n _ _ => ⟨u.slots, k b u (hb b n) q⟩, fun b u q n _ => by rw [z09 (hx b n)]; exact n, fun b u q _ => ?_,
  fun b xs q => by rw [z09 (hm b _ q fun z => z)]; exact q, fun b u xs q => by rw [z09 (hm b _ q fun z => z)]; exact q, fun b ps q => ⟨#[], by rw [z09 (hm b _ q fun z => z), q]; simp⟩⟩
 by_cases hbe : b = e
 ·subst hbe; exact heo
 ·exact ⟨u, k b u hbe q⟩
end
def trk (h : Heap) (H : Hp) : List Addr := (List.range h.objs.size).filter fun a => (H a).isSome
def zbH (h : Heap) (H : Hp) : Heap := PySem.W.hideAll h (trk h H)
theorem za0 (h : Heap) (H : Hp) : (zbH h H).objs.size = h.objs.size := PySem.W.hideAll_size _ _
theorem zcj {h : Heap} {H : Hp} {b : Addr} {o : Obj} (e : h.get? b = some o) (n : H b = none) : (zbH h H).get? b = some o :=
 PySem.W.hideAll_get _ e fun hm => by
  have q : (H b).isSome = true := (List.mem_filter.mp hm).2
  rw [n] at q; simp at q
theorem zeJ {h : Heap} {H : Hp} {b : Addr} {o : Obj} (e : (zbH h H).get? b = some o) : h.get? b = some o /\ H b = none := by
 have e' : h.get? b = some o := PySem.W.of_hideAll (trk h H) e
 refine ⟨e', ?_⟩
 cases q : H b with
 | none => rfl
 | some x =>
  have hm : b ∈ trk h H := List.mem_filter.mpr ⟨List.mem_range.mpr (Heap.lt_size e'), by simp [q]⟩
  have z : (zbH h H).get? b = none := PySem.W.hideAll_none (trk h H) hm
  rw [z] at e; cases e
def zeo (g h : Heap) (L : Addr) : List (Addr × Obj) := (List.range h.objs.size).filterMap fun a => if a = L \/ (g.get? a).isSome = true then none else (h.get? a).map fun o => (a, o)
def z2X (g h : Heap) (L d : Addr) : List (Addr × Obj) := (zeo g h L).filter fun p => decide (p.1 ≠ d)
structure Mod (K : PySem.W.Frag) (mg : Str -> Option Value) (base : Heap) : Prop where
 kin : K.In base
 glob : base.Ns mainGlobals mg
 blt : ∃ mb, base.Ns builtinsNs mb /\ ∀ x : Str, x ≠ "__name__" -> mb x = bootBuiltins x
 nolimit : base.NoLimit
structure Cx where
 prog : Program
 w : World
 K : PySem.W.Frag
 mg : Str -> Option Value
 base : Heap
 A : Around
 N : List Str
 s₀ : Shared
 H₀ : Hp
 env : Env
 outer : List Env
 stack : List Env
 ex : List Addr
 fn : Str -> Bool
 calm : Bool
 pn : List (Addr × Obj)
 xe : Value -> Shared -> Prop
def frs (l : List Env) : List Addr := l.filterMap (·.frame)
abbrev Cx.fs (X : Cx) : List Addr := frs X.outer
def Vis (sc : Scope) (x : Str) : Prop := sc.names.lookup x = some .local \/ sc.names.lookup x = some .cell \/ sc.names.lookup x = some .free
def Loc (sc : Scope) (x : Str) : Prop := sc.names.lookup x = some .local \/ sc.names.lookup x = some .cell
def zjs (env : Env) (h : Heap) (m : Str -> Option Value) (x : Str) (u : Value) : Prop :=
 (env.kindOf x = some .local /\ m x = some u) \/ ((env.kindOf x = some .cell \/ env.kindOf x = some .free) /\ ∃ c, env.cells.lookup x = some c /\ h.IsCell c (some u))
structure Cx.Ok (X : Cx) : Prop where
 mod : Mod X.K X.mg X.base
 kind : X.env.scope.kind = .function
 glob : X.env.globals = mainGlobals
 blt : X.env.builtins = builtinsNs
 above : X.s₀.heap.objs.size <= X.env.locals
 inj : ∀ x y c, X.env.cells.lookup x = some c -> X.env.cells.lookup y = some c -> x = y
 has : ∀ x, (X.env.kindOf x = some .cell \/ X.env.kindOf x = some .free) -> ∃ c, X.env.cells.lookup x = some c
 cab : ∀ x c, X.fn x = true -> X.env.cells.lookup x = some c -> X.s₀.heap.objs.size <= c
 hd : X.calm = true -> X.A.handled = none
 frames : X.A.frames = some X.stack
 stk : X.stack = X.outer \/ (X.stack = X.env :: X.outer /\ X.env.frame = some X.env.locals)
 exf : ∀ b ∈ X.ex, b ≠ X.env.locals /\ ∀ x c, X.env.cells.lookup x = some c -> c ≠ b
 bs : ∀ b o, X.base.get? b = some o -> X.s₀.heap.get? b = some o /\ X.H₀ b = none
 bsz : X.base.objs.size <= X.s₀.heap.objs.size
 noex : ∀ b o, X.base.get? b = some o -> b ∉ X.ex
 exfs : ∀ b ∈ X.ex, b ∉ X.fs
 funs : X.s₀.heap.FunFrames X.base X.outer
 frf : ∀ b ∈ X.fs, X.H₀ b = none
structure Inv (X : Cx) (pins : List (Addr × Obj)) (σ : List (Option V)) (H : Hp) (s : Shared) : Prop where
 ok : X.Ok
 os : s.os = X.s₀.os
 bare : AllBare s.gens
 base : Un X.fs X.ex X.H₀ H X.s₀.heap s.heap
 loc : ∃ m, s.heap.Ns X.env.locals m /\ ∀ (i : Nat) (x : Str) (v : V), X.N[i]? = some x -> σ[i]? = some (some v) -> Vis X.env.scope x -> ∃ u, RelV v u /\ zjs X.env s.heap m x u
 cell : ∀ x c, X.env.cells.lookup x = some c -> ∃ v, s.heap.IsCell c v
 free : H X.env.locals = none
 freeC : ∀ x c, X.env.cells.lookup x = some c -> H c = none
 pin : ∀ p ∈ X.pn ++ pins, s.heap.get? p.1 = some p.2 /\ H p.1 = none /\ p.1 ≠ X.env.locals /\ p.1 ∉ X.fs /\ ∀ v, p.2.data ≠ .cell v
 hok : HOk X.prog X.w H s.heap
 len : σ.length = X.N.length
section
variable {X : Cx} {pins : List (Addr × Obj)} {σ : List (Option V)} {H H' : Hp} {s : Shared} {h' : Heap}
theorem Cx.Ok.nofr (ok : X.Ok) {b : Addr} {o : Obj} (e : X.base.get? b = some o) : b ∉ X.fs := fun hb => by
 have := (ok.funs.mem hb).1
 rw [e] at this; cases this
theorem Inv.bs (I : Inv X pins σ H s) : ∀ b o, X.base.get? b = some o -> s.heap.get? b = some o /\ H b = none := fun b o e =>
 ⟨I.base.keep b o (I.ok.bs b o e).1 (I.ok.bs b o e).2 (I.ok.nofr e) (I.ok.noex b o e), I.base.free b o (I.ok.bs b o e).1 (I.ok.bs b o e).2 (I.ok.noex b o e)⟩
theorem Inv.bk (I : Inv X pins σ H s) : ∀ b o, X.base.get? b = some o -> s.heap.get? b = some o := fun b o e => (I.bs b o e).1
theorem Inv.mod (I : Inv X pins σ H s) : Mod X.K X.mg X.base := I.ok.mod
theorem Inv.kIn (I : Inv X pins σ H s) : X.K.In s.heap := I.ok.mod.kin.keeps I.bk
theorem Inv.lt (I : Inv X pins σ H s) : X.env.locals < s.heap.objs.size := let ⟨_, hn, _⟩ := I.loc; hn.lt
theorem Inv.sz (I : Inv X pins σ H s) : X.s₀.heap.objs.size <= s.heap.objs.size := Nat.le_trans I.ok.above (Nat.le_of_lt I.lt)
theorem Inv.nofs (I : Inv X pins σ H s) {a : Addr} (h : s.heap.objs.size <= a) : a ∉ X.fs := fun hb => by
 obtain ⟨_, o, ho, _⟩ := I.ok.funs.mem hb
 exact absurd (Nat.lt_of_lt_of_le (Heap.lt_size ho) (Nat.le_trans I.sz h)) (Nat.lt_irrefl _)
theorem Inv.cne (I : Inv X pins σ H s) : ∀ x c, X.env.cells.lookup x = some c -> c ≠ X.env.locals := fun x c e z => by
 obtain ⟨v, o, ho, hd⟩ := I.cell x c e
 obtain ⟨m, ⟨o', es, ep, ho', hd', _⟩, _⟩ := I.loc
 rw [z, ho'] at ho; cases ho; rw [hd'] at hd; cases hd
theorem Inv.funs (I : Inv X pins σ H s) : s.heap.FunFrames X.base X.outer := by
 have all : ∀ (l : List Env), (∀ b ∈ frs l, b ∈ X.fs) -> X.s₀.heap.FunFrames X.base l -> s.heap.FunFrames X.base l := by
  intro l
  induction l with
  | nil => intro _ _; trivial
  | cons env r ih =>
   intro hs hl
   obtain ⟨hk, ⟨L, o, hf, hn, ho, hd⟩, hr⟩ := hl
   have hL : L ∈ X.fs := hs L (by unfold frs; rw [List.filterMap_cons, hf]; exact List.mem_cons_self)
   obtain ⟨sl, e⟩ := I.base.slot L o ho (I.ok.frf L hL) hL fun z => I.ok.exfs L z hL
   exact ⟨hk, ⟨L, _, hf, hn, e, hd⟩, ih (fun b hb => hs b (by unfold frs; rw [List.filterMap_cons, hf]; exact List.mem_cons_of_mem _ hb)) hr⟩
 exact all X.outer (fun _ hb => hb) I.ok.funs
theorem Inv.stack (I : Inv X pins σ H s) : s.heap.FunFrames X.base X.stack := by
 rcases I.ok.stk with e | ⟨e, hf⟩
 ·rw [e]; exact I.funs
 ·rw [e]
  obtain ⟨m, hn, _⟩ := I.loc
  refine .cons (by rw [I.ok.kind]; decide) hf hn ?_ I.funs
  exact Heap.get?_none_of_le (Nat.le_trans I.ok.bsz I.ok.above)
theorem Inv.stkSub (I : Inv X pins σ H s) : ∀ b ∈ frs X.stack, b ∈ X.env.locals :: X.fs := fun b hb => by
 rcases I.ok.stk with e | ⟨e, hf⟩
 ·rw [e] at hb; exact List.mem_cons_of_mem _ hb
 ·rw [e] at hb
  unfold frs at hb
  rw [List.filterMap_cons, hf] at hb
  exact hb
theorem Inv.stkFree (I : Inv X pins σ H s) : ∀ b ∈ frs X.stack, H b = none := fun b hb => by
 rcases List.mem_cons.mp (I.stkSub b hb) with e | hb
 ·rw [e]; exact I.free
 ·obtain ⟨_, o, ho, _⟩ := I.ok.funs.mem hb
  exact I.base.free b o ho (I.ok.frf b hb) fun z => I.ok.exfs b z hb
theorem Inv.step {g' : Array GenState} {t' : Nat} {d' : Drawn} {ch : List Addr} (I : Inv X pins σ H s)
  (hch : ∀ b ∈ ch, (b ∈ X.ex \/ X.s₀.heap.objs.size <= b) /\ b ≠ X.env.locals /\ (∀ x c, X.env.cells.lookup x = some c -> c ≠ b) /\ ∀ p ∈ X.pn ++ pins, p.1 ≠ b)
  (keep : ∀ b o, b ≠ X.env.locals -> b ∉ X.fs -> b ∉ ch -> s.heap.get? b = some o -> H b = none -> h'.get? b = some o)
  (slot : ∀ b o, b ≠ X.env.locals -> b ∈ X.fs -> b ∉ ch -> s.heap.get? b = some o -> H b = none -> ∃ sl, h'.get? b = some { o with slots := sl }) (free : ∀ b o, b ∉ ch -> s.heap.get? b = some o -> H b = none -> H' b = none)
  (there : ∀ b o, b ∉ ch -> s.heap.get? b = some o -> ∃ o', h'.get? b = some o')
  (tups : ∀ b xs, H b = some (.tup xs) -> H' b = some (.tup xs)) (frzs : ∀ b o u, H b = some (.frz o u) -> H' b = some (.frz o u)) (tbls : ∀ b ps, H b = some (.tbl ps) -> ∃ more, H' b = some (.tbl (ps ++ more)))
  (ns : ∀ m, s.heap.Ns X.env.locals m -> h'.Ns X.env.locals m) (hok : HOk X.prog X.w H' h') (hg : AllBare g') :
  Inv X pins σ H' { s with heap := h', gens := g', drawn := d', toks := t' } := by
 have neL : ∀ b o, X.s₀.heap.get? b = some o -> b ≠ X.env.locals := fun b o e => Nat.ne_of_lt (Nat.lt_of_lt_of_le (Heap.lt_size e) I.ok.above)
 have neC : ∀ b o, X.s₀.heap.get? b = some o -> b ∉ X.ex -> b ∉ ch := fun b o e hx hb => by
  rcases (hch b hb).1 with z | z
  ·exact hx z
  ·exact absurd (Nat.lt_of_lt_of_le (Heap.lt_size e) z) (Nat.lt_irrefl _)
 have cellK : ∀ x c, X.env.cells.lookup x = some c -> ∀ v, s.heap.IsCell c v -> h'.IsCell c v := fun x c e v ⟨o, ho, hd⟩ => by
  have nch : c ∉ ch := fun z => (hch c z).2.2.1 x c e rfl
  by_cases hc : c ∈ X.fs
  ·obtain ⟨sl, q⟩ := slot c o (I.cne x c e) hc nch ho (I.freeC x c e)
   exact ⟨_, q, hd⟩
  ·exact ⟨o, keep c o (I.cne x c e) hc nch ho (I.freeC x c e), hd⟩
 refine ⟨I.ok, I.os, hg, ⟨fun b o e n hb hx => ?_, fun b o e n hb hx => ?_, fun b o e n hx => ?_, fun b o e hx => ?_, fun b xs e => tups b xs (I.base.tups b xs e), fun b o xs e => frzs b o xs (I.base.frzs b o xs e), fun b ps e => ?_⟩, ?_, fun x c e => ?_, ?_, fun x c e => ?_, fun p hp => ?_, hok, I.len⟩
 ·exact keep b o (neL b o e) hb (neC b o e hx) (I.base.keep b o e n hb hx) (I.base.free b o e n hx)
 ·obtain ⟨sl, e1⟩ := I.base.slot b o e n hb hx
  obtain ⟨sl', e2⟩ := slot b _ (neL b o e) hb (neC b o e hx) e1 (I.base.free b o e n hx)
  exact ⟨sl', e2⟩
 ·obtain ⟨o', e1⟩ := I.base.there b o e hx
  exact free b o' (neC b o e hx) e1 (I.base.free b o e n hx)
 ·obtain ⟨o', e1⟩ := I.base.there b o e hx
  exact there b o' (neC b o e hx) e1
 ·obtain ⟨m1, e1⟩ := I.base.tbls b ps e
  obtain ⟨m2, e2⟩ := tbls b _ e1
  exact ⟨m1 ++ m2, by rw [e2, Array.append_assoc]⟩
 ·obtain ⟨m, hn, hl⟩ := I.loc
  refine ⟨m, ns m hn, fun i x v e1 e2 e3 => ?_⟩
  obtain ⟨u, r, l⟩ := hl i x v e1 e2 e3
  refine ⟨u, r, ?_⟩
  rcases l with l | ⟨k, c, e, z⟩
  ·exact .inl l
  ·exact .inr ⟨k, c, e, cellK x c e _ z⟩
 ·obtain ⟨v, z⟩ := I.cell x c e
  exact ⟨v, cellK x c e v z⟩
 ·obtain ⟨m, ⟨o, _, _, ho, _⟩, _⟩ := I.loc
  exact free _ o (fun z => (hch _ z).2.1 rfl) ho I.free
 ·obtain ⟨v, o, ho, hd⟩ := I.cell x c e
  exact free c o (fun z => (hch c z).2.2.1 x c e rfl) ho (I.freeC x c e)
 ·obtain ⟨e, n, ne, nf, d⟩ := I.pin p hp
  have nch : p.1 ∉ ch := fun z => (hch p.1 z).2.2.2 p hp rfl
  exact ⟨keep p.1 p.2 ne nf nch e n, free p.1 p.2 nch e n, ne, nf, d⟩
theorem Inv.un {t' : Nat} (I : Inv X pins σ H s) (u : Un X.fs [] H H' s.heap h') (hok : HOk X.prog X.w H' h') : Inv X pins σ H' { s with heap := h', toks := t' } := by
 obtain ⟨m, ⟨o, es, ep, ho, r⟩, _⟩ := id I.loc
 obtain ⟨sl, hL⟩ := u.any ho I.free (by simp)
 exact I.step (g' := s.gens) (d' := s.drawn) (ch := []) (fun _ z => nomatch z) (fun b o _ hb _ e n => u.keep b o e n hb (by simp)) (fun b o _ hb _ e n => u.slot b o e n hb (by simp)) (fun b o _ e n => u.free b o e n (by simp)) (fun b o _ e => u.there b o e (by simp)) u.tups u.frzs u.tbls (fun m' hm => by
  obtain ⟨o', es', ep', ho', r'⟩ := hm
  rw [ho] at ho'; cases ho'
  exact ⟨_, es', ep', hL, r'⟩) hok I.bare
theorem Inv.call {g' : Array GenState} {t' : Nat} {d' : Drawn} {ch : List Addr} (I : Inv X pins σ H s) (u : Un (frs X.stack) ch H H' s.heap h') (hok : HOk X.prog X.w H' h') (hg : AllBare g')
  (hch : ∀ b ∈ ch, (b ∈ X.ex \/ X.s₀.heap.objs.size <= b) /\ b ≠ X.env.locals /\ (∀ x c, X.env.cells.lookup x = some c -> c ≠ b) /\ ∀ p ∈ X.pn ++ pins, p.1 ≠ b) :
  Inv X pins σ H' { s with heap := h', gens := g', drawn := d', toks := t' } := by
 obtain ⟨m, ⟨o, es, ep, ho, r⟩, _⟩ := id I.loc
 obtain ⟨sl, hL⟩ := u.any ho I.free fun z => (hch _ z).2.1 rfl
 exact I.step (ch := ch) hch (fun b o hL hb hc e n => u.keep b o e n (fun z => (List.mem_cons.mp (I.stkSub b z)).elim hL hb) hc) (fun b o _ _ hc e n => u.any e n hc) (fun b o hc e n => u.free b o e n hc) (fun b o hc e => u.there b o e hc) u.tups u.frzs u.tbls (fun m' hm => by
  obtain ⟨o', es', ep', ho', r'⟩ := hm
  rw [ho] at ho'; cases ho'
  exact ⟨_, es', ep', hL, r'⟩) hok hg
theorem Inv.turned {t' : Nat} {it : Addr} (I : Inv X pins σ H s) (k : ∀ b o, b ≠ it -> s.heap.get? b = some o -> h'.get? b = some o) (hn : H it = none) (hL : it ≠ X.env.locals)
  (h1 : it ∈ X.ex \/ X.s₀.heap.objs.size <= it) (h2 : ∀ x c, X.env.cells.lookup x = some c -> c ≠ it) (h3 : ∀ p ∈ X.pn ++ pins, p.1 ≠ it) : Inv X pins σ H { s with heap := h', toks := t' } := by
 have nit : ∀ b u, H b = some u -> b ≠ it := fun b u e z => by rw [z, hn] at e; cases e
 refine I.step (g' := s.gens) (d' := s.drawn) (ch := [it]) (fun b hb => ?_) (fun b o _ _ hc e _ => k b o (fun z => hc (by simp [z])) e) (fun b o _ _ hc e _ => ⟨o.slots, k b o (fun z => hc (by simp [z])) e⟩) (fun _ _ _ _ n => n)
  (fun b o hc e => ⟨o, k b o (fun z => hc (by simp [z])) e⟩) (fun _ _ e => e) (fun _ _ _ e => e) (fun b ps e => ⟨#[], by rw [e]; simp⟩) (fun m hm => ?_) (fun b u e => ?_) I.bare
 ·have e : b = it := by simpa using hb
  subst e
  exact ⟨h1, hL, h2, h3⟩
 ·obtain ⟨o, es, ep, ho, r⟩ := hm
  exact ⟨o, es, ep, k _ o (Ne.symm hL) ho, r⟩
 ·refine (I.hok b u e).stay (fun c v hc q => k c v ?_ q) (fun _ q => q) fun _ _ q => q
  rcases hc with z | z
  ·rw [z]; exact nit b u e
  ·exact nit c _ z
theorem Inv.tok (I : Inv X pins σ H s) (t : Nat) : Inv X pins σ H { s with toks := t } := I.un (h' := s.heap) (t' := t) Un.refl I.hok
theorem Inv.kept {t' : Nat} (I : Inv X pins σ H s) (k : ∀ b u, s.heap.get? b = some u -> h'.get? b = some u) : Inv X pins σ H { s with heap := h', toks := t' } := I.un (Un.kept k) (I.hok.kept k)
theorem Inv.laid {a : Addr} {o : HO} {t' : Nat} (I : Inv X pins σ H s) (k : ∀ b u, s.heap.get? b = some u -> h'.get? b = some u) (hp : s.heap.objs.size <= a) (new : ObjOk X.prog X.w (upd H a o) h' a o) :
  Inv X pins σ (upd H a o) { s with heap := h', toks := t' } := I.un (Un.laid k hp (I.hok.fresh hp)) (I.hok.laid k hp new)
theorem Inv.write {x e : Addr} {o : HO} {t' : Nat} (I : Inv X pins σ H s) (mu : Mut (H x)) (he : e = x \/ H e = some (.own x)) (k : ∀ b u, b ≠ e -> s.heap.get? b = some u -> h'.get? b = some u) (heo : ∃ u, h'.get? e = some u)
  (new : ObjOk X.prog X.w (upd H x o) h' x o) : Inv X pins σ (upd H x o) { s with heap := h', toks := t' } := I.un (Un.write mu he k heo) (I.hok.write mu he k heo new)
theorem Inv.pins_of {pins' : List (Addr × Obj)} (I : Inv X pins σ H s) (h : ∀ p ∈ pins', s.heap.get? p.1 = some p.2 /\ H p.1 = none /\ p.1 ≠ X.env.locals /\ p.1 ∉ X.fs /\ ∀ v, p.2.data ≠ .cell v) : Inv X pins' σ H s :=
 ⟨I.ok, I.os, I.bare, I.base, I.loc, I.cell, I.free, I.freeC, fun p hp => (List.mem_append.mp hp).elim (fun z => I.pin p (List.mem_append_left _ z)) (h p), I.hok, I.len⟩
theorem z8K {N : List Str} (hN : N.Nodup) {i j : Nat} {x : Str} (a : N[i]? = some x) (b : N[j]? = some x) : i = j := by
 obtain ⟨h1, e1⟩ := List.getElem?_eq_some_iff.mp a
 obtain ⟨h2, e2⟩ := List.getElem?_eq_some_iff.mp b
 exact (List.getElem_inj hN).mp (e1.trans e2.symm)
theorem z6K {M : Model} {A : Around} {E : Value -> Shared -> Prop} {i : Nat} {x : Str} {v : V} {u : Value} {Q : Unit -> Shared -> Prop} (I : Inv X pins σ H s) (hN : X.N.Nodup) (hi : X.N[i]? = some x) (hx : Loc X.env.scope x) (r : RelV v u)
  (h : ∀ s', Inv X pins (σ.set i (some v)) H s' -> (∃ a, Heap.SameBut a s.heap s'.heap /\ (a = X.env.locals \/ X.env.cells.lookup x = some a)) -> Q () s') (hf : X.fn x = true \/ X.env.scope.names.lookup x = some .local := by first | exact .inl rfl | exact .inr rfl | assumption) : wpAny M A (storeName X.env x u) Q E s := by
 obtain ⟨m, hn, hl⟩ := id I.loc
 have hcls : (X.env.scope.kind == .class || (X.env.scope.kind == .module && X.env.locals != X.env.globals)) = false := by rw [I.ok.kind]; rfl
 have hiσ : i < σ.length := by rw [I.len]; exact (List.getElem?_eq_some_iff.mp hi).1
 have cne := I.cne
 have tracked : ∀ {a : Addr} {h' : Heap}, (∃ o, s.heap.get? a = some o /\ H a = none) -> Heap.SameBut a s.heap h' -> HOk X.prog X.w H h' := fun {a h'} ha hs b ob e => by
  obtain ⟨_, _, hfree⟩ := ha
  refine (I.hok b ob e).stay (fun c w' hc q => (hs.2 c ?_).trans q) (fun _ q => q) fun _ _ q => q
  rintro rfl
  rcases hc with rfl | hc
  ·rw [hfree] at e; cases e
  ·rw [hfree] at hc; cases hc
 rcases hx with hk | hk
 ·refine wpAny_storeName_local hk hn (fun h' hn' hs => ?_) hcls
  obtain ⟨oL, _, _, hoL, _⟩ := id hn
  refine h _ ⟨I.ok, I.os, I.bare, ⟨fun b o e n hb hx => ?_, fun b o e n hb hx => ?_, I.base.free, fun b o e hx => ?_, I.base.tups, I.base.frzs, I.base.tbls⟩, ⟨_, hn', fun j y v' e1 e2 e3 => ?_⟩, fun y c e => ?_, I.free, I.freeC, fun p hp => ?_, tracked ⟨oL, hoL, I.free⟩ hs, by simpa using I.len⟩ ⟨_, hs, .inl rfl⟩
  ·exact (hs.2 b (Nat.ne_of_lt (Nat.lt_of_lt_of_le (Heap.lt_size e) I.ok.above))).trans (I.base.keep b o e n hb hx)
  ·obtain ⟨sl, e1⟩ := I.base.slot b o e n hb hx
   exact ⟨sl, (hs.2 b (Nat.ne_of_lt (Nat.lt_of_lt_of_le (Heap.lt_size e) I.ok.above))).trans e1⟩
  ·obtain ⟨o', e1⟩ := I.base.there b o e hx
   exact ⟨o', (hs.2 b (Nat.ne_of_lt (Nat.lt_of_lt_of_le (Heap.lt_size e) I.ok.above))).trans e1⟩
  ·by_cases hj : j = i
   ·subst hj
    rw [hi] at e1; cases e1
    rw [List.getElem?_set_self hiσ] at e2
    cases e2
    exact ⟨u, r, .inl ⟨hk, by simp⟩⟩
   ·rw [List.getElem?_set_ne (Ne.symm hj)] at e2
    obtain ⟨u', r', q⟩ := hl j y v' e1 e2 e3
    refine ⟨u', r', ?_⟩
    rcases q with ⟨k, e⟩ | ⟨k, c, e, z⟩
    ·refine .inl ⟨k, ?_⟩
     have : y ≠ x := fun e => hj (z8K hN e1 (e ▸ hi))
     simp [this, e]
    ·exact .inr ⟨k, c, e, z.sameBut hs (cne y c e)⟩
  ·obtain ⟨w', z⟩ := I.cell y c e
   exact ⟨w', z.sameBut hs (cne y c e)⟩
  ·obtain ⟨e, n, ne, nf, d⟩ := I.pin p hp
   exact ⟨(hs.2 p.1 ne).trans e, n, ne, nf, d⟩
 ·have hfn : X.fn x = true := by
   rcases hf with z | z
   ·exact z
   ·rw [z] at hk; cases hk
  obtain ⟨c, hc⟩ := I.ok.has x (.inl hk)
  obtain ⟨w', z⟩ := I.cell x c hc
  refine wpAny_storeName_cell I.ok.kind hk hc z (fun h' hc' hs => ?_)
  obtain ⟨oc, hoc, hocd⟩ := id z
  refine h { s with heap := h' } ⟨I.ok, I.os, I.bare, ⟨fun b o e n hb hx => ?_, fun b o e n hb hx => ?_, I.base.free, fun b o e hx => ?_, I.base.tups, I.base.frzs, I.base.tbls⟩, ⟨m, hn.sameBut hs (Ne.symm (cne x c hc)), fun j y v' e1 e2 e3 => ?_⟩, fun y c' e => ?_, I.free, I.freeC, fun p hp => ?_, tracked ⟨oc, hoc, I.freeC x c hc⟩ hs, by simpa using I.len⟩ ⟨c, hs, .inr hc⟩
  ·exact (hs.2 b (Nat.ne_of_lt (Nat.lt_of_lt_of_le (Heap.lt_size e) (I.ok.cab x c hfn hc)))).trans (I.base.keep b o e n hb hx)
  ·obtain ⟨sl, e1⟩ := I.base.slot b o e n hb hx
   exact ⟨sl, (hs.2 b (Nat.ne_of_lt (Nat.lt_of_lt_of_le (Heap.lt_size e) (I.ok.cab x c hfn hc)))).trans e1⟩
  ·obtain ⟨o', e1⟩ := I.base.there b o e hx
   exact ⟨o', (hs.2 b (Nat.ne_of_lt (Nat.lt_of_lt_of_le (Heap.lt_size e) (I.ok.cab x c hfn hc)))).trans e1⟩
  ·by_cases hj : j = i
   ·subst hj
    rw [hi] at e1; cases e1
    rw [List.getElem?_set_self hiσ] at e2
    cases e2
    exact ⟨u, r, .inr ⟨.inl hk, c, hc, hc'⟩⟩
   ·rw [List.getElem?_set_ne (Ne.symm hj)] at e2
    obtain ⟨u', r', q⟩ := hl j y v' e1 e2 e3
    refine ⟨u', r', ?_⟩
    rcases q with q | ⟨k, c', e, z'⟩
    ·exact .inl q
    ·refine .inr ⟨k, c', e, z'.sameBut hs ?_⟩
     rintro rfl
     exact hj (z8K hN e1 (I.ok.inj _ _ _ e hc ▸ hi))
  ·by_cases hcc : c' = c
   ·subst hcc; exact ⟨_, hc'⟩
   ·obtain ⟨w2, z2⟩ := I.cell y c' e
    exact ⟨w2, z2.sameBut hs hcc⟩
  ·obtain ⟨e, n, ne, nf, d⟩ := I.pin p hp
   refine ⟨(hs.2 p.1 ?_).trans e, n, ne, nf, d⟩
   intro q
   rw [q, hoc] at e
   have q' : oc = p.2 := Option.some.inj e
   exact d w' (by rw [<- q']; exact hocd)
theorem z8T {M : Model} {A : Around} {E : Value -> Shared -> Prop} {i : Nat} {x : Str} {v : V} {u : Value} {Q : Unit -> Shared -> Prop} (I : Inv X pins σ H s) (hN : X.N.Nodup) (hi : X.N[i]? = some x) (hx : Loc X.env.scope x) (r : RelV v u)
  (h : ∀ s', Inv X pins (σ.set i (some v)) H s' -> Q () s') (hf : X.fn x = true \/ X.env.scope.names.lookup x = some .local := by first | exact .inl rfl | exact .inr rfl | assumption) : wpAny M A (storeName X.env x u) Q E s :=
 z6K I hN hi hx r (fun s' I' _ => h s' I') hf
theorem Inv.call' {s' : Shared} {ch : List Addr} (I : Inv X pins σ H s) (ho : s'.os = s.os) (u : Un (frs X.stack) ch H H' s.heap s'.heap) (hok : HOk X.prog X.w H' s'.heap) (hg : AllBare s'.gens)
  (hch : ∀ b ∈ ch, (b ∈ X.ex \/ X.s₀.heap.objs.size <= b) /\ b ≠ X.env.locals /\ (∀ x c, X.env.cells.lookup x = some c -> c ≠ b) /\ ∀ p ∈ X.pn ++ pins, p.1 ≠ b) : Inv X pins σ H' s' := by
 obtain ⟨h', g', d', t', o'⟩ := s'
 have e : o' = s.os := ho
 subst e
 exact I.call (g' := g') (t' := t') (d' := d') u hok hg hch
end
abbrev XK := Value -> Option Addr -> Hp -> Prop
abbrev St := List (Option V)
abbrev VK := V -> Hp -> Prop
abbrev TE := St -> Hp -> VK -> Prop
abbrev TT := St -> Hp -> (Bool -> Hp -> Prop) -> Prop
abbrev TA := St -> Hp -> (List V -> Hp -> Prop) -> Prop
structure zaZ where
 nx : St -> Hp -> Prop
 rt : VK
 bk : St -> Hp -> Prop := fun _ _ => False
 ct : St -> Hp -> Prop := fun _ _ => False
abbrev TS := zaZ -> St -> Hp -> Prop
def EP (X : Cx) (pins : List (Addr × Obj)) (σ : St) (Q : VK) (u : Value) (s' : Shared) : Prop := ∃ v H', Inv X pins σ H' s' /\ RelV v u /\ Q v H'
def TP (X : Cx) (pins : List (Addr × Obj)) (σ : St) (Q : Bool -> Hp -> Prop) (b : Bool) (s' : Shared) : Prop := ∃ H', Inv X pins σ H' s' /\ Q b H'
def AP (X : Cx) (pins : List (Addr × Obj)) (σ : St) (Q : List V -> Hp -> Prop) (us : List Value) (s' : Shared) : Prop := ∃ vs H', Inv X pins σ H' s' /\ Vals vs us /\ Q vs H'
def SP (X : Cx) (pins : List (Addr × Obj)) (D : zaZ) (f : Flow) (s' : Shared) : Prop :=
 match f with
 | .next => ∃ σ' H', Inv X pins σ' H' s' /\ D.nx σ' H'
 | .brk => ∃ σ' H', Inv X pins σ' H' s' /\ D.bk σ' H'
 | .cont => ∃ σ' H', Inv X pins σ' H' s' /\ D.ct σ' H'
 | .ret u => ∃ v σ' H', Inv X pins σ' H' s' /\ RelV v u /\ D.rt v H'
def PE (X : Cx) (e : Expr) (t : TE) : Prop :=
 ∀ (pins : List (Addr × Obj)) (s : Shared) (σ : St) (H : Hp) (Q : VK), Inv X pins σ H s -> t σ H Q -> wpAny (model X.prog X.w) X.A (eval e X.env) (EP X pins σ Q) X.xe s
def PT (X : Cx) (e : Expr) (t : TT) : Prop :=
 ∀ (pins : List (Addr × Obj)) (s : Shared) (σ : St) (H : Hp) (Q : Bool -> Hp -> Prop), Inv X pins σ H s -> t σ H Q -> wpAny (model X.prog X.w) X.A (isTrue e X.env (eval e X.env)) (TP X pins σ Q) X.xe s
def PW (X : Cx) (e : Expr) (t : TT) : Prop :=
 ∀ (whole : Sem Value) (pins : List (Addr × Obj)) (s : Shared) (σ : St) (H : Hp) (Q : Bool -> Hp -> Prop), Inv X pins σ H s -> t σ H Q -> wpAny (model X.prog X.w) X.A (isTrue e X.env whole) (TP X pins σ Q) X.xe s
theorem PW.pt {X : Cx} {e : Expr} {t : TT} (h : PW X e t) : PT X e t := h _
def PA (X : Cx) (es : List Expr) (t : TA) : Prop :=
 ∀ (pos : Pos) (pins : List (Addr × Obj)) (s : Shared) (σ : St) (H : Hp) (Q : List V -> Hp -> Prop), Inv X pins σ H s -> t σ H Q -> wpAny (model X.prog X.w) X.A (spliced (backTo pos (starEach es X.env))) (AP X pins σ Q) X.xe s
def PS (X : Cx) (st : Stmt) (t : TS) : Prop :=
 ∀ (pins : List (Addr × Obj)) (s : Shared) (σ : St) (H : Hp) (D : zaZ), Inv X pins σ H s -> t D σ H -> wpAny (model X.prog X.w) X.A (exec st X.env) (SP X pins D) X.xe s
def PSs (X : Cx) (st : List Stmt) (t : TS) : Prop :=
 ∀ (pins : List (Addr × Obj)) (s : Shared) (σ : St) (H : Hp) (D : zaZ), Inv X pins σ H s -> t D σ H -> wpAny (model X.prog X.w) X.A (execs st X.env) (SP X pins D) X.xe s
theorem thn {α : Type} {t : Sem α} {Q Q' : α -> Shared -> Prop} {M : Model} {A : Around} {E : Value -> Shared -> Prop} {s : Shared} (h : wpAny M A t Q E s) (hQ : ∀ a s, Q a s -> Q' a s) : wpAny M A t Q' E s := wpAny_mono h hQ fun _ _ x => x
section
variable {X : Cx}
theorem bin {a b : Expr} {ta tb : TE} (ha : PE X a ta) (hb : PE X b tb) {pins : List (Addr × Obj)} {s : Shared} {σ : St} {H : Hp} {R : V -> V -> Hp -> Prop} (I : Inv X pins σ H s) (h : ta σ H fun x H1 => tb σ H1 fun y H2 => R x y H2)
  {α : Type} {Q : α -> Shared -> Prop} {f : Value -> Value -> Sem α}
  (hf : ∀ v u s2 x y H2, Inv X pins σ H2 s2 -> RelV x v -> RelV y u -> R x y H2 -> wpAny (model X.prog X.w) X.A (f v u) Q X.xe s2) :
  wpAny (model X.prog X.w) X.A (eval a X.env) (fun v s₁ => wpAny (model X.prog X.w) X.A (eval b X.env) (fun u s₂ => wpAny (model X.prog X.w) X.A (f v u) Q X.xe s₂) X.xe s₁) X.xe s := by
 refine thn (ha pins s σ H _ I h) fun v s1 ⟨x, H1, I1, r1, q1⟩ => ?_
 refine thn (hb pins s1 σ H1 _ I1 q1) fun u s2 ⟨y, H2, I2, r2, q2⟩ => ?_
 exact hf v u s2 x y H2 I2 r1 r2 q2
def ziZ (i : Nat) : TE := fun σ H Q => ∃ v, σ[i]? = some (some v) /\ Q v H
def tC (v : V) : TE := fun _ H Q => Q v H
theorem zdB {i : Nat} {x : Str} {pos : Pos} (hN : X.N[i]? = some x) (hv : Vis X.env.scope x) (hd : (x == ("__debug__" : Str)) = false := by decide) (hcd : (x == ("__classdict__" : Str)) = false := by decide) : PE X (.Name x pos) (ziZ i) := by
 intro pins s σ H Q I h
 obtain ⟨v, e, h⟩ := h
 obtain ⟨m, hn, hl⟩ := I.loc
 obtain ⟨u, r, l⟩ := hl i x v hN e hv
 have fin : EP X pins σ Q u s := ⟨v, H, I, r, h⟩
 rcases l with ⟨hk, hm⟩ | ⟨hk, c, hc, hcell⟩
 ·exact wpAny_Name (wpAny_loadName_local I.ok.kind hk hn hm fin) hd
 ·rcases hk with hk | hk
  ·exact wpAny_Name (wpAny_loadName_cell I.ok.kind hk hc hcell fin) hd
  ·exact wpAny_Name (wpAny_loadName_free I.ok.kind hk hc hcell fin hcd) hd
theorem zda {i j pos} : PE X (.Constant (.int i) j pos) (tC (.int i)) := fun _ _ _ H _ I h => wpAny_Constant_int ⟨.int i, H, I.tok _, ⟨_, rfl⟩, h⟩
theorem zir {b j pos} : PE X (.Constant (.bool b) j pos) (tC (.bl b)) := fun _ _ _ H _ I h => Constant_bool ⟨.bl b, H, I, rfl, h⟩
theorem zdi {j pos} : PE X (.Constant .none j pos) (tC .non) := fun _ _ _ H _ I h => Constant_none ⟨.non, H, I, rfl, h⟩
theorem zde {x j pos} : PE X (.Constant (.str x) j pos) (tC (.str x)) := fun _ _ _ H _ I h => Calls.Constant_str ⟨.str x, H, I.tok _, ⟨_, rfl⟩, h⟩
def Gl (X : Cx) (x : Str) : Prop := X.env.kindOf x = some .globalImplicit
theorem z9Z {E : Value -> Shared -> Prop} {pins : List (Addr × Obj)} {s : Shared} {σ : St} {H : Hp} {x : Str} {u : Value} {pos : Pos} {Q : Value -> Shared -> Prop} (I : Inv X pins σ H s) (hg : Gl X x) (hm : X.mg x = some u) (h : Q u s)
  (hd : (x == ("__debug__" : Str)) = false := by decide) : wpAny (model X.prog X.w) X.A (eval (.Name x pos) X.env) Q E s :=
 Calls.Name_function_global I.ok.kind hg (Calls.loadGlobal_global (by rw [I.ok.glob]; exact I.mod.glob.keeps I.bk) hm h) hd
theorem z4O {E : Value -> Shared -> Prop} {pins : List (Addr × Obj)} {s : Shared} {σ : St} {H : Hp} {x : Str} {u : Value} {pos : Pos} {Q : Value -> Shared -> Prop} (I : Inv X pins σ H s) (hg : Gl X x) (hm : X.mg x = none) (hv : bootBuiltins x = some u) (h : Q u s)
  (hn : x ≠ "__name__" := by decide) (hd : (x == ("__debug__" : Str)) = false := by decide) : wpAny (model X.prog X.w) X.A (eval (.Name x pos) X.env) Q E s := by
 obtain ⟨mb, h1, h2⟩ := I.mod.blt
 exact Calls.Name_function_global I.ok.kind hg (Calls.loadGlobal_builtin (by rw [I.ok.glob]; exact I.mod.glob.keeps I.bk) hm (by rw [I.ok.blt]; exact h1.keeps I.bk) ((h2 x hn).trans hv) h) hd
theorem zaV {x : Str} {v : V} {u : Value} {pos : Pos} (hg : Gl X x) (hm : X.mg x = some u) (r : RelV v u) (hd : (x == ("__debug__" : Str)) = false := by decide) : PE X (.Name x pos) (tC v) :=
 fun _ _ _ H _ I h => z9Z I hg hm ⟨v, H, I, r, h⟩ hd
theorem z7R {x : Str} {v : V} {u : Value} {pos : Pos} (hg : Gl X x) (hm : X.mg x = none) (hv : bootBuiltins x = some u) (r : RelV v u) (hn : x ≠ "__name__" := by decide) (hd : (x == ("__debug__" : Str)) = false := by decide) : PE X (.Name x pos) (tC v) :=
 fun _ _ _ H _ I h => z4O I hg hm hv ⟨v, H, I, r, h⟩ hn hd
variable {a b : Expr} {ta tb : TE} {pos : Pos}
def tB (t : TE) : TT := fun σ H Q => t σ H fun x H1 => ∃ c, x = .bl c /\ Q c H1
variable {tA tB' : TT} {z2X : List Expr}
def zjM (t u : TT) : TT := fun σ H Q => t σ H fun c H1 => if c = true then u σ H1 Q else Q false H1
def tOr (t u : TT) : TT := fun σ H Q => t σ H fun c H1 => if c = true then Q true H1 else u σ H1 Q
def zjN (t : TT) : TT := fun σ H Q => t σ H fun c H1 => Q (!c) H1
theorem zef (ha : PT X a tA) : PW X (.BoolOp .And [a] pos) tA := by
 intro wh pins s σ H Q I h
 refine isTrue_and (thn (ha pins s σ H Q I h) fun c s1 e => ?_)
 cases c with
 | true => exact isTrue_and_nil e
 | false => exact e
theorem zhP (ha : PT X a tA) : PW X (.BoolOp .Or [a] pos) tA := by
 intro wh pins s σ H Q I h
 refine isTrue_or (thn (ha pins s σ H Q I h) fun c s1 e => ?_)
 cases c with
 | false => exact isTrue_or_nil e
 | true => exact e
theorem zgb (ha : PT X a tA) (hb : PW X (.BoolOp .And (b :: z2X) pos) tB') : PW X (.BoolOp .And (a :: b :: z2X) pos) (zjM tA tB') := by
 intro wh pins s σ H Q I h
 refine isTrue_and (thn (ha pins s σ H _ I h) fun c s1 ⟨H1, I1, q1⟩ => ?_)
 cases c with
 | true => exact hb wh pins s1 σ H1 Q I1 q1
 | false => exact ⟨H1, I1, q1⟩
theorem zit (ha : PT X a tA) (hb : PW X (.BoolOp .Or (b :: z2X) pos) tB') : PW X (.BoolOp .Or (a :: b :: z2X) pos) (tOr tA tB') := by
 intro wh pins s σ H Q I h
 refine isTrue_or (thn (ha pins s σ H _ I h) fun c s1 ⟨H1, I1, q1⟩ => ?_)
 cases c with
 | true => exact ⟨H1, I1, q1⟩
 | false => exact hb wh pins s1 σ H1 Q I1 q1
theorem zgT (ha : PT X a tA) : PT X (.UnaryOp .Not a pos) (zjN tA) := by
 intro pins s σ H Q I h
 exact isTrue_not (ha pins s σ H (fun c H1 => Q (!c) H1) I h)
def zi6 (ta tb : TE) : TE := fun σ H Q => ta σ H fun x H1 => ∃ c, x = .bl c /\ if c = true then tb σ H1 Q else Q (.bl false) H1
def zjz (ta tb : TE) : TE := fun σ H Q => ta σ H fun x H1 => ∃ c, x = .bl c /\ if c = true then Q (.bl true) H1 else tb σ H1 Q
def ziu (ta : TE) : TE := fun σ H Q => ta σ H fun x H1 => ∃ c, x = .bl c /\ Q (.bl (!c)) H1
theorem zg2 {op} {t : TE} (h : PE X a t) : PE X (.BoolOp op [a] pos) t := fun pins s σ H Q I hw => BoolOp_one (h pins s σ H Q I hw)
theorem zg3 (ha : PE X a ta) (hb : PE X (.BoolOp .And (b :: z2X) pos) tb) : PE X (.BoolOp .And (a :: b :: z2X) pos) (zi6 ta tb) := by
 intro pins s σ H Q I h
 refine BoolOp_and (thn (ha pins s σ H _ I h) fun v s1 ⟨x, H1, I1, r1, q1⟩ => ?_)
 obtain ⟨c, rfl, q1⟩ := q1
 cases r1
 refine wpAny_truthy_bool ?_
 cases c with
 | true => exact hb pins s1 σ H1 Q I1 q1
 | false => exact ⟨.bl false, H1, I1, rfl, q1⟩
theorem zio (ha : PE X a ta) (hb : PE X (.BoolOp .Or (b :: z2X) pos) tb) : PE X (.BoolOp .Or (a :: b :: z2X) pos) (zjz ta tb) := by
 intro pins s σ H Q I h
 refine BoolOp_or (thn (ha pins s σ H _ I h) fun v s1 ⟨x, H1, I1, r1, q1⟩ => ?_)
 obtain ⟨c, rfl, q1⟩ := q1
 cases r1
 refine wpAny_truthy_bool ?_
 cases c with
 | false => exact hb pins s1 σ H1 Q I1 q1
 | true => exact ⟨.bl true, H1, I1, rfl, q1⟩
theorem zgm (ha : PE X a ta) : PE X (.UnaryOp .Not a pos) (ziu ta) := by
 intro pins s σ H Q I h
 refine UnaryOp_ (thn (ha pins s σ H _ I h) fun v s1 ⟨x, H1, I1, r1, q1⟩ => ?_)
 obtain ⟨c, rfl, q1⟩ := q1
 cases r1
 exact not_of (wpAny_truthy_bool ⟨.bl (!c), H1, I1, rfl, q1⟩)
def tIf (t : TT) (ta tb : TE) : TE := fun σ H Q => t σ H fun c H1 => if c = true then ta σ H1 Q else tb σ H1 Q
theorem zcd {c : Expr} (hc : PT X c tA) (ha : PE X a ta) (hb : PE X b tb) : PE X (.IfExp c a b pos) (tIf tA ta tb) := by
 intro pins s σ H Q I h
 refine wpAny_IfExp (thn (hc pins s σ H _ I h) fun d s1 ⟨H1, I1, q1⟩ => ?_)
 cases d with
 | true => exact ha pins s1 σ H1 Q I1 q1
 | false => exact hb pins s1 σ H1 Q I1 q1
end
def SqL (K : PySem.W.Frag) (H : Hp) (a : Addr) (xs : List V) : Prop :=
 Rd H a (.lst xs) \/
  ∃ (o : Obj) (its : Array Value) (n : Nat), K.lookup a = some o /\ o.cls = .type "list" /\ o.dict = none /\ o.data = .seq its n /\ its.size <= sizeLine /\ Vals xs its.toList
def SqT (K : PySem.W.Frag) (H : Hp) (a : Addr) (xs : List V) : Prop :=
 Rd H a (.tup xs) \/
  ∃ (o : Obj) (its : Array Value) (n : Nat), K.lookup a = some o /\ o.cls = .type "tuple" /\ o.data = .seq its n /\ its.size <= sizeLine /\ Vals xs its.toList
def zjL : Value -> Option V
 | .none => some .non
 | .bool b => some (.bl b)
 | .int i _ => some (.int i)
 | .str x _ => some (.str x)
 | .bytes b _ => some (.byt b)
 | .float b _ => some (.flt b)
 | .ref a => some (.ref a)
 | .type n => some (.ty n)
 | _ => none
theorem RelV.abs {x : V} {u : Value} (r : RelV x u) : zjL u = some x := by
 cases x with
 | non => cases r; rfl
 | bl _ => cases r; rfl
 | int _ => obtain ⟨t, rfl⟩ := r; rfl
 | str _ => obtain ⟨t, rfl⟩ := r; rfl
 | byt _ => obtain ⟨t, rfl⟩ := r; rfl
 | flt _ => obtain ⟨t, rfl⟩ := r; rfl
 | ref _ => cases r; rfl
 | ty _ => cases r; rfl
theorem RelV.inj {x y : V} {u : Value} (r : RelV x u) (q : RelV y u) : x = y := Option.some.inj (r.abs.symm.trans q.abs)
theorem Vals.inj : ∀ {xs ys : List V} {us : List Value}, Vals xs us -> Vals ys us -> xs = ys
 | _, _, _, .nil, .nil => rfl
 | _, _, _, .cons r t, .cons r' t' => by rw [r.inj r', Vals.inj t t']
section
variable {X : Cx} {pins : List (Addr × Obj)} {σ : St} {H : Hp} {s : Shared} {a : Addr} {xs ys : List V}
theorem SqL.of {K : PySem.W.Frag} (h : H a = some (.lst xs)) : SqL K H a xs := .inl (.inl h)
theorem SqT.of {K : PySem.W.Frag} (h : H a = some (.tup xs)) : SqT K H a xs := .inl (.inl h)
theorem Inv.list (I : Inv X pins σ H s) (h : SqL X.K H a xs) : ∃ its : List Value, Vals xs its /\ PlainL s.heap a its.toArray /\ xs.length <= sizeLine := by
 rcases h with h | ⟨o, its, n, hk, hc, hd, hs, hz, r⟩
 ·obtain ⟨z, its, n, r, e⟩ := h.ok I.hok
  exact ⟨its, r, ⟨_, n, e, rfl, rfl, rfl⟩, z⟩
 ·refine ⟨its.toList, r, ⟨o, n, I.kIn a o hk, hc, hd, by simpa using hs⟩, ?_⟩
  have e := r.length
  simp only [Array.length_toList] at e
  omega
theorem Inv.tuple (I : Inv X pins σ H s) (h : SqT X.K H a xs) : ∃ its : List Value, Vals xs its /\ IsTup s.heap a its.toArray /\ xs.length <= sizeLine := by
 rcases h with h | ⟨o, its, n, hk, hc, hs, hz, r⟩
 ·obtain ⟨z, its, r, p⟩ := h.ok I.hok
  exact ⟨its, r, p, z⟩
 ·refine ⟨its.toList, r, ⟨o, I.kIn a o hk, hc, n, by simpa using hs⟩, ?_⟩
  have e := r.length
  simp only [Array.length_toList] at e
  omega
theorem Inv.list_inj (I : Inv X pins σ H s) (h : SqL X.K H a xs) (h' : SqL X.K H a ys) : xs = ys := by
 obtain ⟨its, r, ⟨o, n, e, _, _, d⟩, _⟩ := I.list h
 obtain ⟨its', r', ⟨o', n', e', _, _, d'⟩, _⟩ := I.list h'
 rw [e] at e'; cases e'
 rw [d] at d'
 injection d' with d1 _
 have : its = its' := by simpa using congrArg Array.toList d1
 subst this
 exact r.inj r'
theorem Inv.tuple_inj (I : Inv X pins σ H s) (h : SqT X.K H a xs) (h' : SqT X.K H a ys) : xs = ys := by
 obtain ⟨its, r, ⟨o, e, _, n, d⟩, _⟩ := I.tuple h
 obtain ⟨its', r', ⟨o', e', _, n', d'⟩, _⟩ := I.tuple h'
 rw [e] at e'; cases e'
 rw [d] at d'
 injection d' with d1 _
 have : its = its' := by simpa using congrArg Array.toList d1
 subst this
 exact r.inj r'
end
abbrev Cx.wish (X : Cx) (E : Value -> Shared -> Prop) : Cx := { X with xe := E }
abbrev Cx.nox (X : Cx) : Cx := X.wish fun _ _ => False
theorem Cx.Ok.wish {X : Cx} (ok : X.Ok) (E : Value -> Shared -> Prop) : (X.wish E).Ok :=
 ⟨ok.mod, ok.kind, ok.glob, ok.blt, ok.above, ok.inj, ok.has, ok.cab, ok.hd, ok.frames, ok.stk, ok.exf, ok.bs, ok.bsz, ok.noex, ok.exfs, ok.funs, ok.frf⟩
theorem Cx.Ok.unwish {X : Cx} {E : Value -> Shared -> Prop} (ok : (X.wish E).Ok) : X.Ok :=
 ⟨ok.mod, ok.kind, ok.glob, ok.blt, ok.above, ok.inj, ok.has, ok.cab, ok.hd, ok.frames, ok.stk, ok.exf, ok.bs, ok.bsz, ok.noex, ok.exfs, ok.funs, ok.frf⟩
section
variable {X : Cx} {pins : List (Addr × Obj)} {σ : St} {H : Hp} {s : Shared} {E : Value -> Shared -> Prop}
theorem Inv.wish (I : Inv X pins σ H s) (E : Value -> Shared -> Prop) : Inv (X.wish E) pins σ H s := ⟨I.ok.wish E, I.os, I.bare, I.base, I.loc, I.cell, I.free, I.freeC, I.pin, I.hok, I.len⟩
theorem Inv.unwish (I : Inv (X.wish E) pins σ H s) : Inv X pins σ H s := ⟨I.ok.unwish, I.os, I.bare, I.base, I.loc, I.cell, I.free, I.freeC, I.pin, I.hok, I.len⟩
theorem SP.unwish {D : zaZ} {f : Flow} {s' : Shared} (h : SP (X.wish E) pins D f s') : SP X pins D f s' := by
 cases f with
 | next => obtain ⟨σ', H', I, q⟩ := h; exact ⟨σ', H', I.unwish, q⟩
 | brk => obtain ⟨σ', H', I, q⟩ := h; exact ⟨σ', H', I.unwish, q⟩
 | cont => obtain ⟨σ', H', I, q⟩ := h; exact ⟨σ', H', I.unwish, q⟩
 | ret u => obtain ⟨v, σ', H', I, r, q⟩ := h; exact ⟨v, σ', H', I.unwish, r, q⟩
theorem PE.nox {e : Expr} {t : TE} (h : PE X.nox e t) : PE X e t := fun pins s σ H Q I hw =>
 wpAny_mono (h pins s σ H Q (I.wish _) hw) (fun _ _ ⟨v, H', I', r, q⟩ => ⟨v, H', I'.unwish, r, q⟩) fun _ _ z => False.elim z
theorem PT.nox {e : Expr} {t : TT} (h : PT X.nox e t) : PT X e t := fun pins s σ H Q I hw =>
 wpAny_mono (h pins s σ H Q (I.wish _) hw) (fun _ _ ⟨H', I', q⟩ => ⟨H', I'.unwish, q⟩) fun _ _ z => False.elim z
theorem PSs.nox {st : List Stmt} {t : TS} (h : PSs X.nox st t) : PSs X st t := fun pins s σ H D I hw =>
 wpAny_mono (h pins s σ H D (I.wish _) hw) (fun _ _ q => q.unwish) fun _ _ z => False.elim z
end
section
variable {X : Cx} {st : Stmt} {z2X : List Stmt} {t u : TS} {e : Expr} {te : TE} {pos : Pos}
def zgK : TS := fun D σ H => D.nx σ H
def zjD (t u : TS) : TS := fun D σ H => t { D with nx := u D } σ H
theorem zdK : PSs X [] zgK := fun _ _ σ H _ I h => wpAny_execs_nil ⟨σ, H, I, h⟩
theorem zcW (h1 : PS X st t) (h2 : PSs X z2X u) : PSs X (st :: z2X) (zjD t u) := by
 intro pins s σ H D I h
 refine wpAny_execs_cons (thn (h1 pins s σ H { D with nx := u D } I h) fun f s1 q => ?_)
 cases f with
 | next =>
  obtain ⟨σ', H', I', q⟩ := q
  exact h2 pins s1 σ' H' D I' q
 | ret v => exact q
 | brk => exact q
 | cont => exact q
theorem zfB (h1 : PS X st t) : PSs X [st] t := by
 intro pins s σ H D I h
 refine wpAny_execs_cons (thn (h1 pins s σ H D I h) fun f s1 q => ?_)
 cases f with
 | next => exact wpAny_execs_nil q
 | ret v => exact q
 | brk => exact q
 | cont => exact q
theorem zfe : PS X (.Pass pos) zgK := fun _ _ σ H _ I h => wpAny_Pass ⟨σ, H, I, h⟩
theorem Inv.quiet {pins : List (Addr × Obj)} {σ : St} {H : Hp} {s : Shared} (I : Inv X pins σ H s) : interactive X.env = false := by simp [interactive, I.ok.kind]
def ziR (te : TE) : TS := fun D σ H => te σ H fun _ H1 => D.nx σ H1
theorem zeX (he : PE X e te) (hs : swapsWith e none pos.line X.env = pure false := by rfl) : PS X (.Expr e pos) (ziR te) := by
 intro pins s σ H D I h
 exact wpAny_Expr_any (thn (he pins s σ H _ I h) fun v s1 ⟨x, H1, I1, r1, q1⟩ => ⟨σ, H1, I1, q1⟩) I.quiet hs
def zjJ (te : TE) : TS := fun D σ H => te σ H D.rt
theorem zgG (he : PE X e te) : PS X (.Return (some e) pos) (zjJ te) := by
 intro pins s σ H D I h
 exact wpAny_Return_some (thn (he pins s σ H _ I h) fun v s1 ⟨x, H1, I1, r1, q1⟩ => ⟨x, σ, H1, I1, r1, q1⟩)
def zjF (c : TT) (t u : TS) : TS := fun D σ H => c σ H fun b H1 => if b = true then t D σ H1 else u D σ H1
theorem zi3 {c : Expr} {a b : List Stmt} {tc : TT} (hc : PT X c tc) (ha : PSs X a t) (hb : PSs X b u) : PS X (.If c a b pos) (zjF tc t u) := by
 intro pins s σ H D I h
 refine wpAny_If (thn (hc pins s σ H _ I h) fun d s1 ⟨H1, I1, q1⟩ => ?_)
 cases d with
 | true => exact ha pins s1 σ H1 D I1 q1
 | false => exact hb pins s1 σ H1 D I1 q1
def zgM : TS := fun _ _ _ => False
theorem zb4 {sts : List Stmt} : PSs X sts zgM := fun _ _ _ _ _ _ h => h.elim
end
abbrev TG := V -> St -> Hp -> (St -> Hp -> Prop) -> Prop
abbrev TGs := List V -> St -> Hp -> (St -> Hp -> Prop) -> Prop
def PG (X : Cx) (target : Expr) (t : TG) : Prop :=
 ∀ (pins : List (Addr × Obj)) (s : Shared) (σ : St) (H : Hp) (v : V) (u : Value) (Q : St -> Hp -> Prop), Inv X pins σ H s -> RelV v u -> t v σ H Q ->
  wpAny (model X.prog X.w) X.A (assign target X.env u) (fun _ s' => ∃ σ' H', Inv X pins σ' H' s' /\ Q σ' H') X.xe s
def PGs (X : Cx) (ts : List Expr) (t : TGs) : Prop :=
 ∀ (pins : List (Addr × Obj)) (s : Shared) (σ : St) (H : Hp) (vs : List V) (us : List Value) (Q : St -> Hp -> Prop), Inv X pins σ H s -> Vals vs us -> t vs σ H Q ->
  wpAny (model X.prog X.w) X.A (assignInOrder ((assignEach ts X.env).map (·.2)) us) (fun _ s' => ∃ σ' H', Inv X pins σ' H' s' /\ Q σ' H') X.xe s
abbrev ziI := V -> V -> V -> Hp -> (Hp -> Prop) -> Prop
def zj1 (X : Cx) (t : ziI) : Prop :=
 ∀ (pins : List (Addr × Obj)) (s : Shared) (σ : St) (H : Hp) (o i v : V) (ov iv u : Value) (Q : Hp -> Prop), Inv X pins σ H s -> RelV o ov -> RelV i iv -> RelV v u -> t o i v H Q ->
  wpAny (model X.prog X.w) X.A (setItem ov iv u) (fun _ s' => ∃ H', Inv X pins σ H' s' /\ Q H') X.xe s
section
variable {X : Cx} {pos : Pos}
def zbm (i : Nat) : TG := fun v σ H Q => Q (σ.set i (some v)) H
theorem z7z {i : Nat} {x : Str} (hN : X.N.Nodup) (hi : X.N[i]? = some x) (hx : Loc X.env.scope x) (hf : X.fn x = true \/ X.env.scope.names.lookup x = some .local := by first | exact .inl rfl | exact .inr rfl | assumption) : PG X (.Name x pos) (zbm i) := by
 intro pins s σ H v u Q I r h
 exact wpAny_assign_Name (z8T I hN hi hx r (fun s' I' => ⟨_, H, I', h⟩) hf)
def zjb : TGs := fun vs σ H Q => vs = [] /\ Q σ H
def zew (t : TG) (u : TGs) : TGs := fun vs σ H Q => ∃ v r, vs = v :: r /\ t v σ H fun σ' H' => u r σ' H' Q
theorem zfg : PGs X [] zjb := by
 intro pins s σ H vs us Q I r h
 obtain ⟨e, h⟩ := h
 subst e
 cases r
 exact assignInOrder_nil ⟨σ, H, I, h⟩
theorem z8X {e : Expr} {es : List Expr} {t : TG} {u : TGs} (h1 : PG X e t) (h2 : PGs X es u)
  (hs : (assignEach (e :: es) X.env).map (·.2) = assign e X.env :: (assignEach es X.env).map (·.2) := by rfl) : PGs X (e :: es) (zew t u) := by
 intro pins s σ H vs us Q I r h
 obtain ⟨v, vr, e1, h⟩ := h
 subst e1
 cases r with
 | cons r rr =>
  rw [hs]
  refine assignInOrder_cons (thn (h1 pins s σ H _ _ _ I r h) fun _ s1 ⟨σ1, H1, I1, q1⟩ => ?_)
  exact h2 pins s1 σ1 H1 _ _ Q I1 rr q1
def ziX (K : PySem.W.Frag) (n : Nat) (t : TGs) : TG := fun v σ H Q => ∃ a xs, v = .ref a /\ SqT K H a xs /\ xs.length = n /\ t xs σ H Q
theorem zgr {es : List Expr} {k : Nat} {t : TGs} {n : Nat} (hc : X.calm = true) (h : PGs X es t)
  (hn : (assignEach es X.env).length = n := by rfl) (hst : (assignEach es X.env).findIdx? (·.1) = none := by rfl) : PG X (.Tuple es k pos) (ziX X.K n t) := by
 intro pins s σ H v u Q I r hw
 obtain ⟨a, xs, e1, hq, hl, hw⟩ := hw
 subst e1
 cases r
 obtain ⟨its, rv, ht, hz⟩ := I.tuple hq
 refine assign_Tuple_tuple (I.ok.hd hc) ht (by simp [hn, <- hl, rv.length]) hst fun h' hx => ?_
 have I1 : Inv X pins σ H { s with heap := h' } := I.kept (t' := s.toks) fun b o e => hx b o (Nat.ne_of_lt (Heap.lt_size e)) e
 exact h pins _ σ H xs _ Q I1 (by simpa using rv) hw
def zbF (to ti : TE) (t : ziI) : TG := fun v σ H Q => to σ H fun o H1 => ti σ H1 fun i H2 => t o i v H2 fun H3 => Q σ H3
theorem zgg {o i : Expr} {to ti : TE} {t : ziI} (ho : PE X o to) (hi : PE X i ti) (hs : zj1 X t)
  (ha : ∀ v, assign (.Subscript o i pos) X.env v = (do
   let ov <- holding [v] (eval o X.env)
   let iv <- holding [v, ov] (eval i X.env)
   standAt pos
   holding [v, ov, iv] (setItem ov iv v)
   release [v, ov, iv] []) := by intro _; rfl) : PG X (.Subscript o i pos) (zbF to ti t) := by
 intro pins s σ H v u Q I r h
 rw [ha]
 refine wpAny_bind (wpAny_holding (thn (ho pins s σ H _ I h) fun ov s1 ⟨x, H1, I1, r1, q1⟩ => ?_))
 refine wpAny_bind (wpAny_holding (thn (hi pins s1 σ H1 _ I1 q1) fun iv s2 ⟨y, H2, I2, r2, q2⟩ => ?_))
 refine wpAny_bind (wpAny_standAt (wpAny_bind (wpAny_holding (thn (hs pins s2 σ H2 x y v ov iv u _ I2 r1 r2 r q2) fun _ s3 ⟨H3, I3, q3⟩ => ?_))))
 exact wpAny_release ⟨σ, H3, I3, q3⟩
def zj5 (te : TE) (g : TG) : TS := fun D σ H => te σ H fun x H1 => g x σ H1 D.nx
theorem zhj {tg e : Expr} {te : TE} {g : TG} (he : PE X e te) (hg : PG X tg g) (hs : swapsWithSole [tg] e pos.line X.env = pure false := by rfl) (hw : swappedStores [tg] e X.env = pure none := by rfl)
  (h1 : (assignEach [tg] X.env).map (·.2) = [assign tg X.env] := by rfl) : PS X (.Assign [tg] e pos) (zj5 te g) := by
 intro pins s σ H D I h
 refine wpAny_Assign_stores (thn (he pins s σ H _ I h) fun v s1 ⟨x, H1, I1, r1, q1⟩ => ?_) hs hw
 rw [h1]
 exact thn (hg pins s1 σ H1 x v _ I1 r1 q1) fun _ s2 q => q
theorem zgZ {i : Nat} {x : Str} {e : Expr} {te : TE} {pos' : Pos} (hN : X.N.Nodup) (hi : X.N[i]? = some x) (hx : Loc X.env.scope x) (he : PE X e te) (hs : swapsWith e (some (.Name x pos')) pos.line X.env = pure false := by rfl) (hf : X.fn x = true \/ X.env.scope.names.lookup x = some .local := by first | exact .inl rfl | exact .inr rfl | assumption) :
  PS X (.Assign [.Name x pos'] e pos) (zj5 te (zbm i)) := by
 intro pins s σ H D I h
 refine wpAny_Assign_Name (thn (he pins s σ H _ I h) fun v s1 ⟨y, H1, I1, r1, q1⟩ => ?_) hs
 exact z8T I1 hN hi hx r1 (fun s2 I2 => ⟨_, H1, I2, q1⟩) hf
end
section
variable {X : Cx} {pos : Pos}
def zhG (c : TT) (tb : TS) : TS := fun D σ H => ∃ W : Nat -> St -> Hp -> Prop, (∃ m, W m σ H) /\ ∀ m σ H, W m σ H ->
 c σ H fun b H1 => if b = true then ∃ N : St -> Hp -> Prop, (∀ σ' H', N σ' H' -> ∃ m', m' < m /\ W m' σ' H') /\ tb { D with nx := N, ct := N, bk := D.nx } σ H1 else D.nx σ H1
theorem zcS {c : Expr} {body : List Stmt} {tc : TT} {tb : TS} (hp : PassesOwn (model X.prog X.w) X.A X.env X.xe) (hc : PT X c tc) (hb : PSs X body tb) : PS X (.While c body [] pos) (zhG tc tb) := by
 intro pins s σ H D I h
 obtain ⟨W, ⟨m0, w0⟩, turn⟩ := h
 refine wpAny_While (codeAny_whileLoop (fun n s' => ∃ σ' H', Inv X pins σ' H' s' /\ W n σ' H') ?_ m0 ⟨σ, H, I, w0⟩)
 rintro n s1 ⟨σ1, H1, I1, w1⟩
 refine wpAny_passesOwn hp (thn (hc pins s1 σ1 H1 _ I1 (turn n σ1 H1 w1)) fun b s2 ⟨H2, I2, q2⟩ => ?_)
 cases b with
 | true =>
  obtain ⟨N, hN, q2⟩ := q2
  rw [if_pos rfl]
  refine wpAny_passesOwn hp (thn (hb pins s2 σ1 H2 _ I2 q2) fun f s3 q3 => ?_)
  cases f with
  | next =>
   obtain ⟨σ3, H3, I3, n3⟩ := q3
   obtain ⟨m', hm, w3⟩ := hN σ3 H3 n3
   exact ⟨m', hm, σ3, H3, I3, w3⟩
  | cont =>
   obtain ⟨σ3, H3, I3, n3⟩ := q3
   obtain ⟨m', hm, w3⟩ := hN σ3 H3 n3
   exact ⟨m', hm, σ3, H3, I3, w3⟩
  | brk => exact q3
  | ret v => exact q3
 | false =>
  rw [if_neg Bool.false_ne_true]
  exact wpAny_execs_nil ⟨σ1, H2, I2, q2⟩
end
structure It where
 go : Nat -> Hp -> Prop
 yld : Nat -> Hp -> V -> Hp -> Prop
 stop : Nat -> Hp -> Prop
def z6b (X : Cx) (pins : List (Addr × Obj)) (H : Hp) (b : Addr) : Prop :=
 H b = none /\ b ≠ X.env.locals /\ b ∉ X.fs /\ (b ∈ X.ex \/ X.s₀.heap.objs.size <= b) /\ (∀ x c, X.env.cells.lookup x = some c -> c ≠ b) /\ ∀ p ∈ X.pn ++ pins, p.1 ≠ b
theorem Inv.fpOk {X : Cx} {pins : List (Addr × Obj)} {σ : St} {H H' : Hp} {s : Shared} {b : Addr} (I : Inv X pins σ H s) (hb : s.heap.objs.size <= b) (hn : H' b = none) : z6b X pins H' b := by
 refine ⟨hn, Nat.ne_of_gt (Nat.lt_of_lt_of_le I.lt hb), I.nofs hb, .inr (Nat.le_trans I.sz hb), fun x c e z => ?_, fun p hp z => ?_⟩
 ·obtain ⟨v, q⟩ := I.cell x c e
  exact absurd (Nat.lt_of_lt_of_le q.lt (by rw [z]; exact hb)) (Nat.lt_irrefl _)
 ·exact absurd (Nat.lt_of_lt_of_le (Heap.lt_size (I.pin p hp).1) (by rw [z]; exact hb)) (Nat.lt_irrefl _)
structure z9t (P : Program) (w : World) (K : PySem.W.Frag) (tg : Expr) (J : It) (fp : List Addr) (it : Addr) (tn : Nat -> Heap -> Prop) : Prop where
 mem : it ∈ fp
 obj : ∀ i h, tn i h -> ∀ b ∈ fp, ∃ o, h.get? b = some o /\ ∀ v, o.data ≠ .cell v
 keep : ∀ i h h', tn i h -> (∀ b ∈ fp, ∀ o, h.get? b = some o -> h'.get? b = some o) -> tn i h'
 item : ∀ (X : Cx), X.prog = P -> X.w = w -> X.K = K -> X.calm = true -> ∀ (i : Nat) (pins : List (Addr × Obj)) (s : Shared) (σ : St) (H : Hp) (E : Value -> Shared -> Prop), Inv X pins σ H s -> (∀ b ∈ fp, z6b X pins H b) -> tn i s.heap -> J.go i H ->
  wpAny (model P w) X.A (pyNext (.ref it)) (fun r s1 => ∃ u, r = some u /\
   wpAny (model P w) X.A (letOwnedTupleGo tg (.ref it) u) (fun _ s2 => ∃ x H', Inv X pins σ H' s2 /\ RelV x u /\ J.yld i H x H' /\ tn (i + 1) s2.heap /\ ∀ b ∈ fp, H' b = none) E s1) E s
 done : ∀ (X : Cx), X.prog = P -> X.w = w -> X.K = K -> X.calm = true -> ∀ (i : Nat) (pins : List (Addr × Obj)) (s : Shared) (σ : St) (H : Hp) (E : Value -> Shared -> Prop), Inv X pins σ H s -> (∀ b ∈ fp, z6b X pins H b) -> tn i s.heap -> J.stop i H ->
  wpAny (model P w) X.A (pyNext (.ref it)) (fun r s1 => r = none /\ Inv X pins σ H s1) E s
 self : ∀ (A : Around) (i : Nat) (s : Shared) (Q : Value -> Shared -> Prop) (E : Value -> Shared -> Prop), tn i s.heap -> Q (.ref it) s -> wpAny (model P w) A (pyIter (.ref it)) Q E s
abbrev TI := St -> Hp -> (It -> Hp -> Prop) -> Prop
def PIE (X : Cx) (pins : List (Addr × Obj)) (σ : St) (tg : Expr) (R : It -> Hp -> Prop) (itv : Value) (s2 : Shared) : Prop :=
 ∃ (it : Addr) (fp : List Addr) (tn : Nat -> Heap -> Prop) (J : It) (H' : Hp), itv = .ref it /\ Inv X pins σ H' s2 /\ z9t X.prog X.w X.K tg J fp it tn /\ tn 0 s2.heap /\ (∀ b ∈ fp, z6b X pins H' b) /\ R J H'
def PI (X : Cx) (tg iter : Expr) (wi : TI) : Prop :=
 ∀ (pins : List (Addr × Obj)) (s : Shared) (σ : St) (H : Hp) (R : It -> Hp -> Prop), Inv X pins σ H s -> wi σ H R ->
  wpAny (model X.prog X.w) X.A (eval iter X.env) (fun v s1 => wpAny (model X.prog X.w) X.A (pyIter v) (PIE X pins σ tg R) X.xe s1) X.xe s
theorem zbJ {M : Model} {A : Around} {E : Value -> Shared -> Prop} {s : Shared} {tg : Expr} {it : Addr} {u : Value} {o : Obj} {n : String} {vs : Array Value} {Q : Unit -> Shared -> Prop} (ho : s.heap.get? it = some o) (hc : o.cls = .type n) (hd : o.data = .fields vs)
  (hn : ["enumerate", "zip", "dict_itemiterator", "dict_reverseitemiterator", "odict_iterator", "itertools.zip_longest", "itertools.pairwise"].contains n = false) (hQ : Q () s) : wpAny M A (letOwnedTupleGo tg (.ref it) u) Q E s := by
 unfold letOwnedTupleGo
 cases tg <;> first
  | exact wpAny_pure hQ
  | (cases u <;> first
    | exact wpAny_pure hQ
    | (refine wpAny_bind (wpAny_load ho ?_)
       rw [hc, hd]
       show wpAny M A (if (["enumerate", "zip", "dict_itemiterator", "dict_reverseitemiterator", "odict_iterator", "itertools.zip_longest", "itertools.pairwise"].contains n && vs[0]? == some (rawInt _)) = true then _ else _) Q E s
       rw [if_neg (by intro h; rw [hn, Bool.false_and] at h; cases h)]
       exact wpAny_pure hQ))
def Itl (K : PySem.W.Frag) (a : Addr) : It :=
 ⟨fun i H => ∃ xs x, SqL K H a xs /\ xs[i]? = some x, fun i H x H' => H' = H /\ ∀ xs, SqL K H a xs -> xs[i]? = some x, fun i H => ∃ xs, SqL K H a xs /\ xs.length <= i⟩
def Itt (K : PySem.W.Frag) (a : Addr) : It :=
 ⟨fun i H => ∃ xs x, SqT K H a xs /\ xs[i]? = some x, fun i H x H' => H' = H /\ ∀ xs, SqT K H a xs -> xs[i]? = some x, fun i H => ∃ xs, SqT K H a xs /\ xs.length <= i⟩
def Itr (lo : Int) (n : Nat) : It := ⟨fun i _ => i < n, fun i H x H' => H' = H /\ x = .int (lo + i), fun i _ => n <= i⟩
theorem z6H {P : Program} {w : World} {K : PySem.W.Frag} {tg : Expr} (a it : Addr) : z9t P w K tg (Itl K a) [it] it (fun i h => h.IsListIter it a i) where
 mem := by simp
 obj := fun i h st b hb => by
  have e : b = it := by simpa using hb
  subst e
  obtain ⟨o, e, c, d⟩ := st
  exact ⟨o, e, fun v z => by rw [d] at z; cases z⟩
 keep := fun i h h' st k => st.at fun o e => k it (by simp) o e
 item := by
  intro X hP hw hK hc i pins s σ H E I hf st hg
  subst hP hw hK
  obtain ⟨xs, x, hq, hx⟩ := hg
  obtain ⟨its, rv, p, hz⟩ := I.list hq
  obtain ⟨u, hu, ru⟩ := rv.get hx
  obtain ⟨f0, f1, f2, f3, f4, f5⟩ := hf it (by simp)
  refine wpAny_pyNext_list_item st p.isList (x := u) (by simpa using hu) fun h' st' sb => ?_
  have I1 : Inv X pins σ H { s with heap := h' } := I.turned (t' := s.toks) (fun b o hb e => (sb.2 b hb).trans e) f0 f1 f3 f4 f5
  obtain ⟨o, e, c, d⟩ := id st'
  exact ⟨u, rfl, zbJ (s := { s with heap := h' }) e c d (by decide) ⟨x, H, I1, ru, ⟨rfl, fun ys hy => by rw [I.list_inj hy hq]; exact hx⟩, st', fun b hb => (hf b hb).1⟩⟩
 done := by
  intro X hP hw hK hc i pins s σ H E I hf st hg
  subst hP hw hK
  obtain ⟨xs, hq, hx⟩ := hg
  obtain ⟨its, rv, p, hz⟩ := I.list hq
  obtain ⟨f0, f1, f2, f3, f4, f5⟩ := hf it (by simp)
  have hl := rv.length
  exact wpAny_pyNext_list_end (I.ok.hd hc) st p.isList (by simp; omega) fun h' eb => ⟨rfl, I.turned (t' := s.toks) (fun b o hb e => eb b o hb e) f0 f1 f3 f4 f5⟩
 self := fun _ _ _ _ _ st h => wpAny_pyIter_listiter st h
theorem z95 {P : Program} {w : World} {K : PySem.W.Frag} {tg : Expr} (a it : Addr) : z9t P w K tg (Itt K a) [it] it (fun i h => h.IsTupleIter it a i) where
 mem := by simp
 obj := fun i h st b hb => by
  have e : b = it := by simpa using hb
  subst e
  obtain ⟨o, e, c, d⟩ := st
  exact ⟨o, e, fun v z => by rw [d] at z; cases z⟩
 keep := fun i h h' st k => st.at fun o e => k it (by simp) o e
 item := by
  intro X hP hw hK hc i pins s σ H E I hf st hg
  subst hP hw hK
  obtain ⟨xs, x, hq, hx⟩ := hg
  obtain ⟨its, rv, p, hz⟩ := I.tuple hq
  obtain ⟨u, hu, ru⟩ := rv.get hx
  obtain ⟨f0, f1, f2, f3, f4, f5⟩ := hf it (by simp)
  refine wpAny_pyNext_tuple_item st (show s.heap.IsTuple a its.toArray from p) (x := u) (by simpa using hu) fun h' st' sb => ?_
  have I1 : Inv X pins σ H { s with heap := h' } := I.turned (t' := s.toks) (fun b o hb e => (sb.2 b hb).trans e) f0 f1 f3 f4 f5
  obtain ⟨o, e, c, d⟩ := id st'
  exact ⟨u, rfl, zbJ (s := { s with heap := h' }) e c d (by decide) ⟨x, H, I1, ru, ⟨rfl, fun ys hy => by rw [I.tuple_inj hy hq]; exact hx⟩, st', fun b hb => (hf b hb).1⟩⟩
 done := by
  intro X hP hw hK hc i pins s σ H E I hf st hg
  subst hP hw hK
  obtain ⟨xs, hq, hx⟩ := hg
  obtain ⟨its, rv, p, hz⟩ := I.tuple hq
  obtain ⟨f0, f1, f2, f3, f4, f5⟩ := hf it (by simp)
  have hl := rv.length
  exact wpAny_pyNext_tuple_end (I.ok.hd hc) st (show s.heap.IsTuple a its.toArray from p) (by simp; omega) fun h' eb => ⟨rfl, I.turned (t' := s.toks) (fun b o hb e => eb b o hb e) f0 f1 f3 f4 f5⟩
 self := fun _ _ _ _ _ st h => wpAny_pyIter_tupleiter st h
theorem z9e {P : Program} {w : World} {K : PySem.W.Frag} {tg : Expr} (it : Addr) (lo : Int) (n : Nat) : z9t P w K tg (Itr lo n) [it] it (fun i h => IsRangeIter h it (lo + (i : Nat) * 1) ((n : Int) - (i : Nat)) 1) where
 mem := by simp
 obj := fun i h st b hb => by
  have e : b = it := by simpa using hb
  subst e
  exact ⟨_, st, fun v z => by
   have z' : Data.fields _ = Data.cell v := z
   cases z'⟩
 keep := fun i h h' st k => k it (by simp) _ st
 item := by
  intro X hP hw hK hc i pins s σ H E I hf st hg
  subst hP hw hK
  obtain ⟨f0, f1, f2, f3, f4, f5⟩ := hf it (by simp)
  have W := Walks.range (prog := X.prog) (w := X.w) (I.ok.hd hc) it lo 1 n
  refine W.item i s _ _ hg st fun v h' tk hv st' kk => ?_
  obtain ⟨t, rfl⟩ := hv
  have I1 : Inv X pins σ H { s with heap := h', toks := tk } := I.turned (fun b o hb e => kk b o (by simpa using hb) e) f0 f1 f3 f4 f5
  refine ⟨_, rfl, zbJ (s := { s with heap := h', toks := tk }) (n := "range_iterator") st' rfl rfl (by decide) ⟨.int (lo + i), H, I1, ⟨t, ?_⟩, ⟨rfl, rfl⟩, st', fun b hb => (hf b hb).1⟩⟩
  rw [Int.mul_one]
 done := by
  intro X hP hw hK hc i pins s σ H E I hf st hg
  subst hP hw hK
  obtain ⟨f0, f1, f2, f3, f4, f5⟩ := hf it (by simp)
  exact wpAny_pyNext_range_end (I.ok.hd hc) st (by have : n <= i := hg; omega) fun h' eb => ⟨rfl, I.turned (t' := s.toks) (fun b o hb e => eb b o hb e) f0 f1 f3 f4 f5⟩
 self := fun _ _ _ _ _ st h => wpAny_pyIter_rangeiter st h
section
variable {X : Cx} {tg : Expr}
theorem zci {pins : List (Addr × Obj)} {σ : St} {H : Hp} {s : Shared} {R : It -> Hp -> Prop} {E : Value -> Shared -> Prop} {lo hi : Int} {t u v : Tok} {tk : Nat} (I : Inv X pins σ H s) (h1 : -(2 ^ 62) <= lo) (h2 : lo < 2 ^ 62) (h3 : -(2 ^ 62) <= hi) (h4 : hi < 2 ^ 62)
  (q : R (Itr lo (hi - lo).toNat) H) : wpAny (model X.prog X.w) X.A (pyIter (.ref s.heap.objs.size)) (PIE X pins σ tg R) E { s with heap := s.heap.push { cls := .type "range", data := .fields #[.int lo t, .int hi u, .int 1 v] }, toks := tk } := by
 refine wpAny_pyIter_range (IsRange.new ..) (small_one h1 h2 h3 h4) ?_
 have I1 : Inv X pins σ H { s with heap := s.heap.push { cls := .type "range", data := .fields #[.int lo t, .int hi u, .int 1 v] }, toks := tk } := I.kept fun b o e => Heap.get?_push_of_some _ e
 refine ⟨(s.heap.push { cls := .type "range", data := .fields #[.int lo t, .int hi u, .int 1 v] }).objs.size, [(s.heap.push { cls := .type "range", data := .fields #[.int lo t, .int hi u, .int 1 v] }).objs.size], _, _, H, rfl,
  I1.kept (t' := tk) fun b o e => Heap.get?_push_of_some _ e, z9e _ lo (hi - lo).toNat, ?_, fun b hb => ?_, q⟩
 ·have e1 : lo + ((0 : Nat) : Int) * 1 = lo := by simp
  have e2 : (((hi - lo).toNat : Nat) : Int) - ((0 : Nat) : Int) = Builtin.Range.rangeSize lo hi 1 := by rw [rangeSize_one]; split <;> omega
  show IsRangeIter _ _ (lo + ((0 : Nat) : Int) * 1) ((((hi - lo).toNat : Nat) : Int) - ((0 : Nat) : Int)) 1
  rw [e1, e2]
  exact Heap.get?_push_size _ rfl
 ·have e : b = (s.heap.push { cls := .type "range", data := .fields #[.int lo t, .int hi u, .int 1 v] }).objs.size := by simpa using hb
  subst e
  exact I1.fpOk (Nat.le_refl _) (I1.hok.fresh (Nat.le_refl _))
def zia (ta : TA) : TI := fun σ H R => ta σ H fun vs H1 => ∃ j : Int, vs = [.int j] /\ -(2 ^ 62) <= j /\ j < 2 ^ 62 /\ R (Itr 0 j.toNat) H1
theorem z9V {a : Expr} {ta : TA} {p pos : Pos} (hg : Gl X "range") (hm : X.mg "range" = none) (ha : PA X [a] ta) (hs : starEach [a] X.env = [(false, eval a X.env)] := by rfl) : PI X tg (.Call (.Name "range" p) [a] [] pos) (zia ta) := by
 intro pins s σ H R I h
 refine Call_ (z4O I hg hm boot_range (PyProof.Rows.callWith_type1 (thn (ha pos pins s σ H _ I h) fun us s1 ⟨vs, H1, I1, r1, q1⟩ => ?_) hs rfl))
 obtain ⟨j, e, q1, q2, q⟩ := q1
 subst e
 cases r1 with
 | cons r rr =>
  cases rr
  obtain ⟨t, rfl⟩ := r
  exact call_range_1 (zci I1 (by omega) (by omega) q1 q2 (by simpa using q))
def zjq (wi : TI) (g : TG) (tb : TS) : TS := fun D σ H => wi σ H fun J H1 => ∃ W : Nat -> Nat -> St -> Hp -> Prop, (∃ m, W 0 m σ H1) /\ ∀ i m σ H, W i m σ H ->
 (J.stop i H /\ D.nx σ H) \/ (J.go i H /\ ∃ N : St -> Hp -> Prop, (∀ σ' H', N σ' H' -> ∃ m', m' < m /\ W (i + 1) m' σ' H') /\ ∀ x H', J.yld i H x H' -> g x σ H' fun σ2 H2 => tb { D with nx := N, ct := N, bk := D.nx } σ2 H2)
def z7k (fp : List Addr) (h : Heap) : List (Addr × Obj) := fp.filterMap fun b => (h.get? b).map fun o => (b, o)
theorem z2N {fp : List Addr} {h : Heap} {b : Addr} {o : Obj} (hb : b ∈ fp) (e : h.get? b = some o) : (b, o) ∈ z7k fp h := List.mem_filterMap.mpr ⟨b, hb, by rw [e]; rfl⟩
theorem zaX {fp : List Addr} {h : Heap} {p : Addr × Obj} (hp : p ∈ z7k fp h) : p.1 ∈ fp /\ h.get? p.1 = some p.2 := by
 obtain ⟨b, hb, e⟩ := List.mem_filterMap.mp hp
 cases q : h.get? b with
 | none => rw [q] at e; cases e
 | some o =>
  rw [q] at e
  have e' : (b, o) = p := Option.some.inj e
  subst e'
  exact ⟨hb, q⟩
theorem Inv.pinned {pins : List (Addr × Obj)} {σ : St} {H : Hp} {s : Shared} {fp : List Addr} (I : Inv X pins σ H s) (hf : ∀ b ∈ fp, z6b X pins H b) (ho : ∀ b ∈ fp, ∃ o, s.heap.get? b = some o /\ ∀ v, o.data ≠ .cell v) : Inv X (pins ++ z7k fp s.heap) σ H s :=
 I.pins_of fun p hp => (List.mem_append.mp hp).elim (fun z => I.pin p (List.mem_append_right _ z)) fun z => by
  obtain ⟨hb, e⟩ := zaX z
  obtain ⟨f0, f1, f2, _⟩ := hf p.1 hb
  obtain ⟨o, e', d⟩ := ho p.1 hb
  rw [e] at e'; cases e'
  exact ⟨e, f0, f1, f2, d⟩
theorem Inv.unpinned {pins pl : List (Addr × Obj)} {σ : St} {H : Hp} {s : Shared} (I : Inv X (pins ++ pl) σ H s) : Inv X pins σ H s := I.pins_of fun p hp => I.pin p (List.mem_append_right _ (List.mem_append_left _ hp))
theorem zgq {iter : Expr} {body : List Stmt} {wi : TI} {g : TG} {tb : TS} {pos : Pos} (hp : PassesOwn (model X.prog X.w) X.A X.env X.xe) (hc : X.calm = true) (hi : PI X tg iter wi) (hg : PG X tg g) (hb : PSs X body tb)
  (hs : ∀ x, foldedSetIterable iter X.env x = pure x := by intro _; rfl) : PS X (.For tg iter body [] pos) (zjq wi g tb) := by
 intro pins s σ H D I h
 refine wpAny_For (thn (hi pins s σ H _ I h) fun v s1 h1 => thn h1 fun itv s2 h2 => ?_) hs
 obtain ⟨it, fp, tn, J, H2, e, I2, T, st2, f2, W, ⟨m0, w0⟩, turn⟩ := h2
 subst e
 -- what stays true of the iterator's objects through the loop
 have stat : ∀ {H' : Hp}, (∀ b ∈ fp, H' b = none) -> ∀ b ∈ fp, z6b X pins H' b := fun hn b hb => ⟨hn b hb, (f2 b hb).2⟩
 refine codeAny_forLoop_any (fun n s' => ∃ i σ' H', Inv X pins σ' H' s' /\ tn i s'.heap /\ (∀ b ∈ fp, H' b = none) /\ W i n σ' H') ?_ m0 ⟨0, σ, H2, I2, st2, fun b hb => (f2 b hb).1, w0⟩
 rintro n s3 ⟨i, σ3, H3, I3, st3, fr3, w3⟩
 rcases turn i n σ3 H3 w3 with ⟨stop, qn⟩ | ⟨go, N, hN, step⟩
 ·refine wpAny_passesOwn hp (thn (T.done X rfl rfl rfl hc i pins s3 σ3 H3 X.xe I3 (stat fr3) st3 stop) fun r s4 ⟨hr, I4⟩ => ?_)
  subst hr
  exact wpAny_execs_nil ⟨σ3, H3, I4, qn⟩
 ·refine wpAny_passesOwn hp (thn (T.item X rfl rfl rfl hc i pins s3 σ3 H3 X.xe I3 (stat fr3) st3 go) fun r s4 ⟨u, hr, h4⟩ => ?_)
  subst hr
  refine wpAny_passesOwn hp (thn h4 fun _ s5 ⟨x, H5, I5, r5, y5, st5, fr5⟩ => ?_)
  have I5' := I5.pinned (stat fr5) (T.obj _ _ st5)
  refine wpAny_passesOwn hp (thn (hg _ s5 σ3 H5 x u _ I5' r5 (step x H5 y5)) fun _ s6 ⟨σ6, H6, I6, q6⟩ => ?_)
  refine wpAny_passesOwn hp (thn (hb _ s6 σ6 H6 _ I6 q6) fun f s7 q7 => ?_)
  have again : ∀ {σ7 : St} {H7 : Hp}, Inv X (pins ++ z7k fp s5.heap) σ7 H7 s7 -> N σ7 H7 -> ∃ m, m < n /\ ∃ i σ' H', Inv X pins σ' H' s7 /\ tn i s7.heap /\ (∀ b ∈ fp, H' b = none) /\ W i m σ' H' := fun {σ7 H7} I7 n7 => by
   obtain ⟨m', hm, w7⟩ := hN σ7 H7 n7
   refine ⟨m', hm, i + 1, σ7, H7, I7.unpinned, T.keep _ _ _ st5 fun b hb o e => (I7.pin (b, o) (List.mem_append_right _ (List.mem_append_right _ (z2N hb e)))).1, fun b hb => ?_, w7⟩
   obtain ⟨o, e, d⟩ := T.obj _ _ st5 b hb
   exact (I7.pin (b, o) (List.mem_append_right _ (List.mem_append_right _ (z2N hb e)))).2.1
  cases f with
  | next => obtain ⟨σ7, H7, I7, n7⟩ := q7; exact again I7 n7
  | cont => obtain ⟨σ7, H7, I7, n7⟩ := q7; exact again I7 n7
  | brk => obtain ⟨σ7, H7, I7, q7⟩ := q7; exact ⟨σ7, H7, I7.unpinned, q7⟩
  | ret v => obtain ⟨x7, σ7, H7, I7, r7, q7⟩ := q7; exact ⟨x7, σ7, H7, I7.unpinned, r7, q7⟩
end
abbrev R2 := V -> V -> Hp -> VK -> Prop
def OpR (X : Cx) (f : Value -> Value -> Sem Value) (r : R2) : Prop :=
 ∀ (pins : List (Addr × Obj)) (s : Shared) (σ : St) (H : Hp) (x y : V) (v u : Value) (Q : VK), Inv X pins σ H s -> RelV x v -> RelV y u -> r x y H Q ->
  wpAny (model X.prog X.w) X.A (f v u) (EP X pins σ Q) X.xe s
def CallR (X : Cx) (f : Value) (r : List V -> Hp -> VK -> Prop) : Prop :=
 ∀ (pins : List (Addr × Obj)) (s : Shared) (σ : St) (H : Hp) (xs : List V) (us : List Value) (Q : VK), Inv X pins σ H s -> Vals xs us -> r xs H Q ->
  wpAny (model X.prog X.w) X.A (call f us) (EP X pins σ Q) X.xe s
def zjG (X : Cx) (r : V -> Hp -> (Bool -> Hp -> Prop) -> Prop) : Prop :=
 ∀ (pins : List (Addr × Obj)) (s : Shared) (σ : St) (H : Hp) (x : V) (v : Value) (Q : Bool -> Hp -> Prop), Inv X pins σ H s -> RelV x v -> r x H Q ->
  wpAny (model X.prog X.w) X.A (truthy v) (TP X pins σ Q) X.xe s
def tOp (r : R2) (ta tb : TE) : TE := fun σ H Q => ta σ H fun x H1 => tb σ H1 fun y H2 => r x y H2 Q
def rI (C : Int -> Int -> Prop) (g : Int -> Int -> V) : R2 := fun x y H Q => ∃ i j, x = .int i /\ y = .int j /\ C i j /\ Q (g i j) H
def rI0 (g : Int -> Int -> V) : R2 := fun x y H Q => ∃ i j, x = .int i /\ y = .int j /\ Q (g i j) H
section
variable {X : Cx} {a b : Expr} {ta tb : TE} {pos : Pos}
theorem zin (ha : PE X a ta) (hb : PE X b tb) {pins : List (Addr × Obj)} {s : Shared} {σ : St} {H : Hp} {R : V -> V -> Hp -> Prop} (I : Inv X pins σ H s)
  (h : ta σ H fun x H1 => tb σ H1 fun y H2 => R x y H2) {Q : Value -> Shared -> Prop} {f : Value -> Value -> Sem Value}
  (hf : ∀ v u s2 x y H2, Inv X pins σ H2 s2 -> RelV x v -> RelV y u -> R x y H2 -> wpAny (model X.prog X.w) X.A (f v u) Q X.xe s2) :
  wpAny (model X.prog X.w) X.A (eval a X.env) (fun v s₁ => wpAny (model X.prog X.w) X.A (eval b X.env) (fun u s₂ => wpAny (model X.prog X.w) X.A (f v u) Q X.xe s₂) X.xe s₁) X.xe s := by
 refine thn (ha pins s σ H _ I h) fun v s1 ⟨x, H1, I1, r1, q1⟩ => ?_
 refine thn (hb pins s1 σ H1 _ I1 q1) fun u s2 ⟨y, H2, I2, r2, q2⟩ => ?_
 exact hf v u s2 x y H2 I2 r1 r2 q2
theorem zi8 {op : Operator} {r : R2} (ho : OpR X (binaryOp op) r) (ha : PE X a ta) (hb : PE X b tb) : PE X (.BinOp a op b pos) (tOp r ta tb) := by
 intro pins s σ H Q I h
 exact wpAny_BinOp (zin ha hb I h fun v u s2 x y H2 I2 rx ry q => ho pins s2 σ H2 x y v u Q I2 rx ry q)
theorem opI {f : Value -> Value -> Sem Value} {C : Int -> Int -> Prop} {g : Int -> Int -> Int}
  (rule : ∀ (i j : Int) (t u : Tok) (s : Shared) (Q : Value -> Shared -> Prop) (E : Value -> Shared -> Prop), C i j -> Q (.int (g i j) s.toks) { s with toks := s.toks + 1 } -> wpAny (model X.prog X.w) X.A (f (.int i t) (.int j u)) Q E s) :
  OpR X f (rI C fun i j => .int (g i j)) := by
 intro pins s σ H x y v u Q I rx ry h
 obtain ⟨i, j, rfl, rfl, hc, q⟩ := h
 obtain ⟨t, rfl⟩ := rx
 obtain ⟨t', rfl⟩ := ry
 exact rule i j t t' s _ _ hc ⟨.int (g i j), H, I.tok _, ⟨_, rfl⟩, q⟩
theorem ziT {f : Value -> Value -> Sem Value} {g : Int -> Int -> Int}
  (rule : ∀ (i j : Int) (t u : Tok) (s : Shared) (Q : Value -> Shared -> Prop) (E : Value -> Shared -> Prop), Q (.int (g i j) s.toks) { s with toks := s.toks + 1 } -> wpAny (model X.prog X.w) X.A (f (.int i t) (.int j u)) Q E s) :
  OpR X f (rI0 fun i j => .int (g i j)) := by
 intro pins s σ H x y v u Q I rx ry h
 obtain ⟨i, j, rfl, rfl, q⟩ := h
 obtain ⟨t, rfl⟩ := rx
 obtain ⟨t', rfl⟩ := ry
 exact rule i j t t' s _ _ ⟨.int (g i j), H, I.tok _, ⟨_, rfl⟩, q⟩
theorem ziF {f : Value -> Value -> Sem Value} {g : Int -> Int -> Bool}
  (rule : ∀ (i j : Int) (t u : Tok) (s : Shared) (Q : Value -> Shared -> Prop) (E : Value -> Shared -> Prop), Q (.bool (g i j)) s -> wpAny (model X.prog X.w) X.A (f (.int i t) (.int j u)) Q E s) :
  OpR X f (rI0 fun i j => .bl (g i j)) := by
 intro pins s σ H x y v u Q I rx ry h
 obtain ⟨i, j, rfl, rfl, q⟩ := h
 obtain ⟨t, rfl⟩ := rx
 obtain ⟨t', rfl⟩ := ry
 exact rule i j t t' s _ _ ⟨.bl (g i j), H, I, rfl, q⟩
def zj9 (i j : Int) : Prop := 0 < j /\ j < 1073741824
def zhS (i j : Int) : Prop := 0 <= j /\ j <= 1000000 /\ i.natAbs < 2 ^ 64
def CMul (i j : Int) : Prop := (-(2 ^ 64) < i /\ i < 2 ^ 64) \/ (-(2 ^ 64) < j /\ j < 2 ^ 64)
theorem CMul.ok {i j : Int} (h : CMul i j) : IntMulOk i j := by
 rcases h with ⟨h1, h2⟩ | ⟨h1, h2⟩
 ·exact .of_left (intBits_le_64 h1 h2)
 ·exact .of_right (intBits_le_64 h1 h2)
theorem z9c (k : Nat) : (0 : Int) <= 2 ^ k := by
 rw [two_pow_cast]
 exact Int.natCast_nonneg _
theorem zgB : OpR X (binaryOp .Add) (rI0 fun i j => .int (i + j)) := ziT fun _ _ _ _ _ _ _ q => add_int q
theorem zha : OpR X (binaryOp .Sub) (rI0 fun i j => .int (i - j)) := ziT fun _ _ _ _ _ _ _ q => sub_int q
theorem zgJ : OpR X (binaryOp .Mult) (rI CMul fun i j => .int (i * j)) := opI fun _ _ _ _ _ _ _ hc q => mul_int q hc.ok
theorem zeg : OpR X (binaryOp .FloorDiv) (rI zj9 fun i j => .int (i / j)) := opI fun i j _ _ _ _ _ hc q => by
 have h1 : (0 : Int) < j := hc.1
 have h2 : j < 1073741824 := hc.2
 exact floordiv_int (by omega) (by rw [Int.fdiv_eq_ediv_of_nonneg i (by omega)]; exact q) (.inl (PyProof.noPylong_small (by omega)))
theorem zg5 : OpR X (binaryOp .Mod) (rI (fun _ j => 0 < j) fun i j => .int (i % j)) := opI fun i j _ _ _ _ _ hc q => by
 have h1 : (0 : Int) < j := hc
 exact mod_int' (by omega) (by rw [Int.fmod_eq_emod_of_nonneg i (by omega)]; exact q)
theorem zg8 : OpR X (binaryOp .Pow) (rI zhS fun i j => .int (i ^ j.toNat)) := opI fun _ _ _ _ _ _ _ hc q => pow_int_small hc.1 hc.2.1 hc.2.2 q
theorem zgz : OpR X (binaryOp .LShift) (rI zhS fun i j => .int (i * 2 ^ j.toNat)) := opI fun _ _ _ _ _ _ _ hc q => lshift_int_small hc.1 hc.2.1 hc.2.2 q
theorem zh9 : OpR X (binaryOp .RShift) (rI (fun _ j => 0 <= j) fun i j => .int (i / 2 ^ j.toNat)) := opI fun i j _ _ _ _ _ hc q =>
 rshift_int hc (by rw [Int.fdiv_eq_ediv_of_nonneg i (z9c _)]; exact q)
theorem zgo : OpR X (binaryOp .BitAnd) (rI0 fun i j => .int (Builtin.bitAnd i j)) := ziT fun _ _ _ _ _ _ _ q => and_int q
end
section
variable {X : Cx} {a b c : Expr} {ta tb tc : TE} {pos : Pos}
theorem z6q {pins : List (Addr × Obj)} {σ : St} {H : Hp} {s : Shared} {Q : VK} {k k' : Bool} (I : Inv X pins σ H s) (q : Q (.bl k) H) (e : k = k') : EP X pins σ Q (.bool k') s := by
 subst e
 exact ⟨.bl k, H, I, rfl, q⟩
theorem zeU : OpR X (compareOp .Lt) (rI0 fun i j => .bl (decide (i < j))) := ziF fun _ _ _ _ _ _ _ q => lt_int q
theorem zgU : OpR X (compareOp .LtE) (rI0 fun i j => .bl (decide (i <= j))) := ziF fun _ _ _ _ _ _ _ q => le_int q
theorem zhl : OpR X (compareOp .GtE) (rI0 fun i j => .bl (decide (j <= i))) := ziF fun _ _ _ _ _ _ _ q => ge_int q
theorem zbD : OpR X (compareOp .Lt) (fun x y H Q => ∃ i j, x = .str i /\ y = .str j /\ Q (.bl (decide (i.cps.toList < j.cps.toList))) H) := by
 intro pins s σ H x y v u Q I rx ry h
 obtain ⟨i, j, rfl, rfl, q⟩ := h
 obtain ⟨t, rfl⟩ := rx
 obtain ⟨t', rfl⟩ := ry
 exact lt_str (z6q I q rfl)
theorem zb5 : OpR X (compareOp .In) (fun x y H Q => ∃ i j, x = .str i /\ y = .str j /\ Q (.bl (!(Builtin.Str.occurrences j i 0 j.length 1).isEmpty)) H) := by
 intro pins s σ H x y v u Q I rx ry h
 obtain ⟨i, j, rfl, rfl, q⟩ := h
 obtain ⟨t, rfl⟩ := rx
 obtain ⟨t', rfl⟩ := ry
 exact in_str (z6q I q rfl)
theorem zdG : OpR X (compareOp .Is) (fun x y H Q => y = .non /\ Q (.bl (decide (x = .non))) H) := by
 intro pins s σ H x y v u Q I rx ry h
 obtain ⟨rfl, q⟩ := h
 cases ry
 refine is_none_gen (z6q I q ?_)
 cases x <;> first
  | (cases rx; rfl)
  | (obtain ⟨t, rfl⟩ := rx; rfl)
theorem zaR : OpR X (compareOp .IsNot) (fun x y H Q => y = .non /\ Q (.bl (!decide (x = .non))) H) := by
 intro pins s σ H x y v u Q I rx ry h
 obtain ⟨rfl, q⟩ := h
 cases ry
 refine isnot_none_gen (z6q I q ?_)
 cases x <;> first
  | (cases rx; rfl)
  | (obtain ⟨t, rfl⟩ := rx; rfl)
theorem z6T : OpR X (compareOp .NotIn) (fun x y H Q => ∃ i j, x = .str i /\ y = .str j /\ Q (.bl (!(!(Builtin.Str.occurrences j i 0 j.length 1).isEmpty))) H) := by
 intro pins s σ H x y v u Q I rx ry h
 obtain ⟨i, j, rfl, rfl, q⟩ := h
 obtain ⟨t, rfl⟩ := rx
 obtain ⟨t', rfl⟩ := ry
 exact notIn_str (z6q I q rfl)
theorem OpR.or {f : Value -> Value -> Sem Value} {r r' : R2} (h : OpR X f r) (h' : OpR X f r') : OpR X f (fun x y H Q => r x y H Q \/ r' x y H Q) := by
 intro pins s σ H x y v u Q I rx ry q
 rcases q with q | q
 ·exact h pins s σ H x y v u Q I rx ry q
 ·exact h' pins s σ H x y v u Q I rx ry q
theorem z1Z (b : Expr) {op : CmpOp} (h : op ≠ .In := by decide) (h2 : op ≠ .NotIn := by decide) : behindInMarks op b = false := by
 have e1 : (op == CmpOp.In) = false := by cases op <;> first | rfl | exact absurd rfl h
 have e2 : (op == CmpOp.NotIn) = false := by cases op <;> first | rfl | exact absurd rfl h2
 cases b <;> simp [behindInMarks, e1, e2]
theorem zeQ {op : CmpOp} {r : R2} (ho : OpR X (compareOp op) r) (ha : PE X a ta) (hb : PE X b tb) (hm : behindInMarks op b = false) : PE X (.Compare a [op] [b] pos) (tOp r ta tb) := by
 intro pins s σ H Q I h
 exact wpAny_Compare1 (zin ha hb I h fun v u s2 x y H2 I2 rx ry q => ho pins s2 σ H2 x y v u Q I2 rx ry q) hm
def zhD (t : TE) : TT := fun σ H Q => t σ H fun x H' => ∃ k, x = .bl k /\ Q k H'
theorem zfQ {op : CmpOp} {r : R2} (ho : OpR X (compareOp op) r) (ha : PE X a ta) (hb : PE X b tb) (hm : behindInMarks op b = false) : PT X (.Compare a [op] [b] pos) (zhD (tOp r ta tb)) := by
 intro pins s σ H Q I h
 refine wpAny_isTrue_Compare1 (thn (ha pins s σ H _ I h) fun v s1 ⟨x, H1, I1, r1, q1⟩ => thn (hb pins s1 σ H1 _ I1 q1) fun u s2 ⟨y, H2, I2, r2, q2⟩ =>
  thn (ho pins s2 σ H2 x y v u _ I2 r1 r2 q2) fun c s3 ⟨z, H3, I3, r3, k, e, q3⟩ => ?_) hm
 subst e
 cases r3
 exact wpAny_truthy_bool ⟨H3, I3, q3⟩
def zhN (r r' : R2) (ta tb tc : TE) : TE := fun σ H Q => ta σ H fun x H1 => tb σ H1 fun y H2 => r x y H2 fun z H3 => ∃ k, z = .bl k /\
 (if k = true then tc σ H3 fun w' H4 => r' y w' H4 Q else Q (.bl false) H3)
theorem zc4 {op op' : CmpOp} {r r' : R2} (ho : OpR X (compareOp op) r) (ho' : OpR X (compareOp op') r') (ha : PE X a ta) (hb : PE X b tb) (hc : PE X c tc)
  (hm : lastMarks [op, op'] [b, c] = false := by with_unfolding_all rfl) : PE X (.Compare a [op, op'] [b, c] pos) (zhN r r' ta tb tc) := by
 intro pins s σ H Q I h
 refine Compare_chain (thn (ha pins s σ H _ I h) fun v s1 ⟨x, H1, I1, r1, q1⟩ => chain_link (thn (hb pins s1 σ H1 _ I1 q1) fun u s2 ⟨y, H2, I2, r2, q2⟩ =>
  thn (ho pins s2 σ H2 x y v u _ I2 r1 r2 q2) fun d s3 ⟨z, H3, I3, r3, k, e, q3⟩ => ?_)) hm
 subst e
 cases r3
 refine wpAny_truthy_bool ?_
 cases k with
 | false => exact ite_ff ⟨.bl false, H3, I3, rfl, q3⟩
 | true => exact ite_tt (chain_last (thn (hc pins s3 σ H3 _ I3 q3) fun w' s4 ⟨z', H4, I4, r4, q4⟩ => ho' pins s4 σ H4 y z' u w' Q I4 r2 r4 q4))
def zje (K : PySem.W.Frag) (x : V) (H : Hp) (k : Bool) : Prop :=
 match x with
 | .non => k = false
 | .bl b => k = b
 | .int i => k = (i != 0)
 | .str y => y.length <= sizeLine /\ k = ((y.length : Int) != 0)
 | .byt y => y.size <= sizeLine /\ k = ((y.size : Int) != 0)
 | .ref p => (∃ xs, SqL K H p xs /\ k = !xs.isEmpty) \/ (∃ xs, SqT K H p xs /\ k = !xs.isEmpty) \/ ∃ kvs, H p = some (.dK kvs) /\ k = !kvs.isEmpty
 | _ => False
theorem z9l {κ : Type} {kvs : List (κ × V)} {vs : List (κ × Value)} (r : KV kvs vs) : (!vs.isEmpty) = !kvs.isEmpty := by
 cases r <;> rfl
theorem z5h {xs : List V} {its : List Value} (r : Vals xs its) : (!its.toArray.isEmpty) = !xs.isEmpty := by
 cases r <;> simp
theorem z5a : (sizeLine : Nat) < 2 ^ 63 := by rw [sizeLine_eq]; decide
theorem zhg : zjG X (fun x H Q => ∃ k, zje X.K x H k /\ Q k H) := by
 intro pins s σ H x v Q I rx h
 obtain ⟨k, e, q⟩ := h
 have hl := z5a
 have hs : sizeLine = 16777216 := sizeLine_eq
 cases x with
 | non =>
  cases rx
  have e' : k = false := e
  subst e'
  exact truthy_none ⟨H, I, q⟩
 | bl b =>
  cases rx
  have e' : k = b := e
  subst e'
  exact wpAny_truthy_bool ⟨H, I, q⟩
 | int i =>
  obtain ⟨t, rfl⟩ := rx
  have e' : k = (i != 0) := e
  subst e'
  exact PySem.P.truthy_int ⟨H, I, q⟩
 | str y =>
  obtain ⟨t, rfl⟩ := rx
  obtain ⟨hy, e'⟩ : y.length <= sizeLine /\ k = ((y.length : Int) != 0) := e
  subst e'
  exact PySem.P.truthy_str (by omega) ⟨H, I.tok _, q⟩
 | byt y =>
  obtain ⟨t, rfl⟩ := rx
  obtain ⟨hy, e'⟩ : y.size <= sizeLine /\ k = ((y.size : Int) != 0) := e
  subst e'
  exact PySem.W.truthy_bytes (by omega) ⟨H, I.tok _, q⟩
 | ref p =>
  cases rx
  have e' : (∃ xs, SqL X.K H p xs /\ k = !xs.isEmpty) \/ (∃ xs, SqT X.K H p xs /\ k = !xs.isEmpty) \/ ∃ kvs, H p = some (.dK kvs) /\ k = !kvs.isEmpty := e
  rcases e' with ⟨xs, hx, e'⟩ | ⟨xs, hx, e'⟩ | ⟨kvs, hx, e'⟩
  ·subst e'
   obtain ⟨its, r, pl, hz⟩ := I.list hx
   have hlen := r.length
   exact wpAny_truthy_list pl.isList (by simp only [List.size_toArray]; omega) ⟨H, I.tok _, by rw [z5h r]; exact q⟩
  ·subst e'
   obtain ⟨its, r, pl, hz⟩ := I.tuple hx
   have hlen := r.length
   exact truthy_tuple pl (by simp only [List.size_toArray]; omega) ⟨H, I.tok _, by rw [z5h r]; exact q⟩
  ·subst e'
   obtain ⟨hz, hS, vs, r, m⟩ : kvs.length <= sizeLine /\ (p == sysModules) = false /\ ∃ vs, KV kvs vs /\ s.heap.DictOf (z19 X.prog X.w) p vs := I.hok p _ hx
   have hlen : kvs.length = vs.length := Paired.length r
   exact wpAny_truthy_dict hS m (by omega) ⟨H, I.tok _, by rw [z9l r]; exact q⟩
 | _ => exact (show False from e).elim
theorem zct (ha : PE X a ta) (he : ∀ whole, isTrue a X.env whole = (do let v <- whole; standAt a.pos; holding [v] (truthy v))) :
  PT X a (fun σ H Q => ta σ H fun x H' => ∃ k, zje X.K x H' k /\ Q k H') := by
 intro pins s σ H Q I h
 exact isTrue_plain (thn (ha pins s σ H _ I h) fun v s1 ⟨x, H1, I1, r1, q1⟩ => zhg pins s1 σ H1 x v Q I1 r1 q1) (he _)
theorem z9f : OpR X (binaryOp .Add) (fun x y H Q => ∃ i j, x = .str i /\ y = .str j /\ i.length + j.length <= sizeLine /\ Q (.str (i ++ j)) H) := by
 intro pins s σ H x y v u Q I rx ry h
 obtain ⟨i, j, rfl, rfl, hz, q⟩ := h
 obtain ⟨t, rfl⟩ := rx
 obtain ⟨t', rfl⟩ := ry
 exact add_str (fun t' tk => ⟨.str (i ++ j), H, I.tok _, ⟨_, rfl⟩, q⟩) hz
theorem z3c {x : V} {us : List Value} (r : Vals [x] us) : ∃ u, us = [u] /\ RelV x u := by
 cases r with
 | cons r1 r2 => cases r2; exact ⟨_, rfl, r1⟩
theorem z7v {x y : V} {us : List Value} (r : Vals [x, y] us) : ∃ u w', us = [u, w'] /\ RelV x u /\ RelV y w' := by
 cases r with
 | cons r1 r2 =>
  cases r2 with
  | cons r3 r4 => cases r4; exact ⟨_, _, rfl, r1, r3⟩
theorem zaC (hc : X.calm = true) : CallR X (.builtin "max") (fun xs H Q => ∃ i j, xs = [.int i, .int j] /\ Q (.int (if j > i then j else i)) H) := by
 intro pins s σ H xs us Q I r h
 obtain ⟨i, j, rfl, q⟩ := h
 obtain ⟨u, w', rfl, ⟨t, rfl⟩, ⟨t', rfl⟩⟩ := z7v r
 refine max_two_ints (I.ok.hd hc) fun h' tk k => ⟨_, H, I.kept k, ?_, q⟩
 by_cases hj : j > i
 ·rw [if_pos hj, if_pos hj]; exact ⟨_, rfl⟩
 ·rw [if_neg hj, if_neg hj]; exact ⟨_, rfl⟩
theorem zac (hc : X.calm = true) : CallR X (.builtin "min") (fun xs H Q => ∃ i j, xs = [.int i, .int j] /\ Q (.int (if j < i then j else i)) H) := by
 intro pins s σ H xs us Q I r h
 obtain ⟨i, j, rfl, q⟩ := h
 obtain ⟨u, w', rfl, ⟨t, rfl⟩, ⟨t', rfl⟩⟩ := z7v r
 refine min_two_ints (I.ok.hd hc) fun h' tk k => ⟨_, H, I.kept k, ?_, q⟩
 by_cases hj : j < i
 ·rw [if_pos hj, if_pos hj]; exact ⟨_, rfl⟩
 ·rw [if_neg hj, if_neg hj]; exact ⟨_, rfl⟩
theorem zbB : CallR X (.type "int") (fun xs H Q => (∃ i, xs = [.int i] /\ Q (.int i) H) \/ ∃ k, xs = [.bl k] /\ Q (.int (if k then 1 else 0)) H) := by
 intro pins s σ H xs us Q I r h
 rcases h with ⟨i, rfl, q⟩ | ⟨k, rfl, q⟩
 ·obtain ⟨u, rfl, t, rfl⟩ := z3c r
  exact call_int_int ⟨.int i, H, I, ⟨_, rfl⟩, q⟩
 ·obtain ⟨u, rfl, r1⟩ := z3c r
  cases r1
  exact call_int_bool ⟨.int (if k then 1 else 0), H, I.tok _, ⟨_, rfl⟩, q⟩
theorem z6L : CallR X (.type "str") (fun xs H Q => ∃ i, xs = [.int i] /\ i.natAbs.log2 < 1920 /\ Q (.str (toString i)) H) := by
 intro pins s σ H xs us Q I r h
 obtain ⟨i, rfl, hz, q⟩ := h
 obtain ⟨u, rfl, t, rfl⟩ := z3c r
 exact PySem.P.str_of_int hz ⟨.str _, H, I.tok _, ⟨_, rfl⟩, q⟩
def zjc (K : PySem.W.Frag) (x : V) (H : Hp) (n : Nat) : Prop :=
 match x with
 | .str y => y.length <= sizeLine /\ n = y.length
 | .byt y => y.size <= sizeLine /\ n = y.size
 | .ref p => (∃ xs, SqL K H p xs /\ n = xs.length) \/ ∃ xs, SqT K H p xs /\ n = xs.length
 | _ => False
theorem zck : CallR X (.builtin "len") (fun xs H Q => ∃ x n, xs = [x] /\ zjc X.K x H n /\ Q (.int n) H) := by
 intro pins s σ H xs us Q I r h
 obtain ⟨x, n, rfl, e, q⟩ := h
 obtain ⟨u, rfl, rx⟩ := z3c r
 have hl := z5a
 have hs : sizeLine = 16777216 := sizeLine_eq
 cases x with
 | str y =>
  obtain ⟨t, rfl⟩ := rx
  obtain ⟨hy, e'⟩ : y.length <= sizeLine /\ n = y.length := e
  subst e'
  exact len_str (by omega) ⟨.int _, H, I.tok _, ⟨_, rfl⟩, q⟩
 | byt y =>
  obtain ⟨t, rfl⟩ := rx
  obtain ⟨hy, e'⟩ : y.size <= sizeLine /\ n = y.size := e
  subst e'
  exact PySem.W.len_bytes (by omega) ⟨.int _, H, I.tok _, ⟨_, rfl⟩, q⟩
 | ref p =>
  cases rx
  have e' : (∃ xs, SqL X.K H p xs /\ n = xs.length) \/ ∃ xs, SqT X.K H p xs /\ n = xs.length := e
  rcases e' with ⟨xs, hx, e'⟩ | ⟨xs, hx, e'⟩
  ·subst e'
   obtain ⟨its, r', pl, hz⟩ := I.list hx
   have hlen := r'.length
   exact Calls.call_len_list pl.isList (by simp only [List.size_toArray]; omega) ⟨.int xs.length, H, I.tok _, ⟨_, by simp only [List.size_toArray]; rw [hlen]⟩, q⟩
  ·subst e'
   obtain ⟨its, r', pl, hz⟩ := I.tuple hx
   have hlen := r'.length
   exact len_tuple pl (by simp only [List.size_toArray]; omega) ⟨.int xs.length, H, I.tok _, ⟨_, by simp only [List.size_toArray]; rw [hlen]⟩, q⟩
 | _ => exact (show False from e).elim
end
structure zjQ (h : Heap) (x dx C : Addr) (mA : Str -> Option Value) : Prop where
 obj : h.get? x = some (PySem.W.instObj C dx)
 ns : h.Ns1 dx mA
 ne : dx ≠ x
section
end
theorem RelO.some_of {v : V} {o : Option Value} (r : RelO (some v) o) : ∃ u, o = some u /\ RelV v u := by
 cases o with
 | none => exact (show False from r).elim
 | some u => exact ⟨u, rfl, r⟩
structure Cls (K : PySem.W.Frag) (C : Addr) : Prop where
 pg : PySem.W.plainGet K C Str.empty = true
 hd : PySem.W.hasDictIn K C = true
 po : PySem.W.plainOver K C = true
 sa : PySem.W.findIn K (.ref C) "__setattr__" = some (some (.builtin "object.__setattr__"))
theorem Cls.get {K : PySem.W.Frag} {C : Addr} (c : Cls K C) (f : Str) : PySem.W.plainGet K C f = true := c.pg
structure Con (K : PySem.W.Frag) (C : Addr) (f : Str) (v : V) (u : Value) : Prop where
 at_ : PySem.W.findIn K (.ref C) f = some (some u)
 rel : RelV v u
 get : PySem.W.specialIn K u "__get__" = some none
 cp : PySem.W.copiedNames.contains f = false
structure zjP (K : PySem.W.Frag) (C : Addr) (m : Str) (f : Addr) : Prop where
 at_ : PySem.W.findIn K (.ref C) m = some (some (.ref f))
 fn : PySem.W.isFn K (.ref f) = true
 kp : PySem.W.keepIn K (.ref f) = true
section
end
section
variable {H : Hp}
inductive zaN (K : PySem.W.Frag) (H : Hp) : V -> Value -> Prop where
 | non : zaN K H .non (.type "NoneType")
 | bl (x : Bool) : zaN K H (.bl x) (.type "bool")
 | int (i : Int) : zaN K H (.int i) (.type "int")
 | str (x : Str) : zaN K H (.str x) (.type "str")
 | flt (x : UInt64) : zaN K H (.flt x) (.type "float")
 | lst {a : Addr} {xs : List V} (e : H a = some (.lst xs)) : zaN K H (.ref a) (.type "list")
 | frz {a : Addr} {o : Obj} {xs : List V} (e : H a = some (.frz o (.lst xs))) : zaN K H (.ref a) (.type "list")
 | tup {a : Addr} {xs : List V} (e : H a = some (.tup xs)) : zaN K H (.ref a) (.type "tuple")
 | dK {a : Addr} {kvs : List (Key × V)} (e : H a = some (.dK kvs)) : zaN K H (.ref a) (.type "dict")
 | dT {a : Addr} {kvs : List (List Key × V)} (e : H a = some (.dT kvs)) : zaN K H (.ref a) (.type "dict")
 | ins {a C dx : Addr} {fs : List (Str × V)} (e : H a = some (.ins C dx fs)) (cl : Cls K C) (ha : PySem.W.findIn K (.ref C) "__class__" = some (some (.builtin "object.__class__")))
   (hn : PySem.W.specialIn K (.builtin "object.__class__") "__get__" = some (some (.builtin "getset_descriptor.__get__"))) (htk : PySem.W.takesIn K (.builtin "object.__class__") = some true)
   (hm : PySem.W.mroIn K C (.type "object") = some true) : zaN K H (.ref a) (.ref C)
end
structure Room (k : Nat) (A : Around) : Prop where
 hd : A.handled = none
 dp : A.depth + 3 * k + 5 < recursionLimit
 un : A.units + 16 * k + 200 < cLine
theorem Room.mono {j k : Nat} {A : Around} (r : Room k A) (h : j <= k) : Room j A := ⟨r.hd, by have := r.dp; omega, by have := r.un; omega⟩
theorem Room.deeper {k : Nat} {A : Around} (r : Room (k + 1) A) (env : Env) : Room k (A.deeper env) :=
 ⟨r.hd, by have := r.dp; show A.depth + 1 + 3 * k + 5 < _; omega, by have := r.un; show A.units + 3 + 16 * k + 200 < _; omega⟩
theorem Room.depth {k : Nat} {A : Around} (r : Room k A) : A.depth < recursionLimit := by have := r.dp; omega
theorem Room.units {k : Nat} {A : Around} (r : Room k A) : A.units + 64 < cLine := by have := r.un; omega
def zjp : TA := fun _ H Q => Q [] H
def ziP (ta : TE) (tr : TA) : TA := fun σ H Q => ta σ H fun x H1 => tr σ H1 fun xs H2 => Q (x :: xs) H2
section
variable {X : Cx} {e : Expr} {es : List Expr} {te : TE} {t : TA} {pos : Pos}
theorem z5b : PA X [] zjp := fun _ _ _ _ H Q I h => Calls.spliced_nil ⟨[], H, I, .nil, h⟩
theorem z2a (ha : PE X e te) (hr : PA X es t) (hs : starEach (e :: es) X.env = (false, eval e X.env) :: starEach es X.env := by rfl) : PA X (e :: es) (ziP te t) := by
 intro pos pins s σ H Q I h
 rw [hs]
 show wpAny _ _ (spliced ((false, eval e X.env) :: backTo pos (starEach es X.env))) _ _ s
 refine Calls.spliced_cons (thn (ha pins s σ H _ I h) fun u s1 ⟨x, H1, I1, r1, q1⟩ => ?_)
 exact thn (hr pos pins s1 σ H1 _ I1 q1) fun us s2 ⟨xs, H2, I2, r2, q2⟩ => ⟨x :: xs, H2, I2, .cons r1 r2, q2⟩
def zjK (t : TA) : TE := fun σ H Q => t σ H fun xs H1 => xs.length <= sizeLine /\ ∀ p, H1 p = none -> Q (.ref p) (upd H1 p (.tup xs))
def zjB (t : TA) : TE := fun σ H Q => t σ H fun xs H1 => xs.length <= sizeLine /\ ∀ p, H1 p = none -> Q (.ref p) (upd H1 p (.lst xs))
theorem zdk {x1} (h : PA X es t) : PE X (.Tuple es x1 pos) (zjK t) := by
 intro pins s σ H Q I hq
 refine wpAny_Tuple_spliced (thn (h pos pins s σ H _ I hq) fun us s1 ⟨xs, H1, I1, r, z, q⟩ => ⟨by rw [<- r.length]; exact z, ?_⟩)
 have hf : H1 s1.heap.objs.size = none := I1.hok.fresh (Nat.le_refl _)
 refine ⟨.ref s1.heap.objs.size, upd H1 s1.heap.objs.size (.tup xs), I1.laid (t' := s1.toks) (fun b u e => Heap.get?_push_of_some _ e) (Nat.le_refl _) ?_, rfl, q _ hf⟩
 exact ⟨z, us, r, ⟨_, Heap.get?_push_size _ rfl, rfl, _, rfl⟩⟩
theorem zdA (h : PA X es t) : PE X (.List es pos) (zjB t) := by
 intro pins s σ H Q I hq
 refine wpAny_List_spliced (thn (h pos pins s σ H _ I hq) fun us s1 ⟨xs, H1, I1, r, z, q⟩ => ⟨by rw [<- r.length]; exact z, ?_⟩)
 have hf : H1 s1.heap.objs.size = none := I1.hok.fresh (Nat.le_refl _)
 refine ⟨.ref s1.heap.objs.size, upd H1 s1.heap.objs.size (.lst xs), I1.laid (t' := s1.toks) (fun b u e => Heap.get?_push_of_some _ e) (Nat.le_refl _) ?_, rfl, q _ hf⟩
 exact ⟨z, us, 0, r, Heap.get?_push_size _ rfl⟩
end
abbrev Sp := List V -> Hp -> VK -> XK -> Prop
abbrev CXT := List Env -> Hp -> Shared -> XK -> Value -> Shared -> Prop
structure zi1 (P : Program) (w : World) (K : PySem.W.Frag) (mg : Str -> Option Value) (base : Heap) (A : Around) (outer : List Env) (s : Shared) (H : Hp) : Prop where
 frames : A.frames = some outer
 mod : Mod K mg base
 bs : ∀ b o, base.get? b = some o -> s.heap.get? b = some o /\ H b = none
 bsz : base.objs.size <= s.heap.objs.size
 funs : s.heap.FunFrames base outer
 frf : ∀ b ∈ frs outer, H b = none
 hok : HOk P w H s.heap
 bare : AllBare s.gens
def CE (outer : List Env) (P : Program) (w : World) (H : Hp) (s : Shared) (Q : VK) (u : Value) (s' : Shared) : Prop :=
 ∃ v H', s'.os = s.os /\ AllBare s'.gens /\ Un (frs outer) [] H H' s.heap s'.heap /\ HOk P w H' s'.heap /\ RelV v u /\ Q v H'
def CR (CX : CXT) (outer : List Env) (P : Program) (w : World) (H : Hp) (s : Shared) (Q : VK) (E : XK) (r : Result) (s' : Shared) : Prop :=
 match r with
 | .ok (.ret u) => CE outer P w H s Q u s'
 | .ok _ => False
 | .error e => CX outer H s E e s'
structure FnOk (P : Program) (w : World) (K : PySem.W.Frag) (mg : Str -> Option Value) (base : Heap) (CX : CXT) (k : Nat) (f : Addr) (fd : FuncData) (ps : List Str) (sp : Sp) : Prop where
 len : ∀ vs H Q E, sp vs H Q E -> vs.length = ps.length
 run : ∀ (A : Around) (outer : List Env) (s : Shared) (H : Hp) (args : Args) (us : List Value) (vs : List V) (Q : VK) (E : XK), Room k A -> zi1 P w K mg base A outer s H -> BindsTo s fd args (ps.zip us) -> Vals vs us -> sp vs H Q E ->
  codeAny (model P w) A (.call (.ref f) args) (CR CX outer P w H s Q E) s
theorem FnOk.mono {P : Program} {w : World} {K : PySem.W.Frag} {mg : Str -> Option Value} {base : Heap} {CX : CXT} {j k : Nat} {f : Addr} {fd : FuncData} {ps : List Str} {sp : Sp} (F : FnOk P w K mg base CX j f fd ps sp) (h : j <= k) :
  FnOk P w K mg base CX k f fd ps sp := ⟨F.len, fun A outer s H args us vs Q E hr => F.run A outer s H args us vs Q E (hr.mono h)⟩
theorem FnOk.imp {P : Program} {w : World} {K : PySem.W.Frag} {mg : Str -> Option Value} {base : Heap} {CX : CXT} {k : Nat} {f : Addr} {fd : FuncData} {ps : List Str} {sp sp' : Sp} (F : FnOk P w K mg base CX k f fd ps sp)
  (h : ∀ vs H Q E, sp' vs H Q E -> sp vs H Q E) : FnOk P w K mg base CX k f fd ps sp' :=
 ⟨fun vs H Q E q => F.len vs H Q E (h _ _ _ _ q), fun A outer s H args us vs Q E hr he hb hv hs => F.run A outer s H args us vs Q E hr he hb hv (h _ _ _ _ hs)⟩
section
variable {X : Cx} {pins : List (Addr × Obj)} {σ : St} {H : Hp} {s s' : Shared}
theorem Inv.env0 (I : Inv X pins σ H s) : zi1 X.prog X.w X.K X.mg X.base X.A X.stack s H :=
 ⟨I.ok.frames, I.ok.mod, I.bs, Nat.le_trans I.ok.bsz I.sz, I.stack, I.stkFree, I.hok, I.bare⟩
theorem Inv.after {Q : VK} {u : Value} (I : Inv X pins σ H s) (h : CE X.stack X.prog X.w H s Q u s') : EP X pins σ Q u s' := by
 obtain ⟨v, H', os, bare, un, hok, r, q⟩ := h
 obtain ⟨hh, g, d, t, os'⟩ := s'
 obtain rfl : os' = s.os := os
 exact ⟨v, H', I.call (h' := hh) (g' := g) (d' := d) (t' := t) (ch := []) un hok bare (fun b z => absurd z (by simp)), r, q⟩
end
def zif (sp : Sp) (dvs : List V) (E : XK) (t : TA) : TE := fun σ H Q => t σ H fun vs H1 => sp (vs ++ dvs) H1 Q E
def Binds (K : PySem.W.Frag) (fd : FuncData) (ps : List Str) (ds : List Value) : Prop :=
 ∀ (s : Shared) (us : List Value), K.In s.heap -> (us ++ ds).length = ps.length -> BindsTo s fd ⟨us, []⟩ (ps.zip (us ++ ds))
theorem Binds.all {K : PySem.W.Frag} {fd : FuncData} {ps : List Str} (h : ∀ us : List Value, us.length = ps.length -> bindArgs fd ⟨us, []⟩ = pure (ps.zip us)) : Binds K fd ps [] := fun s us _ hl => by
 rw [List.append_nil] at hl ⊢
 exact .of_eq (h us hl)
def z8S (CX : CXT) (X : Cx) (E : XK) : Prop := ∀ (pins : List (Addr × Obj)) (σ : St) (H : Hp) (s : Shared) (e : Value) (s' : Shared), Inv X pins σ H s -> CX X.stack H s E e s' -> X.xe e s'
section
variable {X : Cx} {CX : CXT} {k : Nat} {f C : Addr} {fd : FuncData} {ps : List Str} {sp : Sp} {dvs : List V} {ds : List Value} {E : XK} {x : Str} {p pos : Pos} {e : Expr} {es : List Expr} {t : TA}
theorem zhO {pins : List (Addr × Obj)} {σ : St} {H : Hp} {s : Shared} {Q : VK} {us : List Value} {vs : List V} (F : FnOk X.prog X.w X.K X.mg X.base CX k f fd ps sp) (hr : Room k X.A) (hb : Binds X.K fd ps ds) (hd : Vals dvs ds) (hx : z8S CX X E)
  (I : Inv X pins σ H s) (r : Vals vs us) (h : sp (vs ++ dvs) H Q E) : wpAny (model X.prog X.w) X.A (call (.ref f) us) (EP X pins σ Q) X.xe s := by
 have r2 : Vals (vs ++ dvs) (us ++ ds) := r.append hd
 have hl : (us ++ ds).length = ps.length := by rw [<- r2.length]; exact F.len _ _ _ _ h
 refine wpAny_call (codeAny_mono (F.run X.A X.stack s H ⟨us, []⟩ (us ++ ds) (vs ++ dvs) Q E hr I.env0 (hb s us I.kIn hl) r2 h) fun r s' hq => ?_)
 cases r with
 | error e => exact hx pins σ H s e s' I hq
 | ok fl =>
  cases fl with
  | ret u => exact I.after hq
  | next => exact False.elim hq
  | brk => exact False.elim hq
  | cont => exact False.elim hq
theorem ze6 (F : FnOk X.prog X.w X.K X.mg X.base CX k f fd ps sp) (hr : Room k X.A) (hg : Gl X x) (hm : X.mg x = some (.ref f)) (hk : PySem.W.keepIn X.K (.ref f) = true) (hb : Binds X.K fd ps ds) (hd : Vals dvs ds) (hx : z8S CX X E)
  (ha : PA X (e :: es) t) (hdb : (x == ("__debug__" : Str)) = false := by decide) (he : starEach (e :: es) X.env = (false, eval e X.env) :: starEach es X.env := by rfl) (hpl : (backTo pos (starEach es X.env)).any (·.1) = false := by rfl) :
  PE X (.Call (.Name x p) (e :: es) [] pos) (zif sp dvs E t) := by
 intro pins s σ H Q I h
 refine wpAny_Call_Name_kw (z9Z I hg hm ?_ hdb)
 refine PySem.W.callWith_K (h₀ := X.base) I.ok.mod.kin hk (thn (ha pos pins s σ H _ I h) fun us s1 ⟨vs, H1, I1, r, q⟩ => ⟨I1.kIn, ?_⟩) he hpl
 exact zhO F hr hb hd hx I1 r q
structure Mk (K : PySem.W.Frag) (C f : Addr) : Prop where
 makes : PySem.W.makesIn K C = true
 init : PySem.W.findIn K (.ref C) "__init__" = some (some (.ref f))
 fn : PySem.W.isFn K (.ref f) = true
 kp : PySem.W.keepIn K (.ref C) = true
end
section
variable {fd : FuncData} {ps ks : List Str}
structure zjk (K : PySem.W.Frag) (fd : FuncData) (ps ks : List Str) (g : List Value -> List Value -> List Value) (gV : List V -> List V -> List V) : Prop where
 to : ∀ (s : Shared) (us ws : List Value), K.In s.heap -> (g us ws).length = ps.length -> BindsTo s fd ⟨us, ks.zip ws⟩ (ps.zip (g us ws))
 rel : ∀ {vs : List V} {us : List Value} {zs : List V} {ws : List Value}, Vals vs us -> Vals zs ws -> Vals (gV vs zs) (g us ws)
end
structure z0a (N P : List Str) (sc : Scope) : Prop where
 kind : sc.kind = .function
 co : sc.isCoroutine = false
 gen : sc.isGenerator = false
 nd : N.Nodup
 pre : N.take P.length = P
 par : ∀ x ∈ P, sc.names.lookup x = some .local \/ sc.names.lookup x = some .cell
 nofree : ∀ y ∈ sc.names, y.2 ≠ .free
theorem z7b {kindOf : Str -> Option NameKind} {x : Str} : ∀ {binds : List (Str × Value)} {m : Str -> Option Value}, (∀ v, (x, v) ∉ binds) -> bindL kindOf binds m x = m x
 | [], _, _ => rfl
 | (n, v) :: r, m, h => by
  unfold bindL
  rw [z7b fun w hw => h w (List.mem_cons_of_mem _ hw)]
  split
  ·have : x ≠ n := by rintro rfl; exact h v List.mem_cons_self
   simp [this]
  ·rfl
theorem z6g {kindOf : Str -> Option NameKind} {x : Str} : ∀ {binds : List (Str × Value)} {m : Str -> Option Value}, (∀ v, (x, v) ∉ binds) -> bindC kindOf binds m x = m x
 | [], _, _ => rfl
 | (n, v) :: r, m, h => by
  unfold bindC
  rw [z6g fun w hw => h w (List.mem_cons_of_mem _ hw)]
  split
  ·rfl
  ·have : x ≠ n := by rintro rfl; exact h v List.mem_cons_self
   simp [this]
theorem z77 {kindOf : Str -> Option NameKind} {x : Str} {v : Value} : ∀ {P : List Str} {vs : List Value} {i : Nat} {m : Str -> Option Value}, P.Nodup -> P[i]? = some x -> vs[i]? = some v -> kindOf x = some .local ->
  bindL kindOf (P.zip vs) m x = some v
 | [], _, _, _, _, h, _, _ => by simp at h
 | _ :: _, [], _, _, _, _, h, _ => by simp at h
 | p :: P, w :: vs, 0, m, nd, h1, h2, hk => by
  simp at h1 h2; subst h1; subst h2
  show bindL kindOf ((p, w) :: P.zip vs) m p = _
  unfold bindL
  rw [z7b fun v hv => (List.nodup_cons.mp nd).1 (List.of_mem_zip hv).1, if_pos hk]
  simp
 | p :: P, w :: vs, i + 1, m, nd, h1, h2, hk => by
  show bindL kindOf ((p, w) :: P.zip vs) m x = _
  unfold bindL
  exact z77 (i := i) (List.nodup_cons.mp nd).2 (by simpa using h1) (by simpa using h2) hk
theorem z6I {kindOf : Str -> Option NameKind} {x : Str} {v : Value} : ∀ {P : List Str} {vs : List Value} {i : Nat} {m : Str -> Option Value}, P.Nodup -> P[i]? = some x -> vs[i]? = some v -> kindOf x ≠ some .local ->
  bindC kindOf (P.zip vs) m x = some v
 | [], _, _, _, _, h, _, _ => by simp at h
 | _ :: _, [], _, _, _, _, h, _ => by simp at h
 | p :: P, w :: vs, 0, m, nd, h1, h2, hk => by
  simp at h1 h2; subst h1; subst h2
  show bindC kindOf ((p, w) :: P.zip vs) m p = _
  unfold bindC
  rw [z6g fun v hv => (List.nodup_cons.mp nd).1 (List.of_mem_zip hv).1, if_neg hk]
  simp
 | p :: P, w :: vs, i + 1, m, nd, h1, h2, hk => by
  show bindC kindOf ((p, w) :: P.zip vs) m x = _
  unfold bindC
  exact z6I (i := i) (List.nodup_cons.mp nd).2 (by simpa using h1) (by simpa using h2) hk
def start (N : List Str) (vs : List V) : St := vs.map some ++ List.replicate (N.length - vs.length) none
def zfD (CX : CXT) (P : Program) (w : World) (K : PySem.W.Frag) (mg : Str -> Option Value) (base : Heap) (N : List Str) (qual : Str) (scope : Scope) (f : Addr) (cd : Value) (A : Around) (outer : List Env) (s : Shared) (H : Hp) (E : XK) : Cx where
 prog := P
 w := w
 K := K
 mg := mg
 base := base
 A := A.deeper (envOfC qual scope s.heap.objs.size f cd)
 N := N
 s₀ := s
 H₀ := H
 env := envOfC qual scope s.heap.objs.size f cd
 outer := outer
 stack := envOfC qual scope s.heap.objs.size f cd :: outer
 ex := []
 calm := true
 fn := fun _ => true
 pn := []
 xe := fun e s' => wpAny (model P w) (A.deeper (envOfC qual scope s.heap.objs.size f cd)) (leaving (envOfC qual scope s.heap.objs.size f cd) e) (fun _ s'' => CX outer H s E e s'') (fun e' s'' => CX outer H s E e' s'') s'
theorem z8l {sc : Scope} {n : Nat} {x : Str} (h : sc.names.lookup x = some .cell) : ∃ c, (cellsFrom n sc.names []).lookup x = some c := by
 have q := PySem.W.cellsFrom_some sc.names n [] (.inl h)
 exact Option.isSome_iff_exists.mp q
theorem zby {CX : CXT} {P : Program} {w : World} {K : PySem.W.Frag} {mg : Str -> Option Value} {base : Heap} {N ps : List Str} {qual : Str} {scope : Scope} {f : Addr} {cd : Value} {A : Around} {outer : List Env} {s s1 : Shared} {H : Hp} {E : XK} {us : List Value} {vs : List V}
  (S : z0a N ps scope) (hd : A.handled = none) (e0 : zi1 P w K mg base A outer s H) (hl : vs.length = ps.length) (r : Vals vs us)
  (x : InCallC s s.heap.objs.size (bindL (envOfC qual scope s.heap.objs.size f cd).kindOf (ps.zip us) fun _ => none) (cellsFrom (s.heap.objs.size + 1) scope.names []) (bindC (envOfC qual scope s.heap.objs.size f cd).kindOf (ps.zip us) fun _ => none) s1) :
  Inv (zfD CX P w K mg base N qual scope f cd A outer s H E) [] (start N vs) H s1 := by
 have hpl : ps.length <= N.length := by have := congrArg List.length S.pre; rw [List.length_take] at this; omega
 obtain ⟨h1, tk, rfl, hk⟩ := x.done
 have noA : ∀ b : Addr, b ∉ (zfD CX P w K mg base N qual scope f cd A outer s H E).ex := fun b z => absurd (show b ∈ ([] : List Addr) from z) (by simp)
 refine ⟨⟨e0.mod, S.kind, rfl, rfl, Nat.le_refl _, fun y z c h1 h2 => ?_, fun y hy => ?_, fun y c _ h => ?_, fun _ => hd, Around.frames_deeper e0.frames, .inr ⟨rfl, rfl⟩, fun b z => absurd z (noA b), e0.bs, e0.bsz, fun b _ _ => noA b, fun b z => absurd z (noA b), e0.funs, e0.frf⟩,
  rfl, e0.bare, Un.kept hk, ⟨_, x.toInCall.ns, fun i y v h1 h2 h3 => ?_⟩, fun y c h => ⟨_, x.cell y c h⟩, e0.hok.fresh (Nat.le_refl _), fun y c h => ?_, fun p hp => absurd (show p ∈ ([] : List (Addr × Obj)) from hp) (by simp), e0.hok.kept hk, ?_⟩
 ·exact name_of_addr x.apart (PySem.mem_of_lookup h1) (PySem.mem_of_lookup h2)
 ·have hy : scope.names.lookup y = some .cell \/ scope.names.lookup y = some .free := hy
  rcases hy with hy | hy
  ·exact z8l hy
  ·exact absurd rfl (S.nofree _ (PySem.mem_of_lookup hy))
 ·exact Nat.le_of_lt (x.above y c (PySem.mem_of_lookup h))
 ·have hi : i < vs.length := by
   unfold start at h2
   by_cases hi : i < vs.length
   ·exact hi
   ·rw [List.getElem?_append_right (by simpa using hi)] at h2
    rw [List.getElem?_replicate] at h2
    split at h2 <;> cases h2
  have ha : vs[i]? = some v := by
   unfold start at h2
   rw [List.getElem?_append_left (by simpa using hi), List.getElem?_map] at h2
   cases e : vs[i]? with
   | none => rw [e] at h2; cases h2
   | some a => rw [e] at h2; cases h2; rfl
  obtain ⟨u, hu, rv⟩ := r.get ha
  have hp : ps[i]? = some y := by
   rw [<- S.pre, List.getElem?_take_of_lt (by omega)]; exact h1
  have ndP : ps.Nodup := by rw [<- S.pre]; exact S.nd.sublist (List.take_sublist _ _)
  refine ⟨u, rv, ?_⟩
  rcases S.par y (List.mem_of_getElem? hp) with k | k
  ·exact .inl ⟨k, z77 ndP hp hu k⟩
  ·obtain ⟨c, e⟩ := z8l (n := s.heap.objs.size + 1) k
   refine .inr ⟨.inl k, c, e, ?_⟩
   have q := x.cell y c e
   rw [z6I ndP hp hu (by show scope.names.lookup y ≠ _; rw [k]; decide)] at q
   exact q
 ·exact e0.hok.fresh (Nat.le_of_lt (x.above y c (PySem.mem_of_lookup h)))
 ·unfold start
  show _ = N.length
  rw [List.length_append, List.length_map, List.length_replicate]
  omega
theorem z0l {CX : CXT} {P : Program} {w : World} {K : PySem.W.Frag} {mg : Str -> Option Value} {base : Heap} {k : Nat} {f : Addr} {name qual : Str} {params : Arguments} {body : List Stmt} {scope : Scope} {dV kV doc pm cdv ct oc : Value} {an od : Option Addr}
  {osl : Array (Option Value)} {N ps : List Str} {sp : Sp} (lk : K.lookup f = some ⟨oc, od, .func (PySem.W.fnOf name qual params body scope dV kV doc pm an cdv ct), osl⟩) (hcd : PySem.W.codeIn K cdv qual = true) (S : z0a N ps scope)
  (len : ∀ vs H Q E, sp vs H Q E -> vs.length = ps.length)
  (hbody : ∀ (A : Around) (outer : List Env) (s : Shared) (H : Hp) (vs : List V) (Q : VK) (E : XK), Room k (A.deeper (envOfC qual scope s.heap.objs.size f cdv)) -> sp vs H Q E ->
   ∃ t, PSs (zfD CX P w K mg base N qual scope f cdv A outer s H E) body t /\ t { nx := fun _ H' => Q .non H', rt := Q } (start N vs) H) :
  FnOk P w K mg base CX (k + 1) f (PySem.W.fnOf name qual params body scope dV kV doc pm an cdv ct) ps sp := by
 refine ⟨len, fun A outer s H args us vs Q E hr e0 hb r hsp => ?_⟩
 have hl := len _ _ _ _ hsp
 have KX : K.In s.heap := e0.mod.kin.keeps fun b o e => (e0.bs b o e).1
 have lim : s.heap.NoLimit := e0.mod.nolimit.keeps fun b o e => (e0.bs b o e).1
 have hkind : ∀ y ∈ ps.zip us, scope.names.lookup y.1 = some .local \/ (scope.names.lookup y.1 = some .cell /\ ((cellsFrom (s.heap.objs.size + 1) scope.names []).lookup y.1).isSome = true) := fun ⟨n, v⟩ hy => by
  rcases S.par n (List.of_mem_zip hy).1 with q | q
  ·exact .inl q
  ·exact .inr ⟨q, PySem.W.cellsFrom_some _ _ _ (.inl q)⟩
 refine codeAny_call_function hr.depth (KX _ _ lk) rfl S.co S.gen rfl (PySem.W.codeRec_of KX hcd) (hb _ _ _ _ ?_)
 refine wpAny_newFunctionEnv_cells S.kind hkind fun env he s1 x => ?_
 subst he
 refine ⟨lim.keeps x.toInCall.keep, codeAny_func ?_⟩
 obtain ⟨t, ht, hq⟩ := hbody A outer s H vs Q E (hr.deeper _) hsp
 have I : Inv (zfD CX P w K mg base N qual scope f cdv A outer s H E) [] (start N vs) H s1 := zby S hr.hd e0 hl r x
 refine wpAny_mono (ht [] s1 (start N vs) H _ I hq) (fun fl s' hs => ?_) fun e s' hs => hs
 have fin : ∀ {σ' : St} {H' : Hp} {v : V} {u : Value}, Inv (zfD CX P w K mg base N qual scope f cdv A outer s H E) [] σ' H' s' -> RelV v u -> Q v H' -> CE outer P w H s Q u s' :=
  fun {σ' H' v u} J rv q => ⟨v, H', J.os, J.bare, J.base, J.hok, rv, q⟩
 cases fl with
 | ret u =>
  obtain ⟨v, σ', H', J, rv, q⟩ := hs
  exact fin J rv q
 | next =>
  obtain ⟨σ', H', J, q⟩ := hs
  exact fin (v := V.non) (u := Value.none) J rfl q
 | brk =>
  obtain ⟨_, _, _, q⟩ := hs
  exact False.elim q
 | cont =>
  obtain ⟨_, _, _, q⟩ := hs
  exact False.elim q
section
variable {X : Cx} {x : Str} {p pos : Pos} {e : Expr} {es : List Expr} {t : TA} {id T : String} {r : List V -> Hp -> VK -> Prop}
def tCB (r : List V -> Hp -> VK -> Prop) (t : TA) : TE := fun σ H Q => t σ H fun vs H1 => r vs H1 Q
theorem z3A (hc : CallR X (.builtin id) r) (hg : Gl X x) (hm : X.mg x = none) (hv : bootBuiltins x = some (.builtin id)) (ha : PA X (e :: es) t) (hn : x ≠ "__name__" := by decide) (hdb : (x == ("__debug__" : Str)) = false := by decide)
  (he : starEach (e :: es) X.env = (false, eval e X.env) :: starEach es X.env := by rfl) (hpl : (backTo pos (starEach es X.env)).any (·.1) = false := by rfl) : PE X (.Call (.Name x p) (e :: es) [] pos) (tCB r t) := by
 intro pins s σ H Q I h
 refine wpAny_Call_Name_kw (z4O I hg hm hv ?_ hn hdb)
 exact PyProof.Rows.callWith_builtin1 (thn (ha pos pins s σ H _ I h) fun us s1 ⟨vs, H1, I1, r1, q1⟩ => hc pins s1 σ H1 vs us Q I1 r1 q1) he hpl
theorem z6R (hc : CallR X (.type T) r) (hg : Gl X x) (hm : X.mg x = none) (hv : bootBuiltins x = some (.type T)) (ha : PA X (e :: es) t) (hn : x ≠ "__name__" := by decide) (hdb : (x == ("__debug__" : Str)) = false := by decide)
  (he : starEach (e :: es) X.env = (false, eval e X.env) :: starEach es X.env := by rfl) (hpl : (backTo pos (starEach es X.env)).any (·.1) = false := by rfl) : PE X (.Call (.Name x p) (e :: es) [] pos) (tCB r t) := by
 intro pins s σ H Q I h
 refine wpAny_Call_Name_kw (z4O I hg hm hv ?_ hn hdb)
 exact PyProof.Rows.callWith_type1 (thn (ha pos pins s σ H _ I h) fun us s1 ⟨vs, H1, I1, r1, q1⟩ => hc pins s1 σ H1 vs us Q I1 r1 q1) he hpl
end
end L2
namespace HT
open PySem PyProof.Rows
section
open PySem.SeqAt
open PySem.AutoSeq1 (wpAny_loadPart')
open PySem.MeetsSeq PySem.MeetsSeq2 PySem.MeetsSeq3
end
section
variable {prog : Program} {w : World} {A : Around} {E : Value -> Shared -> Prop} {s : Shared}
theorem cat_tup {t b : Addr} {vs ws : List Value} {Q : Value -> Shared -> Prop} (ht : IsTup s.heap t vs.toArray) (hb : IsTup s.heap b ws.toArray) (hv : vs ≠ [])
  (h1 : ws = [] -> Q (.ref t) s) (h2 : ws ≠ [] -> Q (.ref s.heap.objs.size) { s with heap := s.heap.push { cls := .type "tuple", data := .seq (vs ++ ws).toArray } })
  (hsz : vs.length + ws.length <= sizeLine) : wpAny (model prog w) A (binaryOp .Add (.ref t) (.ref b)) Q E s := by
 obtain ⟨⟨cls, dd, data, sl⟩, ho, hc, n, hd⟩ := id ht
 obtain ⟨⟨cls2, dd2, data2, sl2⟩, ho2, hc2, n2, hd2⟩ := id hb
 simp only at hc hd hc2 hd2
 subst hc hd hc2 hd2
 have e : vs.toArray ++ ws.toArray = (vs ++ ws).toArray := by simp
 by_cases hw : ws = []
 ·exact concat_meets ⟨_, ho, rfl⟩ ⟨_, ho2, rfl⟩ noFill_tuple_add seq_tuple_add PySem.F.slot_tuple_add PySem.F.entry_tuple_add (PySem.F.args_tuple_add_2 _ _)
   (tuple_addW1 t b vs.toArray ws.toArray n n2 dd dd2 sl sl2 (by simpa using hv) (by simp [hw])) ⟨ho, ho2, h1 hw⟩
 ·refine concat_meets ⟨_, ho, rfl⟩ ⟨_, ho2, rfl⟩ noFill_tuple_add seq_tuple_add PySem.F.slot_tuple_add PySem.F.entry_tuple_add (PySem.F.args_tuple_add_2 _ _)
   (tuple_addW2 t b vs.toArray ws.toArray n n2 dd dd2 sl sl2 (by simpa using hv) (by simpa using hw) (by rw [List.size_toArray, List.size_toArray]; exact hsz)) ⟨ho, ho2, ?_⟩
  rw [e]
  exact h2 hw
def sIx (n d : Nat) : Option Int -> Nat
 | none => d
 | some v => if v < 0 then (v + (n : Int)).toNat else min v.toNat n
theorem sIx_none (n d : Nat) : sIx n d none = d := rfl
theorem sIx_nat (n d k : Nat) : sIx n d (some (k : Int)) = min k n := by
 show (if (k : Int) < 0 then ((k : Int) + (n : Int)).toNat else min (k : Int).toNat n) = min k n
 rw [if_neg (by omega), Int.toNat_natCast]
theorem zgi (n d : Nat) (hd : d <= n) (o : Option Int) : sIx n d o <= n := by
 cases o with
 | none => exact hd
 | some v =>
  show (if v < 0 then (v + (n : Int)).toNat else min v.toNat n) <= n
  by_cases hv : v < 0
  ·rw [if_pos hv]; omega
  ·rw [if_neg hv]; exact Nat.min_le_right _ _
theorem zba (v : Int) (n d : Nat) : (if v < 0 then max (v + (n : Int)) 0 else min v (n : Int)) = ((sIx n d (some v) : Nat) : Int) := by
 show (if v < 0 then max (v + (n : Int)) 0 else min v (n : Int)) = (((if v < 0 then (v + (n : Int)).toNat else min v.toNat n) : Nat) : Int)
 by_cases hv : v < 0
 ·simp only [if_pos hv]; omega
 ·simp only [if_neg hv]; omega
theorem z9n (lo hi : Option Int) (n : Nat) : Builtin.Slice.sliceAdjust lo hi 1 (n : Int) = (((sIx n 0 lo : Nat) : Int), ((sIx n n hi : Nat) : Int)) := by
 have h1 : ¬ ((1 : Int) < 0) := by omega
 unfold Builtin.Slice.sliceAdjust
 simp only [h1, if_false]
 refine Prod.ext ?_ ?_
 ·cases lo with
  | none => rfl
  | some v => exact zba v n 0
 ·cases hi with
  | none => rfl
  | some v => exact zba v n n
theorem z9d (i j : Nat) : Builtin.Slice.slicePlaces (i : Int) (j : Int) 1 = j - i := by
 unfold Builtin.Slice.slicePlaces
 have h1 : (1 : Int) > 0 := by omega
 simp only [h1, if_true, Int.ediv_one]
 split <;> omega
theorem z5c {v : Value} {o : Option Int} {Q : Option Int -> Shared -> Prop} (p : IsPart v o) (h : Q o s) : wpAny (model prog w) A (Builtin.Slice.slicePartIndex v) Q E s := by
 cases p with
 | none => exact slicePart_none h
 | int i t => exact slicePart_int h
theorem sliceApplied_gen {sl : Addr} {vl vu : Value} {lo hi : Option Int} {n : Nat} {Q : Int × Int × Nat -> Shared -> Prop} (hs : s.heap.IsSliceOf sl vl vu .none) (pl : IsPart vl lo) (pu : IsPart vu hi)
  (h : Q (((sIx n 0 lo : Nat) : Int), 1, sIx n n hi - sIx n 0 lo) s) : wpAny (model prog w) A (Builtin.Slice.sliceApplied (.ref sl) (pure (n : Int))) Q E s := by
 obtain ⟨os, hos, hcs, hds⟩ := id hs
 unfold Builtin.Slice.sliceApplied Builtin.Slice.sliceFields
 refine wpAny_bind (wpAny_bind (wpAny_field hos hds (x := vl) rfl (wpAny_bind (wpAny_field hos hds (x := vu) rfl (wpAny_bind (wpAny_field hos hds (x := .none) rfl (wpAny_pure ?_)))))))
 refine wpAny_bind (slicePart_none ?_)
 show wpAny _ _ (if ((1 : Int) == 0) = true then _ else _) _ _ s
 rw [if_neg (by decide)]
 refine wpAny_bind (z5c pl (wpAny_bind (z5c pu (wpAny_bind (wpAny_pure ?_)))))
 show wpAny _ _ (match Builtin.Slice.sliceAdjust lo hi 1 (n : Int) with | (lo, hi) => pure (lo, (1 : Int), Builtin.Slice.slicePlaces lo hi 1)) _ _ s
 rw [z9n lo hi n]
 show wpAny _ _ (pure (((sIx n 0 lo : Nat) : Int), (1 : Int), Builtin.Slice.slicePlaces ((sIx n 0 lo : Nat) : Int) ((sIx n n hi : Nat) : Int) 1)) _ _ s
 rw [z9d]
 exact wpAny_pure h
theorem zd6 (xs : Array Value) (i k : Nat) : ((List.range k).filterMap fun (m : Nat) => xs[((i : Int) + (m : Int) * 1).toNat]?).toArray = ((xs.toList.drop i).take k).toArray := by
 have e : (fun (m : Nat) => xs[((i : Int) + (m : Int) * 1).toNat]?) = fun m => xs[i + m]? := by
  funext m
  have : ((i : Int) + (m : Int) * 1).toNat = i + m := by omega
  rw [this]
 rw [e]
 have := pick_run xs i k
 rw [List.filterMap_map] at this
 have e2 : ((fun x => xs[x]?) ∘ fun x => i + x) = fun m => xs[i + m]? := rfl
 rw [e2] at this
 rw [this]
theorem getItem_tuple_cut {t sl : Addr} {items : Array Value} {vl vu : Value} {lo hi : Option Int} {Q : Value -> Shared -> Prop} (ht : IsTup s.heap t items) (hs : s.heap.IsSliceOf sl vl vu .none) (pl : IsPart vl lo) (pu : IsPart vu hi)
  (hw : ¬ (sIx items.size 0 lo = 0 /\ sIx items.size items.size hi = items.size))
  (h : Q (.ref s.heap.objs.size) { s with heap := s.heap.push { cls := .type "tuple", data := .seq ((items.toList.drop (sIx items.size 0 lo)).take (sIx items.size items.size hi - sIx items.size 0 lo)).toArray } })
  (hsz : items.size <= sizeLine) : wpAny (model prog w) A (getItem (.ref t) (.ref sl)) Q E s := by
 have htake : sizeOk (.seq ((items.toList.drop (sIx items.size 0 lo)).take (sIx items.size items.size hi - sIx items.size 0 lo)).toArray) := by
  show ((items.toList.drop (sIx items.size 0 lo)).take (sIx items.size items.size hi - sIx items.size 0 lo)).toArray.size <= sizeLine
  rw [List.size_toArray, List.length_take, List.length_drop, Array.length_toList]
  omega
 have hj : sIx items.size items.size hi <= items.size := zgi _ _ (Nat.le_refl _) hi
 obtain ⟨os, hos, hcs, hds⟩ := id hs
 have hTs : s.TypeIs (.ref sl) "slice" := ⟨os, hos, hcs⟩
 unfold getItem
 try with_reducible refine wpAny_holding ?_
 first | refine wpAny_bind (wpAny_pure ?_) | skip
 refine wpAny_bind (wpAny_sequenceKey ht.typeIs (by decide) ?_)
 refine wpAny_bind (wpAny_callSpecial?_slot (name := Str.ofString "__getitem__") ht.typeIs PyProof.Rows.slot_tuple_getitem
  (wpAny_call_entry PyProof.Rows.slot_tuple_getitem ht.typeIs entry_tuple_getitem ?_ (args_tuple_getitem _ _)))
 show wpAny _ _ (Builtin.Tuple.tupleItemsOf (.ref t) >>= _) _ _ s
 refine wpAny_bind (tupleItemsOf_ ht ?_)
 refine wpAny_bind (wpAny_typeOf hTs ?_)
 rw [if_pos (by decide)]
 refine wpAny_bind (sliceApplied_gen hs pl pu ?_)
 have hno : ¬ ((((sIx items.size 0 lo : Nat) : Int) == 0 && (1 : Int) == 1 && (sIx items.size items.size hi - sIx items.size 0 lo) == items.size) = true) := by
  intro q
  rw [Bool.and_eq_true, Bool.and_eq_true] at q
  have q1 : ((sIx items.size 0 lo : Nat) : Int) = 0 := eq_of_beq q.1.1
  have q2 : sIx items.size items.size hi - sIx items.size 0 lo = items.size := eq_of_beq q.2
  exact hw ⟨by omega, by omega⟩
 show wpAny _ _ (if (((sIx items.size 0 lo : Nat) : Int) == 0 && (1 : Int) == 1 && (sIx items.size items.size hi - sIx items.size 0 lo) == items.size) = true then _ else _) _ _ s
 rw [if_neg hno, zd6]
 first
  | exact wpAny_bind (m := Builtin.Tuple.tupleExact _) (wpAny_newObj_type (wpAny_pure ⟨_, rfl, wpAny_pure h⟩) htake)
  | exact wpAny_bind (m := Builtin.Tuple.tupleExact _) (wpAny_newObj_type (wpAny_bind (wpAny_pure (wpAny_pure ⟨_, rfl, wpAny_pure h⟩))) htake)
  | exact wpAny_bind (wpAny_bind (m := Builtin.Tuple.tupleExact _) (wpAny_newObj_type (wpAny_pure (wpAny_pure ⟨_, rfl, wpAny_pure h⟩)) htake))
  | exact wpAny_bind (wpAny_bind (m := Builtin.Tuple.tupleExact _) (wpAny_newObj_type (wpAny_pure ⟨_, rfl, wpAny_pure h⟩) htake))
end
end HT
namespace L2
open PySem PySem.Spec PyProof.Rows
abbrev TO := St -> Hp -> (Option Int -> Hp -> Prop) -> Prop
def PO (X : Cx) (e : Option Expr) (t : TO) : Prop :=
 ∀ (pins : List (Addr × Obj)) (s : Shared) (σ : St) (H : Hp) (Q : Option Int -> Hp -> Prop), Inv X pins σ H s -> t σ H Q ->
  wpAny (model X.prog X.w) X.A (evalPart e X.env) (fun u s' => ∃ o H', Inv X pins σ H' s' /\ IsPart u o /\ Q o H') X.xe s
def zdX : TO := fun _ H Q => Q none H
def zij (t : TE) : TO := fun σ H Q => t σ H fun x H1 => ∃ i, x = .int i /\ Q (some i) H1
section
variable {X : Cx} {e : Expr} {te : TE} {lo hi : Option Expr} {tl th : TO} {pos p2 : Pos}
theorem zfI : PO X none zdX := by
 intro pins s σ H Q I h
 rw [evalPart_none]
 exact wpAny_pure ⟨none, H, I, .none, h⟩
theorem zer (h : PE X e te) : PO X (some e) (zij te) := by
 intro pins s σ H Q I hw
 rw [evalPart_some]
 refine thn (h pins s σ H _ I hw) fun u s1 ⟨x, H1, I1, r1, q1⟩ => ?_
 obtain ⟨i, rfl, q⟩ := q1
 obtain ⟨t, rfl⟩ := r1
 exact ⟨some i, H1, I1, .int i t, q⟩
def SlR (X : Cx) (r : V -> Option Int -> Option Int -> Hp -> VK -> Prop) : Prop :=
 ∀ (pins : List (Addr × Obj)) (s : Shared) (σ : St) (H : Hp) (x : V) (v vl vu : Value) (lo hi : Option Int) (sl : Addr) (Q : VK), Inv X pins σ H s -> RelV x v -> s.heap.IsSliceOf sl vl vu .none -> IsPart vl lo -> IsPart vu hi -> r x lo hi H Q ->
  ∃ T id, typeLookup (.type T) "__getitem__" = pure (some (.builtin id)) /\ s.TypeIs v T /\ wpAny (model X.prog X.w) X.A (getItem v (.ref sl)) (EP X pins σ Q) X.xe s
theorem SlR.or {r r' : V -> Option Int -> Option Int -> Hp -> VK -> Prop} (h : SlR X r) (h' : SlR X r') : SlR X (fun x lo hi H Q => r x lo hi H Q \/ r' x lo hi H Q) := by
 intro pins s σ H x v vl vu lo hi sl Q I rx hs pl pu q
 rcases q with q | q
 ·exact h pins s σ H x v vl vu lo hi sl Q I rx hs pl pu q
 ·exact h' pins s σ H x v vl vu lo hi sl Q I rx hs pl pu q
def tSl (r : V -> Option Int -> Option Int -> Hp -> VK -> Prop) (te : TE) (tl th : TO) : TE := fun σ H Q => te σ H fun x H1 => tl σ H1 fun l H2 => th σ H2 fun u H3 => r x l u H3 Q
theorem z8U {r : V -> Option Int -> Option Int -> Hp -> VK -> Prop} (hr : SlR X r) (he : PE X e te) (hl : PO X lo tl) (hu : PO X hi th) : PE X (.Subscript e (.Slice lo hi none p2) pos) (tSl r te tl th) := by
 intro pins s σ H Q I h
 refine Subscript_ (thn (he pins s σ H _ I h) fun v s1 ⟨x, H1, I1, r1, q1⟩ => ?_)
 refine wpAny_Slice (thn (hl pins s1 σ H1 _ I1 q1) fun vl s2 ⟨l, H2, I2, pl, q2⟩ => thn (hu pins s2 σ H2 _ I2 q2) fun vu s3 ⟨u, H3, I3, pu, q3⟩ => ?_)
 rw [evalPart_none]
 refine wpAny_pure ?_
 have I4 : Inv X pins σ H3 { s3 with heap := s3.heap.push { cls := .type "slice", data := .fields #[vl, vu, .none] } } := I3.kept (t' := s3.toks) fun b ob q => Heap.get?_push_of_some _ q
 obtain ⟨T, id, hT, ht, hg⟩ := hr pins { s3 with heap := s3.heap.push { cls := .type "slice", data := .fields #[vl, vu, .none] } } σ H3 x v vl vu l u s3.heap.objs.size Q I4 r1 (Heap.IsSliceOf.new ..) pl pu q3
 show wpAny (model X.prog X.w) X.A (subscriptTail e (.Slice lo hi none p2) v (.ref s3.heap.objs.size)) (EP X pins σ Q) X.xe { s3 with heap := s3.heap.push { cls := .type "slice", data := .fields #[vl, vu, .none] } }
 exact tail_any (ops := [.ref s3.heap.objs.size, v]) ht hT hg (by with_unfolding_all rfl)
def zdd (xs : List V) (lo hi : Option Int) : List V := (xs.drop (HT.sIx xs.length 0 lo)).take (HT.sIx xs.length xs.length hi - HT.sIx xs.length 0 lo)
theorem z4I (xs : List V) (lo hi : Option Int) : (zdd xs lo hi).length <= xs.length := by
 unfold zdd
 rw [List.length_take, List.length_drop]
 omega
def zjm (K : PySem.W.Frag) : V -> Option Int -> Option Int -> Hp -> VK -> Prop := fun x lo hi H Q => ∃ a xs, x = .ref a /\ SqT K H a xs /\
 ¬ (HT.sIx xs.length 0 lo = 0 /\ HT.sIx xs.length xs.length hi = xs.length) /\ ∀ p, H p = none -> Q (.ref p) (upd H p (.tup (zdd xs lo hi)))
theorem zdr : SlR X (zjm X.K) := by
 intro pins s σ H x v vl vu lo hi sl Q I rx hs pl pu h
 obtain ⟨a, xs, rfl, hx, hw, q⟩ := h
 cases rx
 obtain ⟨its, r, ht, hz⟩ := I.tuple hx
 have hlen : its.toArray.size = xs.length := by rw [List.size_toArray]; exact r.length.symm
 refine ⟨"tuple", _, PyProof.Rows.slot_tuple_getitem.lookup, ht.typeIs, ?_⟩
 refine HT.getItem_tuple_cut ht hs pl pu (by rw [hlen]; exact hw) ?_ (by rw [hlen]; exact hz)
 rw [hlen]
 refine ⟨.ref s.heap.objs.size, _, I.laid (t' := s.toks) (o := .tup (zdd xs lo hi)) (fun b ob q => Heap.get?_push_of_some _ q) (Nat.le_refl _) ?_, rfl, q _ (I.hok.fresh (Nat.le_refl _))⟩
 exact ⟨Nat.le_trans (z4I xs lo hi) hz, _, (r.drop (HT.sIx xs.length 0 lo)).take (HT.sIx xs.length xs.length hi - HT.sIx xs.length 0 lo), IsTup.new _ _⟩
def zhw (K : PySem.W.Frag) : R2 := fun x y H Q => ∃ a b xs ys, x = .ref a /\ y = .ref b /\ SqT K H a xs /\ SqT K H b ys /\ xs ≠ [] /\ xs.length + ys.length <= sizeLine /\
 (ys = [] -> Q (.ref a) H) /\ (ys ≠ [] -> ∀ p, H p = none -> Q (.ref p) (upd H p (.tup (xs ++ ys))))
theorem Vals.nil_iff {xs : List V} {us : List Value} (r : Vals xs us) : us = [] ↔ xs = [] := by
 cases r with
 | nil => simp
 | cons _ _ => simp
theorem zfz : OpR X (binaryOp .Add) (zhw X.K) := by
 intro pins s σ H x y v u Q I rx ry h
 obtain ⟨a, b, xs, ys, rfl, rfl, ha, hb, hx, hz, q1, q2⟩ := h
 cases rx
 cases ry
 obtain ⟨its, r1, p1, _⟩ := I.tuple ha
 obtain ⟨its2, r2, p2, _⟩ := I.tuple hb
 refine HT.cat_tup p1 p2 (fun z => hx (r1.nil_iff.mp z)) (fun z => ⟨.ref a, H, I, rfl, q1 (r2.nil_iff.mp z)⟩) (fun z => ?_) (by rw [<- r1.length, <- r2.length]; exact hz)
 refine ⟨.ref s.heap.objs.size, _, I.laid (t' := s.toks) (o := .tup (xs ++ ys)) (fun b ob q => Heap.get?_push_of_some _ q) (Nat.le_refl _) ?_, rfl, q2 (fun w => z (r2.nil_iff.mpr w)) _ (I.hok.fresh (Nat.le_refl _))⟩
 exact ⟨by rw [List.length_append]; exact hz, _, r1.append r2, IsTup.new _ _⟩
end
def ixN (n : Nat) (i : Int) : Option Nat := if 0 <= i then (if i < n then some i.toNat else none) else if -(n : Int) <= i then some (i + n).toNat else none
def atI {α : Type} (xs : List α) (i : Int) : Option α := (ixN xs.length i).bind fun j => xs[j]?
theorem z9U {n : Nat} {i : Int} {j : Nat} (h : ixN n i = some j) : seqIndex? i n = some j /\ j < n /\ -(n : Int) <= i /\ i < n := by
 unfold ixN at h
 by_cases h0 : 0 <= i
 ·rw [if_pos h0] at h
  by_cases h1 : i < n
  ·rw [if_pos h1] at h
   have e : i.toNat = j := Option.some.inj h
   exact ⟨by rw [seqIndex_of h0 h1, e], by omega, by omega, h1⟩
  ·rw [if_neg h1] at h; cases h
 ·rw [if_neg h0] at h
  by_cases h1 : -(n : Int) <= i
  ·rw [if_pos h1] at h
   have e : (i + n).toNat = j := Option.some.inj h
   exact ⟨by rw [seqIndex_neg (by omega) h1, e], by omega, h1, by omega⟩
  ·rw [if_neg h1] at h; cases h
theorem z80 {α : Type} {xs : List α} {i : Int} {v : α} (h : atI xs i = some v) : ∃ j, seqIndex? i xs.length = some j /\ xs[j]? = some v /\ j < xs.length /\ -(xs.length : Int) <= i /\ i < xs.length := by
 unfold atI at h
 cases e : ixN xs.length i with
 | none => rw [e] at h; cases h
 | some j =>
  rw [e] at h
  obtain ⟨h1, h2, h3, h4⟩ := z9U e
  exact ⟨j, h1, h, h2, h3, h4⟩
theorem atI_nat {α : Type} {xs : List α} {j : Nat} {v : α} (h : xs[j]? = some v) : atI xs (j : Int) = some v := by
 have hj : j < xs.length := (List.getElem?_eq_some_iff.mp h).1
 have e : ixN xs.length (j : Int) = some j := by
  unfold ixN
  rw [if_pos (by omega), if_pos (by omega)]; simp
 unfold atI; rw [e]; exact h
def za5 (b : Expr) : Prop := ∀ o i, subscripted b false o i = operate [o, i] (getItem o i)
def IxR (X : Cx) (r : R2) : Prop :=
 ∀ (value slice : Expr) (pins : List (Addr × Obj)) (s : Shared) (σ : St) (H : Hp) (x y : V) (v u : Value) (Q : VK), Inv X pins σ H s -> RelV x v -> RelV y u -> r x y H Q ->
  subscripted slice false v u = operate [v, u] (getItem v u) -> wpAny (model X.prog X.w) X.A (subscriptTail value slice v u) (EP X pins σ Q) X.xe s
def MtR (X : Cx) (id : String) (r : V -> List V -> Hp -> VK -> Prop) : Prop :=
 ∀ (pins : List (Addr × Obj)) (s : Shared) (σ : St) (H : Hp) (x : V) (xs : List V) (v : Value) (us : List Value) (Q : VK), Inv X pins σ H s -> RelV x v -> Vals xs us -> r x xs H Q ->
  wpAny (model X.prog X.w) X.A (call (.builtin id) (v :: us)) (EP X pins σ Q) X.xe s
section
variable {X : Cx} {a b : Expr} {ta tb : TE} {pos : Pos}
theorem IxR.or {r r' : R2} (h : IxR X r) (h' : IxR X r') : IxR X (fun x y H Q => r x y H Q \/ r' x y H Q) := by
 intro value slice pins s σ H x y v u Q I rx ry q hs
 rcases q with q | q
 ·exact h value slice pins s σ H x y v u Q I rx ry q hs
 ·exact h' value slice pins s σ H x y v u Q I rx ry q hs
theorem zic {r : R2} (hr : IxR X r) (ha : PE X a ta) (hb : PE X b tb) (hs : za5 b) : PE X (.Subscript a b pos) (tOp r ta tb) := by
 intro pins s σ H Q I h
 exact Subscript_ (zin ha hb I h fun v u s2 x y H2 I2 rx ry q => hr a b pins s2 σ H2 x y v u Q I2 rx ry q (hs _ _))
def zjd (K : PySem.W.Frag) : R2 := fun x y H Q => ∃ p xs i v, x = .ref p /\ y = .int i /\ SqL K H p xs /\ atI xs i = some v /\ Q v H
def zj4 (K : PySem.W.Frag) : R2 := fun x y H Q => ∃ p xs i v, x = .ref p /\ y = .int i /\ SqT K H p xs /\ atI xs i = some v /\ Q v H
def zjh : R2 := fun x y H Q => ∃ z i c, x = .str z /\ y = .int i /\ z.length <= sizeLine /\ atI z.cps.toList i = some c /\ Q (.str ⟨#[c]⟩) H
theorem ix_list : IxR X (zjd X.K) := by
 intro value slice pins s σ H x y v u Q I rx ry h hs
 obtain ⟨p, xs, i, z, rfl, rfl, hq, he, q⟩ := h
 cases rx
 obtain ⟨t, rfl⟩ := ry
 obtain ⟨its, r, pl, hz⟩ := I.list hq
 obtain ⟨j, h1, h2, h3, h4, h5⟩ := z80 he
 obtain ⟨w, ew, rw'⟩ := r.get h2
 have hl := r.length
 have hn := z5a
 have fin : EP X pins σ Q w s := ⟨z, H, I, rw', q⟩
 by_cases h0 : 0 <= i
 ·have hj : i.toNat = j := by
   rw [seqIndex_of h0 h5] at h1
   exact Option.some.inj h1
  exact item_listR pl.isList h0 (by omega) (by rw [hj]; simpa using ew) fin hs
 ·have hj : (i + (its.toArray.size : Int)).toNat = j := by
   rw [seqIndex_neg (by omega) h4] at h1
   rw [List.size_toArray, <- hl]
   exact Option.some.inj h1
  exact subscriptTail_builtinR (x := w) pl.isList.typeIs slot_list_getitem.lookup
   (wpAny_getItem_list_neg (Q := fun r s' => r = w /\ EP X pins σ Q r s') pl.isList (by omega) (by rw [List.size_toArray] <;> omega) (by omega) (by rw [hj]; simpa using ew) ⟨rfl, fin⟩) hs
theorem ix_tup : IxR X (zj4 X.K) := by
 intro value slice pins s σ H x y v u Q I rx ry h hs
 obtain ⟨p, xs, i, z, rfl, rfl, hq, he, q⟩ := h
 cases rx
 obtain ⟨t, rfl⟩ := ry
 obtain ⟨its, r, pl, hz⟩ := I.tuple hq
 obtain ⟨j, h1, h2, h3, h4, h5⟩ := z80 he
 obtain ⟨w, ew, rw'⟩ := r.get h2
 have hl := r.length
 have hn := z5a
 have fin : EP X pins σ Q w s := ⟨z, H, I, rw', q⟩
 exact subscriptTail_builtinR (x := w) pl.typeIs slot_tuple_getitem.lookup
  (getItem_tuple (j := j) (Q := fun r s' => r = w /\ EP X pins σ Q r s') pl (by omega) (by omega) (by rw [List.size_toArray, <- hl]; exact h1) (by simpa using ew) ⟨rfl, fin⟩) hs
theorem zgN : IxR X zjh := by
 intro value slice pins s σ H x y v u Q I rx ry h hs
 obtain ⟨z, i, c, rfl, rfl, hz, he, q⟩ := h
 obtain ⟨t, rfl⟩ := rx
 obtain ⟨t', rfl⟩ := ry
 obtain ⟨j, h1, h2, h3, h4, h5⟩ := z80 he
 have hl : z.cps.toList.length = z.length := by simp [Str.length]
 rw [hl] at h1 h4 h5
 have hn := z5a
 exact tail_any (typeIs_str s z t) slot_str_getitem.lookup (getItem_str (c := c) (by
  have e1 : decide (i < -(2 ^ 63 : Int)) = false := decide_eq_false (by omega)
  have e2 : decide (i ≥ 2 ^ 63) = false := decide_eq_false (by omega)
  rw [e1, e2, Bool.or_false]) (by rw [h1]; simpa using h2) ⟨.str ⟨#[c]⟩, H, I.tok _, ⟨_, rfl⟩, q⟩) hs
def rIx (K : PySem.W.Frag) : R2 := fun x y H Q => zjd K x y H Q \/ zj4 K x y H Q \/ zjh x y H Q
theorem zh6 : IxR X (rIx X.K) := ix_list.or (ix_tup.or zgN)
theorem z96 (its : List Value) (n j : Nat) (u : Value) : Obj.mapSeq (·.setIfInBounds j u) { cls := .type "list", data := .seq its.toArray n } = { cls := .type "list", data := .seq (its.set j u).toArray n } := by
 simp [Obj.mapSeq]
theorem Inv.lst {pins : List (Addr × Obj)} {σ : St} {H : Hp} {s : Shared} {p : Addr} {xs : List V} (I : Inv X pins σ H s) (h : H p = some (.lst xs)) :
  ∃ (its : List Value) (n : Nat), Vals xs its /\ s.heap.get? p = some { cls := .type "list", data := .seq its.toArray n } /\ xs.length <= sizeLine := by
 obtain ⟨z, its, n, r, e⟩ := I.hok p _ h
 exact ⟨its, n, r, e, z⟩
theorem Inv.lstUpd {pins : List (Addr × Obj)} {σ : St} {H : Hp} {s : Shared} {p : Addr} {xs ys : List V} {its its' : List Value} {n n' : Nat} {f : Obj -> Obj} (I : Inv X pins σ H s) (h : H p = some (.lst xs))
  (ho : s.heap.get? p = some { cls := .type "list", data := .seq its.toArray n }) (hf : f { cls := .type "list", data := .seq its.toArray n } = { cls := .type "list", data := .seq its'.toArray n' }) (r : Vals ys its') (hz : ys.length <= sizeLine) (t : Nat) :
  Inv X pins σ (upd H p (.lst ys)) { s with heap := s.heap.update p f, toks := t } := by
 have e : (s.heap.update p f).get? p = some { cls := .type "list", data := .seq its'.toArray n' } := by
  rw [Heap.get?_update_self f ho (by rw [hf] <;> rfl), hf]
 refine I.write (x := p) (e := p) (by rw [h]; trivial) (.inl rfl) (fun b u hb q => (Heap.get?_update_other _ _ (Ne.symm hb)).trans q) ⟨_, e⟩ ?_
 exact ⟨hz, its', n', r, e⟩
def zik : V -> V -> V -> Hp -> (Hp -> Prop) -> Prop := fun o i v H Q => ∃ p xs k j, o = .ref p /\ i = .int k /\ H p = some (.lst xs) /\ ixN xs.length k = some j /\ Q (upd H p (.lst (xs.set j v)))
theorem zcV : zj1 X zik := by
 intro pins s σ H o i v ov iv u Q I ro ri rv h
 obtain ⟨p, xs, k, j, rfl, rfl, hp, hj, q⟩ := h
 cases ro
 obtain ⟨t, rfl⟩ := ri
 obtain ⟨its, n, r, ho, hz⟩ := I.lst hp
 obtain ⟨h1, h2, h3, h4⟩ := z9U hj
 have hl := r.length
 have hn := z5a
 have I' : Inv X pins σ (upd H p (.lst (xs.set j v))) { s with heap := s.heap.update p (Obj.mapSeq (·.setIfInBounds j u)) } :=
  I.lstUpd hp ho (z96 its n j u) (r.set rv j) (by rw [List.length_set]; exact hz) s.toks
 by_cases h0 : 0 <= k
 ·have hk : k.toNat = j := by
   rw [seqIndex_of h0 h4] at h1
   exact Option.some.inj h1
  exact PySem.W.ki_setAt ho h0 (by omega) (by rw [List.size_toArray, <- hl]; exact h4) (by rw [hk]; exact ⟨_, I', q⟩)
 ·have hk : (k + (its.toArray.size : Int)).toNat = j := by
   rw [seqIndex_neg (by omega) h3] at h1
   rw [List.size_toArray, <- hl]
   exact Option.some.inj h1
  exact PySem.W.ki_setBack ho (by omega) (by rw [List.size_toArray, <- hl]; exact h3) (by omega) (by rw [hk]; exact ⟨_, I', q⟩)
theorem z6w (lo hi : Option Int) (n : Nat) : (sliceBounds lo hi none n).1 = ((HT.sIx n 0 lo : Nat) : Int) /\ (sliceBounds lo hi none n).2.1 = ((HT.sIx n n hi : Nat) : Int) /\ (sliceBounds lo hi none n).2.2 = 1 := by
 refine ⟨?_, ?_, rfl⟩
 ·cases lo with
  | none => simp [sliceBounds, HT.sIx]
  | some i =>
   simp only [sliceBounds, HT.sIx, Option.getD_none, show (1 : Int) > 0 by decide, if_true]
   by_cases h : i < 0
   ·simp only [h, if_true] <;> omega
   ·simp only [h, if_false] <;> omega
 ·cases hi with
  | none => simp [sliceBounds, HT.sIx]
  | some i =>
   simp only [sliceBounds, HT.sIx, Option.getD_none, show (1 : Int) > 0 by decide, if_true]
   by_cases h : i < 0
   ·simp only [h, if_true] <;> omega
   ·simp only [h, if_false] <;> omega
theorem z5U (its : List Value) (lo hi : Option Int) : slicePick its.toArray lo hi none = ((its.drop (HT.sIx its.length 0 lo)).take (HT.sIx its.length its.length hi - HT.sIx its.length 0 lo)).toArray := by
 obtain ⟨h1, h2, h3⟩ := z6w lo hi its.toArray.size
 unfold slicePick
 rw [h1, h2, h3]
 simp only [sliceRange_one, pick_run, List.size_toArray] <;> rfl
def ziY (K : PySem.W.Frag) : V -> Option Int -> Option Int -> Hp -> VK -> Prop := fun x lo hi H Q => ∃ a xs, x = .ref a /\ SqL K H a xs /\ ∀ p, H p = none -> Q (.ref p) (upd H p (.lst (zdd xs lo hi)))
theorem zbC : SlR X (ziY X.K) := by
 intro pins s σ H x v vl vu lo hi sl Q I rx hs pl pu h
 obtain ⟨a, xs, rfl, hx, q⟩ := h
 cases rx
 obtain ⟨its, r, ht, hz⟩ := I.list hx
 have hlen := r.length
 refine ⟨"list", _, slot_list_getitem.lookup, ht.isList.typeIs, ?_⟩
 refine wpAny_getItem_list_slice ht.isList hs pl pu .none (by simp) ?_ (by rw [List.size_toArray] <;> omega)
 rw [z5U, <- hlen]
 refine ⟨.ref s.heap.objs.size, _, I.laid (t' := s.toks) (o := .lst (zdd xs lo hi)) (fun b ob q => Heap.get?_push_of_some _ q) (Nat.le_refl _) ?_, rfl, q _ (I.hok.fresh (Nat.le_refl _))⟩
 exact ⟨Nat.le_trans (z4I xs lo hi) hz, _, 0, (r.drop (HT.sIx xs.length 0 lo)).take (HT.sIx xs.length xs.length hi - HT.sIx xs.length 0 lo), Heap.get?_push_size _ rfl⟩
theorem CallR.or {f : Value} {r r' : List V -> Hp -> VK -> Prop} (h : CallR X f r) (h' : CallR X f r') : CallR X f (fun xs H Q => r xs H Q \/ r' xs H Q) := by
 intro pins s σ H xs us Q I rs q
 rcases q with q | q
 ·exact h pins s σ H xs us Q I rs q
 ·exact h' pins s σ H xs us Q I rs q
theorem z6k : CallR X (.type "list") (fun xs H Q => ∃ p ys, xs = [.ref p] /\ (SqL X.K H p ys \/ SqT X.K H p ys) /\ ∀ l, H l = none -> Q (.ref l) (upd H l (.lst ys))) := by
 intro pins s σ H xs us Q I r h
 obtain ⟨p, ys, rfl, hq, q⟩ := h
 obtain ⟨u, rfl, rx⟩ := z3c r
 cases rx
 have fin : ∀ (its : List Value), Vals ys its -> ys.length <= sizeLine -> ∀ (h' : Heap) (c' : Nat), (∀ b o', s.heap.get? b = some o' -> h'.get? b = some o') ->
   h'.get? s.heap.objs.size = some { cls := .type "list", dict := none, data := .seq its.toArray c', slots := #[] } -> EP X pins σ Q (.ref s.heap.objs.size) { s with heap := h' } := fun its r' hz h' c' kp e =>
  ⟨.ref s.heap.objs.size, _, I.laid (t' := s.toks) kp (Nat.le_refl _) (show ObjOk X.prog X.w _ h' _ (.lst ys) from ⟨hz, its, c', r', e⟩), rfl, q _ (I.hok.fresh (Nat.le_refl _))⟩
 rcases hq with hq | hq
 ·obtain ⟨its, r', pl, hz⟩ := I.list hq
  have hlen := r'.length
  obtain ⟨o, ho, hc, n, hd⟩ := pl.isList
  exact call_list_seq p (.inl rfl) ho hc hd (fun h' c' kp e => fin its r' hz h' c' kp e) (by simp only [List.size_toArray] <;> omega)
 ·obtain ⟨its, r', pl, hz⟩ := I.tuple hq
  have hlen := r'.length
  obtain ⟨o, ho, hc, n, hd⟩ := pl
  exact call_list_seq p (.inr rfl) ho hc hd (fun h' c' kp e => fin its r' hz h' c' kp e) (by simp only [List.size_toArray] <;> omega)
theorem z60 : CallR X (.type "tuple") (fun xs H Q => ∃ p ys, xs = [.ref p] /\ ((SqL X.K H p ys /\ ∀ l, H l = none -> Q (.ref l) (upd H l (.tup ys))) \/ (SqT X.K H p ys /\ Q (.ref p) H))) := by
 intro pins s σ H xs us Q I r h
 obtain ⟨p, ys, rfl, h⟩ := h
 obtain ⟨u, rfl, rx⟩ := z3c r
 cases rx
 rcases h with ⟨hq, q⟩ | ⟨hq, q⟩
 ·obtain ⟨its, r', pl, hz⟩ := I.list hq
  have hlen := r'.length
  refine call_tuple_list pl.isList (fun h' kp => ?_) (by simp only [List.size_toArray] <;> omega)
  have I1 : Inv X pins σ H { s with heap := h' } := I.kept (t' := s.toks) kp
  have I2 : Inv X pins σ (upd H h'.objs.size (.tup ys)) { s with heap := h'.push { cls := .type "tuple", data := .seq its.toArray } } :=
   I1.laid (t' := s.toks) (fun b o e => Heap.get?_push_of_some _ e) (Nat.le_refl _) (show ObjOk X.prog X.w _ _ _ (.tup ys) from ⟨hz, its, r', IsTup.new _ _⟩)
  exact ⟨.ref h'.objs.size, _, I2, rfl, q _ (I1.hok.fresh (Nat.le_refl _))⟩
 ·obtain ⟨its, r', pl, hz⟩ := I.tuple hq
  exact call_tuple_same pl ⟨.ref p, H, I, rfl, q⟩
def tyV (K : PySem.W.Frag) (T : String) (x : V) (H : Hp) : Prop := match x with
 | .str _ => T = "str"
 | .int _ => T = "int"
 | .ref p => (T = "list" /\ ∃ xs, SqL K H p xs) \/ (T = "tuple" /\ ∃ o, K.lookup p = some o /\ o.cls = .type "tuple" /\ o.dict = none) \/
   (T = "dict" /\ ((∃ kvs, H p = some (.dK kvs)) \/ ∃ kvs, H p = some (.dT kvs))) \/ (T = "set" /\ ∃ S n, H p = some (.set S n))
 | _ => False
theorem zg4 {pins : List (Addr × Obj)} {σ : St} {H : Hp} {s : Shared} {T : String} {x : V} {v : Value} (I : Inv X pins σ H s) (r : RelV x v) (ty : tyV X.K T x H) :
  s.TypeIs v T /\ ∀ a, v = .ref a -> ∃ ob, s.heap.get? a = some ob /\ ob.dict = none := by
 cases x with
 | str z =>
  obtain ⟨t, rfl⟩ := r
  cases (show T = "str" from ty)
  exact ⟨typeIs_str s z t, fun _ e => nomatch e⟩
 | int i =>
  obtain ⟨t, rfl⟩ := r
  cases (show T = "int" from ty)
  exact ⟨typeIs_int s i t, fun _ e => nomatch e⟩
 | ref p =>
  cases r
  rcases ty with ⟨rfl, xs, hq⟩ | ⟨rfl, o, hk, hc, hd⟩ | ⟨rfl, hk⟩ | ⟨rfl, S, n, hk⟩
  ·obtain ⟨its, _, pl, _⟩ := I.list hq
   refine ⟨pl.isList.typeIs, fun a e => ?_⟩
   cases e
   obtain ⟨o, n, e, c, hd, _⟩ := pl
   exact ⟨o, e, hd⟩
  ·refine ⟨⟨o, I.kIn p o hk, hc⟩, fun a e => ?_⟩
   cases e
   exact ⟨o, I.kIn _ o hk, hd⟩
  ·have z : ∃ o, s.heap.get? p = some o /\ o.ExactDict := by
    rcases hk with ⟨kvs, hk⟩ | ⟨kvs, hk⟩
    ·obtain ⟨_, _, _, _, o, _, _, e, ex, _⟩ := I.hok p _ hk
     exact ⟨o, e, ex⟩
    ·obtain ⟨_, _, _, _, o, _, _, e, ex, _⟩ := I.hok p _ hk
     exact ⟨o, e, ex⟩
   obtain ⟨o, e, ex⟩ := z
   refine ⟨⟨o, e, ex.1⟩, fun a e2 => ?_⟩
   cases e2
   exact ⟨o, e, ex.2.1⟩
  ·obtain ⟨o, _, _, _, e, ex, _⟩ := I.hok p _ hk
   refine ⟨⟨o, e, ex.1⟩, fun a e2 => ?_⟩
   cases e2
   exact ⟨o, e, ex.2.1⟩
 | _ => exact False.elim ty
def tBM (K : PySem.W.Frag) (T : String) (r : V -> List V -> Hp -> VK -> Prop) (to : TE) (t : TA) : TE := fun σ H Q => to σ H fun x H1 => tyV K T x H1 /\ t σ H1 fun xs H2 => r x xs H2 Q
variable {o e : Expr} {es : List Expr} {to : TE} {t : TA} {name : Str} {apos cpos : Pos} {T id : String} {r : V -> List V -> Hp -> VK -> Prop}
theorem zcs (pa : PlainAttrs T) (slot : Slot T name id) (hty : typeOf (.builtin id) = pure (.type "method_descriptor")) (hm : MtR X id r) (ho : PE X o to) (ha : PA X (e :: es) t)
  (hbase : attributeBase o name X.env (eval o X.env) = eval o X.env := by rfl)
  (hfew : ((backTo cpos (starEach (e :: es) X.env)).all (fun x => !x.1) && (backToKw cpos (keywordEach [] X.env)).all (fun x => x.1.isSome)
   && decide ((e :: es).length + ([] : List Keyword).length + (if ([] : List Keyword).isEmpty then 0 else 1) < 30)) = true := by rfl)
  (hline : (apos.endLine == cpos.line) = true := by rfl) (hs : starEach (e :: es) X.env = (false, eval e X.env) :: starEach es X.env := by rfl) (hplain : (backTo cpos (starEach es X.env)).any (·.1) = false := by rfl) :
  PE X (.Call (.Attribute o name apos) (e :: es) [] cpos) (tBM X.K T r to t) := by
 intro pins s σ H Q I h
 refine wpAny_Call_method_late hbase hfew hline rfl (thn (ho pins s σ H _ I h) fun v s1 ⟨x, H1, I1, r1, ty, q1⟩ => ?_)
 obtain ⟨h1, h2⟩ := zg4 I1 r1 ty
 refine ⟨T, id, pa, slot, hty, h1, h2, ?_⟩
 have hA := ha cpos pins s1 σ H1 _ I1 q1
 rw [hs] at hA ⊢
 refine Calls.callWith_builtin (by show (false || (backTo cpos (starEach es X.env)).any (·.1)) = false; rw [hplain] <;> rfl) (Calls.evalArgs_plain ?_)
 exact thn hA fun us s2 ⟨vs, H2, I2, r2, q2⟩ => hm pins s2 σ H2 x vs v us Q I2 r1 r2 q2
end
def MtM (X : Cx) (id : String) (r : V -> List V -> Hp -> VK -> Prop) : Prop :=
 ∀ (pins : List (Addr × Obj)) (s : Shared) (σ : St) (H : Hp) (x : V) (xs : List V) (v : Value) (us : List Value) (Q : VK), Inv X pins σ H s -> RelV x v -> Vals xs us -> r x xs H Q ->
  wpAny (model X.prog X.w) X.A (call (.builtin id) (v :: us)) (EP X pins σ Q) X.xe s
theorem Vals.one : ∀ {x : V} {us : List Value}, Vals [x] us -> ∃ u, us = [u] /\ RelV x u
 | _, _, .cons r .nil => ⟨_, rfl, r⟩
theorem Vals.eraseIdx : ∀ {xs : List V} {us : List Value} (i : Nat), Vals xs us -> Vals (xs.eraseIdx i) (us.eraseIdx i)
 | _, _, _, .nil => .nil
 | _, _, 0, .cons _ t => t
 | _, _, i + 1, .cons r t => .cons r (Vals.eraseIdx i t)
theorem z7a {α : Type} : ∀ (l : List α) (i : Nat), (l.eraseIdx i).length <= l.length
 | [], _ => Nat.le_refl _
 | _ :: _, 0 => Nat.le_succ _
 | _ :: r, i + 1 => Nat.succ_le_succ (z7a r i)
section
variable {X : Cx} {pins : List (Addr × Obj)} {σ : St} {H : Hp} {s : Shared} {l : Addr} {xs ys : List V}
theorem Inv.lset {its its' : List Value} {n : Nat} {f : Array Value -> Array Value} {t' : Nat} (I : Inv X pins σ H s) (hH : H l = some (.lst xs))
  (e : s.heap.get? l = some { cls := .type "list", data := .seq its.toArray n }) (hf : f its.toArray = its'.toArray) (hv : Vals ys its') (hz : ys.length <= sizeLine) :
  Inv X pins σ (upd H l (.lst ys)) { s with heap := s.heap.update l (Obj.mapSeq f), toks := t' } := by
 have q := PySem.IsL.update e f
 rw [hf] at q
 refine I.write (x := l) (e := l) (by rw [hH]; exact trivial) (.inl rfl) (fun b' u hb hu => (Heap.get?_update_other s.heap (Obj.mapSeq f) (Ne.symm hb)).trans hu) ⟨_, q⟩ ?_
 exact ⟨hz, its', _, hv, q⟩
theorem Inv.lnew {its : List Value} {t' : Nat} (I : Inv X pins σ H s) (hv : Vals ys its) (hz : ys.length <= sizeLine) :
  Inv X pins σ (upd H s.heap.objs.size (.lst ys)) { s with heap := s.heap.push { cls := .type "list", data := .seq its.toArray }, toks := t' } :=
 I.laid (fun _ _ q => Heap.get?_push_of_some _ q) (Nat.le_refl _) ⟨hz, its, 0, hv, Heap.get?_push_size _ rfl⟩
theorem Inv.fresh (I : Inv X pins σ H s) : H s.heap.objs.size = none := I.hok.fresh (Nat.le_refl _)
theorem Inv.lstM (I : Inv X pins σ H s) (hH : H l = some (.lst xs)) : xs.length <= sizeLine /\ ∃ (its : List Value) (n : Nat), Vals xs its /\ xs.length = its.length /\ s.heap.get? l = some { cls := .type "list", data := .seq its.toArray n } := by
 obtain ⟨z, its, n, r, e⟩ := I.hok l _ hH
 exact ⟨z, its, n, r, r.length, e⟩
theorem zbY {n : Nat} (h : n <= sizeLine) : Builtin.List.listTooLong n = false := by
 unfold Builtin.List.listTooLong
 exact decide_eq_false (by omega)
end
section
variable {X : Cx}
def zeT : V -> List V -> Hp -> VK -> Prop := fun x vs H Q => ∃ l xs y, x = .ref l /\ vs = [y] /\ H l = some (.lst xs) /\ xs.length < sizeLine /\ Q .non (upd H l (.lst (xs ++ [y])))
theorem z6X : MtM X "list.append" zeT := by
 intro pins s σ H x vs v us Q I rx rv h
 obtain ⟨l, xs, y, rfl, rfl, hH, hz, q⟩ := h
 cases rx
 obtain ⟨u, rfl, ru⟩ := rv.one
 obtain ⟨z, its, n, r, hl, e⟩ := I.lstM hH
 refine call_meets F.slot_list_append ⟨_, e, rfl⟩ F.entry_list_append (F.args_list_append_2 _ _) (PySem.list_append l its.toArray n u (by rw [List.size_toArray]; omega)) ⟨e, ?_⟩
 refine ⟨.non, _, I.lset (its' := its ++ [u]) hH e (by simp) (r.append (.cons ru .nil)) ?_, rfl, q⟩
 rw [List.length_append, List.length_singleton]
 omega
def zhp : V -> List V -> Hp -> VK -> Prop := fun x vs H Q => ∃ l xs i k y, x = .ref l /\ vs = [.int i] /\ H l = some (.lst xs) /\ -(2 ^ 63) <= i /\ i < 2 ^ 63 /\ seqIndex? i xs.length = some k /\ xs[k]? = some y /\ Q y (upd H l (.lst (xs.eraseIdx k)))
theorem zcy : MtM X "list.pop" zhp := by
 intro pins s σ H x vs v us Q I rx rv h
 obtain ⟨l, xs, i, k, y, rfl, rfl, hH, h1, h2, hk, hy, q⟩ := h
 cases rx
 obtain ⟨u, rfl, ru⟩ := rv.one
 obtain ⟨t, rfl⟩ := ru
 obtain ⟨z, its, n, r, hl, e⟩ := I.lstM hH
 obtain ⟨w, hw, rw'⟩ := r.get hy
 refine call_meets F.slot_list_pop ⟨_, e, rfl⟩ F.entry_list_pop (F.args_list_pop_2 _ _)
  (MeetsSeq.list_pop_at l its.toArray n i t k w (fitsIndex_both h1 h2) (by rw [List.size_toArray, <- hl]; exact hk) (by rw [<- Array.getElem?_toList]; exact hw) (by rw [List.size_toArray]; omega)) ⟨e, ?_⟩
 refine ⟨y, _, I.lset (its' := its.eraseIdx k) hH e ?_ (r.eraseIdx k) ?_, rw', q⟩
 ·show its.toArray.eraseIdxIfInBounds k = (its.eraseIdx k).toArray
  rw [List.eraseIdxIfInBounds_toArray]
 ·have := z7a xs k
  omega
end
section
end
end L2
namespace Att
open PySem PySem.W PySem.Calls PyProof.Rows
theorem z4w {P : Params} {h : Heap} : ∀ (ns : List Int) (vs : List Value), WellAll P h vs (ns.map WData.int) -> IntsAre vs ns := by
 intro ns
 induction ns with
 | nil =>
  intro vs w
  rw [List.map_nil] at w
  cases w
  exact .nil
 | cons n ns ih =>
  intro vs w
  rw [List.map_cons] at w
  cases w with
  | cons a b =>
   cases a
   exact .cons _ _ (ih _ b)
theorem zb8 {l : OpenLaw} {n : Nat} (hn : l.most = some n) {P : Params} {h : Heap} {args : List WData} {vals : List Value}
  (hpre : l.row.toRowW.claim.pre args = true) (hwl : WellAll P h vals args) :
  ∃ a vs ns, vals = [Value.ref a] /\ args = [WData.list (ns.map WData.int)] /\ h.get? a = some { cls := .type "list", data := .seq vs.toArray } /\ IntsAre vs ns /\ ns.length <= n := by
 have hsh : WShape.hasAll [] args [.list .int] = true := (pre_splitW hpre).1
 have hc : l.pre.holds [] { args := args } = true := (pre_splitW hpre).2
 obtain ⟨d, r, rfl, h1, h2⟩ := hasAllW_cons hsh
 obtain rfl := hasAllW_nil h2
 obtain ⟨xs, rfl, h3⟩ := hasW_list h1
 obtain ⟨ns, rfl⟩ := items_int h3
 have hlen : ns.length <= n := by
  unfold OpenLaw.pre at hc
  have h4 : (WTm.not (.lt (.lit (.int (n : Int))) (.len (.arg 0)))).holds [] { args := [.list (ns.map .int)] } = true := by
   have h4 := (holds_andW hc).1
   rw [hn] at h4
   exact h4
  have h5 := condW_of h4 (w_not (w_lt w_lit (w_len_list (w_arg rfl))))
  rw [List.length_map] at h5
  refine Nat.le_of_not_lt fun q => ?_
  have q' : (n : Int) < ((ns.length : Nat) : Int) := by omega
  first
   | (rw [decide_eq_true q'] at h5; exact absurd h5 (by decide))
   | (simp at h5; omega)
 cases hwl with
 | cons w1 w2 =>
  cases w2
  cases w1 with
  | list ho hall => exact ⟨_, _, ns, rfl, rfl, ho, z4w ns _ hall, hlen⟩
theorem zbw (l : OpenLaw) (args : List WData) : l.row.toRowW.claim.post args (.bool true) args = true :=
 postW_of (r := l.row.toRowW) (X := (true == true))
  (show WShape.has [] (.bool true) .bool = true by first | rfl | decide | simp [WShape.has, WShape.arms, WShape.armsAll])
  (show (WTm.eq .res (.lit (.bool true))).value [] { args := args, res := some (.bool true), after := args } = some (.bool (true == true)) from w_eq_bool (w_res rfl) w_lit) rfl
theorem attach_call {l : OpenLaw} {n : Nat} {q : Program} {loose : List Str} {XP : (Str -> Option Value) -> Heap -> Prop} {YP : World -> Heap -> Prop} {d : DefRec}
  (hn : l.most = some n) (hdf : d.params.defaults = [])
  (call : ∀ (w : World) (s₀ s₁ : Shared) (mg mb : Str -> Option Value) (fa : Addr) (o : Obj) (pm cd doc : Value) (a : Addr) (vs : List Value) (ns : List Int),
   Ground q loose [] XP w s₀ mg mb s₁.heap -> YP w s₁.heap ->
   s₁.heap.get? fa = some o -> o.data = .func (docDef d.name d.params d.body d.scope pm cd doc) -> s₁.heap.CodeRec cd d.name -> mg d.name = some (.ref fa) ->
   s₁.heap.get? a = some { cls := .type "list", data := .seq vs.toArray } -> IntsAre vs ns -> ns.length <= n -> s₁.gens = #[] ->
   codeAny (model l.prog w) callerA (.call (.ref fa) ⟨[.ref a], []⟩) (fun r s' => r = .ok (.ret (.bool true)) /\ OldK s₁.heap s'.heap /\ s'.os = s₁.os /\ AllBare s'.gens) s₁) :
  WalkO q loose XP YP l.row.toRowW d [] (fun f vs => PySem.call f vs) := by
 intro w s₀ s₁ mg mb G Y fa o pm cd doc dV kV ho hd hcd hD hmg hg args vals as hpre hlay hrd hwl hlo
 obtain rfl : dV = .none := Dflts.none hD hdf
 obtain rfl : kV = .none := Dflts.noKw hD
 obtain ⟨a, vs, ns, rfl, rfl, hobj, hints, hlen⟩ := zb8 hn hpre hwl
 refine enter_call (codeAny_mono (call w s₀ s₁ mg mb fa o pm cd doc a vs ns G Y ho (fd_plain hd) hcd hmg hobj hints hlen hg) fun r s' hq => ?_)
 obtain ⟨rfl, h2, h3, h4⟩ := hq
 exact ⟨.inl ⟨.bool true, .bool true, [], rfl, fun _ => rfl, .bool true, zbw l _, fun _ => ⟨List.Pairwise.nil, fun _ hm => (nomatch hm)⟩⟩, h2, h3, h4⟩
section
end
end Att
namespace L2
open PySem PySem.Spec PyProof.Rows
theorem z6B : ∀ {vs : List Value} {ns : List Int}, IntsAre vs ns -> Vals (ns.map V.int) vs
 | _, _, .nil => .nil
 | _, _, .cons n t h => .cons ⟨t, rfl⟩ (z6B h)
def zi5 (H : Hp) : Prop := ∀ b, H b = none \/ ∃ o xs, H b = some (.frz o (.lst xs))
theorem zd7 {P : Program} {w : World} {K : PySem.W.Frag} {mg mb : Str -> Option Value} {CX : CXT} {k : Nat} {fa a : Addr} {fd : FuncData} {x : Str} {sp : Sp} {s₁ : Shared} {vs : List Value} {ns : List Int}
  (KX : K.In s₁.heap) (hns : s₁.heap.Ns mainGlobals mg) (hb : s₁.heap.Ns builtinsNs mb) (hbb : ∀ x : Str, x ≠ "__name__" -> mb x = bootBuiltins x) (hlim : s₁.heap.NoLimit) (hg : s₁.gens = #[])
  (ha : s₁.heap.get? a = some { cls := .type "list", data := .seq vs.toArray }) (hi : IntsAre vs ns) (hl : ns.length <= sizeLine) (hr : Room k callerA)
  (F : ∀ base : Heap, K.In base -> base.Ns mainGlobals mg -> FnOk P w K mg base CX k fa fd [x] sp) (hbind : ∀ (s : Shared) (u : Value), BindsTo s fd ⟨[u], []⟩ [(x, u)])
  (hsp : ∀ H : Hp, zi5 H -> SqL K H a (ns.map V.int) -> sp [.ref a] H (fun v _ => v = .bl true) fun _ _ _ => False)
  (hCX : ∀ H e s', CX [] H s₁ (fun _ _ _ => False) e s' -> False) :
  codeAny (model P w) callerA (.call (.ref fa) ⟨[.ref a], []⟩) (fun r s' => r = .ok (.ret (.bool true)) /\ OldK s₁.heap s'.heap /\ s'.os = s₁.os /\ AllBare s'.gens) s₁ := by
 have rv := z6B hi
 have lenV := hi.length
 -- from an abstract heap in which nothing but the script may be tracked
 have core : ∀ H : Hp, zi5 H -> SqL K H a (ns.map V.int) -> HOk P w H s₁.heap -> (∀ b, H b ≠ none -> b = a) -> (H a ≠ none -> K.lookup a = none) ->
   codeAny (model P w) callerA (.call (.ref fa) ⟨[.ref a], []⟩) (fun r s' => r = .ok (.ret (.bool true)) /\ OldK s₁.heap s'.heap /\ s'.os = s₁.os /\ AllBare s'.gens) s₁ := by
  intro H hO hS hok hA hK
  have base_of : ∀ {b : Addr} {o : Obj}, s₁.heap.get? b = some o -> H b = none -> (zbH s₁.heap H).get? b = some o := fun e n => zcj e n
  have noA : ∀ {b : Addr} {o : Obj} {es : Array DictEntry} {ep : Nat}, s₁.heap.get? b = some o -> o.data = .dict es ep -> H b = none := fun {b o es ep} e d => by
   cases q : H b with
   | none => rfl
   | some u =>
    have e' : b = a := hA b (by rw [q]; simp)
    subst e'
    rw [ha] at e; cases e
    have d' : Data.seq vs.toArray _ = Data.dict es ep := d
    cases d'
  have nsK : ∀ {b : Addr} {m : Str -> Option Value}, s₁.heap.Ns b m -> (zbH s₁.heap H).Ns b m := fun {b m} ⟨o, es, ep, e, d, r⟩ => ⟨o, es, ep, base_of e (noA e d), d, r⟩
  have hKb : K.In (zbH s₁.heap H) := fun b o e => base_of (KX b o e) (by
   cases q : H b with
   | none => rfl
   | some u =>
    have e' : b = a := hA b (by rw [q]; simp)
    subst e'
    rw [hK (by rw [q]; simp)] at e; cases e)
  have hM : Mod K mg (zbH s₁.heap H) := ⟨hKb, nsK hns, ⟨mb, nsK hb, hbb⟩, let ⟨mc, h1, h2⟩ := hlim; ⟨mc, nsK h1, h2⟩⟩
  have e0 : zi1 P w K mg (zbH s₁.heap H) callerA [] s₁ H := ⟨rfl, hM, fun b o e => zeJ e, Nat.le_of_eq (za0 _ _), trivial, fun b hb => absurd (show b ∈ ([] : List Addr) from hb) (by simp), hok, .of_eq hg⟩
  refine codeAny_mono ((F _ hKb (nsK hns)).run callerA [] s₁ H ⟨[.ref a], []⟩ [.ref a] [.ref a] _ _ hr e0 (hbind s₁ (.ref a)) (.cons rfl .nil) (hsp H hO hS)) fun r s' h => ?_
  cases r with
  | error e => exact (hCX H e s' h).elim
  | ok fl =>
   cases fl with
   | next => exact False.elim h
   | brk => exact False.elim h
   | cont => exact False.elim h
   | ret u =>
    obtain ⟨v, H', os, bare, un, hok', r', q⟩ := h
    have q' : v = .bl true := q
    subst q'
    obtain rfl : u = Value.bool true := r'
    refine ⟨rfl, OldK.of_keep fun b o e => ?_, os, bare⟩
    cases q : H b with
    | none => exact un.keep b o e q (by intro z; exact absurd (show b ∈ ([] : List Addr) from z) (by simp)) (by simp)
    | some u =>
     rcases hO b with z | ⟨ob, xs, z⟩
     ·rw [q] at z; cases z
     ·have z2 := un.frzs b ob _ z
      obtain ⟨e1, _⟩ := hok b _ z
      obtain ⟨e2, _⟩ := hok' b _ z2
      rw [e] at e1; cases e1
      exact e2
 cases hk : K.lookup a with
 | some o =>
  -- the script is one of the module's own objects
  have e := KX a o hk
  rw [ha] at e
  cases e
  refine core (fun _ => none) (fun _ => .inl rfl) (.inr ⟨_, vs.toArray, _, hk, rfl, rfl, rfl, by rw [List.size_toArray, lenV]; exact hl, by simpa using rv⟩) (fun b u z => by have z' : (none : Option HO) = some u := z; cases z') (fun b z => absurd rfl z) fun z => absurd rfl z
 | none =>
  refine core (fun b => if b = a then some (.frz { cls := .type "list", data := .seq vs.toArray } (.lst (ns.map V.int))) else none) (fun b => ?_) (.inl (.inr ⟨{ cls := .type "list", data := .seq vs.toArray }, if_pos rfl⟩)) (fun b u z => ?_) (fun b z => ?_) fun _ => hk
  ·by_cases hb : b = a
   ·exact .inr ⟨_, _, if_pos hb⟩
   ·exact .inl (if_neg hb)
  ·by_cases hb : b = a
   ·have z' := (if_pos hb).symm.trans z
    cases z'
    subst hb
    exact ⟨ha, by rw [List.length_map]; exact hl, vs, _, rv, ha⟩
   ·have z' := (if_neg hb).symm.trans z
    cases z'
  ·by_cases hb : b = a
   ·exact hb
   ·exact absurd (if_neg hb) z
theorem walk_of {l : PySem.W.OpenLaw} {n k : Nat} {q : Program} {loose : List Str} {XP : (Str -> Option Value) -> Heap -> Prop} {YP : World -> Heap -> Prop} {d : DefRec} {K : Params -> PySem.W.Frag} {CX : World -> CXT} {sp : World -> Sp} {x : Str}
  (hn : l.most = some n) (hn2 : n <= sizeLine) (hdf : d.params.defaults = []) (hr : Room k callerA)
  (hY : ∀ (w : World) (h : Heap), YP w h -> (K w.params).In h)
  (F : ∀ (w : World) (mg : Str -> Option Value) (fa : Addr) (h : Heap), (K w.params).In h -> h.Ns mainGlobals mg -> mg d.name = some (.ref fa) ->
   ∃ fd : FuncData, (∀ (s : Shared) (u : Value), BindsTo s fd ⟨[u], []⟩ [(x, u)]) /\
    ∀ base : Heap, (K w.params).In base -> base.Ns mainGlobals mg -> FnOk l.prog w (K w.params) mg base (CX w) k fa fd [x] (sp w))
  (hsp : ∀ (w : World) (H : Hp) (a : Addr) (ns : List Int), ns.length <= n -> zi5 H -> SqL (K w.params) H a (ns.map V.int) -> sp w [.ref a] H (fun v _ => v = .bl true) fun _ _ _ => False)
  (hCX : ∀ (w : World) (H : Hp) (s : Shared) (e : Value) (s' : Shared), CX w [] H s (fun _ _ _ => False) e s' -> False) :
  PySem.W.WalkO q loose XP YP l.row.toRowW d [] (fun f vs => PySem.call f vs) := by
 refine Att.attach_call hn hdf fun w s₀ s₁ mg mb fa o pm cd doc a vs ns G Y ho hd hcd hmg hobj hints hlen hg => ?_
 have KX := hY w _ Y
 obtain ⟨fd, hb, hF⟩ := F w mg fa _ KX G.T.g hmg
 exact zd7 KX G.T.g G.T.b G.T.builtins G.T.nolimit hg hobj hints (Nat.le_trans hlen hn2) hr hF hb (fun H hO hS => hsp w H a ns hlen hO hS) fun H e s' => hCX w H s₁ e s'
def z2v (s : Stmt) : Arguments := match s with
 | .FunctionDef _ a _ _ _ _ _ _ _ _ => a
 | _ => { posonlyargs := [], args := [], vararg := none, kwonlyargs := [], kw_defaults := [], kwarg := none, defaults := [] }
def z1G (s : Stmt) : List Stmt := match s with
 | .FunctionDef _ _ b _ _ _ _ _ _ _ => b
 | _ => []
def z02 (s : Stmt) : Scope := match s with
 | .FunctionDef _ _ _ _ _ _ sc _ _ _ => sc
 | _ => { kind := .function, names := [], isGenerator := false, isCoroutine := false }
abbrev CX0 : CXT := fun _ _ _ _ _ _ => False
abbrev E0 : XK := fun _ _ _ => False
theorem zi9 {X : Cx} : z8S CX0 X E0 := fun _ _ _ _ _ _ _ h => h.elim
structure Fun (K : PySem.W.Frag) (x qual : Str) (st : Stmt) (f : Addr) (fd : FuncData) : Prop where
 ex : ∃ (oc : Value) (od : Option Addr) (kV doc pm : Value) (an : Option Addr) (cdv ct : Value) (osl : Array (Option Value)),
  fd = PySem.W.fnOf x qual (z2v st) (z1G st) (z02 st) .none kV doc pm an cdv ct /\ K.lookup f = some ⟨oc, od, .func fd, osl⟩ /\ PySem.W.codeIn K cdv qual = true
 kp : PySem.W.keepIn K (.ref f) = true
section
variable {P : Program} {w : World} {K : PySem.W.Frag} {mg : Str -> Option Value} {base : Heap}
theorem Fun.ok {x qual : Str} {st : Stmt} {f : Addr} {fd : FuncData} {N ps : List Str} {k : Nat} {sp : Sp} (F : Fun K x qual st f fd) (S : z0a N ps (z02 st)) (len : ∀ vs H Q E, sp vs H Q E -> vs.length = ps.length)
  (hbody : ∀ (cdv : Value) (A : Around) (outer : List Env) (s : Shared) (H : Hp) (vs : List V) (Q : VK) (E : XK), Room k (A.deeper (envOfC qual (z02 st) s.heap.objs.size f cdv)) -> sp vs H Q E ->
   ∃ t, PSs (zfD CX0 P w K mg base N qual (z02 st) f cdv A outer s H E).nox (z1G st) t /\ t { nx := fun _ H' => Q .non H', rt := Q } (start N vs) H) : FnOk P w K mg base CX0 (k + 1) f fd ps sp := by
 obtain ⟨oc, od, kV, doc, pm, an, cdv, ct, osl, rfl, lk, hcd⟩ := F.ex
 refine z0l lk hcd S len fun A outer s H vs Q E hr hsp => ?_
 obtain ⟨t, h, q⟩ := hbody cdv A outer s H vs Q E hr hsp
 exact ⟨t, h.nox, q⟩
theorem Fun.binds {x qual : Str} {st : Stmt} {f : Addr} {fd : FuncData} {ps : List Str} (F : Fun K x qual st f fd)
  (h : ∀ (kV doc pm : Value) (an : Option Addr) (cdv ct : Value) (us : List Value), us.length = ps.length -> bindArgs (PySem.W.fnOf x qual (z2v st) (z1G st) (z02 st) .none kV doc pm an cdv ct) ⟨us, []⟩ = pure (ps.zip us)) : Binds K fd ps [] := by
 obtain ⟨oc, od, kV, doc, pm, an, cdv, ct, osl, rfl, lk, hcd⟩ := F.ex
 exact .all (h kV doc pm an cdv ct)
theorem zdb {x qual : Str} {st : Stmt} {f : Addr} {oc : Value} {od an : Option Addr} {osl : Array (Option Value)} {kV doc pm cdv ct : Value} (l : K.lookup f = some ⟨oc, od, .func (PySem.W.fnOf x qual (z2v st) (z1G st) (z02 st) .none kV doc pm an cdv ct), osl⟩)
  (c : PySem.W.codeIn K cdv qual = true) (k : PySem.W.keepIn K (.ref f) = true) : Fun K x qual st f (PySem.W.fnOf x qual (z2v st) (z1G st) (z02 st) .none kV doc pm an cdv ct) := ⟨⟨oc, od, kV, doc, pm, an, cdv, ct, osl, rfl, l, c⟩, k⟩
end
theorem ziB {A : Around} {k : Nat} (hr : Room k A) : A.units + 1 < cLine := Nat.lt_of_le_of_lt (Nat.add_le_add_left (by decide : 1 <= 64) _) hr.units
section
variable {X : Cx}
theorem pv (i : Nat) {x : Str} {pos : Pos} (hN : X.N[i]? = some x := by rfl) (hv : Vis X.env.scope x := by first | exact Or.inl rfl | exact Or.inr (Or.inl rfl) | exact Or.inr (Or.inr rfl)) (hd : (x == ("__debug__" : Str)) = false := by decide)
  (hcd : (x == ("__classdict__" : Str)) = false := by decide) : PE X (.Name x pos) (ziZ i) := zdB hN hv hd hcd
end
def Same (H H' : Hp) : Prop := ∀ b o, H b = some o -> H' b = some o
theorem Same.refl (H : Hp) : Same H H := fun _ _ h => h
theorem Same.trans {H H1 H2 : Hp} (a : Same H H1) (b : Same H1 H2) : Same H H2 := fun c o h => b c o (a c o h)
theorem Same.free {H H' : Hp} (e : Same H H') {l : Addr} (h : H' l = Option.none) : H l = Option.none := by
 cases q : H l with
 | none => rfl
 | some o =>
  rw [e l o q] at h
  cases h
section
variable {κ : Type} [DecidableEq κ]
def z9W (kvs : List (κ × V)) (k : κ) : Option V := (kvs.find? fun kv => decide (kv.1 = k)).map (·.2)
def zdj (kvs : List (κ × V)) (k : κ) (v : V) : List (κ × V) :=
 if (kvs.any fun kv => decide (kv.1 = k)) = true then kvs.map (fun kv => if kv.1 = k then (kv.1, v) else kv) else kvs ++ [(k, v)]
theorem z8G {p : κ × V} {r : List (κ × V)} {k : κ} (e : p.1 = k) : z9W (p :: r) k = some p.2 := by simp [z9W, List.find?_cons, e]
theorem z8v {p : κ × V} {r : List (κ × V)} {k : κ} (e : ¬ p.1 = k) : z9W (p :: r) k = z9W r k := by simp [z9W, List.find?_cons, e]
theorem z7Y (kvs : List (κ × V)) (k : κ) (v : V) : (zdj kvs k v).length <= kvs.length + 1 := by
 unfold zdj
 split
 ·rw [List.length_map]; omega
 ·rw [List.length_append, List.length_cons, List.length_nil]; omega
theorem KV.val {kvs : List (κ × V)} {vs : List (κ × Value)} (r : KV kvs vs) (k : κ) : RelO (z9W kvs k) (valueAt vs k) := by
 unfold KV at r
 induction r with
 | nil => exact True.intro
 | @cons p q ps qs h t ih =>
  obtain ⟨h1, h2⟩ := h
  by_cases e : p.1 = k
  ·have e' : q.1 = k := h1.symm.trans e
   have b : valueAt (q :: qs) k = some q.2 := by simp [valueAt, List.find?_cons, e']
   rw [z8G e, b]; exact h2
  ·have e' : ¬ q.1 = k := fun z => e (h1.trans z)
   have b : valueAt (q :: qs) k = valueAt qs k := by simp [valueAt, List.find?_cons, e']
   rw [z8v e, b]; exact ih
theorem KV.any {kvs : List (κ × V)} {vs : List (κ × Value)} (r : KV kvs vs) (k : κ) : (kvs.any fun kv => decide (kv.1 = k)) = vs.any fun kv => decide (kv.1 = k) := by
 unfold KV at r
 induction r with
 | nil => rfl
 | cons h t ih => rw [List.any_cons, List.any_cons, ih, h.1]
theorem KV.repl {kvs : List (κ × V)} {vs : List (κ × Value)} (r : KV kvs vs) (k : κ) {y : V} {u : Value} (ry : RelV y u) :
  KV (kvs.map fun kv => if kv.1 = k then (kv.1, y) else kv) (vs.map fun kv => if kv.1 = k then (kv.1, u) else kv) := by
 unfold KV at r ⊢
 induction r with
 | nil => exact .nil
 | @cons p q ps qs h t ih =>
  rw [List.map_cons, List.map_cons]
  refine .cons ?_ ih
  obtain ⟨h1, h2⟩ := h
  by_cases e : p.1 = k
  ·rw [if_pos e, if_pos (h1.symm.trans e)]; exact ⟨h1, ry⟩
  ·rw [if_neg e, if_neg (fun z => e (h1.trans z))]; exact ⟨h1, h2⟩
theorem KV.put {kvs : List (κ × V)} {vs : List (κ × Value)} (r : KV kvs vs) (k : κ) {y : V} {u : Value} (ry : RelV y u) : KV (zdj kvs k y) (stored vs k u) := by
 unfold zdj stored
 rw [r.any k]
 by_cases e : (vs.any fun kv => decide (kv.1 = k)) = true
 ·rw [if_pos e, if_pos e]; exact r.repl k ry
 ·rw [if_neg e, if_neg e]; exact Paired.snoc r ⟨rfl, ry⟩
theorem KV.length {kvs : List (κ × V)} {vs : List (κ × Value)} (r : KV kvs vs) : kvs.length = vs.length := Paired.length r
end
theorem zfo {P : Program} {w : World} {k : Key} {u : Value} (r : RelV (kV k) u) : (z19 P w).is k u = true := by
 cases k with
 | inl i => obtain ⟨t, e⟩ := (show ∃ t, u = Value.int i t from r); subst e; exact z7S P w i t
 | inr x => obtain ⟨t, e⟩ := (show ∃ t, u = Value.str x t from r); subst e; exact z7K P w x t
theorem z6G {P : Program} {w : World} : ∀ {ks : List Key} {us : List Value}, Vals (ks.map kV) us -> ItemsAre (z19 P w) ks us
 | [], _, r => by rw [List.map_nil] at r; cases r; exact .nil
 | k :: ks, _, r => by
  rw [List.map_cons] at r
  cases r with
  | cons h t => exact .cons (zfo h) (z6G t)
abbrev KT (H : Hp) : List (List Key × V) -> List (List Key × Addr × Value) -> Prop := Paired fun p q => p.1 = q.1 /\ H q.2.1 = some (.tup (p.1.map kV)) /\ RelV p.2 q.2.2
theorem KT.val {H : Hp} {kvs : List (List Key × V)} {xs : List (List Key × Addr × Value)} (r : KT H kvs xs) (k : List Key) : RelO (z9W kvs k) ((atKey xs k).map (·.2)) := by
 induction r with
 | nil => exact True.intro
 | @cons p q ps qs h t ih =>
  obtain ⟨h1, _, h2⟩ := h
  by_cases e : p.1 = k
  ·have e' : q.1 = k := h1.symm.trans e
   have b : atKey (q :: qs) k = some q.2 := by simp [atKey, List.find?_cons, e']
   rw [z8G e, b]; exact h2
  ·have e' : ¬ q.1 = k := fun z => e (h1.trans z)
   have b : atKey (q :: qs) k = atKey qs k := by simp [atKey, List.find?_cons, e']
   rw [z8v e, b]; exact ih
section
variable {P : Program} {w : World} {H : Hp} {h : Heap} {a : Addr}
theorem zhk {u : HO} (ok : HOk P w H h) (e : Rd H a u) : ObjOk P w H h a u := e.ok ok
theorem zf5 {kvs : List (Key × V)} (ok : HOk P w H h) (e : Rd H a (.dK kvs)) : kvs.length <= sizeLine /\ (a == sysModules) = false /\ ∃ vs, KV kvs vs /\ h.DictOf (z19 P w) a vs :=
 show ObjOk P w H h a (.dK kvs) from zhk ok e
theorem ziO {kvs : List (Key × V)} (ok : HOk P w H h) (e : H a = some (.dK kvs)) : kvs.length <= sizeLine /\ (a == sysModules) = false /\ ∃ vs, KV kvs vs /\ h.DictOf (z19 P w) a vs := zf5 ok (.inl e)
theorem zdC {ks : List Key} (ok : HOk P w H h) (e : H a = some (.tup (ks.map kV))) : (tupleKind (z19 P w)).is h ks a := by
 obtain ⟨_, its, r, o, h1, h2, n, h3⟩ := (show ObjOk P w H h a (.tup (ks.map kV)) from ok a _ e)
 exact ⟨o, its.toArray, n, h1, h2, h3, by simpa using z6G r⟩
theorem zhm {kvs : List (List Key × V)} (ok : HOk P w H h) (e : Rd H a (.dT kvs)) : kvs.length <= sizeLine /\ (a == sysModules) = false /\
  ∃ xs, KT H kvs xs /\ h.DictOfH (tupleKind (z19 P w)) a xs := by
 obtain ⟨z, y, xs, r, o, es, ep, h1, h2, h3, h4, h5⟩ := (show ObjOk P w H h a (.dT kvs) from zhk ok e)
 refine ⟨z, y, xs, r, o, es, ep, h1, h2, h3, h4, fun x hx => ?_, h5⟩
 have all : ∀ {l : List (List Key × V)} {m : List (List Key × Addr × Value)}, KT H l m -> ∀ x ∈ m, (tupleKind (z19 P w)).is h x.1 x.2.1 := by
  intro l m q
  induction q with
  | nil => intro x hx; exact nomatch hx
  | @cons p q ps qs hq t ih =>
   intro x hx
   rcases List.mem_cons.mp hx with e | hx
   ·subst e
    exact zdC ok (by rw [<- hq.1]; exact hq.2.1)
   ·exact ih x hx
 exact all r x hx
end
def zis (H : Hp) (a : Addr) (y : V) (r : Option V) : Prop :=
 (∃ kvs k, Rd H a (.dK kvs) /\ y = kV k /\ r = z9W kvs k) \/ ∃ kvs k b, Rd H a (.dT kvs) /\ y = .ref b /\ H b = some (.tup (k.map kV)) /\ r = z9W kvs k
section
variable {X : Cx} {pins : List (Addr × Obj)} {σ : St} {H : Hp} {s : Shared} {a : Addr} {y v : V} {u : Value} {o : Option V} {A : Around} {E : Value -> Shared -> Prop}
theorem Inv.big (I : Inv X pins σ H s) : sysModules < s.heap.objs.size := by
 have h : mainGlobals < s.heap.objs.size := (I.mod.glob.keeps I.bk).lt
 exact Nat.lt_trans (by decide) h
theorem zbc {Q : Value -> Shared -> Prop} (hu : A.units + 1 < cLine) (I : Inv X pins σ H s) (g : zis H a y (some v)) (ry : RelV y u) (h : ∀ w' s', Inv X pins σ H s' -> RelV v w' -> Q w' s') :
  wpAny (model X.prog X.w) A (getItem (.ref a) u) Q E s := by
 rcases g with ⟨kvs, k, e, ey, l⟩ | ⟨kvs, k, b, e, ey, eb, l⟩
 ·subst ey
  obtain ⟨z, hd, vs, rel, dd⟩ := zf5 I.hok e
  obtain ⟨w', hw, rw'⟩ := RelO.some_of (v := v) (o := valueAt vs k) (by rw [l]; exact rel.val k)
  exact wpAny_getItem_of (zfo ry) dd.mapOf hw (h w' _ (I.tok _) rw')
 ·subst ey
  cases (show u = Value.ref b from ry)
  obtain ⟨z, hd, xs, rel, dd⟩ := zhm I.hok e
  obtain ⟨w', hw, rw'⟩ := RelO.some_of (v := v) (o := (atKey xs k).map (·.2)) (by rw [l]; exact rel.val k)
  obtain ⟨p, hp, hp2⟩ := Option.map_eq_some_iff.mp hw
  refine wpAny_getItem_heap (tupleKind_room_in1 hu) (zdC I.hok eb) dd hp ?_
  rw [hp2]
  exact h w' _ (I.tok _) rw'
theorem zet {h' : Heap} {t' : Nat} {ob : HO} (I : Inv X pins σ H s) (mu : Mut (H a)) (hs : Heap.SameBut a s.heap h') (he : ∃ q, h'.get? a = some q) (new : ObjOk X.prog X.w (upd H a ob) h' a ob) :
  Inv X pins σ (upd H a ob) { s with heap := h', toks := t' } :=
 I.write (x := a) (e := a) mu (.inl rfl) (fun b q hb z => (hs.2 b hb).trans z) he new
theorem zg9 {P : Program} {w : World} {H' : Hp} {h' : Heap} {kvs : List (Key × V)} {vs : List (Key × Value)} (z : kvs.length <= sizeLine) (hd : (a == sysModules) = false) (rel : KV kvs vs) (dd : h'.DictOf (z19 P w) a vs) :
  ObjOk P w H' h' a (.dK kvs) := ⟨z, hd, vs, rel, dd⟩
end
section
end
def ziC (i : Expr) : Prop := ∀ ov iv, subscripted i false ov iv = operate [ov, iv] (getItem ov iv)
theorem zej {prog : Program} {w : World} {A : Around} {E : Value -> Shared -> Prop} {s : Shared} {env : Env} {value slice : Expr} {pos : Pos} {T id : String} {Q : Value -> Shared -> Prop}
  (hl : typeLookup (.type T) "__getitem__" = pure (some (.builtin id))) (hs : ziC slice)
  (h : wpAny (model prog w) A (eval value env) (fun o s₁ => wpAny (model prog w) A (eval slice env) (fun i s₂ => s₂.TypeIs o T /\ wpAny (model prog w) A (getItem o i) Q E s₂) E s₁) E s) :
  wpAny (model prog w) A (eval (.Subscript value slice pos) env) Q E s := by
 refine Subscript_ (wpAny_mono h (fun o s₁ h₁ => wpAny_mono h₁ (fun i s₂ h₂ => ?_) fun _ _ x => x) fun _ _ x => x)
 obtain ⟨hT, h₂⟩ := h₂
 unfold subscriptTail
 refine wpAny_bind ?_
 rw [getitemInPython_of_ne hT.not_modules]
 refine wpAny_bind (wpAny_specialOf hT hl ?_)
 have fin : wpAny (model prog w) A (subscripted slice false o i) (fun r s₃ => wpAny (model prog w) A (letTemporaryGo value o r >>= fun _ => pure r) Q E s₃) E s₂ := by
  rw [hs o i]
  exact wpAny_operating (wpAny_mono h₂ (fun r s₃ h₃ => wpAny_bind (wpAny_letTemporaryGo (wpAny_pure h₃))) fun _ _ x => x)
 first
  | exact wpAny_pure (wpAny_bind fin)
  | exact wpAny_bind (wpAny_pure (wpAny_bind fin))
  | exact wpAny_bind fin
theorem z8j {X : Cx} {pins : List (Addr × Obj)} {σ : St} {H : Hp} {s : Shared} {a : Addr} {y : V} {o : Option V} (I : Inv X pins σ H s) (g : zis H a y o) : s.TypeIs (.ref a) "dict" := by
 rcases g with ⟨kvs, k, e, _, _⟩ | ⟨kvs, k, b, e, _, _, _⟩
 ·obtain ⟨_, _, vs, _, dd⟩ := zf5 I.hok e
  exact dd.typeIs
 ·obtain ⟨_, _, xs, _, dd⟩ := zhm I.hok e
  exact dd.typeIs
def zii (td ty : TE) : TE := fun σ H Q => td σ H fun x H1 => ty σ H1 fun y H2 => ∃ a v, x = .ref a /\ zis H2 a y (some v) /\ Q v H2
section
variable {X : Cx} {o i : Expr} {pos : Pos} {td ty : TE}
theorem zfh (hu : X.A.units + 1 < cLine) (ho : PE X o td) (hi : PE X i ty) (hs : ziC i) : PE X (.Subscript o i pos) (zii td ty) := by
 intro pins s σ H Q I h
 refine zej PySem.F.slot_dict_getitem.lookup hs (thn (ho pins s σ H _ I h) fun u s1 ⟨x, H1, I1, rx, q1⟩ => thn (hi pins s1 σ H1 _ I1 q1) fun iv s2 ⟨y, H2, I2, ry, a, v, ex, g, q2⟩ => ?_)
 subst ex
 obtain rfl : u = Value.ref a := rx
 exact ⟨z8j I2 g, zbc hu I2 g ry fun w' s3 I3 rw' => ⟨v, H2, I3, rw', q2⟩⟩
end
theorem zcP {P : Program} {w : World} {H : Hp} (h : Heap) (hb : sysModules < h.objs.size) : ObjOk P w H (h.push { cls := .type "dict", data := .dict #[] }) h.objs.size (.dK []) :=
 ⟨Nat.zero_le _, beq_eq_false_iff_ne.mpr (Ne.symm (Nat.ne_of_lt hb)), [], .nil, Heap.DictOf.new h⟩
def z75 : List (TE × TE) -> St -> Hp -> (List (V × V) -> Hp -> Prop) -> Prop
 | [], _, H, Q => Q [] H
 | (tk, tv) :: r, σ, H, Q => tk σ H fun x H1 => tv σ H1 fun y H2 => z75 r σ H2 fun ps H3 => Q ((x, y) :: ps) H3
abbrev VV : List (V × V) -> List (Value × Value) -> Prop := Paired fun p q => RelV p.1 q.1 /\ RelV p.2 q.2
def PPs (X : Cx) (pos : Pos) (keys : List (Option Expr)) (values : List Expr) (trs : List (TE × TE)) : Prop :=
 ∀ (pins : List (Addr × Obj)) (s : Shared) (σ : St) (H : Hp) (Q : List (V × V) -> Hp -> Prop), Inv X pins σ H s -> z75 trs σ H Q ->
  wpAny (model X.prog X.w) X.A (evalPairs (pairTrees keys values X.env pos)) (fun vs s' => ∃ ps H', Inv X pins σ H' s' /\ VV ps vs /\ Q ps H') X.xe s
theorem zeW {X : Cx} {pos : Pos} : PPs X pos [] [] [] := fun pins s σ H Q I h => pairTrees_nil_walk ⟨[], H, I, .nil, h⟩
theorem zcm {X : Cx} {pos : Pos} {k v : Expr} {ks : List (Option Expr)} {vs : List Expr} {tk tv : TE} {trs : List (TE × TE)} (hk : PE X k tk) (hv : PE X v tv) (hr : PPs X pos ks vs trs) :
  PPs X pos (some k :: ks) (v :: vs) ((tk, tv) :: trs) := fun pins s σ H Q I h =>
 pairTrees_cons_walk (thn (hk pins s σ H _ I h) fun u s1 ⟨x, H1, I1, rx, q1⟩ => thn (hv pins s1 σ H1 _ I1 q1) fun w2 s2 ⟨y, H2, I2, ry, q2⟩ =>
  thn (hr pins s2 σ H2 _ I2 q2) fun ws s3 ⟨ps, H3, I3, rel, q3⟩ => ⟨(x, y) :: ps, H3, I3, .cons ⟨rx, ry⟩ rel, q3⟩)
def z3f (kvs more : List (Key × V)) : List (Key × V) := more.foldl (fun acc kv => zdj acc kv.1 kv.2) kvs
theorem KV.merge : ∀ {more : List (Key × V)} {rs : List (Key × Value)} {kvs : List (Key × V)} {vs : List (Key × Value)}, KV more rs -> KV kvs vs -> KV (z3f kvs more) (merged vs rs) := by
 intro more rs kvs vs r
 unfold KV at r
 induction r generalizing kvs vs with
 | nil => intro q; exact q
 | @cons p q ps qs h t ih =>
  intro r0
  have e : KV (zdj kvs p.1 p.2) (stored vs q.1 q.2) := by
   have := r0.put p.1 h.2
   rw [<- h.1]; exact this
  exact ih e
theorem z3C : ∀ (more kvs : List (Key × V)), (z3f kvs more).length <= kvs.length + more.length
 | [], kvs => by show kvs.length <= kvs.length + 0; omega
 | p :: r, kvs => by
  have h1 := z3C r (zdj kvs p.1 p.2)
  have h2 := z7Y kvs p.1 p.2
  show (z3f (zdj kvs p.1 p.2) r).length <= _
  rw [List.length_cons]; omega
theorem z5q {P : Program} {w : World} : ∀ {kvs : List (Key × V)} {ws : List (Value × Value)}, VV (kvs.map fun kv => (kV kv.1, kv.2)) ws -> ∃ rs, Carries (z19 P w) ws rs /\ KV kvs rs
 | [], _, r => by rw [List.map_nil] at r; cases r; exact ⟨[], True.intro, .nil⟩
 | p :: kvs, _, r => by
  rw [List.map_cons] at r
  cases r with
  | @cons a b as bs h t =>
   obtain ⟨rs, c, q⟩ := z5q (P := P) (w := w) t
   obtain ⟨b1, b2⟩ := b
   exact ⟨(p.1, b2) :: rs, ⟨zfo h.1, rfl, c⟩, .cons ⟨rfl, h.2⟩ q⟩
def ziq (trs : List (TE × TE)) : TE := fun σ H Q => ∀ p, H p = none -> z75 trs σ (upd H p (.dK [])) fun ps H2 => H2 p = some (.dK []) /\ ∃ kvs : List (Key × V), ps = kvs.map (fun kv => (kV kv.1, kv.2)) /\ kvs.length <= 15 /\ Q (.ref p) (upd H2 p (.dK (z3f [] kvs)))
theorem zfd {X : Cx} {pos : Pos} {keys : List (Option Expr)} {values : List Expr} {trs : List (TE × TE)} (h : PPs X pos keys values trs) (hall : keys.all (·.isSome) = true) (hl : keys.length = values.length) (h0 : keys ≠ [])
  (h15 : keys.length <= 15) : PE X (.Dict keys values pos) (ziq trs) := by
 intro pins s σ H Q I q
 have hn := I.hok.fresh (Nat.le_refl s.heap.objs.size)
 have I1 := I.laid (a := s.heap.objs.size) (o := .dK []) (h' := s.heap.push { cls := .type "dict", data := .dict #[] }) (t' := s.toks) (fun _ _ q => Heap.get?_push_of_some _ q) (Nat.le_refl _) (zcP s.heap I.big)
 refine wpAny_Dict_walk (knd := z19 X.prog X.w) hall hl h0 h15 (thn (h pins _ σ _ _ I1 (q _ hn)) fun ws s2 ⟨ps, H2, I2, rel, e, kvs, ep, lk, q2⟩ => ?_)
 subst ep
 obtain ⟨rs, c, rk⟩ := z5q (P := X.prog) (w := X.w) rel
 obtain ⟨z, hd, vs0, r0, dd⟩ := ziO I2.hok e
 cases r0
 refine ⟨rs, c, dd, fun h' dd' hs => ⟨.ref s.heap.objs.size, _, ?_, rfl, q2⟩⟩
 have hz : (z3f [] kvs).length <= sizeLine := by
  have h1 := z3C kvs []
  rw [List.length_nil] at h1
  rw [sizeLine_eq]; omega
 have he : ∃ q, h'.get? s.heap.objs.size = some q := let ⟨q, _, _, hq, _⟩ := dd'; ⟨q, hq⟩
 exact zet I2 (by rw [e]; exact True.intro) hs he (zg9 hz hd (rk.merge .nil) dd')
structure M1 (X : Cx) (o : Expr) (m : Str) (apos : Pos) (e : Expr) (cpos : Pos) : Prop where
 base : attributeBase o m X.env (eval o X.env) = eval o X.env
 few : ((backTo cpos (starEach [e] X.env)).all (fun x => !x.1) && (backToKw cpos (keywordEach [] X.env)).all (fun x => x.1.isSome)
  && decide (([e] : List Expr).length + ([] : List Keyword).length + (if ([] : List Keyword).isEmpty then 0 else 1) < 30)) = true
 line : (apos.endLine == cpos.line) = true
 trees : backTo cpos (starEach [e] X.env) = [(false, eval e X.env)]
structure M2 (X : Cx) (o : Expr) (m : Str) (apos : Pos) (e f : Expr) (cpos : Pos) : Prop where
 base : attributeBase o m X.env (eval o X.env) = eval o X.env
 few : ((backTo cpos (starEach [e, f] X.env)).all (fun x => !x.1) && (backToKw cpos (keywordEach [] X.env)).all (fun x => x.1.isSome)
  && decide (([e, f] : List Expr).length + ([] : List Keyword).length + (if ([] : List Keyword).isEmpty then 0 else 1) < 30)) = true
 line : (apos.endLine == cpos.line) = true
 trees : backTo cpos (starEach [e, f] X.env) = [(false, eval e X.env), (false, eval f X.env)]
section
end
section
end
end L2
namespace DL
open PySem L2
structure XcK (K : PySem.W.Frag) (C : Addr) : Prop where
 ga : PySem.W.findIn K (.ref C) "__getattribute__" = some (some (.builtin "BaseException.__getattribute__"))
 nh : PySem.W.findIn K (.ref C) "__getattr__" = some none
 cl : ∃ cd, PySem.W.clsIn K C = some cd
 at_ : PySem.W.findIn K (.ref C) "__class__" = some (some (.builtin "object.__class__"))
 gt : PySem.W.specialIn K (.builtin "object.__class__") "__get__" = some (some (.builtin "getset_descriptor.__get__"))
 tk : PySem.W.takesIn K (.builtin "object.__class__") = some true
 ob : PySem.W.mroIn K C (.type "object") = some true
 bx : PySem.W.mroIn K C (.type "BaseException") = some true
 kit : ∀ c ∈ (["int", "bool", "str", "list", "tuple", "dict"] : List String), PySem.W.kitOne K (.ref C) (.type c) = some false
section
open PySem.W
variable {prog : Program} {w : World} {A : Around} {E : Value -> Shared -> Prop} {s : Shared} {K : PySem.W.Frag} {x C : Addr} {ox : Obj}
theorem zeL {M : Model} {nameV : Value} {Q : Unit -> Shared -> Prop} (X : K.In s.heap) (k : XcK K C) (I : PySem.W.InstAt s.heap x ox C none) (hq : Q () s) : wpAny M A (checkBuiltinCall "BaseException.__getattribute__" ⟨[.ref x, nameV], []⟩) Q E s := by
 have hk : builtinKind "BaseException.__getattribute__" = some .slot := by decide +kernel
 have hsplit : splitId "BaseException.__getattribute__" = some ("BaseException", "__getattribute__") := by decide +kernel
 have ha := F.args_bexc_ga (.ref x) nameV
 have L0 := I.type (M := M)
 have L1 := looks_mroIn (M := M) X k.bx
 have LI : Looks M s.heap (isInstance (.ref x) (.type "BaseException")) true := L0.andThen L1
 simp only [checkBuiltinCall, hk, hsplit]
 refine wpAny_bind (LI.at ?_)
 repeat (first | wp_step | exact hq)
theorem ze5 {Q : Option Value -> Shared -> Prop} (X : K.In s.heap) (k : XcK K C) (I : PySem.W.InstAt s.heap x ox C none) (h : Q (some (.ref C)) { s with toks := s.toks + 1 }) : wpAny (model prog w) A (getAttr? (.ref x) "__class__") Q E s := by
 obtain ⟨cd, hcd⟩ := k.cl
 have hf : findObj K C none "__class__" = some (.bind (.builtin "getset_descriptor.__get__") (.builtin "object.__class__")) := by
  unfold findObj
  rw [hcd, k.at_]
  simp only [Option.bind_some, k.gt, k.tk]
 have L0 := I.type (M := model prog w)
 have L1 := looks_findIn (M := model prog w) X k.ga
 have L2 := looks_findIn (M := model prog w) X k.nh
 have LF := looks_find (M := model prog w) X I hf
 unfold getAttr? getAttrBy? getAttrBy
 refine wpAny_bind (wpAny_mkText (wpAny_bind (wpAny_attempt (wpAny_holding (wpAny_bind (L0.at (wpAny_bind (L1.at ?_))))))))
 have hx1 : (onTheHeap (Value.ref C) && Value.builtin "BaseException.__getattribute__" == Value.builtin "object.__getattribute__") = false := by
  rw [show (Value.builtin "BaseException.__getattribute__" == Value.builtin "object.__getattribute__") = false from by decide +kernel]; rfl
 show wpAny _ _ (if (onTheHeap (Value.ref C) && Value.builtin "BaseException.__getattribute__" == Value.builtin "object.__getattribute__") = true then _ else _) _ _ _
 rw [if_neg (by rw [hx1]; decide)]
 unfold getAttrByItsOwn hookBefore
 rw [if_pos (by rfl)]
 refine wpAny_bind (L2.at (wpAny_bind (wpAny_attempt (wpAny_holding ?_))))
 unfold callGetattribute boundAndCalled
 rw [if_neg (by decide)]
 rw [F.attr_ValueError.ga.bind (.ref x)]
 refine wpAny_bind (wpAny_pure (wpAny_call ?_))
 refine codeAny_call_builtin F.attr_ValueError.ga.plain F.entry_bexc_ga (zeL (s := { s with toks := s.toks + 1 }) X k I ?_)
 unfold Builtin.«object.__getattribute__»
 refine wpAny_bind (wpAny_pure (wpAny_bind (wpAny_pure (wpAny_bind (L0.at (wpAny_bind (LF.at ?_)))))))
 show wpAny _ _ (Builtin.ObjectAttr.bindTo _ _ _ _) _ _ _
 unfold Builtin.ObjectAttr.bindTo
 refine wpAny_bind (wpAny_holding (wpAny_call (class_get (s := { s with toks := s.toks + 1 }) X I k.ob ?_)))
 exact wpAny_pure (wpAny_pure (wpAny_pure h))
theorem zhf (k : XcK K C) : KitX K (.ref x) (.ref C) (fun h => ∃ ox, PySem.W.InstAt h x ox C none) where
 ty := fun _ _ _ ⟨ox, I⟩ => I.type
 it := fun _ _ X _ => by
  obtain ⟨cd, hcd⟩ := k.cl
  unfold clsIn at hcd
  split at hcd
  ·rename_i c' d' cd' sl' ho
   intro A' Q' E' s' kp q
   unfold isType loadHead
   exact wpAny_bind (wpAny_loadPart (kp _ _ (X _ _ ho)) (wpAny_pure q))
  ·cases hcd
 ne := fun h tp dd its n sl X htp => by
  obtain ⟨cd, hcd⟩ := k.cl
  refine Bool.eq_false_iff.mpr fun q => ?_
  have e : C = tp := Value.ref.inj (beq_iff_eq.mp q)
  subst e
  unfold clsIn at hcd
  split at hcd
  ·rename_i c' d' cd' sl' ho
   have z := (X _ _ ho).symm.trans htp
   cases z
  ·cases hcd
 ca := fun X ⟨ox, I⟩ q => ze5 X k I q
end
end DL
namespace DL
open PySem L2
inductive D where
 | non
 | bl (b : Bool)
 | int (i : Int)
 | str (cs : List Nat)
 | lst (xs : List D)
 | tup (xs : List D)
 | own (k : Nat)
 | dct
 | exn (C : Nat)
 | tab (P : Nat)
 | map (ks : List (Sum Int (List Nat))) (ds : List D)
 deriving Repr, BEq, Inhabited
abbrev Ow := List (List D)
inductive R (α : Type) where
 | ok (a : α) (O : Ow)
 | exc (c : Nat) (O : Ow)
 | bad
 deriving Repr, BEq, Inhabited
def R.bnd {α β : Type} (r : R α) (k : α -> Ow -> R β) : R β := match r with
 | .ok a O => k a O
 | .exc c O => .exc c O
 | .bad => .bad
abbrev Sg := List (Option D)
abbrev DE := Sg -> Ow -> R D
abbrev DT := Sg -> Ow -> R Bool
abbrev DA := Sg -> Ow -> R (List D)
section
variable (K : PySem.W.Frag) (H : Hp) (hid μ : List Addr)
def zjv (K : PySem.W.Frag) (a : Addr) (xs : List V) : Prop := ∃ (o : Obj) (its : Array Value) (n : Nat), K.lookup a = some o /\ o.cls = .type "list" /\ o.dict = none /\ o.data = .seq its n /\ its.size <= sizeLine /\ Vals xs its.toList
def zju (K : PySem.W.Frag) (a : Addr) (xs : List V) : Prop := ∃ (o : Obj) (its : Array Value) (n : Nat), K.lookup a = some o /\ o.cls = .type "tuple" /\ o.data = .seq its n /\ its.size <= sizeLine /\ Vals xs its.toList
def LstAt (a : Addr) (vs : List V) : Prop := (Rd H a (.lst vs) /\ a ∉ hid /\ a ∉ μ) \/ zjv K a vs
def TupAt (a : Addr) (vs : List V) : Prop := (Rd H a (.tup vs) /\ a ∉ hid /\ a ∉ μ) \/ zju K a vs
end
def kD : Sum Int (List Nat) -> Key
 | .inl i => .inl i
 | .inr cs => .inr ⟨cs.toArray⟩
def Tidy (H : Hp) (P : Addr) : Prop := ∃ ps, H P = some (.tbl ps) /\ TriplesOk ps.toList /\ ∀ pos cv, codeAmong pos ps.toList = some cv -> ∃ c φ, cv = .ref c /\ H c = some (.ext φ) /\ ∀ h : Heap, φ h -> ∃ q, h.CodeRec (.ref c) q
def zbo (o : HO) : Prop := ∀ ps, o ≠ .tbl ps
section
variable (K : PySem.W.Frag) (H : Hp) (hid μ : List Addr)
mutual
def Dat : D -> V -> Prop
 | .non, v => v = .non
 | .bl b, v => v = .bl b
 | .int i, v => v = .int i
 | .str cs, v => v = .str ⟨cs.toArray⟩
 | .lst ds, v => ∃ a vs, v = .ref a /\ LstAt K H hid μ a vs /\ Dats ds vs
 | .tup ds, v => ∃ a vs, v = .ref a /\ TupAt K H hid μ a vs /\ Dats ds vs
 | .own k, v => ∃ a, v = .ref a /\ μ[k]? = some a
 | .dct, v => ∃ a, v = .ref a /\ Rd H a (.dK []) /\ a ∉ hid /\ a ∉ μ
 | .exn C, v => ∃ a φ, v = .ref a /\ (XcK K C /\ ∀ h : Heap, φ h -> ∃ ox, PySem.W.InstAt h a ox C none) /\ Rd H a (.ext φ) /\ a ∉ hid /\ a ∉ μ
 | .tab P, v => v = .bl false /\ Tidy H P
 | .map ks ds, v => ∃ a vs, v = .ref a /\ Rd H a (.dK ((ks.map kD).zip vs)) /\ a ∉ hid /\ a ∉ μ /\ ks.length = vs.length /\ Dats ds vs
def Dats : List D -> List V -> Prop
 | [], vs => vs = []
 | d :: ds, vs => ∃ v r, vs = v :: r /\ Dat d v /\ Dats ds r
end
structure Cells (O : Ow) : Prop where
 len : μ.length = O.length
 nd : μ.Nodup
 nh : ∀ a ∈ μ, a ∉ hid
 ht : ∀ a ∈ hid, H a ≠ none
 at_ : ∀ (k : Nat) a, μ[k]? = some a -> ∃ ds vs, O[k]? = some ds /\ H a = some (.lst vs) /\ Dats K H hid μ ds vs
structure EnvOk (σ : Sg) (σv : St) : Prop where
 len : σ.length = σv.length
 at_ : ∀ (i : Nat) d, σ[i]? = some (some d) -> ∃ v, σv[i]? = some (some v) /\ Dat K H hid μ d v
end
structure Ext (H : Hp) (μ : List Addr) (H' : Hp) (μ' : List Addr) : Prop where
 pre : ∃ ν, μ' = μ ++ ν
 kept : ∀ b o, H b = some o -> b ∉ μ -> zbo o -> H' b = some o
 fresh : ∀ b ∈ μ', b ∈ μ \/ H b = none
 there : ∀ b, H b ≠ none -> H' b ≠ none
 tab : ∀ P, Tidy H P -> Tidy H' P
structure Mv (H : Hp) (hid μ : List Addr) (H' : Hp) (hid' μ' : List Addr) : Prop where
 pre : ∃ ν, μ' = μ ++ ν
 kept : ∀ b o, H b = some o -> b ∉ μ -> b ∉ hid -> zbo o -> H' b = some o
 fresh : ∀ b ∈ μ', b ∈ μ \/ H b = none
 hids : ∀ b ∈ hid', b ∈ hid \/ H b = none
 there : ∀ b, H b ≠ none -> H' b ≠ none
 tab : ∀ P, Tidy H P -> Tidy H' P
section
variable {K : PySem.W.Frag} {H H' H1 H2 : Hp} {hid hid' hid1 hid2 μ μ' μ1 μ2 : List Addr}
theorem Ext.keep (e : Ext H μ H' μ') (b : Addr) (o : HO) (h : H b = some o) (n : b ∉ μ) (ht : zbo o := by intro ps z; cases z) : H' b = some o := e.kept b o h n ht
theorem Tidy.upd {P p : Addr} {o : HO} (t : Tidy H P) (hp : H p = none \/ ∃ vs, H p = some (.lst vs)) : Tidy (L2.upd H p o) P := by
 obtain ⟨ps, h1, h2, h3⟩ := t
 have n1 : P ≠ p := by
  rintro rfl
  rcases hp with z | ⟨vs, z⟩ <;> (rw [z] at h1; cases h1)
 refine ⟨ps, by rw [z09 n1]; exact h1, h2, fun pos cv e => ?_⟩
 obtain ⟨c, φ, rfl, hc, hf⟩ := h3 pos cv e
 have n2 : c ≠ p := by
  rintro rfl
  rcases hp with z | ⟨vs, z⟩ <;> (rw [z] at hc; cases hc)
 exact ⟨c, φ, rfl, by rw [z09 n2]; exact hc, hf⟩
theorem Ext.refl : Ext H μ H μ := ⟨⟨[], by simp⟩, fun _ _ h _ _ => h, fun _ h => .inl h, fun _ h => h, fun _ t => t⟩
theorem Ext.trans (a : Ext H μ H1 μ1) (b : Ext H1 μ1 H2 μ2) : Ext H μ H2 μ2 := by
 refine ⟨?_, fun c o h n ht => ?_, fun c h => ?_, fun c h => b.there c (a.there c h), fun P t => b.tab P (a.tab P t)⟩
 ·obtain ⟨x, rfl⟩ := a.pre
  obtain ⟨y, rfl⟩ := b.pre
  exact ⟨x ++ y, by simp⟩
 ·refine b.kept c o (a.kept c o h n ht) (fun m => ?_) ht
  rcases a.fresh c m with z | z
  ·exact n z
  ·rw [z] at h; cases h
 ·rcases b.fresh c h with z | z
  ·exact a.fresh c z
  ·by_cases hm : c ∈ μ
   ·exact .inl hm
   ·cases e : H c with
    | none => exact .inr rfl
    | some o => exact absurd z (a.there c (by rw [e]; simp))
theorem Ext.mv (a : Ext H μ H' μ') : Mv H hid μ H' hid μ' := ⟨a.pre, fun b o h n _ ht => a.kept b o h n ht, a.fresh, fun _ h => .inl h, a.there, a.tab⟩
theorem Mv.refl : Mv H hid μ H hid μ := Ext.refl.mv
theorem Mv.trans (a : Mv H hid μ H1 hid1 μ1) (b : Mv H1 hid1 μ1 H2 hid2 μ2) : Mv H hid μ H2 hid2 μ2 := by
 have nn : ∀ c, H1 c = none -> H c = none := fun c h => by
  cases e : H c with
  | none => rfl
  | some o => exact absurd h (a.there c (by rw [e]; simp))
 refine ⟨?_, fun c o h n1 n2 ht => ?_, fun c h => ?_, fun c h => ?_, fun c h => b.there c (a.there c h), fun P t => b.tab P (a.tab P t)⟩
 ·obtain ⟨x, rfl⟩ := a.pre
  obtain ⟨y, rfl⟩ := b.pre
  exact ⟨x ++ y, by simp⟩
 ·refine b.kept c o (a.kept c o h n1 n2 ht) (fun m => ?_) (fun m => ?_) ht
  ·rcases a.fresh c m with z | z
   ·exact n1 z
   ·rw [z] at h; cases h
  ·rcases a.hids c m with z | z
   ·exact n2 z
   ·rw [z] at h; cases h
 ·rcases b.fresh c h with z | z
  ·exact a.fresh c z
  ·exact .inr (nn c z)
 ·rcases b.hids c h with z | z
  ·exact a.hids c z
  ·exact .inr (nn c z)
theorem Mv.hide {b : Addr} (h : H b = none) : Mv H hid μ H (b :: hid) μ := ⟨⟨[], by simp⟩, fun _ _ h _ _ _ => h, fun _ m => .inl m, fun c m => (List.mem_cons.mp m).elim (fun e => .inr (by rw [e]; exact h)) .inl, fun _ h => h, fun _ t => t⟩
theorem Mv.unhide {b : Addr} : Mv H (b :: hid) μ H hid μ := ⟨⟨[], by simp⟩, fun _ _ h _ _ _ => h, fun _ m => .inl m, fun _ m => .inl (List.mem_cons_of_mem _ m), fun _ h => h, fun _ t => t⟩
theorem Rd.mv {a : Addr} {u : HO} (r : Rd H a u) (e : Mv H hid μ H' hid' μ') (n1 : a ∉ hid) (n2 : a ∉ μ) (ht : zbo u := by intro ps z; cases z) : Rd H' a u /\ a ∉ hid' /\ a ∉ μ' := by
 have out : ∀ o, H a = some o -> a ∉ hid' /\ a ∉ μ' := by
  intro o h
  constructor
  ·intro m
   rcases e.hids a m with z | z
   ·exact n1 z
   ·rw [z] at h; cases h
  ·intro m
   rcases e.fresh a m with z | z
   ·exact n2 z
   ·rw [z] at h; cases h
 rcases r with r | ⟨o, r⟩
 ·exact ⟨.inl (e.kept _ _ r n2 n1 ht), out _ r⟩
 ·exact ⟨.inr ⟨o, e.kept _ _ r n2 n1 (by intro ps z; cases z)⟩, out _ r⟩
theorem LstAt.mv {a : Addr} {vs : List V} (h : LstAt K H hid μ a vs) (e : Mv H hid μ H' hid' μ') : LstAt K H' hid' μ' a vs :=
 h.imp (fun z => Rd.mv z.1 e z.2.1 z.2.2) id
theorem TupAt.mv {a : Addr} {vs : List V} (h : TupAt K H hid μ a vs) (e : Mv H hid μ H' hid' μ') : TupAt K H' hid' μ' a vs :=
 h.imp (fun z => Rd.mv z.1 e z.2.1 z.2.2) id
theorem LstAt.sq {a : Addr} {vs : List V} (h : LstAt K H hid μ a vs) : SqL K H a vs := h.elim (fun z => .inl z.1) .inr
theorem TupAt.sq {a : Addr} {vs : List V} (h : TupAt K H hid μ a vs) : SqT K H a vs := h.elim (fun z => .inl z.1) .inr
mutual
theorem Dat.mv (e : Mv H hid μ H' hid' μ') : ∀ {d : D} {v : V}, Dat K H hid μ d v -> Dat K H' hid' μ' d v
 | .non, _, h => h
 | .bl _, _, h => h
 | .int _, _, h => h
 | .str _, _, h => h
 | .lst ds, v, h => by
  unfold Dat at h ⊢
  obtain ⟨a, vs, r, l, q⟩ := h
  exact ⟨a, vs, r, l.mv e, Dats.mv e q⟩
 | .tup ds, v, h => by
  unfold Dat at h ⊢
  obtain ⟨a, vs, r, l, q⟩ := h
  exact ⟨a, vs, r, l.mv e, Dats.mv e q⟩
 | .own k, v, h => by
  unfold Dat at h ⊢
  obtain ⟨a, r, q⟩ := h
  obtain ⟨x, rfl⟩ := e.pre
  exact ⟨a, r, by rw [List.getElem?_append_left (List.getElem?_eq_some_iff.mp q).1]; exact q⟩
 | .dct, v, h => by
  unfold Dat at h ⊢
  obtain ⟨a, r, q, n1, n2⟩ := h
  exact ⟨a, r, Rd.mv q e n1 n2⟩
 | .exn C, v, h => by
  unfold Dat at h ⊢
  obtain ⟨a, φ, r, g, q, n1, n2⟩ := h
  exact ⟨a, φ, r, g, Rd.mv q e n1 n2⟩
 | .tab P, v, h => by
  unfold Dat at h ⊢
  exact ⟨h.1, e.tab _ h.2⟩
 | .map ks ds, v, h => by
  unfold Dat at h ⊢
  obtain ⟨a, vs, r, q, n1, n2, hl, d⟩ := h
  obtain ⟨r1, r2, r3⟩ := Rd.mv q e n1 n2
  exact ⟨a, vs, r, r1, r2, r3, hl, Dats.mv e d⟩
theorem Dats.mv (e : Mv H hid μ H' hid' μ') : ∀ {ds : List D} {vs : List V}, Dats K H hid μ ds vs -> Dats K H' hid' μ' ds vs
 | [], _, h => h
 | d :: ds, vs, h => by
  unfold Dats at h ⊢
  obtain ⟨v, r, e1, h1, h2⟩ := h
  exact ⟨v, r, e1, Dat.mv e h1, Dats.mv e h2⟩
end
theorem Dat.ext (e : Ext H μ H' μ') {d : D} {v : V} (h : Dat K H hid μ d v) : Dat K H' hid μ' d v := h.mv e.mv
theorem Dats.ext (e : Ext H μ H' μ') {ds : List D} {vs : List V} (h : Dats K H hid μ ds vs) : Dats K H' hid μ' ds vs := h.mv e.mv
theorem EnvOk.mv {σ : Sg} {σv : St} (h : EnvOk K H hid μ σ σv) (e : Mv H hid μ H' hid' μ') : EnvOk K H' hid' μ' σ σv :=
 ⟨h.len, fun i d q => let ⟨v, a, b⟩ := h.at_ i d q; ⟨v, a, b.mv e⟩⟩
theorem EnvOk.ext {σ : Sg} {σv : St} (h : EnvOk K H hid μ σ σv) (e : Ext H μ H' μ') : EnvOk K H' hid μ' σ σv := h.mv e.mv
theorem EnvOk.set {σ : Sg} {σv : St} (h : EnvOk K H hid μ σ σv) {d : D} {v : V} (q : Dat K H hid μ d v) (i : Nat) : EnvOk K H hid μ (σ.set i (some d)) (σv.set i (some v)) := by
 refine ⟨by simp [h.len], fun j x e => ?_⟩
 by_cases hj : i = j
 ·subst hj
  have hi : i < σ.length := by have := (List.getElem?_eq_some_iff.mp e).1; simpa using this
  rw [List.getElem?_set_self hi] at e
  cases e
  exact ⟨v, by rw [List.getElem?_set_self (by rw [<- h.len]; exact hi)], q⟩
 ·rw [List.getElem?_set_ne hj] at e
  obtain ⟨w, a, b⟩ := h.at_ j x e
  exact ⟨w, by rw [List.getElem?_set_ne hj]; exact a, b⟩
theorem Dats.length : ∀ {ds : List D} {vs : List V}, Dats K H hid μ ds vs -> ds.length = vs.length
 | [], _, h => by unfold Dats at h; subst h; rfl
 | d :: ds, vs, h => by
  unfold Dats at h
  obtain ⟨v, r, rfl, _, h2⟩ := h
  simp [Dats.length h2]
theorem Dats.nil : Dats K H hid μ [] [] := by unfold Dats; rfl
theorem Dats.cons {d : D} {v : V} {ds : List D} {vs : List V} (h : Dat K H hid μ d v) (t : Dats K H hid μ ds vs) : Dats K H hid μ (d :: ds) (v :: vs) := by
 unfold Dats; exact ⟨v, vs, rfl, h, t⟩
theorem Dats.append : ∀ {ds es : List D} {vs ws : List V}, Dats K H hid μ ds vs -> Dats K H hid μ es ws -> Dats K H hid μ (ds ++ es) (vs ++ ws)
 | [], _, _, _, h, t => by unfold Dats at h; subst h; exact t
 | d :: ds, es, vs, ws, h, t => by
  unfold Dats at h
  obtain ⟨v, r, rfl, h1, h2⟩ := h
  exact .cons h1 (Dats.append h2 t)
theorem Dats.get : ∀ {ds : List D} {vs : List V} {i : Nat} {d : D}, Dats K H hid μ ds vs -> ds[i]? = some d -> ∃ v, vs[i]? = some v /\ Dat K H hid μ d v
 | [], _, _, _, _, e => by simp at e
 | d :: ds, vs, 0, x, h, e => by
  unfold Dats at h
  obtain ⟨v, r, rfl, h1, h2⟩ := h
  simp at e; subst e
  exact ⟨v, by simp, h1⟩
 | d :: ds, vs, i + 1, x, h, e => by
  unfold Dats at h
  obtain ⟨v, r, rfl, h1, h2⟩ := h
  obtain ⟨z, a, b⟩ := Dats.get (i := i) h2 (by simpa using e)
  exact ⟨z, by simpa using a, b⟩
theorem Dats.take : ∀ {ds : List D} {vs : List V} (n : Nat), Dats K H hid μ ds vs -> Dats K H hid μ (ds.take n) (vs.take n)
 | _, _, 0, _ => by simpa using Dats.nil
 | [], _, n + 1, h => by unfold Dats at h; subst h; simpa using Dats.nil
 | d :: ds, vs, n + 1, h => by
  unfold Dats at h
  obtain ⟨v, r, rfl, h1, h2⟩ := h
  simpa using Dats.cons h1 (Dats.take n h2)
theorem Dats.drop : ∀ {ds : List D} {vs : List V} (n : Nat), Dats K H hid μ ds vs -> Dats K H hid μ (ds.drop n) (vs.drop n)
 | _, _, 0, h => by simpa using h
 | [], _, n + 1, h => by unfold Dats at h; subst h; simpa using Dats.nil
 | d :: ds, vs, n + 1, h => by
  unfold Dats at h
  obtain ⟨v, r, rfl, h1, h2⟩ := h
  simpa using Dats.drop n h2
theorem Dats.set {d : D} {v : V} (q : Dat K H hid μ d v) : ∀ {ds : List D} {vs : List V} (i : Nat), Dats K H hid μ ds vs -> Dats K H hid μ (ds.set i d) (vs.set i v)
 | [], _, i, h => by unfold Dats at h; subst h; simpa using Dats.nil
 | x :: ds, vs, 0, h => by
  unfold Dats at h
  obtain ⟨w, r, rfl, h1, h2⟩ := h
  simpa using Dats.cons q h2
 | x :: ds, vs, i + 1, h => by
  unfold Dats at h
  obtain ⟨w, r, rfl, h1, h2⟩ := h
  simpa using Dats.cons h1 (Dats.set q i h2)
theorem z1u {p : Addr} {o : HO} (b : Addr) (h : H b ≠ none) : upd H p o b ≠ none := by
 by_cases e : b = p
 ·subst e; rw [z0g]; simp
 ·rw [z09 e]; exact h
theorem Ext.laid {p : Addr} {o : HO} (h : H p = none) : Ext H μ (upd H p o) μ :=
 ⟨⟨[], by simp⟩, fun b u e _ _ => by rw [z09 (z0d e h)]; exact e, fun _ m => .inl m, z1u, fun _ t => t.upd (.inl h)⟩
theorem Cells.laid {p : Addr} {o : HO} {O : Ow} (c : Cells K H hid μ O) (h : H p = none) : Cells K (upd H p o) hid μ O := by
 refine ⟨c.len, c.nd, c.nh, fun a m => ?_, fun k a e => ?_⟩
 ·by_cases q : a = p
  ·subst q; rw [z0g]; simp
  ·rw [z09 q]; exact c.ht a m
 ·obtain ⟨ds, vs, h1, h2, h3⟩ := c.at_ k a e
  exact ⟨ds, vs, h1, by rw [z09 (z0d h2 h)]; exact h2, h3.ext (.laid h)⟩
theorem Cells.not_in {O : Ow} (c : Cells K H hid μ O) {p : Addr} (h : H p = none) : p ∉ hid /\ p ∉ μ := by
 refine ⟨fun m => c.ht p m h, fun m => ?_⟩
 obtain ⟨k, hk, e⟩ := List.mem_iff_getElem.mp m
 obtain ⟨ds, vs, _, h2, _⟩ := c.at_ k p (by rw [List.getElem?_eq_some_iff]; exact ⟨hk, e⟩)
 rw [h] at h2; cases h2
theorem Dat.newL {O : Ow} {p : Addr} {vs : List V} {ds : List D} (c : Cells K H hid μ O) (h : H p = none) (q : Dats K H hid μ ds vs) : Dat K (upd H p (.lst vs)) hid μ (.lst ds) (.ref p) := by
 unfold Dat
 exact ⟨p, vs, rfl, .inl ⟨.inl z0g, c.not_in h⟩, q.ext (.laid h)⟩
theorem Dat.newT {O : Ow} {p : Addr} {vs : List V} {ds : List D} (c : Cells K H hid μ O) (h : H p = none) (q : Dats K H hid μ ds vs) : Dat K (upd H p (.tup vs)) hid μ (.tup ds) (.ref p) := by
 unfold Dat
 exact ⟨p, vs, rfl, .inl ⟨.inl z0g, c.not_in h⟩, q.ext (.laid h)⟩
theorem Ext.cell {p : Addr} {o : HO} (h : H p = none) : Ext H μ (upd H p o) (μ ++ [p]) :=
 ⟨⟨[p], rfl⟩, fun b u e _ _ => by rw [z09 (z0d e h)]; exact e, fun b m => by
  rcases List.mem_append.mp m with m | m
  ·exact .inl m
  ·have : b = p := by simpa using m
   subst this; exact .inr h, z1u, fun _ t => t.upd (.inl h)⟩
theorem Cells.cell {O : Ow} {p : Addr} {vs : List V} {ds : List D} (c : Cells K H hid μ O) (h : H p = none) (q : Dats K H hid μ ds vs) : Cells K (upd H p (.lst vs)) hid (μ ++ [p]) (O ++ [ds]) := by
 have ni := c.not_in h
 refine ⟨by simp [c.len], ?_, fun a m => ?_, fun a m => ?_, fun k a e => ?_⟩
 ·rw [List.nodup_append]
  refine ⟨c.nd, by simp, fun a ha b hb => ?_⟩
  have : b = p := by simpa using hb
  subst this
  rintro rfl
  exact ni.2 ha
 ·rcases List.mem_append.mp m with m | m
  ·exact c.nh a m
  ·have : a = p := by simpa using m
   subst this; exact ni.1
 ·by_cases q : a = p
  ·subst q; rw [z0g]; simp
  ·rw [z09 q]; exact c.ht a m
 ·by_cases hk : k < μ.length
  ·rw [List.getElem?_append_left hk] at e
   obtain ⟨ds', vs', h1, h2, h3⟩ := c.at_ k a e
   exact ⟨ds', vs', by rw [List.getElem?_append_left (by rw [<- c.len]; exact hk)]; exact h1, by rw [z09 (z0d h2 h)]; exact h2, h3.ext (.cell h)⟩
  ·rw [List.getElem?_append_right (by omega)] at e
   have e0 : k - μ.length = 0 := by
    have := (List.getElem?_eq_some_iff.mp e).1
    simp at this; omega
   rw [e0] at e
   simp at e; subst e
   refine ⟨ds, vs, ?_, z0g, q.ext (.cell h)⟩
   have : k = O.length := by have := c.len; omega
   subst this; simp
theorem Ext.put {p : Addr} {o : HO} (h : p ∈ μ) (hl : ∃ vs, H p = some (.lst vs)) : Ext H μ (upd H p o) μ :=
 ⟨⟨[], by simp⟩, fun b u e n _ => by rw [z09 (by rintro rfl; exact n h)]; exact e, fun _ m => .inl m, z1u, fun _ t => t.upd (.inr hl)⟩
theorem Cells.put {O : Ow} {p : Addr} {k : Nat} {vs : List V} {ds : List D} (c : Cells K H hid μ O) (hk : μ[k]? = some p) (q : Dats K H hid μ ds vs) : Cells K (upd H p (.lst vs)) hid μ (O.set k ds) := by
 have hm : p ∈ μ := List.mem_of_getElem? hk
 have hl : ∃ vs, H p = some (.lst vs) := let ⟨_, vs, _, h2, _⟩ := c.at_ k p hk; ⟨vs, h2⟩
 refine ⟨by simp [c.len], c.nd, c.nh, fun a m => ?_, fun j a e => ?_⟩
 ·by_cases q : a = p
  ·subst q; rw [z0g]; simp
  ·rw [z09 q]; exact c.ht a m
 ·by_cases hj : j = k
  ·subst hj
   rw [hk] at e; cases e
   refine ⟨ds, vs, ?_, z0g, q.ext (.put hm hl)⟩
   rw [List.getElem?_set_self (by rw [<- c.len]; exact (List.getElem?_eq_some_iff.mp hk).1)]
  ·have ne : a ≠ p := by
    rintro rfl
    obtain ⟨h1, e1⟩ := List.getElem?_eq_some_iff.mp e
    obtain ⟨h2, e2⟩ := List.getElem?_eq_some_iff.mp hk
    exact hj ((List.getElem_inj c.nd).mp (e1.trans e2.symm))
   obtain ⟨ds', vs', h1, h2, h3⟩ := c.at_ j a e
   exact ⟨ds', vs', by rw [List.getElem?_set_ne (Ne.symm hj)]; exact h1, by rw [z09 ne]; exact h2, h3.ext (.put hm hl)⟩
end
section
variable (Ex : Nat -> Hp -> Prop) (K : PySem.W.Frag)
def post {α β : Type} (rel : Hp -> List Addr -> α -> β -> Prop) (H : Hp) (hid μ : List Addr) (r : R α) (Q : β -> Hp -> Prop) : Prop := match r with
 | .ok d O' => ∀ v H' μ', Ext H μ H' μ' -> Cells K H' hid μ' O' -> rel H' μ' d v -> Q v H'
 | .exc c O' => ∀ H' μ', Ext H μ H' μ' -> Cells K H' hid μ' O' -> Ex c H'
 | .bad => False
abbrev z0Y (H : Hp) (hid μ : List Addr) (r : R D) (Q : VK) : Prop := post Ex K (fun H' μ' d v => Dat K H' hid μ' d v) H hid μ r Q
abbrev z4M (H : Hp) (hid μ : List Addr) (r : R Bool) (Q : Bool -> Hp -> Prop) : Prop := post Ex K (fun _ _ d v => d = v) H hid μ r Q
abbrev zgp (H : Hp) (hid μ : List Addr) (r : R (List D)) (Q : List V -> Hp -> Prop) : Prop := post Ex K (fun H' μ' d v => Dats K H' hid μ' d v) H hid μ r Q
def rd (t : DE) : TE := fun σv H Q => ∃ hid μ σ O, EnvOk K H hid μ σ σv /\ Cells K H hid μ O /\ z0Y Ex K H hid μ (t σ O) Q
def rdT (t : DT) : TT := fun σv H Q => ∃ hid μ σ O, EnvOk K H hid μ σ σv /\ Cells K H hid μ O /\ z4M Ex K H hid μ (t σ O) Q
def rdA (t : DA) : TA := fun σv H Q => ∃ hid μ σ O, EnvOk K H hid μ σ σv /\ Cells K H hid μ O /\ zgp Ex K H hid μ (t σ O) Q
end
section
variable {Ex : Nat -> Hp -> Prop} {K : PySem.W.Frag} {H H1 : Hp} {hid μ μ1 : List Addr}
theorem post.ext {α β : Type} {rel : Hp -> List Addr -> α -> β -> Prop} {r : R α} {Q : β -> Hp -> Prop} (h : post Ex K rel H hid μ r Q) (e : Ext H μ H1 μ1) : post Ex K rel H1 hid μ1 r Q := by
 cases r with
 | ok d O' => exact fun v H' μ' e' c q => h v H' μ' (e.trans e') c q
 | exc c O' => exact fun H' μ' e' c => h H' μ' (e.trans e') c
 | bad => exact h
theorem post.bnd {α β α' β' : Type} {rel : Hp -> List Addr -> α -> β -> Prop} {rel' : Hp -> List Addr -> α' -> β' -> Prop} {r : R α} {k : α -> Ow -> R α'} {Q : β' -> Hp -> Prop} {Q1 : β -> Hp -> Prop}
  (h : post Ex K rel' H hid μ (r.bnd k) Q)
  (hk : ∀ d O1 v H1 μ1, Ext H μ H1 μ1 -> Cells K H1 hid μ1 O1 -> rel H1 μ1 d v -> post Ex K rel' H1 hid μ1 (k d O1) Q -> Q1 v H1) : post Ex K rel H hid μ r Q1 := by
 cases r with
 | ok d O' => exact fun v H' μ' e c q => hk d O' v H' μ' e c q (post.ext (show post Ex K rel' H hid μ (k d O') Q from h) e)
 | exc c O' => exact h
 | bad => exact h
theorem post.ok {α β : Type} {rel : Hp -> List Addr -> α -> β -> Prop} {d : α} {O : Ow} {Q : β -> Hp -> Prop} {v : β} (h : post Ex K rel H hid μ (.ok d O) Q) {H' : Hp} {μ' : List Addr} (e : Ext H μ H' μ') (c : Cells K H' hid μ' O) (q : rel H' μ' d v) : Q v H' := h v H' μ' e c q
theorem post.here {α β : Type} {rel : Hp -> List Addr -> α -> β -> Prop} {d : α} {O : Ow} {Q : β -> Hp -> Prop} {v : β} (h : post Ex K rel H hid μ (.ok d O) Q) (c : Cells K H hid μ O) (q : rel H μ d v) : Q v H := h v H μ .refl c q
end
structure PD (X : Cx) (Ex : Nat -> Hp -> Prop) (e : Expr) (t : DE) : Prop where
 out : PE X e (rd Ex X.K t)
structure PDT (X : Cx) (Ex : Nat -> Hp -> Prop) (e : Expr) (t : DT) : Prop where
 out : PT X e (rdT Ex X.K t)
structure PDA (X : Cx) (Ex : Nat -> Hp -> Prop) (es : List Expr) (t : DA) : Prop where
 out : PA X es (rdA Ex X.K t)
theorem PE.imp {X : Cx} {e : Expr} {t t' : TE} (h : PE X e t) (f : ∀ σ H Q, t' σ H Q -> t σ H Q) : PE X e t' := fun pins s σ H Q I q => h pins s σ H Q I (f σ H Q q)
theorem PT.imp {X : Cx} {e : Expr} {t t' : TT} (h : PT X e t) (f : ∀ σ H Q, t' σ H Q -> t σ H Q) : PT X e t' := fun pins s σ H Q I q => h pins s σ H Q I (f σ H Q q)
theorem PA.imp {X : Cx} {e : List Expr} {t t' : TA} (h : PA X e t) (f : ∀ σ H Q, t' σ H Q -> t σ H Q) : PA X e t' := fun pos pins s σ H Q I q => h pos pins s σ H Q I (f σ H Q q)
theorem PW.imp {X : Cx} {e : Expr} {t t' : TT} (h : PW X e t) (f : ∀ σ H Q, t' σ H Q -> t σ H Q) : PW X e t' := fun w pins s σ H Q I q => h w pins s σ H Q I (f σ H Q q)
end DL
namespace DL
open PySem L2
def z01 (i : Nat) : DE := fun σ O => match σ[i]? with
 | some (some d) => .ok d O
 | _ => .bad
def dC (d : D) : DE := fun _ O => .ok d O
section
variable {X : Cx} {Ex : Nat -> Hp -> Prop} {pos : Pos} {a b c : Expr} {ta tb tc : DE}
theorem z10 {e : Expr} {t : TE} {t' : DE} (h : PE X e t) (f : ∀ hid μ σ O σv H Q, EnvOk X.K H hid μ σ σv -> Cells X.K H hid μ O -> z0Y Ex X.K H hid μ (t' σ O) Q -> t σv H Q) : PD X Ex e t' :=
 ⟨PE.imp h fun σv H Q ⟨hid, μ, σ, O, e1, c1, q⟩ => f hid μ σ O σv H Q e1 c1 q⟩
theorem zad {e : Expr} {t : TT} {t' : DT} (h : PT X e t) (f : ∀ hid μ σ O σv H Q, EnvOk X.K H hid μ σ σv -> Cells X.K H hid μ O -> z4M Ex X.K H hid μ (t' σ O) Q -> t σv H Q) : PDT X Ex e t' :=
 ⟨PT.imp h fun σv H Q ⟨hid, μ, σ, O, e1, c1, q⟩ => f hid μ σ O σv H Q e1 c1 q⟩
theorem zdn {e : List Expr} {t : TA} {t' : DA} (h : PA X e t) (f : ∀ hid μ σ O σv H Q, EnvOk X.K H hid μ σ σv -> Cells X.K H hid μ O -> zgp Ex X.K H hid μ (t' σ O) Q -> t σv H Q) : PDA X Ex e t' :=
 ⟨PA.imp h fun σv H Q ⟨hid, μ, σ, O, e1, c1, q⟩ => f hid μ σ O σv H Q e1 c1 q⟩
theorem rd.go {α' β' : Type} {rel' : Hp -> List Addr -> α' -> β' -> Prop} {t : DE} {hid μ : List Addr} {σ : Sg} {O : Ow} {σv : St} {H : Hp} {Q1 : VK} {k : D -> Ow -> R α'} {Q : β' -> Hp -> Prop} (e1 : EnvOk X.K H hid μ σ σv) (c1 : Cells X.K H hid μ O)
  (q : post Ex X.K rel' H hid μ ((t σ O).bnd k) Q)
  (f : ∀ d O1 v H1 μ1, EnvOk X.K H1 hid μ1 σ σv -> Ext H μ H1 μ1 -> Cells X.K H1 hid μ1 O1 -> Dat X.K H1 hid μ1 d v -> post Ex X.K rel' H1 hid μ1 (k d O1) Q -> Q1 v H1) : rd Ex X.K t σv H Q1 :=
 ⟨hid, μ, σ, O, e1, c1, post.bnd q fun d O1 v H1 μ1 x c r p => f d O1 v H1 μ1 (e1.ext x) x c r p⟩
theorem rdT.go {α' β' : Type} {rel' : Hp -> List Addr -> α' -> β' -> Prop} {t : DT} {hid μ : List Addr} {σ : Sg} {O : Ow} {σv : St} {H : Hp} {Q1 : Bool -> Hp -> Prop} {k : Bool -> Ow -> R α'} {Q : β' -> Hp -> Prop} (e1 : EnvOk X.K H hid μ σ σv) (c1 : Cells X.K H hid μ O)
  (q : post Ex X.K rel' H hid μ ((t σ O).bnd k) Q)
  (f : ∀ v O1 H1 μ1, EnvOk X.K H1 hid μ1 σ σv -> Ext H μ H1 μ1 -> Cells X.K H1 hid μ1 O1 -> post Ex X.K rel' H1 hid μ1 (k v O1) Q -> Q1 v H1) : rdT Ex X.K t σv H Q1 :=
 ⟨hid, μ, σ, O, e1, c1, post.bnd q fun d O1 v H1 μ1 x c r p => by
  have r : d = v := r
  subst r
  exact f d O1 H1 μ1 (e1.ext x) x c p⟩
theorem rdA.go {α' β' : Type} {rel' : Hp -> List Addr -> α' -> β' -> Prop} {t : DA} {hid μ : List Addr} {σ : Sg} {O : Ow} {σv : St} {H : Hp} {Q1 : List V -> Hp -> Prop} {k : List D -> Ow -> R α'} {Q : β' -> Hp -> Prop} (e1 : EnvOk X.K H hid μ σ σv) (c1 : Cells X.K H hid μ O)
  (q : post Ex X.K rel' H hid μ ((t σ O).bnd k) Q)
  (f : ∀ d O1 v H1 μ1, EnvOk X.K H1 hid μ1 σ σv -> Ext H μ H1 μ1 -> Cells X.K H1 hid μ1 O1 -> Dats X.K H1 hid μ1 d v -> post Ex X.K rel' H1 hid μ1 (k d O1) Q -> Q1 v H1) : rdA Ex X.K t σv H Q1 :=
 ⟨hid, μ, σ, O, e1, c1, post.bnd q fun d O1 v H1 μ1 x c r p => f d O1 v H1 μ1 (e1.ext x) x c r p⟩
theorem zgI {i : Nat} {x : Str} (hN : X.N[i]? = some x) (hv : Vis X.env.scope x) (hd : (x == ("__debug__" : Str)) = false := by decide) (hcd : (x == ("__classdict__" : Str)) = false := by decide) : PD X Ex (.Name x pos) (z01 i) :=
 z10 (zdB hN hv hd hcd) fun hid μ σ O σv H Q e1 c1 q => by
  unfold z01 at q
  split at q
  ·rename_i d hd
   obtain ⟨v, h1, h2⟩ := e1.at_ i d hd
   exact ⟨v, h1, post.here q c1 h2⟩
  ·exact False.elim q
theorem zg6 {i j} : PD X Ex (.Constant (.int i) j pos) (dC (.int i)) := z10 zda fun hid μ σ O σv H Q e1 c1 q => post.here q c1 (by unfold Dat; rfl)
theorem zig {i j} : PD X Ex (.Constant (.bool i) j pos) (dC (.bl i)) := z10 zir fun hid μ σ O σv H Q e1 c1 q => post.here q c1 (by unfold Dat; rfl)
theorem zhz {j} : PD X Ex (.Constant .none j pos) (dC .non) := z10 zdi fun hid μ σ O σv H Q e1 c1 q => post.here q c1 (by unfold Dat; rfl)
theorem zhc {x : Str} {j} (cs : List Nat) (h : x = ⟨cs.toArray⟩) : PD X Ex (.Constant (.str x) j pos) (dC (.str cs)) := z10 zde fun hid μ σ O σv H Q e1 c1 q => post.here q c1 (by unfold Dat; rw [h])
theorem zcA {x : Str} {y : Str} {t : Tok} (cs : List Nat) (hg : Gl X x) (hm : X.mg x = some (.str y t)) (h : y = ⟨cs.toArray⟩) (hd : (x == ("__debug__" : Str)) = false := by decide) : PD X Ex (.Name x pos) (dC (.str cs)) :=
 z10 (zaV (v := .str y) hg hm ⟨t, rfl⟩ hd) fun hid μ σ O σv H Q e1 c1 q => post.here q c1 (by unfold Dat; rw [h])
def dOp (f : Ow -> D -> D -> R D) (ta tb : DE) : DE := fun σ O => (ta σ O).bnd fun x O1 => (tb σ O1).bnd fun y O2 => f O2 x y
def OpD (X : Cx) (Ex : Nat -> Hp -> Prop) (r : R2) (f : Ow -> D -> D -> R D) : Prop := ∀ (H : Hp) (hid μ : List Addr) (O : Ow) (x y : D) (v w : V) (Q : VK), Cells X.K H hid μ O -> Dat X.K H hid μ x v -> Dat X.K H hid μ y w -> z0Y Ex X.K H hid μ (f O x y) Q -> r v w H Q
theorem z8k {r : R2} {f : Ow -> D -> D -> R D} (h : OpD X Ex r f) (hid μ : List Addr) (σ : Sg) (O : Ow) (σv : St) (H : Hp) (Q : VK) (e1 : EnvOk X.K H hid μ σ σv) (c1 : Cells X.K H hid μ O) (q : z0Y Ex X.K H hid μ (dOp f ta tb σ O) Q) :
  tOp r (rd Ex X.K ta) (rd Ex X.K tb) σv H Q :=
 rd.go e1 c1 q fun x O1 v H1 μ1 e2 x2 c2 d2 q2 => rd.go e2 c2 q2 fun y O2 w H2 μ2 e3 x3 c3 d3 q3 => h H2 hid μ2 O2 x y v w Q c3 (d2.ext x3) d3 q3
theorem z54 {op : Operator} {r : R2} {f : Ow -> D -> D -> R D} (ho : OpR X (binaryOp op) r) (h : OpD X Ex r f) (ha : PD X Ex a ta) (hb : PD X Ex b tb) : PD X Ex (.BinOp a op b pos) (dOp f ta tb) :=
 z10 (zi8 ho ha.out hb.out) (z8k h)
theorem z3d {op : CmpOp} {r : R2} {f : Ow -> D -> D -> R D} (ho : OpR X (compareOp op) r) (h : OpD X Ex r f) (ha : PD X Ex a ta) (hb : PD X Ex b tb) (hm : behindInMarks op b = false) : PD X Ex (.Compare a [op] [b] pos) (dOp f ta tb) :=
 z10 (zeQ ho ha.out hb.out hm) (z8k h)
def z0z (t : DE) : DT := fun σ O => (t σ O).bnd fun x O1 => match x with
 | .bl k => .ok k O1
 | _ => .bad
theorem zcB {t : TE} {td : DE} (f : ∀ hid μ σ O σv H Q, EnvOk X.K H hid μ σ σv -> Cells X.K H hid μ O -> z0Y Ex X.K H hid μ (td σ O) Q -> t σv H Q) (hid μ : List Addr) (σ : Sg) (O : Ow) (σv : St) (H : Hp) (Q : Bool -> Hp -> Prop)
  (e1 : EnvOk X.K H hid μ σ σv) (c1 : Cells X.K H hid μ O) (q : z4M Ex X.K H hid μ (z0z td σ O) Q) : zhD t σv H Q := by
 refine f hid μ σ O σv H _ e1 c1 ?_
 refine post.bnd q fun d O1 v H1 μ1 x c r p => ?_
 cases d with
 | bl k =>
  have r : v = .bl k := by unfold Dat at r; exact r
  exact ⟨k, r, post.here p c rfl⟩
 | _ => exact False.elim p
theorem z2Y {op : CmpOp} {r : R2} {f : Ow -> D -> D -> R D} (ho : OpR X (compareOp op) r) (h : OpD X Ex r f) (ha : PD X Ex a ta) (hb : PD X Ex b tb) (hm : behindInMarks op b = false) : PDT X Ex (.Compare a [op] [b] pos) (z0z (dOp f ta tb)) :=
 zad (zfQ ho ha.out hb.out hm) (zcB (z8k h))
def zdm (O : Ow) : D -> R Bool
 | .non => .ok false O
 | .bl b => .ok b O
 | .int i => .ok (i != 0) O
 | .str cs => if cs.length <= 100000 then .ok (!cs.isEmpty) O else .bad
 | .lst ds => .ok (!ds.isEmpty) O
 | .tup ds => .ok (!ds.isEmpty) O
 | .own k => match O[k]? with
  | some ds => .ok (!ds.isEmpty) O
  | none => .bad
 | .dct => .bad
 | .exn _ => .bad
 | .tab _ => .bad
 | .map _ _ => .bad
def z1s (t : DE) : DT := fun σ O => (t σ O).bnd fun x O1 => zdm O1 x
theorem z0y {n : Nat} (h : n <= 100000) : n <= sizeLine := Nat.le_trans h (by decide)
theorem z1K {K : PySem.W.Frag} {H : Hp} {hid μ : List Addr} {ds : List D} {vs : List V} (h : Dats K H hid μ ds vs) : (!ds.isEmpty) = !vs.isEmpty := by
 have e := h.length
 cases ds <;> cases vs <;> simp_all
theorem zfW (ha : PD X Ex a ta) (he : ∀ whole, isTrue a X.env whole = (do let v <- whole; standAt a.pos; holding [v] (truthy v))) : PDT X Ex a (z1s ta) :=
 zad (zct ha.out he) fun hid μ σ O σv H Q e1 c1 q => rd.go e1 c1 q fun d O1 v H1 μ1 e2 x c r p => by
  cases d with
  | non => unfold Dat at r; subst r; exact ⟨_, rfl, post.here p c rfl⟩
  | bl b => unfold Dat at r; subst r; exact ⟨_, rfl, post.here p c rfl⟩
  | int b => unfold Dat at r; subst r; exact ⟨_, rfl, post.here p c rfl⟩
  | str cs =>
   unfold Dat at r; subst r
   by_cases hl : cs.length <= 100000
   ·have p' : z4M Ex X.K H1 hid μ1 (.ok (!cs.isEmpty) O1) Q := by
     have p2 : z4M Ex X.K H1 hid μ1 (if cs.length <= 100000 then .ok (!cs.isEmpty) O1 else .bad) Q := p
     rw [if_pos hl] at p2; exact p2
    refine ⟨_, ⟨?_, rfl⟩, ?_⟩
    ·show cs.toArray.size <= _
     rw [List.size_toArray]; exact z0y hl
    ·have e : (((⟨cs.toArray⟩ : Str).length : Int) != 0) = !cs.isEmpty := by
      show ((cs.toArray.size : Int) != 0) = _
      rw [List.size_toArray]
      cases cs <;> simp [bne]
      omega
     rw [e]; exact post.here p' c rfl
   ·have p2 : z4M Ex X.K H1 hid μ1 (if cs.length <= 100000 then .ok (!cs.isEmpty) O1 else .bad) Q := p
    rw [if_neg hl] at p2; exact False.elim p2
  | lst ds =>
   unfold Dat at r
   obtain ⟨a, vs, rfl, l, q⟩ := r
   exact ⟨_, .inl ⟨vs, l.sq, rfl⟩, by rw [<- z1K q]; exact post.here p c rfl⟩
  | tup ds =>
   unfold Dat at r
   obtain ⟨a, vs, rfl, l, q⟩ := r
   exact ⟨_, .inr (.inl ⟨vs, l.sq, rfl⟩), by rw [<- z1K q]; exact post.here p c rfl⟩
  | own k =>
   unfold Dat at r
   obtain ⟨a, rfl, hk⟩ := r
   obtain ⟨ds, vs, h1, h2, h3⟩ := c.at_ k a hk
   have p' : z4M Ex X.K H1 hid μ1 (.ok (!ds.isEmpty) O1) Q := by
    have p2 : z4M Ex X.K H1 hid μ1 (match O1[k]? with | some ds => .ok (!ds.isEmpty) O1 | none => .bad) Q := p
    rw [h1] at p2; exact p2
   exact ⟨_, .inl ⟨vs, .of h2, rfl⟩, by rw [<- z1K h3]; exact post.here p' c rfl⟩
  | dct => exact False.elim p
  | exn _ => exact False.elim p
  | tab _ => exact False.elim p
  | map _ _ => exact False.elim p
def fI (g : Int -> Int -> Option D) : Ow -> D -> D -> R D := fun O x y => match x, y with
 | .int i, .int j => match g i j with
  | some d => .ok d O
  | none => .bad
 | _, _ => .bad
theorem z3I {C : Int -> Int -> Prop} {gv : Int -> Int -> V} {g : Int -> Int -> Option D} (h : ∀ i j d, g i j = some d -> C i j /\ ∀ K H hid μ, Dat K H hid μ d (gv i j)) : OpD X Ex (rI C gv) (fI g) := by
 intro H hid μ O x y v w Q c dx dy q
 unfold fI at q
 split at q
 ·rename_i i j
  unfold Dat at dx dy
  subst dx; subst dy
  split at q
  ·rename_i d hd
   obtain ⟨h1, h2⟩ := h i j d hd
   exact ⟨i, j, rfl, rfl, h1, post.here q c (h2 _ _ _ _)⟩
  ·exact False.elim q
 ·exact False.elim q
theorem z38 {gv : Int -> Int -> V} {g : Int -> Int -> Option D} (h : ∀ i j d, g i j = some d -> ∀ K H hid μ, Dat K H hid μ d (gv i j)) : OpD X Ex (rI0 gv) (fI g) := by
 intro H hid μ O x y v w Q c dx dy q
 unfold fI at q
 split at q
 ·rename_i i j
  unfold Dat at dx dy
  subst dx; subst dy
  split at q
  ·rename_i d hd
   exact ⟨i, j, rfl, rfl, post.here q c (h i j d hd _ _ _ _)⟩
  ·exact False.elim q
 ·exact False.elim q
theorem z0o {K H hid μ} {i : Int} : Dat K H hid μ (.int i) (.int i) := by unfold Dat; rfl
theorem z1w {K H hid μ} {i : Bool} : Dat K H hid μ (.bl i) (.bl i) := by unfold Dat; rfl
theorem z84 {K H hid μ} : Dat K H hid μ .non .non := by unfold Dat; rfl
theorem z8a {K H hid μ} {cs : List Nat} : Dat K H hid μ (.str cs) (.str ⟨cs.toArray⟩) := by unfold Dat; rfl
def gB (p : Int -> Int -> Bool) : Int -> Int -> Option D := fun i j => some (.bl (p i j))
def gI (p : Int -> Int -> Int) : Int -> Int -> Option D := fun i j => some (.int (p i j))
def zbF : Int -> Int -> Option D := gI fun i j => i - j
def z69 : Int -> Int -> Option D := fun i j => if (-1000000000000000 < i /\ i < 1000000000000000) \/ (-1000000000000000 < j /\ j < 1000000000000000) then some (.int (i * j)) else none
def z9s : Int -> Int -> Option D := fun i j => if 0 < j /\ j < 1073741824 then some (.int (i / j)) else none
def z5g : Int -> Int -> Option D := fun i j => if 0 < j then some (.int (i % j)) else none
def zbl : Int -> Int -> Option D := fun i j => if 0 <= j /\ j <= 1000000 /\ i.natAbs < 2 ^ 64 then some (.int (i ^ j.toNat)) else none
def zg1 : Int -> Int -> Option D := fun i j => if 0 <= j /\ j <= 1000000 /\ i.natAbs < 2 ^ 64 then some (.int (i * 2 ^ j.toNat)) else none
theorem ze9 : OpD X Ex (rI0 fun i j => .int (i - j)) (fI zbF) := z38 fun i j d h _ _ _ _ => by cases h; exact z0o
theorem zes : OpD X Ex (rI CMul fun i j => .int (i * j)) (fI z69) := z3I fun i j d h => by
 unfold z69 at h; split at h
 ·rename_i hc; cases h; exact ⟨hc.imp (fun z => ⟨by omega, by omega⟩) fun z => ⟨by omega, by omega⟩, fun _ _ _ _ => z0o⟩
 ·cases h
theorem zeF : OpD X Ex (rI zj9 fun i j => .int (i / j)) (fI z9s) := z3I fun i j d h => by
 unfold z9s at h; split at h
 ·rename_i hc; cases h; exact ⟨hc, fun _ _ _ _ => z0o⟩
 ·cases h
theorem zfC : OpD X Ex (rI (fun _ j => 0 < j) fun i j => .int (i % j)) (fI z5g) := z3I fun i j d h => by
 unfold z5g at h; split at h
 ·rename_i hc; cases h; exact ⟨hc, fun _ _ _ _ => z0o⟩
 ·cases h
theorem zfu : OpD X Ex (rI zhS fun i j => .int (i ^ j.toNat)) (fI zbl) := z3I fun i j d h => by
 unfold zbl at h; split at h
 ·rename_i hc; cases h; exact ⟨hc, fun _ _ _ _ => z0o⟩
 ·cases h
theorem zek : OpD X Ex (rI zhS fun i j => .int (i * 2 ^ j.toNat)) (fI zg1) := z3I fun i j d h => by
 unfold zg1 at h; split at h
 ·rename_i hc; cases h; exact ⟨hc, fun _ _ _ _ => z0o⟩
 ·cases h
def fLt : Ow -> D -> D -> R D := fI (gB fun i j => decide (i < j))
def fLe : Ow -> D -> D -> R D := fI (gB fun i j => decide (i <= j))
def fGe : Ow -> D -> D -> R D := fI (gB fun i j => decide (j <= i))
theorem zau : OpD X Ex (rI0 fun i j => .bl (decide (i < j))) fLt := z38 fun i j d h _ _ _ _ => by cases h; exact z1w
theorem zdu : OpD X Ex (rI0 fun i j => .bl (decide (i <= j))) fLe := z38 fun i j d h _ _ _ _ => by cases h; exact z1w
theorem zdp : OpD X Ex (rI0 fun i j => .bl (decide (j <= i))) fGe := z38 fun i j d h _ _ _ _ => by cases h; exact z1w
def z97 : D -> Bool
 | .non => true
 | _ => false
def zhZ : Ow -> D -> D -> R D := fun O x y => match y with
 | .non => .ok (.bl (z97 x)) O
 | _ => .bad
def z9k : Ow -> D -> D -> R D := fun O x y => match y with
 | .non => .ok (.bl (!z97 x)) O
 | _ => .bad
theorem zaK {K H hid μ} {x : D} {v : V} (h : Dat K H hid μ x v) : decide (v = .non) = z97 x := by
 cases x with
 | non => unfold Dat at h; subst h; rfl
 | bl _ => unfold Dat at h; subst h; rfl
 | int _ => unfold Dat at h; subst h; rfl
 | str _ => unfold Dat at h; subst h; rfl
 | lst _ => unfold Dat at h; obtain ⟨_, _, rfl, _⟩ := h; rfl
 | tup _ => unfold Dat at h; obtain ⟨_, _, rfl, _⟩ := h; rfl
 | own _ => unfold Dat at h; obtain ⟨_, rfl, _⟩ := h; rfl
 | dct => unfold Dat at h; obtain ⟨_, rfl, _⟩ := h; rfl
 | exn _ => unfold Dat at h; obtain ⟨_, _, rfl, _⟩ := h; rfl
 | tab _ => unfold Dat at h; obtain ⟨rfl, _⟩ := h; rfl
 | map _ _ => unfold Dat at h; obtain ⟨_, _, rfl, _⟩ := h; rfl
theorem zbt : OpD X Ex (fun x y H Q => y = .non /\ Q (.bl (decide (x = .non))) H) zhZ := by
 intro H hid μ O x y v w Q c dx dy q
 cases y with
 | non =>
  unfold Dat at dy; subst dy
  refine ⟨rfl, ?_⟩
  rw [zaK dx]
  exact post.here (show z0Y Ex X.K H hid μ (.ok (.bl (z97 x)) O) Q from q) c z1w
 | _ => exact False.elim q
theorem z8F : OpD X Ex (fun x y H Q => y = .non /\ Q (.bl (!decide (x = .non))) H) z9k := by
 intro H hid μ O x y v w Q c dx dy q
 cases y with
 | non =>
  unfold Dat at dy; subst dy
  refine ⟨rfl, ?_⟩
  rw [zaK dx]
  exact post.here (show z0Y Ex X.K H hid μ (.ok (.bl (!z97 x)) O) Q from q) c z1w
 | _ => exact False.elim q
def z8B (t u : DE) : DE := fun σ O => (t σ O).bnd fun x O1 => match x with
 | .bl true => u σ O1
 | .bl false => .ok (.bl false) O1
 | _ => .bad
def dOr (t u : DE) : DE := fun σ O => (t σ O).bnd fun x O1 => match x with
 | .bl true => .ok (.bl true) O1
 | .bl false => u σ O1
 | _ => .bad
def ziD (t : DE) : DE := fun σ O => (t σ O).bnd fun x O1 => match x with
 | .bl b => .ok (.bl (!b)) O1
 | _ => .bad
def z1y (t u : DT) : DT := fun σ O => (t σ O).bnd fun x O1 => if x = true then u σ O1 else .ok false O1
def zeO (t u : DT) : DT := fun σ O => (t σ O).bnd fun x O1 => if x = true then .ok true O1 else u σ O1
def z1o (t : DT) : DT := fun σ O => (t σ O).bnd fun x O1 => .ok (!x) O1
def dIf (t : DT) (u v : DE) : DE := fun σ O => (t σ O).bnd fun x O1 => if x = true then u σ O1 else v σ O1
theorem zhI {op} (ha : PD X Ex a ta) : PD X Ex (.BoolOp op [a] pos) ta := ⟨zg2 ha.out⟩
theorem zgt {z2X : List Expr} (ha : PD X Ex a ta) (hb : PD X Ex (.BoolOp .And (b :: z2X) pos) tb) : PD X Ex (.BoolOp .And (a :: b :: z2X) pos) (z8B ta tb) :=
 z10 (zg3 ha.out hb.out) fun hid μ σ O σv H Q e1 c1 q => rd.go e1 c1 q fun d O1 v H1 μ1 e2 x c r p => by
  cases d with
  | bl k =>
   unfold Dat at r; subst r
   refine ⟨k, rfl, ?_⟩
   cases k with
   | true => rw [if_pos rfl]; exact ⟨hid, μ1, σ, O1, e2, c, p⟩
   | false => rw [if_neg Bool.false_ne_true]; exact post.here p c z1w
  | _ => exact False.elim p
theorem ziL {z2X : List Expr} (ha : PD X Ex a ta) (hb : PD X Ex (.BoolOp .Or (b :: z2X) pos) tb) : PD X Ex (.BoolOp .Or (a :: b :: z2X) pos) (dOr ta tb) :=
 z10 (zio ha.out hb.out) fun hid μ σ O σv H Q e1 c1 q => rd.go e1 c1 q fun d O1 v H1 μ1 e2 x c r p => by
  cases d with
  | bl k =>
   unfold Dat at r; subst r
   refine ⟨k, rfl, ?_⟩
   cases k with
   | true => rw [if_pos rfl]; exact post.here p c z1w
   | false => rw [if_neg Bool.false_ne_true]; exact ⟨hid, μ1, σ, O1, e2, c, p⟩
  | _ => exact False.elim p
theorem zhC (ha : PD X Ex a ta) : PD X Ex (.UnaryOp .Not a pos) (ziD ta) :=
 z10 (zgm ha.out) fun hid μ σ O σv H Q e1 c1 q => rd.go e1 c1 q fun d O1 v H1 μ1 e2 x c r p => by
  cases d with
  | bl k => unfold Dat at r; subst r; exact ⟨k, rfl, post.here p c z1w⟩
  | _ => exact False.elim p
structure PDW (X : Cx) (Ex : Nat -> Hp -> Prop) (e : Expr) (t : DT) : Prop where
 out : PW X e (rdT Ex X.K t)
theorem PDW.pt {e : Expr} {t : DT} (h : PDW X Ex e t) : PDT X Ex e t := ⟨L2.PW.pt h.out⟩
theorem zd9 {e : Expr} {t : TT} {t' : DT} (h : PW X e t) (f : ∀ hid μ σ O σv H Q, EnvOk X.K H hid μ σ σv -> Cells X.K H hid μ O -> z4M Ex X.K H hid μ (t' σ O) Q -> t σv H Q) : PDW X Ex e t' :=
 ⟨PW.imp h fun σv H Q ⟨hid, μ, σ, O, e1, c1, q⟩ => f hid μ σ O σv H Q e1 c1 q⟩
theorem zdZ {z2X : List Expr} {tA tB : DT} (ha : PDT X Ex a tA) (hb : PDW X Ex (.BoolOp .And (b :: z2X) pos) tB) : PDW X Ex (.BoolOp .And (a :: b :: z2X) pos) (z1y tA tB) :=
 zd9 (zgb ha.out hb.out) fun hid μ σ O σv H Q e1 c1 q => rdT.go e1 c1 q fun k O1 H1 μ1 e2 x c p => by
  cases k with
  | true => rw [if_pos rfl]; exact ⟨hid, μ1, σ, O1, e2, c, p⟩
  | false => rw [if_neg Bool.false_ne_true]; exact post.here p c rfl
theorem zgF {z2X : List Expr} {tA tB : DT} (ha : PDT X Ex a tA) (hb : PDW X Ex (.BoolOp .Or (b :: z2X) pos) tB) : PDW X Ex (.BoolOp .Or (a :: b :: z2X) pos) (zeO tA tB) :=
 zd9 (zit ha.out hb.out) fun hid μ σ O σv H Q e1 c1 q => rdT.go e1 c1 q fun k O1 H1 μ1 e2 x c p => by
  cases k with
  | true => rw [if_pos rfl]; exact post.here p c rfl
  | false => rw [if_neg Bool.false_ne_true]; exact ⟨hid, μ1, σ, O1, e2, c, p⟩
theorem zcZ {tA : DT} (ha : PDT X Ex a tA) : PDW X Ex (.BoolOp .And [a] pos) tA := ⟨zef ha.out⟩
theorem zfa {tA : DT} (ha : PDT X Ex a tA) : PDW X Ex (.BoolOp .Or [a] pos) tA := ⟨zhP ha.out⟩
theorem zfx {tA : DT} (ha : PDT X Ex a tA) : PDT X Ex (.UnaryOp .Not a pos) (z1o tA) :=
 zad (zgT ha.out) fun hid μ σ O σv H Q e1 c1 q => rdT.go e1 c1 q fun k O1 H1 μ1 e2 x c p => post.here p c rfl
theorem zcw {tA : DT} (hc : PDT X Ex c tA) (ha : PD X Ex a ta) (hb : PD X Ex b tb) : PD X Ex (.IfExp c a b pos) (dIf tA ta tb) :=
 z10 (zcd hc.out ha.out hb.out) fun hid μ σ O σv H Q e1 c1 q => rdT.go e1 c1 q fun k O1 H1 μ1 e2 x c p => by
  cases k with
  | true => rw [if_pos rfl]; exact ⟨hid, μ1, σ, O1, e2, c, p⟩
  | false => rw [if_neg Bool.false_ne_true]; exact ⟨hid, μ1, σ, O1, e2, c, p⟩
def z9I (f g : Ow -> D -> D -> R D) (ta tb tc : DE) : DE := fun σ O => (ta σ O).bnd fun x O1 => (tb σ O1).bnd fun y O2 => (f O2 x y).bnd fun z O3 => match z with
 | .bl true => (tc σ O3).bnd fun w O4 => g O4 y w
 | .bl false => .ok (.bl false) O3
 | _ => .bad
theorem zcb {op op' : CmpOp} {r r' : R2} {f g : Ow -> D -> D -> R D} (ho : OpR X (compareOp op) r) (h : OpD X Ex r f) (ho' : OpR X (compareOp op') r') (h' : OpD X Ex r' g) (ha : PD X Ex a ta) (hb : PD X Ex b tb) (hc : PD X Ex c tc)
  (hm : lastMarks [op, op'] [b, c] = false := by with_unfolding_all rfl) : PD X Ex (.Compare a [op, op'] [b, c] pos) (z9I f g ta tb tc) :=
 z10 (zc4 ho ho' ha.out hb.out hc.out hm) fun hid μ σ O σv H Q e1 c1 q => rd.go e1 c1 q fun x O1 v H1 μ1 e2 x2 c2 d2 q2 => rd.go e2 c2 q2 fun y O2 w H2 μ2 e3 x3 c3 d3 q3 =>
  h H2 hid μ2 O2 x y v w _ c3 (d2.ext x3) d3 (post.bnd q3 fun z O3 u H3 μ3 x4 c4 r4 p => by
   cases z with
   | bl k =>
    unfold Dat at r4; subst r4
    refine ⟨k, rfl, ?_⟩
    cases k with
    | true => rw [if_pos rfl]; exact rd.go (e3.ext x4) c4 p fun w2 O4 v4 H4 μ4 e5 x5 c5 d5 q5 => h' H4 hid μ4 O4 y w2 w v4 Q c5 ((d3.ext x4).ext x5) d5 q5
    | false => rw [if_neg Bool.false_ne_true]; exact post.here p c4 z1w
   | _ => exact False.elim p)
def z03 : DA := fun _ O => .ok [] O
def z00 (t : DE) (u : DA) : DA := fun σ O => (t σ O).bnd fun x O1 => (u σ O1).bnd fun xs O2 => .ok (x :: xs) O2
theorem zf3 : PDA X Ex [] z03 := zdn z5b fun hid μ σ O σv H Q e1 c1 q => post.here q c1 .nil
theorem zco {es : List Expr} {t : DA} (ha : PD X Ex a ta) (hr : PDA X Ex es t) (hs : starEach (a :: es) X.env = (false, eval a X.env) :: starEach es X.env := by rfl) : PDA X Ex (a :: es) (z00 ta t) :=
 zdn (z2a ha.out hr.out hs) fun hid μ σ O σv H Q e1 c1 q => rd.go e1 c1 q fun x O1 v H1 μ1 e2 x2 c2 d2 q2 => rdA.go e2 c2 q2 fun y O2 w H2 μ2 e3 x3 c3 d3 q3 => post.here q3 c3 (.cons (d2.ext x3) d3)
def zfA (t : DA) : DE := fun σ O => (t σ O).bnd fun xs O1 => if xs.length <= 100000 then .ok (.tup xs) O1 else .bad
def z41 (t : DA) : DE := fun σ O => (t σ O).bnd fun xs O1 => if xs.length <= 100000 then .ok (.lst xs) O1 else .bad
def z33 (t : DA) : DE := fun σ O => (t σ O).bnd fun xs O1 => if xs.length <= 100000 then .ok (.own O1.length) (O1 ++ [xs]) else .bad
theorem post.ite {α β : Type} {K : PySem.W.Frag} {H : Hp} {hid μ : List Addr} {rel : Hp -> List Addr -> α -> β -> Prop} {Q : β -> Hp -> Prop} {c : Prop} [Decidable c] {r : R α} (h : post Ex K rel H hid μ (if c then r else .bad) Q) : c /\ post Ex K rel H hid μ r Q := by
 by_cases hc : c
 ·rw [if_pos hc] at h; exact ⟨hc, h⟩
 ·rw [if_neg hc] at h; exact False.elim h
theorem zhr {es : List Expr} {t : DA} {x1} (h : PDA X Ex es t) : PD X Ex (.Tuple es x1 pos) (zfA t) :=
 z10 (zdk h.out) fun hid μ σ O σv H Q e1 c1 q => rdA.go e1 c1 q fun xs O1 vs H1 μ1 e2 x2 c2 d2 q2 => by
  obtain ⟨hl, q2⟩ := post.ite q2
  exact ⟨by rw [<- d2.length]; exact z0y hl, fun p hp => post.ok q2 (.laid hp) (c2.laid hp) (Dat.newT c2 hp d2)⟩
theorem zh8 {es : List Expr} {t : DA} (h : PDA X Ex es t) : PD X Ex (.List es pos) (z41 t) :=
 z10 (zdA h.out) fun hid μ σ O σv H Q e1 c1 q => rdA.go e1 c1 q fun xs O1 vs H1 μ1 e2 x2 c2 d2 q2 => by
  obtain ⟨hl, q2⟩ := post.ite q2
  exact ⟨by rw [<- d2.length]; exact z0y hl, fun p hp => post.ok q2 (.laid hp) (c2.laid hp) (Dat.newL c2 hp d2)⟩
theorem z1a {K : PySem.W.Frag} {H : Hp} {hid μ : List Addr} {p : Addr} {n : Nat} (h : μ.length = n) : Dat K H hid (μ ++ [p]) (.own n) (.ref p) := by
 unfold Dat
 exact ⟨p, rfl, by rw [<- h]; simp⟩
theorem zfS {es : List Expr} {t : DA} (h : PDA X Ex es t) : PD X Ex (.List es pos) (z33 t) :=
 z10 (zdA h.out) fun hid μ σ O σv H Q e1 c1 q => rdA.go e1 c1 q fun xs O1 vs H1 μ1 e2 x2 c2 d2 q2 => by
  obtain ⟨hl, q2⟩ := post.ite q2
  exact ⟨by rw [<- d2.length]; exact z0y hl, fun p hp => post.ok q2 (.cell hp) (c2.cell hp d2) (z1a c2.len)⟩
end
inductive Src where
 | val (ds : List D)
 | own (k : Nat)
 | zip (a b : Src)
 deriving Repr, Inhabited
def Src.get : Src -> Ow -> Nat -> Option D
 | .val ds, _, i => ds[i]?
 | .own k, O, i => match O[k]? with
  | some ds => ds[i]?
  | none => none
 | .zip a b, O, i => match a.get O i, b.get O i with
  | some x, some y => some (.tup [x, y])
  | _, _ => none
def Src.size : Src -> Ow -> Nat
 | .val ds, _ => ds.length
 | .own k, O => match O[k]? with
  | some ds => ds.length
  | none => 0
 | .zip a b, O => min (a.size O) (b.size O)
abbrev DI := Sg -> Ow -> R Src
def SrcAt (K : PySem.W.Frag) (J : It) (src : Src) (H : Hp) (hid μ : List Addr) : Prop := ∀ hid' H' μ' O', Mv H hid μ H' hid' μ' -> Cells K H' hid' μ' O' -> ∀ i,
 match src.get O' i with
 | some d => J.go i H' /\ ∀ x H'', J.yld i H' x H'' -> Ext H' μ' H'' μ' /\ Cells K H'' hid' μ' O' /\ Dat K H'' hid' μ' d x
 | none => J.stop i H'
def rdI (Ex : Nat -> Hp -> Prop) (K : PySem.W.Frag) (t : DI) : TI := fun σv H Rr => ∃ hid μ σ O, EnvOk K H hid μ σ σv /\ Cells K H hid μ O /\ post Ex K (fun H' μ' s J => SrcAt K J s H' hid μ') H hid μ (t σ O) Rr
structure PDI (X : Cx) (Ex : Nat -> Hp -> Prop) (tg iter : Expr) (t : DI) : Prop where
 out : PI X tg iter (rdI Ex X.K t)
theorem SrcAt.mv {K : PySem.W.Frag} {J : It} {src : Src} {H H1 : Hp} {hid hid1 μ μ1 : List Addr} (h : SrcAt K J src H hid μ) (e : Mv H hid μ H1 hid1 μ1) : SrcAt K J src H1 hid1 μ1 :=
 fun hid' H' μ' O' m c => h hid' H' μ' O' (e.trans m) c
theorem SrcAt.val {K : PySem.W.Frag} {H : Hp} {hid μ : List Addr} {ds : List D} {vs : List V} {a : Addr} (l : LstAt K H hid μ a vs) (q : Dats K H hid μ ds vs) : SrcAt K (Itl K a) (.val ds) H hid μ := by
 intro hid' H' μ' O' m c i
 have sq := (l.mv m).sq
 have q' := q.mv m
 show match ds[i]? with | some d => _ | none => _
 cases e : ds[i]? with
 | some d =>
  obtain ⟨v, h1, h2⟩ := q'.get e
  refine ⟨⟨vs, v, sq, h1⟩, fun x H'' y => ?_⟩
  obtain ⟨rfl, y⟩ := y
  have := y vs sq
  rw [h1] at this; cases this
  exact ⟨.refl, c, h2⟩
 | none =>
  refine ⟨vs, sq, ?_⟩
  have := List.getElem?_eq_none_iff.mp e
  rw [<- q.length]; exact this
theorem SrcAt.tup {K : PySem.W.Frag} {H : Hp} {hid μ : List Addr} {ds : List D} {vs : List V} {a : Addr} (l : TupAt K H hid μ a vs) (q : Dats K H hid μ ds vs) : SrcAt K (Itt K a) (.val ds) H hid μ := by
 intro hid' H' μ' O' m c i
 have sq := (l.mv m).sq
 have q' := q.mv m
 show match ds[i]? with | some d => _ | none => _
 cases e : ds[i]? with
 | some d =>
  obtain ⟨v, h1, h2⟩ := q'.get e
  refine ⟨⟨vs, v, sq, h1⟩, fun x H'' y => ?_⟩
  obtain ⟨rfl, y⟩ := y
  have := y vs sq
  rw [h1] at this; cases this
  exact ⟨.refl, c, h2⟩
 | none =>
  refine ⟨vs, sq, ?_⟩
  have := List.getElem?_eq_none_iff.mp e
  rw [<- q.length]; exact this
theorem SrcAt.own {K : PySem.W.Frag} {H : Hp} {hid μ : List Addr} {k : Nat} {a : Addr} (hk : μ[k]? = some a) : SrcAt K (Itl K a) (.own k) H hid μ := by
 intro hid' H' μ' O' m c i
 obtain ⟨ν, rfl⟩ := m.pre
 have hk' : (μ ++ ν)[k]? = some a := by rw [List.getElem?_append_left (List.getElem?_eq_some_iff.mp hk).1]; exact hk
 obtain ⟨ds, vs, h1, h2, h3⟩ := c.at_ k a hk'
 have sq : SqL K H' a vs := .of h2
 show match (match O'[k]? with | some ds => ds[i]? | none => none) with | some d => _ | none => _
 rw [h1]
 show match ds[i]? with | some d => _ | none => _
 cases e : ds[i]? with
 | some d =>
  obtain ⟨v, g1, g2⟩ := h3.get e
  refine ⟨⟨vs, v, sq, g1⟩, fun x H'' y => ?_⟩
  obtain ⟨rfl, y⟩ := y
  have := y vs sq
  rw [g1] at this; cases this
  exact ⟨.refl, c, g2⟩
 | none =>
  refine ⟨vs, sq, ?_⟩
  have := List.getElem?_eq_none_iff.mp e
  rw [<- h3.length]; exact this
def Its (x : Str) : It := ⟨fun i _ => i < x.cps.size, fun i H v H' => H' = H /\ ∃ c, x.cps[i]? = some c /\ v = .str ⟨#[c]⟩, fun i _ => x.cps.size <= i⟩
theorem SrcAt.str {K : PySem.W.Frag} {H : Hp} {hid μ : List Addr} {cs : List Nat} : SrcAt K (Its ⟨cs.toArray⟩) (.val (cs.map fun c => .str [c])) H hid μ := by
 intro hid' H' μ' O' m c i
 show match (cs.map fun c => D.str [c])[i]? with | some d => _ | none => _
 rw [List.getElem?_map]
 cases e : cs[i]? with
 | some d =>
  have hi := (List.getElem?_eq_some_iff.mp e).1
  refine ⟨by show i < cs.toArray.size; simpa using hi, fun x H'' y => ?_⟩
  obtain ⟨rfl, z, h1, rfl⟩ := y
  have h1' : cs.toArray[i]? = some z := h1
  rw [List.getElem?_toArray, e] at h1'
  cases h1'
  refine ⟨.refl, c, ?_⟩
  unfold Dat
  rfl
 | none =>
  have := List.getElem?_eq_none_iff.mp e
  show cs.toArray.size <= i
  simpa using this
theorem SrcAt.rng {K : PySem.W.Frag} {H : Hp} {hid μ : List Addr} {lo : Int} {n : Nat} : SrcAt K (Itr lo n) (.val ((List.range n).map fun i => .int (lo + (i : Nat)))) H hid μ := by
 intro hid' H' μ' O' m c i
 show match ((List.range n).map fun i => D.int (lo + (i : Nat)))[i]? with | some d => _ | none => _
 rw [List.getElem?_map]
 by_cases hi : i < n
 ·rw [List.getElem?_range hi]
  refine ⟨hi, fun x H'' y => ?_⟩
  obtain ⟨rfl, rfl⟩ := y
  exact ⟨.refl, c, z0o⟩
 ·rw [List.getElem?_eq_none_iff.mpr (by simpa using hi)]
  exact Nat.not_lt.mp hi
theorem zbT {P : Program} {w : World} {K : PySem.W.Frag} {tg : Expr} (x : Str) (t : Tok) (it : Addr) : z9t P w K tg (Its x) [it] it (fun i h => h.IsStrIter it (strIterType x) x t i) where
 mem := by simp
 obj := fun i h st b hb => by
  have e : b = it := by simpa using hb
  subst e
  obtain ⟨o, e, c, d⟩ := st
  exact ⟨o, e, fun v z => by rw [d] at z; cases z⟩
 keep := fun i h h' st k => by
  obtain ⟨o, e, c, d⟩ := st
  exact ⟨o, k it (by simp) o e, c, d⟩
 item := by
  intro X hP hw hK hc i pins s σ H E I hf st hg
  subst hP hw hK
  obtain ⟨f0, f1, f2, f3, f4, f5⟩ := hf it (by simp)
  obtain ⟨ch, hx⟩ : ∃ c, x.cps[i]? = some c := ⟨_, Array.getElem?_eq_getElem (show i < x.cps.size from hg)⟩
  have go : ∀ (ty : String), (["enumerate", "zip", "dict_itemiterator", "dict_reverseitemiterator", "odict_iterator", "itertools.zip_longest", "itertools.pairwise"].contains ty = false) -> strIterType x = ty -> ∀ h', h'.IsStrIter it ty x t (i + 1) -> Heap.SameBut it s.heap h' ->
    ∃ u, some (Value.str ⟨#[ch]⟩ s.toks) = some u /\ wpAny (model X.prog X.w) X.A (letOwnedTupleGo tg (.ref it) u) (fun _ s2 => ∃ y H', Inv X pins σ H' s2 /\ RelV y u /\ (Its x).yld i H y H' /\ s2.heap.IsStrIter it (strIterType x) x t (i + 1) /\ ∀ b ∈ [it], H' b = none) E { s with heap := h', toks := s.toks + 1 } := by
   intro ty hn et h' st' sb
   have I1 : Inv X pins σ H { s with heap := h', toks := s.toks + 1 } := I.turned (t' := s.toks + 1) (fun b o hb e => (sb.2 b hb).trans e) f0 f1 f3 f4 f5
   obtain ⟨o, e, c, d⟩ := id st'
   refine ⟨_, rfl, zbJ (s := { s with heap := h', toks := s.toks + 1 }) e c d hn ⟨.str ⟨#[ch]⟩, H, I1, ⟨_, rfl⟩, ⟨rfl, _, hx, rfl⟩, ?_, fun b hb => (hf b hb).1⟩⟩
   rw [et]; exact st'
  unfold strIterType at st go ⊢
  split at st
  ·rename_i ha
   exact wpAny_pyNext_ascii_item st hx fun h' st' sb => go "str_ascii_iterator" (by decide) (by rw [if_pos ha]) h' st' sb
  ·rename_i ha
   exact wpAny_pyNext_wide_item st hx fun h' st' sb => go "str_iterator" (by decide) (by rw [if_neg ha]) h' st' sb
 done := by
  intro X hP hw hK hc i pins s σ H E I hf st hg
  subst hP hw hK
  obtain ⟨f0, f1, f2, f3, f4, f5⟩ := hf it (by simp)
  have hx : x.cps[i]? = none := by
   have : x.cps.size <= i := hg
   simp [this]
  unfold strIterType at st
  split at st
  ·exact wpAny_pyNext_ascii_end (I.ok.hd hc) st hx fun h' eb => ⟨rfl, I.turned (t' := s.toks) (fun b o hb e => eb b o hb e) f0 f1 f3 f4 f5⟩
  ·exact wpAny_pyNext_wide_end (I.ok.hd hc) st hx fun h' eb => ⟨rfl, I.turned (t' := s.toks) (fun b o hb e => eb b o hb e) f0 f1 f3 f4 f5⟩
 self := fun _ _ s _ _ st h => by
  unfold strIterType at st
  split at st
  ·exact wpAny_pyIter_striter_ascii st h
  ·exact wpAny_pyIter_striter_wide st h
section
variable {X : Cx} {Ex : Nat -> Hp -> Prop} {pos : Pos} {a b c tg : Expr} {ta : DE}
def zgS (O : Ow) : D -> R Src
 | .lst ds => .ok (.val ds) O
 | .tup ds => .ok (.val ds) O
 | .str cs => .ok (.val (cs.map fun c => .str [c])) O
 | .own k => .ok (.own k) O
 | _ => .bad
def dIt (t : DE) : DI := fun σ O => (t σ O).bnd fun x O1 => zgS O1 x
theorem zeS (ha : PD X Ex a ta) : PDI X Ex tg a (dIt ta) := by
 refine ⟨?_⟩
 rintro pins s σv H Rr I ⟨hid, μ, σ, O, e1, c1, q⟩
 refine thn (ha.out pins s σv H _ I (rd.go e1 c1 q (Q1 := fun v H1 => ∃ hid μ1 O1 d, Cells X.K H1 hid μ1 O1 /\ Dat X.K H1 hid μ1 d v /\ post Ex X.K (fun H' μ' s J => SrcAt X.K J s H' hid μ') H1 hid μ1 (zgS O1 d) Rr)
  fun d O1 v H1 μ1 e2 x c r p => ⟨hid, μ1, O1, d, c, r, p⟩)) fun u s1 ⟨v, H1, I1, ru, hid, μ1, O1, d, c, r, p⟩ => ?_
 have new : ∀ (b : Addr), b ∈ [s1.heap.objs.size] -> z6b X pins H1 b := fun b hb => by
  have e : b = s1.heap.objs.size := by simpa using hb
  subst e
  exact I1.fpOk (Nat.le_refl _) (I1.hok.fresh (Nat.le_refl _))
 cases d with
 | lst ds =>
  unfold Dat at r
  obtain ⟨a, vs, rfl, l, q⟩ := r
  cases ru
  obtain ⟨its, rv, p1, hz⟩ := I1.list l.sq
  refine wpAny_pyIter_list p1.isList ?_
  exact ⟨s1.heap.objs.size, [s1.heap.objs.size], _, _, H1, rfl, I1.kept (t' := s1.toks) fun b o e => Heap.get?_push_of_some _ e, z6H a _, ⟨_, Heap.get?_push_size _ rfl, rfl, rfl⟩, new, post.here p c (.val l q)⟩
 | tup ds =>
  unfold Dat at r
  obtain ⟨a, vs, rfl, l, q⟩ := r
  cases ru
  obtain ⟨its, rv, p1, hz⟩ := I1.tuple l.sq
  refine wpAny_pyIter_tuple (show s1.heap.IsTuple a its.toArray from p1) ?_
  exact ⟨s1.heap.objs.size, [s1.heap.objs.size], _, _, H1, rfl, I1.kept (t' := s1.toks) fun b o e => Heap.get?_push_of_some _ e, z95 a _, ⟨_, Heap.get?_push_size _ rfl, rfl, rfl⟩, new, post.here p c (.tup l q)⟩
 | str cs =>
  unfold Dat at r
  subst r
  obtain ⟨t, rfl⟩ := ru
  refine wpAny_pyIter_strU ?_
  exact ⟨s1.heap.objs.size, [s1.heap.objs.size], _, _, H1, rfl, I1.kept (t' := s1.toks) fun b o e => Heap.get?_push_of_some _ e, zbT ⟨cs.toArray⟩ t _, ⟨_, Heap.get?_push_size _ rfl, rfl, rfl⟩, new, post.here p c .str⟩
 | own k =>
  unfold Dat at r
  obtain ⟨a, rfl, hk⟩ := r
  cases ru
  obtain ⟨ds, vs, h1, h2, h3⟩ := c.at_ k a hk
  obtain ⟨its, rv, p1, hz⟩ := I1.list (.of h2)
  refine wpAny_pyIter_list p1.isList ?_
  exact ⟨s1.heap.objs.size, [s1.heap.objs.size], _, _, H1, rfl, I1.kept (t' := s1.toks) fun b o e => Heap.get?_push_of_some _ e, z6H a _, ⟨_, Heap.get?_push_size _ rfl, rfl, rfl⟩, new, post.here p c (.own hk)⟩
 | _ => exact False.elim p
def zdo (lo hi : Int) : Src := .val ((List.range (hi - lo).toNat).map fun i => .int (lo + (i : Nat)))
def z24 (t : DA) : DI := fun σ O => (t σ O).bnd fun xs O1 => match xs with
 | [.int j] => if -1000000 <= j /\ j <= 1000000 then .ok (zdo 0 j) O1 else .bad
 | _ => .bad
theorem PI.imp {iter : Expr} {t t' : TI} (h : PI X tg iter t) (f : ∀ σ H Q, t' σ H Q -> t σ H Q) : PI X tg iter t' := fun pins s σ H Q I q => h pins s σ H Q I (f σ H Q q)
theorem z2m {K : PySem.W.Frag} {H : Hp} {hid μ : List Addr} {d : D} {vs : List V} (h : Dats K H hid μ [d] vs) : ∃ v, vs = [v] /\ Dat K H hid μ d v := by
 unfold Dats at h
 obtain ⟨v, r, rfl, h1, h2⟩ := h
 unfold Dats at h2
 subst h2
 exact ⟨v, rfl, h1⟩
theorem z9r {K : PySem.W.Frag} {H : Hp} {hid μ : List Addr} {d e : D} {vs : List V} (h : Dats K H hid μ [d, e] vs) : ∃ v w, vs = [v, w] /\ Dat K H hid μ d v /\ Dat K H hid μ e w := by
 unfold Dats at h
 obtain ⟨v, r, rfl, h1, h2⟩ := h
 obtain ⟨w, rfl, h3⟩ := z2m h2
 exact ⟨v, w, rfl, h1, h3⟩
theorem z9q {t : DA} {p pos : Pos} (hg : Gl X "range") (hm : X.mg "range" = none) (ha : PDA X Ex [a] t) (hs : starEach [a] X.env = [(false, eval a X.env)] := by rfl) : PDI X Ex tg (.Call (.Name "range" p) [a] [] pos) (z24 t) :=
 PDI.mk <| PI.imp (z9V hg hm ha.out hs) fun σv H Q ⟨hid, μ, σ, O, e1, c1, q⟩ => rdA.go e1 c1 q fun d O1 vs H1 μ1 e2 x c r p => by
  split at p
  ·rename_i j
   obtain ⟨⟨h1, h2⟩, p⟩ := post.ite p
   obtain ⟨v, rfl, hv⟩ := z2m r
   unfold Dat at hv; subst hv
   refine ⟨j, rfl, by omega, by omega, ?_⟩
   have := post.here p c (SrcAt.rng (lo := 0) (n := (j - 0).toNat))
   simpa using this
  ·exact False.elim p
end
inductive RS where
 | nx (σ : Sg) (O : Ow)
 | rt (d : D) (O : Ow)
 | bk (σ : Sg) (O : Ow)
 | ct (σ : Sg) (O : Ow)
 | exc (c : Nat) (O : Ow)
 | bad
 deriving Repr, Inhabited
abbrev DS := Sg -> Ow -> RS
def R.bnS {α : Type} (r : R α) (k : α -> Ow -> RS) : RS := match r with
 | .ok a O => k a O
 | .exc c O => .exc c O
 | .bad => .bad
section
variable (Ex : Nat -> Hp -> Prop) (K : PySem.W.Frag)
def postS (H : Hp) (hid μ : List Addr) (r : RS) (E : zaZ) : Prop := match r with
 | .nx σ O => ∀ σv H' μ', Ext H μ H' μ' -> EnvOk K H' hid μ' σ σv -> Cells K H' hid μ' O -> E.nx σv H'
 | .rt d O => ∀ v H' μ', Ext H μ H' μ' -> Cells K H' hid μ' O -> Dat K H' hid μ' d v -> E.rt v H'
 | .bk σ O => ∀ σv H' μ', Ext H μ H' μ' -> EnvOk K H' hid μ' σ σv -> Cells K H' hid μ' O -> E.bk σv H'
 | .ct σ O => ∀ σv H' μ', Ext H μ H' μ' -> EnvOk K H' hid μ' σ σv -> Cells K H' hid μ' O -> E.ct σv H'
 | .exc c O => ∀ H' μ', Ext H μ H' μ' -> Cells K H' hid μ' O -> Ex c H'
 | .bad => False
def rds (t : DS) : TS := fun E σv H => ∃ hid μ σ O, EnvOk K H hid μ σ σv /\ Cells K H hid μ O /\ postS Ex K H hid μ (t σ O) E
end
structure PDS (X : Cx) (Ex : Nat -> Hp -> Prop) (st : Stmt) (t : DS) : Prop where
 out : PS X st (rds Ex X.K t)
structure z7t (X : Cx) (Ex : Nat -> Hp -> Prop) (st : List Stmt) (t : DS) : Prop where
 out : PSs X st (rds Ex X.K t)
theorem PS.imp {X : Cx} {st : Stmt} {t t' : TS} (h : PS X st t) (f : ∀ E σ H, t' E σ H -> t E σ H) : PS X st t' := fun pins s σ H D I q => h pins s σ H D I (f D σ H q)
theorem PSs.imp {X : Cx} {st : List Stmt} {t t' : TS} (h : PSs X st t) (f : ∀ E σ H, t' E σ H -> t E σ H) : PSs X st t' := fun pins s σ H D I q => h pins s σ H D I (f D σ H q)
section
variable {Ex : Nat -> Hp -> Prop} {K : PySem.W.Frag} {H H1 : Hp} {hid μ μ1 : List Addr}
theorem postS.ext {r : RS} {E : zaZ} (h : postS Ex K H hid μ r E) (e : Ext H μ H1 μ1) : postS Ex K H1 hid μ1 r E := by
 cases r with
 | nx σ O => exact fun σv H' μ' e' a b => h σv H' μ' (e.trans e') a b
 | bk σ O => exact fun σv H' μ' e' a b => h σv H' μ' (e.trans e') a b
 | ct σ O => exact fun σv H' μ' e' a b => h σv H' μ' (e.trans e') a b
 | rt d O => exact fun v H' μ' e' a b => h v H' μ' (e.trans e') a b
 | exc c O => exact fun H' μ' e' a => h H' μ' (e.trans e') a
 | bad => exact h
theorem postS.bnS {α β : Type} {rel : Hp -> List Addr -> α -> β -> Prop} {r : R α} {k : α -> Ow -> RS} {E : zaZ} {Q1 : β -> Hp -> Prop} (h : postS Ex K H hid μ (r.bnS k) E)
  (hk : ∀ d O1 v H1 μ1, Ext H μ H1 μ1 -> Cells K H1 hid μ1 O1 -> rel H1 μ1 d v -> postS Ex K H1 hid μ1 (k d O1) E -> Q1 v H1) : post Ex K rel H hid μ r Q1 := by
 cases r with
 | ok d O' => exact fun v H' μ' e c q => hk d O' v H' μ' e c q (postS.ext (show postS Ex K H hid μ (k d O') E from h) e)
 | exc c O' => exact h
 | bad => exact h
end
section
variable {X : Cx} {Ex : Nat -> Hp -> Prop} {pos : Pos} {a b c e tg : Expr} {tb tc te : DE}
theorem z44 {st : Stmt} {t : TS} {t' : DS} (h : PS X st t) (f : ∀ hid μ σ O E σv H, EnvOk X.K H hid μ σ σv -> Cells X.K H hid μ O -> postS Ex X.K H hid μ (t' σ O) E -> t E σv H) : PDS X Ex st t' :=
 ⟨PS.imp h fun E σv H ⟨hid, μ, σ, O, e1, c1, q⟩ => f hid μ σ O E σv H e1 c1 q⟩
theorem z81 {st : List Stmt} {t : TS} {t' : DS} (h : PSs X st t) (f : ∀ hid μ σ O E σv H, EnvOk X.K H hid μ σ σv -> Cells X.K H hid μ O -> postS Ex X.K H hid μ (t' σ O) E -> t E σv H) : z7t X Ex st t' :=
 ⟨PSs.imp h fun E σv H ⟨hid, μ, σ, O, e1, c1, q⟩ => f hid μ σ O E σv H e1 c1 q⟩
theorem rd.goS {t : DE} {hid μ : List Addr} {σ : Sg} {O : Ow} {σv : St} {H : Hp} {Q1 : VK} {k : D -> Ow -> RS} {E : zaZ} (e1 : EnvOk X.K H hid μ σ σv) (c1 : Cells X.K H hid μ O)
  (q : postS Ex X.K H hid μ ((t σ O).bnS k) E)
  (f : ∀ d O1 v H1 μ1, EnvOk X.K H1 hid μ1 σ σv -> Ext H μ H1 μ1 -> Cells X.K H1 hid μ1 O1 -> Dat X.K H1 hid μ1 d v -> postS Ex X.K H1 hid μ1 (k d O1) E -> Q1 v H1) : rd Ex X.K t σv H Q1 :=
 ⟨hid, μ, σ, O, e1, c1, postS.bnS q fun d O1 v H1 μ1 x c r p => f d O1 v H1 μ1 (e1.ext x) x c r p⟩
theorem rdT.goS {t : DT} {hid μ : List Addr} {σ : Sg} {O : Ow} {σv : St} {H : Hp} {Q1 : Bool -> Hp -> Prop} {k : Bool -> Ow -> RS} {E : zaZ} (e1 : EnvOk X.K H hid μ σ σv) (c1 : Cells X.K H hid μ O)
  (q : postS Ex X.K H hid μ ((t σ O).bnS k) E)
  (f : ∀ v O1 H1 μ1, EnvOk X.K H1 hid μ1 σ σv -> Ext H μ H1 μ1 -> Cells X.K H1 hid μ1 O1 -> postS Ex X.K H1 hid μ1 (k v O1) E -> Q1 v H1) : rdT Ex X.K t σv H Q1 :=
 ⟨hid, μ, σ, O, e1, c1, postS.bnS q fun d O1 v H1 μ1 x c r p => by
  have r : d = v := r
  subst r
  exact f d O1 H1 μ1 (e1.ext x) x c p⟩
def z1l : DS := fun σ O => .nx σ O
def z0i (t u : DS) : DS := fun σ O => match t σ O with
 | .nx σ' O' => u σ' O'
 | r => r
theorem zcz : z7t X Ex [] z1l := z81 zdK fun hid μ σ O E σv H e1 c1 q => q σv H μ .refl e1 c1
theorem z04 {st : Stmt} {z2X : List Stmt} {t u : DS} (h1 : PDS X Ex st t) (h2 : z7t X Ex z2X u) : z7t X Ex (st :: z2X) (z0i t u) :=
 z81 (zcW h1.out h2.out) fun hid μ σ O E σv H e1 c1 q => by
  refine ⟨hid, μ, σ, O, e1, c1, ?_⟩
  unfold z0i at q
  cases ht : t σ O with
  | nx σ' O' =>
   rw [ht] at q
   exact fun σv' H' μ' e2 a b => ⟨hid, μ', σ', O', a, b, q.ext e2⟩
  | rt d O' => rw [ht] at q; exact q
  | bk σ' O' => rw [ht] at q; exact q
  | ct σ' O' => rw [ht] at q; exact q
  | exc c O' => rw [ht] at q; exact q
  | bad => rw [ht] at q; exact q
theorem z08 {st : Stmt} {t : DS} (h1 : PDS X Ex st t) : z7t X Ex [st] t := ⟨zfB h1.out⟩
def z0B (t : DE) : DS := fun σ O => (t σ O).bnS fun d O1 => .rt d O1
theorem zdM (he : PD X Ex e te) : PDS X Ex (.Return (some e) pos) (z0B te) :=
 z44 (zgG he.out) fun hid μ σ O E σv H e1 c1 q => rd.goS e1 c1 q fun d O1 v H1 μ1 e2 x c r p => p v H1 μ1 .refl c r
def sIf (c : DT) (t u : DS) : DS := fun σ O => (c σ O).bnS fun b O1 => if b = true then t σ O1 else u σ O1
theorem zgf {c : Expr} {x y : List Stmt} {tc : DT} {t u : DS} (hc : PDT X Ex c tc) (ha : z7t X Ex x t) (hb : z7t X Ex y u) : PDS X Ex (.If c x y pos) (sIf tc t u) :=
 z44 (zi3 hc.out ha.out hb.out) fun hid μ σ O E σv H e1 c1 q => rdT.goS e1 c1 q fun k O1 H1 μ1 e2 x c p => by
  cases k with
  | true => rw [if_pos rfl]; exact ⟨hid, μ1, σ, O1, e2, c, p⟩
  | false => rw [if_neg Bool.false_ne_true]; exact ⟨hid, μ1, σ, O1, e2, c, p⟩
def zgY : DS := fun _ _ => .bad
theorem z8P {st : List Stmt} : z7t X Ex st zgY := z81 zb4 fun hid μ σ O E σv H e1 c1 q => q
def z1e (t : DE) : DS := fun σ O => (t σ O).bnS fun _ O1 => .nx σ O1
theorem zcR (he : PD X Ex e te) (hs : swapsWith e none pos.line X.env = pure false := by rfl) : PDS X Ex (.Expr e pos) (z1e te) :=
 z44 (zeX he.out hs) fun hid μ σ O E σv H e1 c1 q => rd.goS e1 c1 q fun d O1 v H1 μ1 e2 x c r p => p σv H1 μ1 .refl e2 c
def z0W (i : Nat) (t : DE) : DS := fun σ O => (t σ O).bnS fun d O1 => .nx (σ.set i (some d)) O1
theorem z9w {i : Nat} {x : Str} {pos' : Pos} (hN : X.N.Nodup) (hi : X.N[i]? = some x) (hx : Loc X.env.scope x) (he : PD X Ex e te) (hs : swapsWith e (some (.Name x pos')) pos.line X.env = pure false := by rfl)
  (hf : X.fn x = true \/ X.env.scope.names.lookup x = some .local := by first | exact .inl rfl | exact .inr rfl) : PDS X Ex (.Assign [.Name x pos'] e pos) (z0W i te) :=
 z44 (zgZ hN hi hx he.out hs hf) fun hid μ σ O E σv H e1 c1 q => rd.goS e1 c1 q fun d O1 v H1 μ1 e2 x c r p => p (σv.set i (some v)) H1 μ1 .refl (e2.set r i) c
inductive Tg where
 | one (i : Nat)
 | two (i j : Nat)
def Tg.put : Tg -> D -> Sg -> Option Sg
 | .one i, d, σ => some (σ.set i (some d))
 | .two i j, d, σ => match d with
  | .tup [x, y] => some ((σ.set i (some x)).set j (some y))
  | _ => none
def Tg.rd (K : PySem.W.Frag) : Tg -> TG
 | .one i => zbm i
 | .two i j => ziX K 2 (zew (zbm i) (zew (zbm j) zjb))
def Tg.slots : Tg -> List Nat
 | .one i => [i]
 | .two i j => [i, j]
theorem Tg.ok2 {K : PySem.W.Frag} {H : Hp} {hid μ : List Addr} {σ σ' : Sg} {σv : St} {d : D} {v : V} {Q : St -> Hp -> Prop} (g : Tg) (e1 : EnvOk K H hid μ σ σv) (q : Dat K H hid μ d v) (h : g.put d σ = some σ')
  (k : ∀ σv', EnvOk K H hid μ σ' σv' -> (∀ i, i ∉ g.slots -> σv'[i]? = σv[i]?) -> Q σv' H) : g.rd K v σv H Q := by
 cases g with
 | one i =>
  cases h
  exact k _ (e1.set q i) fun j hj => List.getElem?_set_ne (fun e => hj (by simp [Tg.slots, e]))
 | two i j =>
  unfold Tg.put at h
  dsimp only at h
  split at h
  ·rename_i x y
   cases h
   unfold Dat at q
   obtain ⟨a, vs, rfl, l, q⟩ := q
   obtain ⟨u, w, rfl, q1, q2⟩ := z9r q
   refine ⟨a, [u, w], rfl, l.sq, rfl, u, [w], rfl, w, [], rfl, rfl, k _ ((e1.set q1 i).set q2 j) fun m hm => ?_⟩
   rw [List.getElem?_set_ne (fun e => hm (by simp [Tg.slots, e])), List.getElem?_set_ne (fun e => hm (by simp [Tg.slots, e]))]
  ·cases h
theorem Tg.ok {K : PySem.W.Frag} {H : Hp} {hid μ : List Addr} {σ σ' : Sg} {σv : St} {d : D} {v : V} {Q : St -> Hp -> Prop} (g : Tg) (e1 : EnvOk K H hid μ σ σv) (q : Dat K H hid μ d v) (h : g.put d σ = some σ') (k : ∀ σv', EnvOk K H hid μ σ' σv' -> Q σv' H) : g.rd K v σv H Q := by
 cases g with
 | one i => cases h; exact k _ (e1.set q i)
 | two i j =>
  unfold Tg.put at h
  dsimp only at h
  split at h
  ·rename_i x y
   cases h
   unfold Dat at q
   obtain ⟨a, vs, rfl, l, q⟩ := q
   obtain ⟨u, w, rfl, q1, q2⟩ := z9r q
   exact ⟨a, [u, w], rfl, l.sq, rfl, u, [w], rfl, w, [], rfl, rfl, k _ ((e1.set q1 i).set q2 j)⟩
  ·cases h
theorem zh1 {i : Nat} {x : Str} (hN : X.N.Nodup) (hi : X.N[i]? = some x) (hx : Loc X.env.scope x) (hf : X.fn x = true \/ X.env.scope.names.lookup x = some .local := by first | exact .inl rfl | exact .inr rfl | assumption) : PG X (.Name x pos) ((Tg.one i).rd X.K) := z7z hN hi hx hf
def z0L (src : Src) (step : D -> Sg -> Ow -> RS) : Nat -> Nat -> Sg -> Ow -> RS
 | 0, i, σ, O => match src.get O i with
  | none => .nx σ O
  | some _ => .bad
 | f + 1, i, σ, O => match src.get O i with
  | none => .nx σ O
  | some d => match step d σ O with
   | .nx σ' O' => z0L src step f (i + 1) σ' O'
   | .ct σ' O' => z0L src step f (i + 1) σ' O'
   | .bk σ' O' => .nx σ' O'
   | r => r
def z4T (it : DI) (g : Tg) (body : DS) : DS := fun σ O => (it σ O).bnS fun src O1 => z0L src (fun d σ O => match g.put d σ with | some σ' => body σ' O | none => .bad) (src.size O1) 0 σ O1
theorem ze8 {iter : Expr} {body : List Stmt} {it : DI} {g : Tg} {tb : DS} (hp : PassesOwn (model X.prog X.w) X.A X.env X.xe) (hc : X.calm = true) (hi : PDI X Ex tg iter it) (hg : PG X tg (g.rd X.K)) (hb : z7t X Ex body tb)
  (hs : ∀ x, foldedSetIterable iter X.env x = pure x := by intro _; rfl) : PDS X Ex (.For tg iter body [] pos) (z4T it g tb) :=
 z44 (zgq hp hc hi.out hg hb.out hs) fun hid μ σ O E σv H e1 c1 q => by
  refine ⟨hid, μ, σ, O, e1, c1, postS.bnS q fun src O1 J H1 μ1 x1 c2 sa p => ?_⟩
  generalize hst : (fun (d : D) (σ : Sg) (O : Ow) => match g.put d σ with | some σ' => tb σ' O | none => RS.bad) = step at p
  refine ⟨fun i m σv' H' => ∃ μ' σ' O', Ext H1 μ1 H' μ' /\ EnvOk X.K H' hid μ' σ' σv' /\ Cells X.K H' hid μ' O' /\ postS Ex X.K H' hid μ' (z0L src step m i σ' O') E, ⟨_, μ1, σ, O1, .refl, e1.ext x1, c2, p⟩, ?_⟩
  rintro i m σv2 H2 ⟨μ2, σ2, O2, x2, e2, c3, p2⟩
  have sa2 := sa hid H2 μ2 O2 x2.mv c3 i
  cases hget : src.get O2 i with
  | none =>
   rw [hget] at sa2
   refine .inl ⟨sa2, ?_⟩
   cases m with
   | zero =>
    have p3 : postS Ex X.K H2 hid μ2 (match src.get O2 i with | none => .nx σ2 O2 | some _ => .bad) E := p2
    rw [hget] at p3
    exact p3 σv2 H2 μ2 .refl e2 c3
   | succ f =>
    unfold z0L at p2
    rw [hget] at p2
    exact p2 σv2 H2 μ2 .refl e2 c3
  | some d =>
   rw [hget] at sa2
   obtain ⟨go, yl⟩ := sa2
   cases m with
   | zero =>
    have p3 : postS Ex X.K H2 hid μ2 (match src.get O2 i with | none => .nx σ2 O2 | some _ => .bad) E := p2
    rw [hget] at p3
    exact False.elim p3
   | succ f =>
    refine .inr ⟨go, fun σv' H' => ∃ μ' σ' O', Ext H1 μ1 H' μ' /\ EnvOk X.K H' hid μ' σ' σv' /\ Cells X.K H' hid μ' O' /\ postS Ex X.K H' hid μ' (z0L src step f (i + 1) σ' O') E, fun σ' H' h => ⟨f, Nat.lt_succ_self f, h⟩, fun v H3 y => ?_⟩
    obtain ⟨x3, c4, r⟩ := yl v H3 y
    unfold z0L at p2
    rw [hget] at p2
    have p3 : postS Ex X.K H3 hid μ2 (match step d σ2 O2 with
     | .nx σ' O' => z0L src step f (i + 1) σ' O'
     | .ct σ' O' => z0L src step f (i + 1) σ' O'
     | .bk σ' O' => .nx σ' O'
     | r => r) E := postS.ext p2 x3
    cases hput : g.put d σ2 with
    | none =>
     rw [<- hst] at p3
     simp only [hput] at p3
     exact False.elim p3
    | some σ3 =>
     refine Tg.ok g (e2.ext x3) r hput fun σv3 e3 => ⟨hid, μ2, σ3, O2, e3, c4, ?_⟩
     have hs1 : step d σ2 O2 = tb σ3 O2 := by rw [<- hst]; simp only [hput]
     rw [hs1] at p3
     have x4 := x2.trans x3
     cases ht : tb σ3 O2 with
     | nx σ4 O4 => rw [ht] at p3; exact fun σv' H' μ' e5 a b => ⟨μ', σ4, O4, x4.trans e5, a, b, p3.ext e5⟩
     | ct σ4 O4 => rw [ht] at p3; exact fun σv' H' μ' e5 a b => ⟨μ', σ4, O4, x4.trans e5, a, b, p3.ext e5⟩
     | bk σ4 O4 => rw [ht] at p3; exact p3
     | rt d4 O4 => rw [ht] at p3; exact p3
     | exc c4 O4 => rw [ht] at p3; exact p3
     | bad => rw [ht] at p3; exact p3
end
structure Cl where
 it : DI
 g : Tg
 ifs : List DT
def z07 : List Cl -> List Nat
 | [] => []
 | c :: cs => c.g.slots ++ z07 cs
def clr {α : Type} (σ : List (Option α)) : List Nat -> List (Option α)
 | [] => σ
 | i :: r => clr (σ.set i none) r
def z55 : List DT -> DT
 | [] => fun _ O => .ok true O
 | c :: cs => fun σ O => (c σ O).bnd fun b O1 => if b = true then z55 cs σ O1 else .ok false O1
def z0m (src : Src) (step : D -> Ow -> List D -> R (List D)) : Nat -> Nat -> Ow -> List D -> R (List D)
 | 0, i, O, acc => match src.get O i with
  | none => .ok acc O
  | some _ => .bad
 | f + 1, i, O, acc => match src.get O i with
  | none => .ok acc O
  | some d => (step d O acc).bnd fun acc' O' => z0m src step f (i + 1) O' acc'
def z1Y : List Cl -> DE -> Sg -> Ow -> List D -> R (List D)
 | [], elt, σ, O, acc => (elt σ O).bnd fun v O1 => if acc.length < 100000 then .ok (acc ++ [v]) O1 else .bad
 | c :: cs, elt, σ, O, acc => (c.it σ O).bnd fun src O1 => z0m src (fun d O2 acc => match c.g.put d (clr σ (z07 (c :: cs))) with
   | some σ1 => (z55 c.ifs σ1 O2).bnd fun b O3 => if b = true then z1Y cs elt σ1 O3 acc else .ok acc O3
   | none => .bad) (src.size O1) 0 O1 acc
def z4J (c : Cl) (cs : List Cl) (elt : DE) (σ : Sg) : D -> Ow -> List D -> R (List D) := fun d O2 acc => match c.g.put d (clr σ (z07 (c :: cs))) with
   | some σ1 => (z55 c.ifs σ1 O2).bnd fun b O3 => if b = true then z1Y cs elt σ1 O3 acc else .ok acc O3
   | none => .bad
abbrev Em := Sg -> Ow -> List D -> R (List D)
def emL (te : DE) : Em := fun σ O acc => (te σ O).bnd fun v O1 => if acc.length < 100000 then .ok (acc ++ [v]) O1 else .bad
def z21 : List Cl -> Em -> Sg -> Ow -> List D -> R (List D)
 | [], em, σ, O, acc => em σ O acc
 | c :: cs, em, σ, O, acc => (c.it σ O).bnd fun src O1 => z0m src (fun d O2 acc => match c.g.put d (clr σ (z07 (c :: cs))) with
   | some σ1 => (z55 c.ifs σ1 O2).bnd fun b O3 => if b = true then z21 cs em σ1 O3 acc else .ok acc O3
   | none => .bad) (src.size O1) 0 O1 acc
def z2l (c : Cl) (cs : List Cl) (em : Em) (σ : Sg) : D -> Ow -> List D -> R (List D) := fun d O2 acc => match c.g.put d (clr σ (z07 (c :: cs))) with
   | some σ1 => (z55 c.ifs σ1 O2).bnd fun b O3 => if b = true then z21 cs em σ1 O3 acc else .ok acc O3
   | none => .bad
theorem za6 (te : DE) : ∀ cls : List Cl, z21 cls (emL te) = z1Y cls te
 | [] => by funext σ O acc; unfold z21 z1Y emL; rfl
 | c :: cs => by funext σ O acc; unfold z21 z1Y; rw [za6 te cs]
theorem zdQ (c : Cl) (cs : List Cl) (te : DE) : z2l c cs (emL te) = z4J c cs te := by
 funext σ d O acc; unfold z2l z4J; rw [za6 te cs]
theorem z4s {α : Type} : ∀ (l : List Nat) (σ : List (Option α)), (clr σ l).length = σ.length
 | [], _ => rfl
 | i :: r, σ => by unfold clr; rw [z4s r]; simp
theorem zbh {α : Type} : ∀ (l : List Nat) (σ : List (Option α)) (i : Nat), i ∉ l -> (clr σ l)[i]? = σ[i]?
 | [], σ, i, h => rfl
 | j :: r, σ, i, h => by
  unfold clr
  rw [zbh r _ i fun z => h (List.mem_cons_of_mem _ z), List.getElem?_set_ne fun z => h (by simp [z])]
theorem z5D {α : Type} : ∀ (l : List Nat) (σ : List (Option α)) (i : Nat) (d : α), (clr σ l)[i]? = some (some d) -> σ[i]? = some (some d) /\ i ∉ l
 | [], σ, i, d, h => ⟨h, by simp⟩
 | j :: r, σ, i, d, h => by
  unfold clr at h
  obtain ⟨h1, h2⟩ := z5D r _ i d h
  by_cases e : j = i
  ·subst e
   by_cases hl : j < σ.length
   ·rw [List.getElem?_set_self hl] at h1; cases h1
   ·rw [List.getElem?_eq_none_iff.mpr (by simp; omega)] at h1; cases h1
  ·rw [List.getElem?_set_ne e] at h1
   exact ⟨h1, by simp [h2]; exact fun z => e z.symm⟩
structure Ea (A : Addr) (H : Hp) (μ : List Addr) (H' : Hp) (μ' : List Addr) : Prop where
 pre : ∃ ν, μ' = μ ++ ν
 kept : ∀ b o, H b = some o -> b ∉ μ -> b ≠ A -> zbo o -> H' b = some o
 fresh : ∀ b ∈ μ', b ∈ μ \/ H b = none
 there : ∀ b, H b ≠ none -> H' b ≠ none
 tab : ∀ P, Tidy H P -> Tidy H' P
section
variable {K : PySem.W.Frag} {A : Addr} {H H' H1 H2 : Hp} {hid μ μ' μ1 μ2 : List Addr}
theorem Ext.ea (e : Ext H μ H' μ') : Ea A H μ H' μ' := ⟨e.pre, fun b o h n _ ht => e.kept b o h n ht, e.fresh, e.there, e.tab⟩
theorem Ea.refl : Ea A H μ H μ := Ext.refl.ea
theorem Ea.trans (a : Ea A H μ H1 μ1) (b : Ea A H1 μ1 H2 μ2) : Ea A H μ H2 μ2 := by
 have nn : ∀ c, H1 c = none -> H c = none := fun c h => by
  cases e : H c with
  | none => rfl
  | some o => exact absurd h (a.there c (by rw [e]; simp))
 refine ⟨?_, fun c o h n1 n2 ht => ?_, fun c h => ?_, fun c h => b.there c (a.there c h), fun P t => b.tab P (a.tab P t)⟩
 ·obtain ⟨x, rfl⟩ := a.pre
  obtain ⟨y, rfl⟩ := b.pre
  exact ⟨x ++ y, by simp⟩
 ·refine b.kept c o (a.kept c o h n1 n2 ht) (fun m => ?_) n2 ht
  rcases a.fresh c m with z | z
  ·exact n1 z
  ·rw [z] at h; cases h
 ·rcases b.fresh c h with z | z
  ·exact a.fresh c z
  ·exact .inr (nn c z)
theorem Ea.mv (e : Ea A H μ H' μ') : Mv H (A :: hid) μ H' (A :: hid) μ' := ⟨e.pre, fun b o h n1 n2 ht => e.kept b o h n1 (fun z => n2 (by simp [z])) ht, e.fresh, fun _ m => .inl m, e.there, e.tab⟩
theorem Ea.putX {o : HO} (ht : ∀ P, Tidy H P -> Tidy (upd H A o) P) : Ea A H μ (upd H A o) μ := ⟨⟨[], by simp⟩, fun b u h _ n _ => by rw [z09 n]; exact h, fun _ m => .inl m, z1u, ht⟩
theorem Cells.putX {o : HO} {O : Ow} (c : Cells K H (A :: hid) μ O) (ht : ∀ P, Tidy H P -> Tidy (upd H A o) P) : Cells K (upd H A o) (A :: hid) μ O := by
 refine ⟨c.len, c.nd, c.nh, fun a m => z1u a (c.ht a m), fun k a e => ?_⟩
 obtain ⟨ds, vs, h1, h2, h3⟩ := c.at_ k a e
 have ne : a ≠ A := fun z => c.nh a (List.mem_of_getElem? e) (by simp [z])
 exact ⟨ds, vs, h1, by rw [z09 ne]; exact h2, h3.mv (Ea.putX (A := A) ht).mv⟩
theorem Ea.put {o : HO} (hl : ∃ vs, H A = some (.lst vs)) : Ea A H μ (upd H A o) μ := .putX fun _ t => t.upd (.inr hl)
theorem Cells.putA {o : HO} {O : Ow} (c : Cells K H (A :: hid) μ O) (hl : ∃ vs, H A = some (.lst vs)) : Cells K (upd H A o) (A :: hid) μ O := c.putX fun _ t => t.upd (.inr hl)
theorem Cells.unhide (c : Cells K H (A :: hid) μ O) : Cells K H hid μ O :=
 ⟨c.len, c.nd, fun a m z => c.nh a m (List.mem_cons_of_mem _ z), fun a m => c.ht a (List.mem_cons_of_mem _ m), fun k a e =>
  let ⟨ds, vs, h1, h2, h3⟩ := c.at_ k a e
  ⟨ds, vs, h1, h2, h3.mv .unhide⟩⟩
end
abbrev Ex0 : Nat -> Hp -> Prop := fun _ _ => False
inductive ClsOk (X : Cx) : List Comprehension -> List Cl -> Prop where
 | nil : ClsOk X [] []
 | cons {tg iter : Expr} {ifs : List Expr} {gs : List Comprehension} {c : Cl} {cs : List Cl} (hi : PDI X Ex0 tg iter c.it) (hs : ∀ x, foldedSetIterable iter X.env x = pure x) (hg : PG X tg (c.g.rd X.K))
   (hf : PySem.Paired (fun e t => PDT X Ex0 e t) ifs c.ifs) (r : ClsOk X gs cs) : ClsOk X (⟨tg, iter, ifs, 0⟩ :: gs) (c :: cs)
section
variable {X : Cx}
theorem z1q {α : Type} {M : Model} {A : Around} {t : Sem α} {Q Q' : α -> Shared -> Prop} {E : Value -> Shared -> Prop} {s : Shared} (hx : X.xe = fun _ _ => False) (h : wpAny M A t Q X.xe s) (k : ∀ a s', Q a s' -> Q' a s') : wpAny M A t Q' E s :=
 wpAny_mono h k fun e s' z => by rw [hx] at z; exact z.elim
theorem z4V {env : Env} {M : Model} {A : Around} {E : Value -> Shared -> Prop} {s : Shared} {Q : Bool -> Shared -> Prop} (h : Q false s) : ∀ (ifs : List Expr), wpAny M A (forIn ifs false fun c r => if r = true then do let ok <- isTrue c env (eval c env); pure (ForInStep.yield ok) else pure (ForInStep.yield r)) Q E s
 | [] => wpAny_pure h
 | c :: cs => by
  simp only [List.forIn_cons, Bool.false_eq_true, if_false]
  exact wpAny_bind (wpAny_pure (z4V h cs))
theorem z8E {E : Value -> Shared -> Prop} {hid : List Addr} (hx : X.xe = fun _ _ => False) : ∀ {ifs : List Expr} {ts : List DT}, PySem.Paired (fun e t => PDT X Ex0 e t) ifs ts -> ∀ (pins : List (Addr × Obj)) (s : Shared) (σv : St) (H : Hp) (μ : List Addr) (σ : Sg) (O : Ow) (Q : Bool -> Shared -> Prop),
  L2.Inv X pins σv H s -> EnvOk X.K H hid μ σ σv -> Cells X.K H hid μ O ->
  z4M Ex0 X.K H hid μ (z55 ts σ O) (fun b H' => ∀ s', L2.Inv X pins σv H' s' -> Q b s') ->
  wpAny (model X.prog X.w) X.A (forIn ifs true fun c r => if r = true then do let ok <- isTrue c X.env (eval c X.env); pure (ForInStep.yield ok) else pure (ForInStep.yield r)) Q E s
 | _, _, .nil, pins, s, σv, H, μ, σ, O, Q, I, e1, c1, q => wpAny_pure (post.here (v := true) q c1 rfl s I)
 | _ :: ifs, _ :: ts, .cons hc hr, pins, s, σv, H, μ, σ, O, Q, I, e1, c1, q => by
  simp only [List.forIn_cons, if_true]
  refine wpAny_bind (wpAny_bind (z1q hx (hc.out pins s σv H _ I (rdT.go e1 c1 q (Q1 := fun b H1 => ∃ μ1 O1, EnvOk X.K H1 hid μ1 σ σv /\ Cells X.K H1 hid μ1 O1 /\ z4M Ex0 X.K H1 hid μ1 (if b = true then z55 ts σ O1 else .ok false O1) (fun b H' => ∀ s', L2.Inv X pins σv H' s' -> Q b s'))
   fun b O1 H1 μ1 e2 x c p => ⟨μ1, O1, e2, c, p⟩)) fun b s1 ⟨H1, I1, μ1, O1, e2, c2, p⟩ => wpAny_pure ?_))
  show wpAny _ _ (forIn ifs b _) _ _ _
  cases b with
  | true => rw [if_pos rfl] at p; exact z8E hx hr pins s1 σv H1 μ1 σ O1 Q I1 e2 c2 p
  | false => rw [if_neg Bool.false_ne_true] at p; exact z4V (post.here (v := false) p c2 rfl s1 I1) ifs
structure z8C where
 ex : List Comprehension -> Scope -> Pos -> Expr
 emit : Value -> Env -> Sem Unit
 new : Sem Value
 ho : Program -> World -> Addr -> HO
 G : PySem.W.Frag -> Program -> World -> Addr -> List Addr -> Hp -> List Addr -> List D -> Prop
structure Bs (X : Cx) (C : z8C) (A : Addr) (hid : List Addr) (pins : List (Addr × Obj)) (s : Shared) (σv : St) (H : Hp) (μ : List Addr) (σ : Sg) (O : Ow) (acc : List D) : Prop where
 inv : L2.Inv X pins σv H s
 env : EnvOk X.K H (A :: hid) μ σ σv
 cells : Cells X.K H (A :: hid) μ O
 grown : C.G X.K X.prog X.w A hid H μ acc
def zgv (X : Cx) (C : z8C) (A : Addr) (hid : List Addr) (pins : List (Addr × Obj)) (σv : St) (H : Hp) (μ : List Addr) (sl : List Nat) (acc : List D) (O : Ow) (Q : Shared -> Prop) : Prop :=
 ∀ s' σv' H' μ', L2.Inv X pins σv' H' s' -> Ea A H μ H' μ' -> Cells X.K H' (A :: hid) μ' O -> C.G X.K X.prog X.w A hid H' μ' acc -> σv'.length = σv.length -> (∀ i, i ∉ sl -> σv'[i]? = σv[i]?) -> Q s'
def z3D (X : Cx) (C : z8C) (A : Addr) (hid : List Addr) (pins : List (Addr × Obj)) (σv : St) (H : Hp) (μ : List Addr) (sl : List Nat) (r : R (List D)) (Q : Shared -> Prop) : Prop := match r with
 | .ok acc O => zgv X C A hid pins σv H μ sl acc O Q
 | _ => False
def z4X (e : Expr) (em : Value -> Env -> Sem Unit) (gens : List Comprehension) (k : Nat) (acc : Value) (env : Env) : Sem Unit := match gens[k]? with
 | some g' => do
  let x <- eval g'.iter env
  standAt g'.iter.pos
  let x <- if g'.is_async != 0 then foldedIterable g'.iter x else foldedSetIterable g'.iter env x
  let _ <- runOwn (.compStart e k (<- holding [x] (if g'.is_async != 0 then asyncIter x else pyIter x)) acc env) env
 | none => em acc env
def zgs (C : z8C) : Prop := ∀ (gens : List Comprehension) (scope : Scope) (pos : Pos) (k : Nat) (it acc : Value) (env : Env) {tg iter : Expr} {ifs : List Expr}, gens[k]? = some ⟨tg, iter, ifs, 0⟩ ->
  (gens[k + 1]? = none \/ ∃ tg' iter' ifs', gens[k + 1]? = some ⟨tg', iter', ifs', 0⟩) ->
  compTurn (C.ex gens scope pos) k it acc env = (do
   standAt iter.pos
   match <- pyNext it with
   | none => pure (.done .next)
   | some v =>
    letOwnedTupleGo tg it v
    assign tg env v
    let mut ok := true
    for c in ifs do
     if ok then ok <- isTrue c env (eval c env)
    if ok then z4X (C.ex gens scope pos) C.emit gens (k + 1) acc env
    again (.compLoop (C.ex gens scope pos) k it acc env))
structure z51 (C : z8C) : Prop where
 cl : ∀ gens scope pos, clausesOf (C.ex gens scope pos) = gens
 turn : zgs C
 keep : ∀ {K P w A hid H μ acc H' μ'}, C.G K P w A hid H μ acc -> A ∉ μ -> Ext H μ H' μ' -> C.G K P w A hid H' μ' acc
 new : ∀ {P : Program} {w : World} {A : Around} {E : Value -> Shared -> Prop} {Q : Value -> Shared -> Prop} {s : Shared}, (∀ o : Obj, o.isFreed = false -> (∀ (H : Hp) (h : Heap) (a : Addr), sysModules < a -> h.get? a = some o -> ObjOk P w (upd H a (C.ho P w a)) h a (C.ho P w a)) -> Q (.ref s.heap.objs.size) { s with heap := s.heap.push o }) -> wpAny (model P w) A C.new Q E s
 g0 : ∀ {K P w a hid H μ}, C.G K P w a hid (upd H a (C.ho P w a)) μ []
 q1 : ∀ gens scope pos k it acc env, (Code.compLoop (C.ex gens scope pos) k it acc env).quiet = true
 u1 : ∀ (A : Around) gens scope pos k it acc env, A.under (Code.compLoop (C.ex gens scope pos) k it acc env) = A
 d1 : ∀ P w gens scope pos k it acc env, (model P w).den (Code.compLoop (C.ex gens scope pos) k it acc env) = (compTurn (C.ex gens scope pos) k it acc env).onRaise (fun x => do noteFrame x env; theTreesLotGoes x)
 u2 : ∀ (A : Around) gens scope pos k it acc env, A.under (Code.compStart (C.ex gens scope pos) k it acc env) = A
 d2 : ∀ P w gens scope pos k it acc env, (model P w).den (Code.compStart (C.ex gens scope pos) k it acc env) = (compStart (C.ex gens scope pos) k it acc env).onRaise (fun x => do noteFrame x env; standAt theWindowsPlace)
def z7A (elt : Expr) : z8C where
 ex := fun gens scope pos => .ListComp elt gens scope pos
 emit := fun acc env => do let _ <- call (.builtin "list.append") [acc, <- eval elt env]
 new := newList []
 ho := fun _ _ _ => .lst []
 G := fun K _ _ A hid H μ acc => ∃ vs, H A = some (.lst vs) /\ Dats K H (A :: hid) μ acc vs
theorem z8D (elt : Expr) : z51 (z7A elt) where
 cl := fun _ _ _ => rfl
 turn := fun gens scope pos k it acc env tg iter ifs hk hn => by
  show compTurn (.ListComp elt gens scope pos) k it acc env = _
  unfold compTurn z4X
  rcases hn with hn | ⟨tg', iter', ifs', hn⟩
  ·simp only [hk, hn]
   rfl
  ·simp only [hk, hn, bne_self_eq_false, Bool.false_eq_true, if_false, bind_assoc, pure_bind]
   first | rfl | congr 1
 keep := fun ⟨vs, hA, dA⟩ nA x => ⟨vs, x.keep _ _ hA nA, dA.ext x⟩
 new := fun h => wpAny_newObj_type (h _ rfl fun H h a _ e => ⟨Nat.zero_le _, [], 0, .nil, e⟩)
 g0 := ⟨[], z0g, .nil⟩
 q1 := fun _ _ _ _ _ _ _ => rfl
 u1 := fun _ _ _ _ _ _ _ _ => rfl
 d1 := fun _ _ _ _ _ _ _ _ _ => rfl
 u2 := fun _ _ _ _ _ _ _ _ => rfl
 d2 := fun _ _ _ _ _ _ _ _ _ => rfl
section
variable {C : z8C} {A : Addr} {hid : List Addr} {elt : Expr} {gens : List Comprehension} {scope : Scope} {pos : Pos} {te : DE} {em : Em}
def z3Z (X : Cx) (C : z8C) (A : Addr) (hid : List Addr) (e : Expr) (gens : List Comprehension) (em : Em) (k : Nat) (cls : List Cl) : Prop := ∀ (pins : List (Addr × Obj)) (s : Shared) (σv : St) (H : Hp) (μ : List Addr) (σ : Sg) (O : Ow) (acc : List D) (Q : Shared -> Prop) (E : Value -> Shared -> Prop),
 Bs X C A hid pins s σv H μ σ O acc -> z3D X C A hid pins σv H μ (z07 cls) (z21 cls em σ O acc) Q -> wpAny (model X.prog X.w) X.A (z4X e C.emit gens k (.ref A) X.env) (fun _ s' => Q s') E s
theorem zcY {k : Nat} {e : Expr} (hx : X.xe = fun _ _ => False) (he : PD X Ex0 elt te) (hk : gens[k]? = none) : z3Z X (z7A elt) A hid e gens (emL te) k [] := by
 intro pins s σv H μ σ O acc Q E B q
 unfold z4X
 rw [hk]
 show wpAny _ _ (do let _ <- call (.builtin "list.append") [.ref A, <- eval elt X.env]) _ _ s
 obtain ⟨vs, hA, dA⟩ := B.grown
 cases hte : te σ O with
 | ok d O1 =>
  have q2 : z3D X (z7A elt) A hid pins σv H μ (z07 []) (if acc.length < 100000 then .ok (acc ++ [d]) O1 else .bad) Q := by
   have := q
   unfold z21 emL at this
   rw [hte] at this
   exact this
  by_cases hl : acc.length < 100000
  ·rw [if_pos hl] at q2
   refine wpAny_bind (z1q hx (he.out pins s σv H (fun v H1 => ∃ μ1, Ext H μ H1 μ1 /\ Cells X.K H1 (A :: hid) μ1 O1 /\ Dat X.K H1 (A :: hid) μ1 d v) B.inv ⟨A :: hid, μ, σ, O, B.env, B.cells, by rw [hte]; exact fun v H' μ' x c r => ⟨μ', x, c, r⟩⟩)
    fun u s1 ⟨v, H1, I1, ru, μ1, x, c, r⟩ => ?_)
   have nA : A ∉ μ := fun m => B.cells.nh A m (by simp)
   have hA1 : H1 A = some (.lst vs) := x.keep A _ hA nA
   have dA1 := dA.ext x
   refine wpAny_bind (z1q hx (z6X pins s1 σv H1 (.ref A) [v] (.ref A) [u] (fun _ H2 => H2 = upd H1 A (.lst (vs ++ [v]))) I1 rfl (.cons ru .nil)
    ⟨A, vs, v, rfl, rfl, hA1, Nat.lt_of_lt_of_le (by rw [<- dA1.length]; exact hl) (by decide), rfl⟩) fun u2 s2 ⟨v2, H2, I2, r2, e2⟩ => ?_)
   subst e2
   refine wpAny_pure (q2 s2 σv _ μ1 I2 (x.ea.trans (.put ⟨_, hA1⟩)) (c.putA ⟨_, hA1⟩) ⟨_, z0g, ?_⟩ rfl fun _ _ => rfl)
   exact (dA1.append (.cons r .nil)).mv (Ea.put ⟨_, hA1⟩).mv
  ·rw [if_neg hl] at q2; exact q2.elim
 | exc c O1 =>
  unfold z21 emL at q; rw [hte] at q; exact q.elim
 | bad =>
  unfold z21 emL at q; rw [hte] at q; exact q.elim
theorem zbz (co : z51 C) {k : Nat} {tg iter : Expr} {ifs : List Expr} {c : Cl} {cs : List Cl} (hx : X.xe = fun _ _ => False) (hcalm : X.calm = true) (hk : gens[k]? = some ⟨tg, iter, ifs, 0⟩) (hg : PG X tg (c.g.rd X.K)) (hf : PySem.Paired (fun e t => PDT X Ex0 e t) ifs c.ifs)
  (hb : z3Z X C A hid (C.ex gens scope pos) gens em (k + 1) cs) (hn : gens[k + 1]? = none \/ ∃ tg' iter' ifs', gens[k + 1]? = some ⟨tg', iter', ifs', 0⟩) {it : Addr} {fp : List Addr} {tn : Nat -> Heap -> Prop} {J : It} {src : Src} (T : z9t X.prog X.w X.K tg J fp it tn)
  (pins : List (Addr × Obj)) (s : Shared) (σv : St) (H : Hp) (μ : List Addr) (σ : Sg) (O : Ow) (acc : List D) (n : Nat) (Q : Shared -> Prop) (st : tn 0 s.heap) (hfp : ∀ b ∈ fp, z6b X pins H b) (sa : SrcAt X.K J src H (A :: hid) μ)
  (B : Bs X C A hid pins s σv H μ σ O acc) (q : z3D X C A hid pins σv H μ (z07 (c :: cs)) (z0m src (z2l c cs em σ) n 0 O acc) Q) :
  codeAny (model X.prog X.w) X.A (.compLoop (C.ex gens scope pos) k (.ref it) (.ref A) X.env) (fun r s' => ∃ f, r = .ok f /\ Q s') s := by
 have stat : ∀ {H' : Hp}, (∀ b ∈ fp, H' b = none) -> ∀ b ∈ fp, z6b X pins H' b := fun hn b hb => ⟨hn b hb, (hfp b hb).2⟩
 let P : Nat -> Shared -> Prop := fun m s' => ∃ i σv' H' μ' O' acc', L2.Inv X pins σv' H' s' /\ tn i s'.heap /\ (∀ b ∈ fp, H' b = none) /\ Ea A H μ H' μ' /\ Cells X.K H' (A :: hid) μ' O' /\ C.G X.K X.prog X.w A hid H' μ' acc' /\
  σv'.length = σv.length /\ (∀ i, i ∉ z07 (c :: cs) -> σv'[i]? = σv[i]?) /\ z3D X C A hid pins σv H μ (z07 (c :: cs)) (z0m src (z2l c cs em σ) m i O' acc') Q
 refine codeAny_loop (co.q1 _ _ _ _ _ _ _) P (fun m s1 hP => ?_) n ⟨0, σv, H, μ, O, acc, B.inv, st, fun b hb => (hfp b hb).1, .refl, B.cells, B.grown, rfl, fun _ _ => rfl, q⟩
 rw [co.u1, co.d1]
 refine wpAny_noted ?_
 rw [co.turn _ _ _ _ _ _ _ hk hn]
 obtain ⟨i, σv1, H1, μ1, O1, acc1, I1, st1, fr1, x1, c1, g1, l1, k1, q1⟩ := hP
 have sa1 := sa (A :: hid) H1 μ1 O1 x1.mv c1 i
 -- the names that stand
 have env1 : EnvOk X.K H1 (A :: hid) μ1 (clr σ (z07 (c :: cs))) σv1 := by
  refine ⟨by rw [z4s, B.env.len, l1], fun j d hj => ?_⟩
  obtain ⟨h1, h2⟩ := z5D _ _ _ _ hj
  obtain ⟨v, h3, h4⟩ := B.env.at_ j d h1
  exact ⟨v, by rw [k1 j h2]; exact h3, h4.mv x1.mv⟩
 cases hget : src.get O1 i with
 | none =>
  rw [hget] at sa1
  have q2 : zgv X C A hid pins σv H μ (z07 (c :: cs)) acc1 O1 Q := by
   cases m with
   | zero => unfold z0m at q1; rw [hget] at q1; exact q1
   | succ f => unfold z0m at q1; rw [hget] at q1; exact q1
  refine wpAny_bind (wpAny_standAt (wpAny_bind (thn (T.done X rfl rfl rfl hcalm i pins s1 σv1 H1 _ I1 (stat fr1) st1 sa1) fun r s2 ⟨hr, I2⟩ => ?_)))
  subst hr
  exact wpAny_pure ⟨_, rfl, q2 s2 σv1 H1 μ1 I2 x1 c1 g1 l1 k1⟩
 | some d =>
  rw [hget] at sa1
  obtain ⟨go, yl⟩ := sa1
  cases m with
  | zero =>
   unfold z0m at q1; rw [hget] at q1; exact q1.elim
  | succ f =>
   have q2 : z3D X C A hid pins σv H μ (z07 (c :: cs)) ((z2l c cs em σ d O1 acc1).bnd fun acc' O' => z0m src (z2l c cs em σ) f (i + 1) O' acc') Q := by
    have := q1
    unfold z0m at this
    rw [hget] at this
    exact this
   refine wpAny_bind (wpAny_standAt (wpAny_bind (thn (T.item X rfl rfl rfl hcalm i pins s1 σv1 H1 _ I1 (stat fr1) st1 go) fun r s2 ⟨u, hr, h2⟩ => ?_)))
   subst hr
   refine wpAny_bind (thn h2 fun _ s3 ⟨v, H3, I3, r3, y3, st3, fr3⟩ => ?_)
   obtain ⟨x3, c3, d3⟩ := yl v H3 y3
   have I3' := I3.pinned (stat fr3) (T.obj _ _ st3)
   cases hput : c.g.put d (clr σ (z07 (c :: cs))) with
   | none =>
    unfold z2l at q2; rw [hput] at q2; exact q2.elim
   | some σ3 =>
    have hstep : z2l c cs em σ d O1 acc1 = ((z55 c.ifs σ3 O1).bnd fun b O3 => if b = true then z21 cs em σ3 O3 acc1 else .ok acc1 O3) := by
     unfold z2l; rw [hput]
    rw [hstep] at q2
    refine wpAny_bind (z1q hx (hg _ s3 σv1 H3 v u (fun σv4 H4 => H4 = H3 /\ EnvOk X.K H3 (A :: hid) μ1 σ3 σv4 /\ ∀ j, j ∉ c.g.slots -> σv4[j]? = σv1[j]?) I3' r3 (Tg.ok2 c.g (env1.ext x3) d3 hput fun σv4 e4 k4 => ⟨rfl, e4, k4⟩)) fun _ s4 ⟨σv4, H4, I4, e4, env4, k4⟩ => ?_)
    subst e4
    have l4 : σv4.length = σv.length := by rw [I4.len, <- I3.len, l1]
    have k4' : ∀ j, j ∉ z07 (c :: cs) -> σv4[j]? = σv[j]? := fun j hj => by
     rw [k4 j fun z => hj (List.mem_append_left _ z)]; exact k1 j hj
    have nA : A ∉ μ1 := fun m => c1.nh A m (by simp)
    have x13 : Ea A H μ H4 μ1 := x1.trans x3.ea
    have g3 := co.keep g1 nA x3
    -- behind the step: the next turn
    have again : ∀ {s' : Shared} {σv' : St} {H' : Hp} {μ' : List Addr} {O' : Ow} {acc' : List D}, L2.Inv X (pins ++ z7k fp s3.heap) σv' H' s' -> Ea A H μ H' μ' -> Cells X.K H' (A :: hid) μ' O' -> C.G X.K X.prog X.w A hid H' μ' acc' -> σv'.length = σv.length ->
      (∀ i, i ∉ z07 (c :: cs) -> σv'[i]? = σv[i]?) -> z3D X C A hid pins σv H μ (z07 (c :: cs)) (z0m src (z2l c cs em σ) f (i + 1) O' acc') Q -> ∃ m, m < f + 1 /\ P m s' := by
     intro s' σv' H' μ' O' acc' I' x' c' g' l' k' p'
     refine ⟨f, Nat.lt_succ_self f, i + 1, σv', H', μ', O', acc', I'.unpinned, T.keep _ _ _ st3 fun b hb o e => (I'.pin (b, o) (List.mem_append_right _ (List.mem_append_right _ (z2N hb e)))).1, fun b hb => ?_, x', c', g', l', k', p'⟩
     obtain ⟨o, e, d⟩ := T.obj _ _ st3 b hb
     exact (I'.pin (b, o) (List.mem_append_right _ (List.mem_append_right _ (z2N hb e)))).2.1
    cases hall : z55 c.ifs σ3 O1 with
    | exc c' O' => rw [hall] at q2; exact q2.elim
    | bad => rw [hall] at q2; exact q2.elim
    | ok b O3 =>
     rw [hall] at q2
     have q3 : z3D X C A hid pins σv H μ (z07 (c :: cs)) ((if b = true then z21 cs em σ3 O3 acc1 else .ok acc1 O3).bnd fun acc' O' => z0m src (z2l c cs em σ) f (i + 1) O' acc') Q := q2
     refine wpAny_bind (z8E (hid := A :: hid) hx hf _ s4 σv4 H4 μ1 σ3 O1 _ I4 env4 c3 ?_)
     rw [hall]
     intro b' H5 μ5 x5 c5 eb s5 I5
     have eb : b = b' := eb
     subst eb
     have g5 := co.keep g3 nA x5
     have x15 : Ea A H μ H5 μ5 := x13.trans x5.ea
     cases b with
     | false =>
      rw [if_neg Bool.false_ne_true] at q3
      exact wpAny_pure ⟨rfl, again I5 x15 c5 g5 l4 k4' q3⟩
     | true =>
      rw [if_pos rfl] at q3
      refine wpAny_bind (hb _ s5 σv4 H5 μ5 σ3 O3 acc1 _ _ ⟨I5, env4.ext x5, c5, g5⟩ ?_)
      cases hcd : z21 cs em σ3 O3 acc1 with
      | exc c' O' => rw [hcd] at q3; exact q3.elim
      | bad => rw [hcd] at q3; exact q3.elim
      | ok acc6 O6 =>
       rw [hcd] at q3
       intro s6 σv6 H6 μ6 I6 x6 c6 g6 l6 k6
       refine wpAny_pure ⟨rfl, again I6 (x15.trans x6) c6 g6 (l6.trans l4) (fun j hj => ?_) q3⟩
       rw [k6 j fun z => hj (List.mem_append_right _ z)]
       exact k4' j hj
end
end
section
variable {X : Cx} {C : z8C} {A : Addr} {hid : List Addr} {gens : List Comprehension} {scope : Scope} {pos : Pos} {em : Em}
theorem z8n (co : z51 C) {k : Nat} {tg iter : Expr} {ifs : List Expr} {it : Addr} {fp : List Addr} {tn : Nat -> Heap -> Prop} {J : It} {env : Env} {P : Result -> Shared -> Prop} {s : Shared} {acc : Value} (hk : gens[k]? = some ⟨tg, iter, ifs, 0⟩) (T : z9t X.prog X.w X.K tg J fp it tn) (i : Nat) (st : tn i s.heap)
  (h : codeAny (model X.prog X.w) X.A (.compLoop (C.ex gens scope pos) k (.ref it) acc env) P s) :
  codeAny (model X.prog X.w) X.A (.compStart (C.ex gens scope pos) k (.ref it) acc env) P s := by
 refine codeAny_of_tree ?_
 rw [co.u2, co.d2]
 refine wpAny_notedAt ?_
 unfold compStart
 have hcl : clausesOf (C.ex gens scope pos) = gens := co.cl _ _ _
 simp only [hcl, hk, Option.elim, bne_self_eq_false, Bool.false_eq_true, if_false]
 refine wpAny_bind (wpAny_askSetting (wpAny_ite ?_))
 split
 ·exact wpAny_pure (And.intro (co.q1 _ _ _ _ _ _ _) h)
 ·refine wpAny_bind (wpAny_rule ?_)
  exact wpAny_bind (wpAny_standAt (wpAny_bind (T.self _ i s _ _ st (wpAny_pure (And.intro (co.q1 _ _ _ _ _ _ _) h)))))
theorem z9S (co : z51 C) (hx : X.xe = fun _ _ => False) (hcalm : X.calm = true) (he : ∀ k, gens[k]? = none -> z3Z X C A hid (C.ex gens scope pos) gens em k []) : ∀ {z2X : List Comprehension} {cls : List Cl}, ClsOk X z2X cls -> ∀ k, gens.drop k = z2X -> z3Z X C A hid (C.ex gens scope pos) gens em k cls
 | _, _, .nil, k, hd => he k (by
   have := congrArg List.length hd
   simp at this
   exact List.getElem?_eq_none_iff.mpr (by omega))
 | ⟨tg, iter, ifs, _⟩ :: gs, c :: cs, .cons hi hs hg hf r, k, hd => by
  have hk : gens[k]? = some ⟨tg, iter, ifs, 0⟩ := by
   have : (gens.drop k)[0]? = some ⟨tg, iter, ifs, 0⟩ := by rw [hd]; rfl
   simpa using this
  have hd' : gens.drop (k + 1) = gs := by
   have := congrArg (List.drop 1) hd
   simpa [List.drop_drop, Nat.add_comm] using this
  have hb := z9S co hx hcalm he r (k + 1) hd'
  have hn : gens[k + 1]? = none \/ ∃ tg' iter' ifs', gens[k + 1]? = some ⟨tg', iter', ifs', 0⟩ := by
   have e : gens[k + 1]? = gs[0]? := by rw [<- hd']; simp
   cases r with
   | nil => exact .inl (by rw [e]; rfl)
   | cons _ _ _ _ _ => exact .inr ⟨_, _, _, by rw [e]; rfl⟩
  intro pins s σv H μ σ O acc Q E B q
  unfold z4X
  rw [hk]
  simp only [bne_self_eq_false, Bool.false_eq_true, if_false]
  cases hit : c.it σ O with
  | exc c' O' => unfold z21 at q; rw [hit] at q; exact q.elim
  | bad => unfold z21 at q; rw [hit] at q; exact q.elim
  | ok src O1 =>
   have q1 : z3D X C A hid pins σv H μ (z07 (c :: cs)) (z0m src (z2l c cs em σ) (src.size O1) 0 O1 acc) Q := by
    have := q
    unfold z21 at this
    rw [hit] at this
    exact this
   refine wpAny_bind (z1q hx (hi.out pins s σv H (fun J H1 => ∃ μ1, Ext H μ H1 μ1 /\ Cells X.K H1 (A :: hid) μ1 O1 /\ SrcAt X.K J src H1 (A :: hid) μ1) B.inv ⟨A :: hid, μ, σ, O, B.env, B.cells, by rw [hit]; exact fun J H1 μ1 x c sa => ⟨μ1, x, c, sa⟩⟩) fun v s1 h1 => ?_)
   refine wpAny_bind (wpAny_standAt ?_)
   refine wpAny_bind (wpAny_of_eq (hs v) ?_)
   refine wpAny_bind (wpAny_holding (z1q hx h1 fun itv s2 h2 => ?_))
   obtain ⟨it, fp, tn, J, H2, e, I2, T, st2, f2, μ2, x2, c2, sa⟩ := h2
   subst e
   refine wpAny_bind (wpAny_runOwn (h := none) ?_)
   show codeAny _ X.A _ _ _
   have nA : A ∉ μ := fun m => B.cells.nh A m (by simp)
   refine z8n co hk T 0 st2 ?_
   refine codeAny_mono (zbz co (A := A) (hid := hid) (em := em) (c := c) (cs := cs) hx hcalm hk hg hf hb hn T pins s2 σv H2 μ2 σ O1 acc (src.size O1) (fun s' => Q s') st2 f2 sa ⟨I2, B.env.ext x2, c2, co.keep B.grown nA x2⟩ ?_) fun r s' hr => ?_
   ·cases hw : z0m src (z2l c cs em σ) (src.size O1) 0 O1 acc with
    | exc c' O' => rw [hw] at q1; exact q1.elim
    | bad => rw [hw] at q1; exact q1.elim
    | ok acc' O' =>
     rw [hw] at q1
     exact fun s' σv' H' μ' I' x' c' g' l' k' => q1 s' σv' H' μ' I' (x2.ea.trans x') c' g' l' k'
   ·obtain ⟨f, rfl, hq⟩ := hr
    exact wpAny_pure hq
end
def cxB (X : Cx) (N' : List Str) (scope : Scope) (cells : List (Str × Addr)) (C : Addr) (s : Shared) (H : Hp) (fp : List Addr) : Cx :=
 { X with
  N := N', s₀ := s, H₀ := H
  env := { scope := relabel scope X.env, locals := C, globals := X.env.globals, cells := cells, qual := X.env.qual, func := none, code := X.env.code, frame := X.env.frame, builtins := X.env.builtins }
  outer := X.stack, ex := fp, fn := fun x => scope.names.lookup x == some .cell, pn := [], xe := fun _ _ => False }
structure BOk (sc scope : Scope) (N' : List Str) (sl : List Nat) : Prop where
 kind : scope.kind = .function
 nd : (scope.names.map (·.1)).Nodup
 frees : ∀ y ∈ scope.names, y.2 = .free -> sc.names.lookup y.1 = some .cell \/ sc.names.lookup y.1 = some .free
 own : ∀ (i : Nat) x, N'[i]? = some x -> (x, NameKind.local) ∈ scope.names \/ (x, NameKind.cell) ∈ scope.names -> i ∈ sl
theorem z0V {β : Type} : ∀ {l : List (Str × β)} {x : Str} {b : β}, (l.map (·.1)).Nodup -> (x, b) ∈ l -> l.lookup x = some b
 | [], _, _, _, h => by cases h
 | (y, c) :: r, x, b, nd, h => by
  obtain ⟨n1, n2⟩ := List.nodup_cons.mp nd
  rcases List.mem_cons.mp h with e | h
  ·cases e; simp [List.lookup_cons]
  ·have ne : x ≠ y := fun e => n1 (List.mem_map.mpr ⟨(x, b), h, e⟩)
   rw [List.lookup_cons]
   have : (x == y) = false := by simpa using ne
   rw [this]
   exact z0V n2 h
theorem z1W (env : Env) (x : Str) : ∀ (names : List (Str × NameKind)), (names.map fun (n, k) => if (k == NameKind.free && env.scope.kind == .function && env.kindOf n == some .cell) then (n, NameKind.cell) else (n, k)).lookup x =
  (names.lookup x).map fun k => if (k == NameKind.free && env.scope.kind == .function && env.kindOf x == some .cell) then NameKind.cell else k
 | [] => rfl
 | (n, k) :: r => by
  show List.lookup x ((if (k == NameKind.free && env.scope.kind == .function && env.kindOf n == some .cell) = true then (n, NameKind.cell) else (n, k)) :: _) = _
  cases hx : x == n with
  | true =>
   have e : x = n := by simpa using hx
   subst e
   simp only [List.lookup_cons, hx, Option.map_some]
   split
   ·rename_i h; simp [List.lookup_cons, h]
   ·rename_i h; simp [List.lookup_cons, h]
  | false =>
   have ih := z1W env x r
   simp only [List.lookup_cons, hx]
   rw [<- ih]
   split <;> simp only [List.lookup_cons, hx]
theorem z4x {scope : Scope} {env : Env} {x : Str} (h : Vis (relabel scope env) x) : (x, NameKind.local) ∈ scope.names \/ (x, NameKind.cell) ∈ scope.names \/ (x, NameKind.free) ∈ scope.names := by
 unfold Vis relabel at h
 simp only [z1W] at h
 cases e : scope.names.lookup x with
 | none => rw [e] at h; simp at h
 | some k =>
  have m := PySem.mem_of_lookup e
  cases k with
  | «local» => exact .inl m
  | cell => exact .inr (.inl m)
  | free => exact .inr (.inr m)
  | _ => rw [e] at h; simp at h
def z0v (cells : List (Str × Addr)) : List (Str × NameKind) -> List (Str × Addr) -> List (Str × Addr)
 | [], acc => acc
 | (n, k) :: r, acc => if k == .free then z0v cells r ((n, (cells.lookup n).getD 0) :: acc) else z0v cells r acc
theorem z5x {scope : Scope} {env : Env} (h : ∀ y ∈ scope.names, y.2 = .free -> ∃ c, env.cells.lookup y.1 = some c) : closureFor scope env = pure (z0v env.cells scope.names []) := by
 have key : ∀ (names : List (Str × NameKind)) (acc : List (Str × Addr)), (∀ y ∈ names, y.2 = .free -> ∃ c, env.cells.lookup y.1 = some c) ->
   (forIn names acc fun (x : Str × NameKind) (cs : List (Str × Addr)) => (if x.2 == .free then (do let a <- cellOf env x.1; pure (ForInStep.yield ((x.1, a) :: cs))) else pure (ForInStep.yield cs) : Sem _)) = pure (z0v env.cells names acc) := by
  intro names
  induction names with
  | nil => intro acc _; rfl
  | cons y r ih =>
   intro acc hn
   obtain ⟨n, k⟩ := y
   rw [List.forIn_cons]
   unfold z0v
   by_cases hk : (k == NameKind.free) = true
   ·obtain ⟨c, hc⟩ := hn (n, k) List.mem_cons_self (by simpa using hk)
    have e1 : cellOf env n = pure c := by unfold cellOf; rw [hc]
    simp only [hk, if_true, e1, pure_bind, hc, Option.getD_some]
    exact ih _ fun y hy => hn y (List.mem_cons_of_mem _ hy)
   ·simp only [hk, if_false, pure_bind, Bool.false_eq_true]
    exact ih _ fun y hy => hn y (List.mem_cons_of_mem _ hy)
 have := key scope.names [] h
 unfold closureFor
 refine Eq.trans ?_ (congrArg (fun m => m >>= fun cs => pure cs) this)
 congr 1
theorem z3G {cells : List (Str × Addr)} {x : Str} {c : Addr} : ∀ (names : List (Str × NameKind)) (acc : List (Str × Addr)), (x, c) ∈ z0v cells names acc -> (x, c) ∈ acc \/ ((x, NameKind.free) ∈ names /\ c = (cells.lookup x).getD 0)
 | [], acc, h => .inl h
 | (n, k) :: r, acc, h => by
  unfold z0v at h
  by_cases hk : (k == NameKind.free) = true
  ·rw [if_pos hk] at h
   rcases z3G r _ h with m | ⟨m, e⟩
   ·rcases List.mem_cons.mp m with m | m
    ·cases m
     have : k = .free := by simpa using hk
     subst this
     exact .inr ⟨List.mem_cons_self, rfl⟩
    ·exact .inl m
   ·exact .inr ⟨List.mem_cons_of_mem _ m, e⟩
  ·rw [if_neg hk] at h
   rcases z3G r _ h with m | ⟨m, e⟩
   ·exact .inl m
   ·exact .inr ⟨List.mem_cons_of_mem _ m, e⟩
theorem z3Y {cells : List (Str × Addr)} {p : Str × Addr} : ∀ (names : List (Str × NameKind)) (acc : List (Str × Addr)), p ∈ acc -> p ∈ z0v cells names acc
 | [], acc, h => h
 | (n, k) :: r, acc, h => by
  unfold z0v
  split
  ·exact z3Y r _ (List.mem_cons_of_mem _ h)
  ·exact z3Y r _ h
theorem z3W {cells : List (Str × Addr)} {x : Str} : ∀ (names : List (Str × NameKind)) (acc : List (Str × Addr)), (x, NameKind.free) ∈ names -> (x, (cells.lookup x).getD 0) ∈ z0v cells names acc
 | (n, k) :: r, acc, h => by
  unfold z0v
  rcases List.mem_cons.mp h with e | h
  ·cases e
   rw [if_pos (by decide)]
   exact z3Y r _ List.mem_cons_self
  ·split
   ·exact z3W r _ h
   ·exact z3W r _ h
theorem zbf {x : Str} {c : Addr} : ∀ (names : List (Str × NameKind)) (n : Nat) (acc : List (Str × Addr)), (x, c) ∈ cellsFrom n names acc -> (x, c) ∈ acc \/ ((x, NameKind.cell) ∈ names /\ n <= c)
 | [], n, acc, h => .inl h
 | (y, k) :: r, n, acc, h => by
  unfold cellsFrom at h
  by_cases hk : (k == NameKind.cell) = true
  ·rw [if_pos hk] at h
   rcases zbf r _ _ h with m | ⟨m, e⟩
   ·rcases List.mem_cons.mp m with m | m
    ·cases m
     have : k = .cell := by simpa using hk
     subst this
     exact .inr ⟨List.mem_cons_self, Nat.le_refl _⟩
    ·exact .inl m
   ·exact .inr ⟨List.mem_cons_of_mem _ m, Nat.le_of_succ_le e⟩
  ·rw [if_neg hk] at h
   rcases zbf r _ _ h with m | ⟨m, e⟩
   ·exact .inl m
   ·exact .inr ⟨List.mem_cons_of_mem _ m, e⟩
theorem zb6 {p : Str × Addr} : ∀ (names : List (Str × NameKind)) (n : Nat) (acc : List (Str × Addr)), p ∈ acc -> p ∈ cellsFrom n names acc
 | [], _, _, h => h
 | (y, k) :: r, n, acc, h => by
  unfold cellsFrom
  split
  ·exact zb6 r _ _ (List.mem_cons_of_mem _ h)
  ·exact zb6 r _ _ h
theorem z5v : ∀ (names : List (Str × NameKind)) (n : Nat) (acc : List (Str × Addr)), (acc.Pairwise fun x y => x.2 ≠ y.2) -> (∀ p ∈ acc, p.2 < n) -> (cellsFrom n names acc).Pairwise fun x y => x.2 ≠ y.2
 | [], _, _, h, _ => h
 | (y, k) :: r, n, acc, h, hl => by
  unfold cellsFrom
  split
  ·refine z5v r (n + 1) _ (List.pairwise_cons.mpr ⟨fun p hp => ?_, h⟩) fun p hp => ?_
   ·exact fun e => absurd (hl p hp) (by show ¬ p.2 < n; rw [<- e]; exact Nat.lt_irrefl _)
   ·rcases List.mem_cons.mp hp with rfl | hp
    ·exact Nat.lt_succ_self _
    ·exact Nat.lt_succ_of_lt (hl p hp)
  ·exact z5v r n acc h hl
theorem z5z : ∀ (names : List (Str × NameKind)) (n : Nat) (acc : List (Str × Addr)), ((names.map (·.1)).Nodup) -> (acc.map (·.1)).Nodup -> (∀ p ∈ acc, ∀ k, (p.1, k) ∈ names -> k ≠ NameKind.cell) -> ((cellsFrom n names acc).map (·.1)).Nodup
 | [], _, _, _, h, _ => h
 | (y, k) :: r, n, acc, nd, h, hl => by
  obtain ⟨n1, n2⟩ := List.nodup_cons.mp nd
  unfold cellsFrom
  by_cases hk : (k == NameKind.cell) = true
  ·rw [if_pos hk]
   have hk' : k = .cell := by simpa using hk
   refine z5z r (n + 1) _ n2 (List.nodup_cons.mpr ⟨fun m => ?_, h⟩) fun p hp k' hk2 => ?_
   ·obtain ⟨p, hp, e⟩ := List.mem_map.mp m
    exact hl p hp k (by rw [e]; exact List.mem_cons_self) hk'
   ·rcases List.mem_cons.mp hp with rfl | hp
    ·exact absurd (List.mem_map.mpr ⟨(y, k'), hk2, rfl⟩) n1
    ·exact hl p hp k' (List.mem_cons_of_mem _ hk2)
  ·rw [if_neg hk]
   exact z5z r n acc n2 h fun p hp k' hk2 => hl p hp k' (List.mem_cons_of_mem _ hk2)
theorem z2w {cells : List (Str × Addr)} : ∀ (names : List (Str × NameKind)) (acc : List (Str × Addr)), ((names.map (·.1)).Nodup) -> (acc.map (·.1)).Nodup -> (∀ p ∈ acc, p.1 ∉ names.map (·.1)) -> ((z0v cells names acc).map (·.1)).Nodup
 | [], _, _, h, _ => h
 | (y, k) :: r, acc, nd, h, hl => by
  obtain ⟨n1, n2⟩ := List.nodup_cons.mp nd
  unfold z0v
  split
  ·refine z2w r _ n2 (List.nodup_cons.mpr ⟨fun m => ?_, h⟩) fun p hp => ?_
   ·obtain ⟨p, hp, e⟩ := List.mem_map.mp m
    exact hl p hp (by rw [e]; simp)
   ·rcases List.mem_cons.mp hp with rfl | hp
    ·exact n1
    ·exact fun m => hl p hp (List.mem_cons_of_mem _ m)
  ·exact z2w r acc n2 h fun p hp m => hl p hp (List.mem_cons_of_mem _ m)
theorem z8d {x : Str} {c : Addr} : ∀ (names : List (Str × NameKind)) (h : Heap) (acc : List (Str × Addr)), (x, c) ∈ cellsFrom h.objs.size names acc -> (x, c) ∈ acc \/ (pushCells h names).IsCell c none
 | [], _, _, m => .inl m
 | (y, k) :: r, h, acc, m => by
  unfold cellsFrom at m
  unfold pushCells
  by_cases hk : (k == NameKind.cell) = true
  ·rw [if_pos hk] at m ⊢
   have e : h.objs.size + 1 = (h.push { cls := .type "cell", data := .cell none }).objs.size := (Heap.size_push ..).symm
   rw [e] at m
   rcases z8d r _ _ m with m | m
   ·rcases List.mem_cons.mp m with m | m
    ·cases m
     exact .inr ⟨_, pushCells_keeps _ _ _ _ (Heap.get?_push_size _ rfl), rfl⟩
    ·exact .inl m
   ·exact .inr m
  ·rw [if_neg hk] at m ⊢
   exact z8d r _ _ m
theorem z6j {l : List (Str × Addr)} (nd : (l.map (·.1)).Nodup) (inj : ∀ p ∈ l, ∀ q ∈ l, p.2 = q.2 -> p.1 = q.1) : l.Pairwise fun x y => x.2 ≠ y.2 := by
 induction l with
 | nil => exact .nil
 | cons p r ih =>
  obtain ⟨n1, n2⟩ := List.nodup_cons.mp nd
  refine List.pairwise_cons.mpr ⟨fun q hq e => n1 ?_, ih n2 fun a ha b hb => inj a (List.mem_cons_of_mem _ ha) b (List.mem_cons_of_mem _ hb)⟩
  exact List.mem_map.mpr ⟨q, hq, (inj p List.mem_cons_self q (List.mem_cons_of_mem _ hq) e).symm⟩
abbrev z7f : Obj := { cls := .type "dict", data := .dict #[] }
section
variable {X : Cx} {pins : List (Addr × Obj)} {σv : St} {H : Hp} {s : Shared}
abbrev zcq (ob : Obj) (h : Heap) (names : List (Str × NameKind)) : Heap := pushCells ((h.push ob).push z7f) names
theorem z4z (ob : Obj) (h : Heap) (names : List (Str × NameKind)) (b : Addr) (o : Obj) (e : h.get? b = some o) : (zcq ob h names).get? b = some o := pushCells_keeps _ _ _ _ (Heap.get?_push_of_some _ (Heap.get?_push_of_some _ e))
theorem ziE (ob : Obj) (h : Heap) : ((h.push ob).push z7f).objs.size = h.objs.size + 2 := by rw [Heap.size_push, Heap.size_push]
theorem zaz {scope : Scope} {ext : List Str} {sl : List Nat} {fp : List Addr} (I : L2.Inv X pins σv H s) (hfp : ∀ b ∈ fp, z6b X pins H b) (hlt : ∀ b ∈ fp, b < s.heap.objs.size) (hb : BOk X.env.scope scope (X.N ++ ext) sl) {ob : Obj} {u : HO} (hfr : ob.isFreed = false) (hob : ∀ h : Heap, h.get? s.heap.objs.size = some ob -> ObjOk X.prog X.w (upd H s.heap.objs.size u) h s.heap.objs.size u) :
  L2.Inv (cxB X (X.N ++ ext) scope (cellsFrom (s.heap.objs.size + 2) scope.names (z0v X.env.cells scope.names [])) (s.heap.objs.size + 1) s H fp) [] (clr (σv ++ List.replicate ext.length none) sl)
   (upd H s.heap.objs.size u) { s with heap := zcq ob s.heap scope.names } := by
 have hclt : ∀ x c, X.env.cells.lookup x = some c -> c < s.heap.objs.size := fun x c e => by
  obtain ⟨v, z⟩ := I.cell x c e
  exact z.lt
 -- a free name of the block has its cell around
 have hfree : ∀ x, (x, NameKind.free) ∈ scope.names -> ∃ c, X.env.cells.lookup x = some c := fun x hx => I.ok.has x (hb.frees _ hx rfl)
 have hcl : ∀ x c, (x, c) ∈ z0v X.env.cells scope.names [] -> (x, NameKind.free) ∈ scope.names /\ X.env.cells.lookup x = some c := fun x c hm => by
  rcases z3G _ _ hm with m | ⟨m, e⟩
  ·cases m
  ·obtain ⟨c', hc'⟩ := hfree x m
   rw [hc'] at e
   exact ⟨m, by rw [e]; exact hc'⟩
 have hlc : ∀ x, (x, NameKind.free) ∈ scope.names -> ∀ c, X.env.cells.lookup x = some c -> (x, c) ∈ z0v X.env.cells scope.names [] := fun x hx c e => by
  have := z3W (cells := X.env.cells) scope.names [] hx
  rw [e] at this
  exact this
 have ndcl : ((z0v X.env.cells scope.names []).map (·.1)).Nodup := z2w _ _ hb.nd (by simp) (by intro p hp; cases hp)
 have ndc : ((cellsFrom (s.heap.objs.size + 2) scope.names (z0v X.env.cells scope.names [])).map (·.1)).Nodup := z5z _ _ _ hb.nd ndcl fun p hp k hk e => by
  subst e
  have h1 := (hcl p.1 p.2 hp).1
  have := z0V hb.nd h1
  rw [z0V hb.nd hk] at this
  cases this
 have apart : (cellsFrom (s.heap.objs.size + 2) scope.names (z0v X.env.cells scope.names [])).Pairwise fun x y => x.2 ≠ y.2 := by
  refine z5v _ _ _ (z6j ndcl fun p hp q hq e => ?_) fun p hp => Nat.lt_of_lt_of_le (hclt _ _ (hcl p.1 p.2 hp).2) (Nat.le_add_right _ _)
  refine I.ok.inj p.1 q.1 p.2 (hcl p.1 p.2 hp).2 ?_
  rw [e]; exact (hcl q.1 q.2 hq).2
 have hsplit : ∀ x c, (cellsFrom (s.heap.objs.size + 2) scope.names (z0v X.env.cells scope.names [])).lookup x = some c -> ((x, NameKind.free) ∈ scope.names /\ X.env.cells.lookup x = some c) \/ ((x, NameKind.cell) ∈ scope.names /\ s.heap.objs.size + 2 <= c) := fun x c e => by
  rcases zbf _ _ _ (PySem.mem_of_lookup e) with m | m
  ·exact .inl (hcl x c m)
  ·exact .inr m
 have fresh : ∀ a, s.heap.objs.size <= a -> H a = none := fun a ha => I.hok.fresh ha
 have kp := z4z ob s.heap scope.names
 have oldc : ∀ x, (x, NameKind.free) ∈ scope.names -> ∀ c, X.env.cells.lookup x = some c -> (cellsFrom (s.heap.objs.size + 2) scope.names (z0v X.env.cells scope.names [])).lookup x = some c := fun x hx c e =>
  z0V ndc (zb6 _ _ _ (hlc x hx c e))
 refine ⟨⟨I.ok.mod, hb.kind, I.ok.glob, I.ok.blt, Nat.le_succ _, fun x y c h1 h2 => name_of_addr apart (PySem.mem_of_lookup h1) (PySem.mem_of_lookup h2), fun x hx => ?_, fun x c hx h => ?_, I.ok.hd, I.ok.frames, .inl rfl, fun b hbm => ⟨?_, fun x c e => ?_⟩, I.bs, ?_, fun b o e hbm => ?_, fun b hbm z => ?_, I.stack, I.stkFree⟩,
  rfl, I.bare, Un.laid kp (Nat.le_refl _) (fresh _ (Nat.le_refl _)), ?_, fun x c e => ?_, ?_, fun x c e => ?_, fun p hp => absurd (show p ∈ ([] : List (Addr × Obj)) from hp) (by simp), I.hok.laid kp (Nat.le_refl _) ?_, ?_⟩
 ·-- has
  have hx : Vis (relabel scope X.env) x := .inr hx
  rcases z4x hx with m | m | m
  ·exfalso
   have e := z0V hb.nd m
   have e2 : (relabel scope X.env).names.lookup x = some .local := lookup_relabel_local e
   rcases (show (relabel scope X.env).names.lookup x = some .cell \/ (relabel scope X.env).names.lookup x = some .free by rename_i h0; exact h0) with q | q
   ·rw [e2] at q; cases q
   ·rw [e2] at q; cases q
  ·exact Option.isSome_iff_exists.mp (PySem.W.cellsFrom_some scope.names _ _ (.inl (z0V hb.nd m)))
  ·obtain ⟨c, hc⟩ := hfree x m
   exact ⟨c, oldc x m c hc⟩
 ·-- cab
  have hx : (scope.names.lookup x == some .cell) = true := hx
  rcases hsplit x c h with ⟨m, _⟩ | ⟨_, m⟩
  ·rw [z0V hb.nd m] at hx; cases hx
  ·exact Nat.le_trans (Nat.le_add_right _ _) m
 ·exact Nat.ne_of_lt (Nat.lt_succ_of_lt (hlt b hbm))
 ·rcases hsplit x c e with ⟨_, m⟩ | ⟨_, m⟩
  ·exact (hfp b hbm).2.2.2.2.1 x c m
  ·have h0 : b < s.heap.objs.size := hlt b hbm
   exact fun z => by
    rw [z] at m
    exact absurd (Nat.lt_of_lt_of_le h0 (Nat.le_trans (Nat.le_add_right _ 2) m)) (Nat.lt_irrefl _)
 ·exact Nat.le_trans I.ok.bsz I.sz
 ·rcases (hfp b hbm).2.2.2.1 with z | z
  ·exact I.ok.noex b o e z
  ·exact absurd (Nat.lt_of_lt_of_le (Heap.lt_size e) (Nat.le_trans I.ok.bsz z)) (Nat.lt_irrefl _)
 ·rcases List.mem_cons.mp (I.stkSub b z) with q | q
  ·exact (hfp b hbm).2.1 q
  ·exact (hfp b hbm).2.2.1 q
 ·-- loc
  refine ⟨fun _ => none, ?_, fun i x v h1 h2 h3 => ?_⟩
  ·have z := (Heap.Ns.new (s.heap.push ob) (.type "dict")).keeps (pushCells_keeps scope.names _)
   rw [Heap.size_push] at z
   exact z
  ·obtain ⟨g1, g2⟩ := z5D _ _ _ _ h2
   have hi : i < σv.length := by
    by_cases hi : i < σv.length
    ·exact hi
    ·rw [List.getElem?_append_right (by omega), List.getElem?_replicate] at g1
     split at g1 <;> cases g1
   rw [List.getElem?_append_left hi] at g1
   have hxN : X.N[i]? = some x := by
    have h1 : (X.N ++ ext)[i]? = some x := h1
    rw [List.getElem?_append_left (by rw [<- I.len]; exact hi)] at h1
    exact h1
   rcases z4x h3 with m | m | m
   ·exact absurd (hb.own i x h1 (.inl m)) g2
   ·exact absurd (hb.own i x h1 (.inr m)) g2
   ·obtain ⟨m0, hn, hl⟩ := I.loc
    have kx := hb.frees _ m rfl
    obtain ⟨u, ru, lk⟩ := hl i x v hxN g1 (.inr kx)
    refine ⟨u, ru, ?_⟩
    rcases lk with ⟨q, _⟩ | ⟨q, c, hc, z⟩
    ·exfalso
     have q : X.env.scope.names.lookup x = some .local := q
     rcases kx with k | k <;> (rw [q] at k; cases k)
    ·refine .inr ⟨?_, c, oldc x m c hc, z.keeps kp⟩
     have e := z0V hb.nd m
     show (relabel scope X.env).names.lookup x = some .cell \/ (relabel scope X.env).names.lookup x = some .free
     unfold relabel
     simp only [z1W, e, Option.map_some]
     split
     ·exact .inl rfl
     ·exact .inr rfl
 ·-- cell
  rcases z8d scope.names ((s.heap.push ob).push z7f) (z0v X.env.cells scope.names []) (x := x) (c := c) (by rw [ziE]; exact PySem.mem_of_lookup e) with m | m
  ·obtain ⟨v, z⟩ := I.cell x c (hcl x c m).2
   exact ⟨v, z.keeps kp⟩
  ·exact ⟨none, m⟩
 ·show upd H s.heap.objs.size u (s.heap.objs.size + 1) = none
  rw [z09 (Nat.ne_of_gt (Nat.lt_succ_self _))]
  exact fresh _ (Nat.le_succ _)
 ·rcases hsplit x c e with ⟨_, m⟩ | ⟨_, m⟩
  ·rw [z09 (Nat.ne_of_lt (hclt x c m))]
   exact I.freeC x c m
  ·have ne : c ≠ s.heap.objs.size := fun z => by
    rw [z] at m
    exact absurd m (by omega)
   rw [z09 ne]
   exact fresh c (Nat.le_trans (Nat.le_add_right _ 2) m)
 ·exact hob _ (pushCells_keeps _ _ _ _ (Heap.get?_push_of_some _ (Heap.get?_push_size _ hfr)))
 ·show _ = (X.N ++ ext).length
  rw [z4s, List.length_append, List.length_replicate, List.length_append, I.len]
end
def noX {α : Type} : R α -> R α
 | .ok a O => .ok a O
 | _ => .bad
def z1C (ext : Nat) (it0 : DI) (g : Tg) (ts : List DT) (cs : List Cl) (em : Em) : Sg -> Ow -> R (List D) := fun σ O => (it0 σ O).bnd fun src O1 =>
 noX (z0m src (z2l ⟨it0, g, ts⟩ cs em (clr (σ ++ List.replicate ext none) (z07 (⟨it0, g, ts⟩ :: cs)))) (src.size O1) 0 O1 [])
def z2f (ext : Nat) (it0 : DI) (g : Tg) (ts : List DT) (cs : List Cl) (te : DE) : Sg -> Ow -> R (List D) := fun σ O => (it0 σ O).bnd fun src O1 =>
 noX (z0m src (z4J ⟨it0, g, ts⟩ cs te (clr (σ ++ List.replicate ext none) (z07 (⟨it0, g, ts⟩ :: cs)))) (src.size O1) 0 O1 [])
theorem z5l (ext : Nat) (it0 : DI) (g : Tg) (ts : List DT) (cs : List Cl) (te : DE) : z1C ext it0 g ts cs (emL te) = z2f ext it0 g ts cs te := by
 funext σ O; unfold z1C z2f; rw [zdQ]
section
variable {C : z8C} {em : Em}
variable {X : Cx} {M : Model} {A : Around} {E : Value -> Shared -> Prop} {s : Shared}
theorem z6A {scope : Scope} {globals : Addr} {cl : List (Str × Addr)} {qual : Str} {env : Env} {Q : Env -> Shared -> Prop}
  (h : Q { scope, locals := s.heap.objs.size, globals, cells := cellsFrom (s.heap.objs.size + 1) scope.names cl, qual, func := none, code := env.code, frame := env.frame, builtins := env.builtins } { s with heap := pushCells (s.heap.push z7f) scope.names }) :
  wpAny M A (newFunctionEnv scope globals cl [] qual none .none (some env)) Q E s := by
 simp only [newFunctionEnv, Option.isSome_some, if_true]
 refine wpAny_bind (wpAny_alloc ?_)
 refine wpAny_bind (wpAny_layCells _ (fun name kind cells => by cases hkc : kind == NameKind.cell <;> simp [hkc]) _ _ _ _ ?_)
 rw [show ({ s with heap := s.heap.push z7f } : Shared).heap.objs.size = s.heap.objs.size + 1 from Heap.size_push ..]
 simp only [List.forIn_nil, pure_bind]
 exact wpAny_pure h
structure zdg (X : Cx) (C : z8C) (pins : List (Addr × Obj)) (σv : St) (H : Hp) (hid μ : List Addr) (L Cn : Addr) (acc : List D) (O : Ow) (s' : Shared) : Prop where
 inv : ∃ H' μ', L2.Inv X pins σv H' s' /\ Ext H μ H' μ' /\ Cells X.K H' (L :: hid) μ' O /\ H L = none /\ H' Cn = none /\ C.G X.K X.prog X.w L hid H' μ' acc
 ns : ∃ m, s'.heap.Ns Cn m
 loc : Cn ≠ X.env.locals
 young : X.s₀.heap.objs.size <= Cn
 cel : ∀ x c, X.env.cells.lookup x = some c -> c ≠ Cn
 pns : ∀ p ∈ X.pn ++ pins, p.1 ≠ Cn
theorem Inv.bare {pins : List (Addr × Obj)} {σv : St} {H : Hp} {s' : Shared} {C : Addr} {h' : Heap} (I : L2.Inv X pins σv H s') (hs : Heap.SameBut C s'.heap h') (hn : H C = none) (loc : C ≠ X.env.locals) (young : X.s₀.heap.objs.size <= C) (cel : ∀ x c, X.env.cells.lookup x = some c -> c ≠ C)
  (pns : ∀ p ∈ X.pn ++ pins, p.1 ≠ C) : L2.Inv X pins σv H { s' with heap := h' } := I.turned (t' := s'.toks) (fun b o hb e => (hs.2 b hb).trans e) hn loc (.inr young) cel pns
theorem z90 (co : z51 C) {tg iter : Expr} {ifs : List Expr} {gs : List Comprehension} {scope : Scope} {pos : Pos} {ext : List Str} {it0 : DI} {g : Tg} {ts : List DT} {cs : List Cl} {pins : List (Addr × Obj)} {σv : St} {H : Hp} {hid μ : List Addr} {σ : Sg} {O : Ow} {src : Src} {acc : List D} {O2 : Ow}
  {it : Addr} {fp : List Addr} {tn : Nat -> Heap -> Prop} {J : It} {RR : Value -> Addr -> Result -> Shared -> Prop}
  (hcalm : X.calm = true) (hb : BOk X.env.scope scope (X.N ++ ext) (z07 (⟨it0, g, ts⟩ :: cs)))
  (blk : ∀ cells Cn s H fp, PG (cxB X (X.N ++ ext) scope cells Cn s H fp) tg (g.rd X.K) /\ PySem.Paired (fun e t => PDT (cxB X (X.N ++ ext) scope cells Cn s H fp) Ex0 e t) ifs ts /\ ClsOk (cxB X (X.N ++ ext) scope cells Cn s H fp) gs cs /\ ∀ A hid k, (⟨tg, iter, ifs, 0⟩ :: gs : List Comprehension)[k]? = none -> z3Z (cxB X (X.N ++ ext) scope cells Cn s H fp) C A hid (C.ex (⟨tg, iter, ifs, 0⟩ :: gs) scope pos) (⟨tg, iter, ifs, 0⟩ :: gs) em k [])
  (I : L2.Inv X pins σv H s) (e1 : EnvOk X.K H hid μ σ σv) (c1 : Cells X.K H hid μ O) (T : z9t X.prog X.w X.K tg J fp it tn) (st : tn 0 s.heap) (hfp : ∀ b ∈ fp, z6b X pins H b) (sa : SrcAt X.K J src H hid μ)
  (hw : z0m src (z2l ⟨it0, g, ts⟩ cs em (clr (σ ++ List.replicate ext.length none) (z07 (⟨it0, g, ts⟩ :: cs)))) (src.size O) 0 O [] = .ok acc O2)
  (hRR : ∀ f s', zdg X C pins σv H hid μ s.heap.objs.size (s.heap.objs.size + 1) acc O2 s' -> RR (.ref s.heap.objs.size) (s.heap.objs.size + 1) (.ok f) s') :
  wpAny (model X.prog X.w) X.A C.new (fun ac s₃ => wpAny (model X.prog X.w) X.A (newFunctionEnv scope X.env.globals (z0v X.env.cells scope.names []) [] X.env.qual none .none (some X.env)) (fun cenv s₄ =>
   codeAny (model X.prog X.w) X.A (.compStart (C.ex (⟨tg, iter, ifs, 0⟩ :: gs) scope pos) 0 (.ref it) ac { cenv with scope := relabel scope X.env }) (RR ac cenv.locals) s₄) E s₃) E s := by
 refine co.new fun ob hfr hob => ?_
 refine z6A ?_
 have hsz : (s.heap.push ob).objs.size = s.heap.objs.size + 1 := Heap.size_push ..
 have hlt : ∀ b ∈ fp, b < s.heap.objs.size := fun b hb => by
  obtain ⟨o, ho, _⟩ := T.obj 0 _ st b hb
  exact Heap.lt_size ho
 have IB := zaz (u := C.ho X.prog X.w s.heap.objs.size) I hfp hlt hb hfr (fun h => hob H h _ I.big)
 have nL : H s.heap.objs.size = none := I.hok.fresh (Nat.le_refl _)
 have hne : ∀ b ∈ fp, b ≠ s.heap.objs.size := fun b hb => Nat.ne_of_lt (hlt b hb)
 obtain ⟨b1, b2, b3, b4⟩ := blk (cellsFrom (s.heap.objs.size + 2) scope.names (z0v X.env.cells scope.names [])) (s.heap.objs.size + 1) s H fp
 generalize hX' : cxB X (X.N ++ ext) scope (cellsFrom (s.heap.objs.size + 2) scope.names (z0v X.env.cells scope.names [])) (s.heap.objs.size + 1) s H fp = X' at IB b1 b2 b3 b4
 have eP : X'.prog = X.prog := by rw [<- hX']; rfl
 have eW : X'.w = X.w := by rw [<- hX']; rfl
 have eK : X'.K = X.K := by rw [<- hX']; rfl
 have eA : X'.A = X.A := by rw [<- hX']; rfl
 have ex : X'.xe = fun _ _ => False := by rw [<- hX']; rfl
 have ec : X'.calm = true := by rw [<- hX']; exact hcalm
 have eenv : X'.env = { scope := relabel scope X.env, locals := s.heap.objs.size + 1, globals := X.env.globals, cells := cellsFrom (s.heap.objs.size + 2) scope.names (z0v X.env.cells scope.names []), qual := X.env.qual, func := none, code := X.env.code, frame := X.env.frame, builtins := X.env.builtins } := by rw [<- hX']; rfl
 have eenv2 : ({ ({ scope, locals := (s.heap.push ob).objs.size, globals := X.env.globals, cells := cellsFrom ((s.heap.push ob).objs.size + 1) scope.names (z0v X.env.cells scope.names []), qual := X.env.qual, func := none, code := X.env.code, frame := X.env.frame, builtins := X.env.builtins } : Env) with scope := relabel scope X.env } : Env) = X'.env := by
  rw [eenv, hsz]
 show codeAny _ _ (.compStart _ 0 _ _ ({ ({ scope, locals := (s.heap.push ob).objs.size, globals := X.env.globals, cells := cellsFrom ((s.heap.push ob).objs.size + 1) scope.names (z0v X.env.cells scope.names []), qual := X.env.qual, func := none, code := X.env.code, frame := X.env.frame, builtins := X.env.builtins } : Env) with scope := relabel scope X.env } : Env)) (RR _ (s.heap.push ob).objs.size) _
 rw [eenv2, hsz]
 have mv0 : Mv H hid μ (upd H s.heap.objs.size (C.ho X.prog X.w s.heap.objs.size)) (s.heap.objs.size :: hid) μ := (Mv.hide nL).trans ⟨⟨[], by simp⟩, fun b o h _ n2 _ => by rw [z09 (fun z => n2 (by simp [z]))]; exact h, fun _ m => .inl m, fun _ m => .inl m, z1u, fun _ t => t.upd (.inl nL)⟩
 have c2 : Cells X.K (upd H s.heap.objs.size (C.ho X.prog X.w s.heap.objs.size)) (s.heap.objs.size :: hid) μ O := by
  refine ⟨c1.len, c1.nd, fun a m z => ?_, fun a m => ?_, fun k a e => ?_⟩
  ·rcases List.mem_cons.mp z with rfl | z
   ·exact (c1.not_in nL).2 m
   ·exact c1.nh a m z
  ·rcases List.mem_cons.mp m with rfl | m
   ·rw [z0g]; simp
   ·exact z1u a (c1.ht a m)
  ·obtain ⟨ds, vs, h1, h2, h3⟩ := c1.at_ k a e
   exact ⟨ds, vs, h1, by rw [z09 (z0d h2 nL)]; exact h2, h3.mv mv0⟩
 have e2 : EnvOk X.K (upd H s.heap.objs.size (C.ho X.prog X.w s.heap.objs.size)) (s.heap.objs.size :: hid) μ (clr (σ ++ List.replicate ext.length none) (z07 (⟨it0, g, ts⟩ :: cs))) (clr (σv ++ List.replicate ext.length none) (z07 (⟨it0, g, ts⟩ :: cs))) := by
  refine ⟨by rw [z4s, z4s, List.length_append, List.length_append, e1.len]; simp, fun i d h => ?_⟩
  obtain ⟨g1, g2⟩ := z5D _ _ _ _ h
  have hi : i < σ.length := by
   by_cases hi : i < σ.length
   ·exact hi
   ·rw [List.getElem?_append_right (by omega), List.getElem?_replicate] at g1
    split at g1 <;> cases g1
  rw [List.getElem?_append_left hi] at g1
  obtain ⟨v, h1, h2⟩ := e1.at_ i d g1
  exact ⟨v, by rw [zbh _ _ _ g2, List.getElem?_append_left (by rw [<- e1.len]; exact hi)]; exact h1, h2.mv mv0⟩
 have hfp' : ∀ b ∈ fp, z6b X' [] (upd H s.heap.objs.size (C.ho X.prog X.w s.heap.objs.size)) b := fun b hbm => by
  obtain ⟨f0, f1, f2, f3, f4, f5⟩ := hfp b hbm
  have h1 := IB.ok.exf
  refine ⟨by rw [z09 (hne b hbm)]; exact f0, ?_, ?_, .inl ?_, ?_, ?_⟩
  ·exact (h1 b (by rw [<- hX']; exact hbm)).1
  ·rw [<- hX']
   exact fun z => IB.ok.exfs b (by rw [<- hX']; exact hbm) (by rw [<- hX']; exact z)
  ·rw [<- hX']; exact hbm
  ·exact (h1 b (by rw [<- hX']; exact hbm)).2
  ·rw [<- hX']
   exact fun p hp => absurd (show p ∈ ([] : List (Addr × Obj)) from hp) (by simp)
 have st' : tn 0 (zcq ob s.heap scope.names) := T.keep _ _ _ st fun b _ o e => z4z _ _ _ _ _ e
 have T' : z9t X'.prog X'.w X'.K tg J fp it tn := by rw [eP, eW, eK]; exact T
 have key := zbz (X := X') co (A := s.heap.objs.size) (hid := hid) (gens := ⟨tg, iter, ifs, 0⟩ :: gs) (scope := scope) (pos := pos) (em := em) (k := 0) (c := ⟨it0, g, ts⟩) (cs := cs) ex ec rfl (by rw [eK]; exact b1) b2 (z9S co ex ec (b4 _ _) b3 1 rfl) (by
   cases b3 with
   | nil => exact .inl rfl
   | cons _ _ _ _ _ => exact .inr ⟨_, _, _, rfl⟩) T' [] { s with heap := zcq ob s.heap scope.names } (clr (σv ++ List.replicate ext.length none) (z07 (⟨it0, g, ts⟩ :: cs))) (upd H s.heap.objs.size (C.ho X.prog X.w s.heap.objs.size)) μ (clr (σ ++ List.replicate ext.length none) (z07 (⟨it0, g, ts⟩ :: cs))) O [] (src.size O)
   (fun s' => zdg X C pins σv H hid μ s.heap.objs.size (s.heap.objs.size + 1) acc O2 s') st' hfp' (by rw [eK]; exact sa.mv mv0) ⟨IB, by rw [eK]; exact e2, by rw [eK]; exact c2, by rw [eK, eP, eW]; exact co.g0⟩ ?_
 ·have key2 := z8n (X := X') co (gens := ⟨tg, iter, ifs, 0⟩ :: gs) (scope := scope) (pos := pos) (env := X'.env) rfl T' 0 st' key
  rw [eP, eW, eA] at key2
  exact codeAny_mono key2 fun r s' ⟨f, hr, q⟩ => by subst hr; exact hRR f s' q
 ·rw [hw]
  intro s' σv' H' μ' I' x' c' g' l' k'
  rw [eK] at c'
  rw [eK, eP, eW] at g'
  have xe : Ext H μ H' μ' := ⟨x'.pre, fun b o h n ht => x'.kept b o (by rw [z09 (z0d h nL)]; exact h) n (z0d h nL) ht, fun b m => (x'.fresh b m).imp id fun z => by
   by_cases q : b = s.heap.objs.size
   ·rw [q]; exact nL
   ·rw [z09 q] at z; exact z, fun b h => x'.there b (z1u b h), fun P t => x'.tab P (t.upd (.inl nL))⟩
  have un : Un (frs X.stack) fp H H' s.heap s'.heap := by
   have := I'.base
   rw [<- hX'] at this
   exact this
  have os : s'.os = s.os := by
   have := I'.os
   rw [<- hX'] at this
   exact this
  have hok : HOk X.prog X.w H' s'.heap := by
   have := I'.hok
   rw [eP, eW] at this
   exact this
  have IX : L2.Inv X pins σv H' s' := I.call' os un hok I'.bare fun b hbm => by
   obtain ⟨f0, f1, f2, f3, f4, f5⟩ := hfp b hbm
   exact ⟨f3, f1, f4, f5⟩
  have big : ∀ b, b < s.heap.objs.size -> b ≠ s.heap.objs.size + 1 := fun b h => Nat.ne_of_lt (Nat.lt_succ_of_lt h)
  refine ⟨⟨H', μ', IX, xe, c', nL, ?_, g'⟩, ?_, ?_, ?_, fun x c e => ?_, fun p hp => ?_⟩
  ·have := I'.free
   rw [eenv] at this
   exact this
  ·obtain ⟨m, hn, _⟩ := I'.loc
   rw [eenv] at hn
   exact ⟨m, hn⟩
  ·exact (big _ I.lt).symm
  ·exact Nat.le_trans I.sz (Nat.le_succ _)
  ·obtain ⟨v, z⟩ := I.cell x c e
   exact big _ z.lt
  ·exact big _ (Heap.lt_size (I.pin p hp).1)
end
section
variable {X : Cx} {Ex : Nat -> Hp -> Prop}
theorem zgO {α : Type} {r : R α} {a : α} {O : Ow} (h : noX r = .ok a O) : r = .ok a O := by
 cases r with
 | ok _ _ => exact h
 | exc _ _ => cases h
 | bad => cases h
theorem zfj {α : Type} {r : R α} {c : Nat} {O : Ow} (h : noX r = .exc c O) : False := by
 cases r <;> cases h
def zam (C : z8C) (Ex : Nat -> Hp -> Prop) (K : PySem.W.Frag) (P : Program) (w : World) (H : Hp) (hid μ : List Addr) (r : R (List D)) (Q : Addr -> Hp -> Prop) : Prop := match r with
 | .ok acc O' => ∀ L H' μ', H L = none -> Ext H μ H' μ' -> Cells K H' (L :: hid) μ' O' -> C.G K P w L hid H' μ' acc -> Q L H'
 | .exc c O' => ∀ H' μ', Ext H μ H' μ' -> Cells K H' hid μ' O' -> Ex c H'
 | .bad => False
theorem Ext.none {H H' : Hp} {μ μ' : List Addr} (e : Ext H μ H' μ') {L : Addr} (h : H' L = Option.none) : H L = Option.none := by
 cases q : H L with
 | none => rfl
 | some o => exact absurd h (e.there L (by rw [q]; simp))
theorem z62 {C : z8C} (co : z51 C) {em : Em} {tg iter : Expr} {ifs : List Expr} {gs : List Comprehension} {scope : Scope} {pos cpos : Pos} {ext : List Str} {it0 : DI} {g : Tg} {ts : List DT} {cs : List Cl} {pins : List (Addr × Obj)} {σv : St} {H : Hp} {s : Shared} {hid μ : List Addr} {σ : Sg} {O : Ow}
  {use : Option (Value -> Sem Unit)} {Q : Value -> Shared -> Prop} (hcalm : X.calm = true) (hi : PDI X Ex tg iter it0) (hb : BOk X.env.scope scope (X.N ++ ext) (z07 (⟨it0, g, ts⟩ :: cs)))
  (blk : ∀ cells Cn s H fp, PG (cxB X (X.N ++ ext) scope cells Cn s H fp) tg (g.rd X.K) /\ PySem.Paired (fun e t => PDT (cxB X (X.N ++ ext) scope cells Cn s H fp) Ex0 e t) ifs ts /\ ClsOk (cxB X (X.N ++ ext) scope cells Cn s H fp) gs cs /\ ∀ A hid k, (⟨tg, iter, ifs, 0⟩ :: gs : List Comprehension)[k]? = none -> z3Z (cxB X (X.N ++ ext) scope cells Cn s H fp) C A hid (C.ex (⟨tg, iter, ifs, 0⟩ :: gs) scope pos) (⟨tg, iter, ifs, 0⟩ :: gs) em k [])
  (hs : ∀ x, foldedSetIterable iter X.env x = pure x) (I : L2.Inv X pins σv H s) (e1 : EnvOk X.K H hid μ σ σv) (c1 : Cells X.K H hid μ O)
  (q : zam C Ex X.K X.prog X.w H hid μ (z1C ext.length it0 g ts cs em σ O)
   (fun (L : Addr) H' => ∀ s' Cn, L2.Inv X pins σv H' s' -> (∃ m, s'.heap.Ns Cn m) -> H' Cn = none -> Cn ≠ X.env.locals -> X.s₀.heap.objs.size <= Cn -> (∀ x c, X.env.cells.lookup x = some c -> c ≠ Cn) -> (∀ p ∈ X.pn ++ pins, p.1 ≠ Cn) ->
    compPost (model X.prog X.w) X.A X.xe use Q (.ref L) Cn (.ok .next) s')) :
  wpAny (model X.prog X.w) X.A (comprehension (C.ex (⟨tg, iter, ifs, 0⟩ :: gs) scope pos) scope X.env cpos C.new false (eval iter X.env) use) Q X.xe s := by
 have hfree : ∀ y ∈ scope.names, y.2 = .free -> ∃ c, X.env.cells.lookup y.1 = some c := fun y hy hf => by
  obtain ⟨n, k⟩ := y
  subst hf
  exact I.ok.has n (hb.frees _ hy rfl)
 refine wpAny_comprehension_free (g := ⟨tg, iter, ifs, 0⟩) (gs := gs) (co.cl _ _ _) hs (z5x hfree) hb.kind (fun x hx hl => ?_) ?_
 ·obtain ⟨n, k⟩ := x
  subst hl
  exact z0V hb.nd hx
 unfold z1C at q
 cases hit : it0 σ O with
 | bad => rw [hit] at q; exact False.elim q
 | exc c' O' =>
  rw [hit] at q
  refine thn (hi.out pins s σv H (fun J H1 => False) I ⟨hid, μ, σ, O, e1, c1, by rw [hit]; exact q⟩) fun v s1 h1 => thn h1 fun itv s2 h2 => ?_
  obtain ⟨it, fp, tn, J, H2, e, I2, T, st2, f2, z⟩ := h2
  exact z.elim
 | ok src O2 =>
  rw [hit] at q
  refine thn (hi.out pins s σv H (fun J H1 => ∃ μ1, Ext H μ H1 μ1 /\ Cells X.K H1 hid μ1 O2 /\ SrcAt X.K J src H1 hid μ1) I ⟨hid, μ, σ, O, e1, c1, by rw [hit]; exact fun J H1 μ1 x c sa => ⟨μ1, x, c, sa⟩⟩) fun v s1 h1 => thn h1 fun itv s2 h2 => ?_
  obtain ⟨it, fp, tn, J, H2, e, I2, T, st2, f2, μ2, x2, c2, sa⟩ := h2
  subst e
  have p : zam C Ex X.K X.prog X.w H hid μ (noX (z0m src (z2l ⟨it0, g, ts⟩ cs em (clr (σ ++ List.replicate ext.length none) (z07 (⟨it0, g, ts⟩ :: cs)))) (src.size O2) 0 O2 [])) _ := q
  cases hw : noX (z0m src (z2l ⟨it0, g, ts⟩ cs em (clr (σ ++ List.replicate ext.length none) (z07 (⟨it0, g, ts⟩ :: cs)))) (src.size O2) 0 O2 []) with
  | bad => rw [hw] at p; exact False.elim p
  | exc c' O' => exact (zfj hw).elim
  | ok acc O3 =>
   rw [hw] at p
   refine z90 co (RR := fun ac Cn => compPost (model X.prog X.w) X.A X.xe use Q ac Cn) hcalm hb blk I2 (e1.ext x2) c2 T st2 f2 sa (zgO hw) fun f s' Bh => ?_
   obtain ⟨H', μ', I', x', c', nL, nC, gv⟩ := Bh.inv
   have := p (s2.heap.objs.size) H' μ' (x2.none nL) (x2.trans x') c' gv s' (s2.heap.objs.size + 1) I' Bh.ns nC Bh.loc Bh.young Bh.cel Bh.pns
   unfold compPost at this ⊢
   cases use <;> exact this
theorem z5e {K : PySem.W.Frag} {H : Hp} {hid μ : List Addr} {O : Ow} {L : Addr} {vs : List V} {ds : List D} (c : Cells K H (L :: hid) μ O) (n1 : L ∉ hid) (h : H L = some (.lst vs)) (q : Dats K H (L :: hid) μ ds vs) : Dat K H hid μ (.lst ds) (.ref L) := by
 unfold Dat
 exact ⟨L, vs, rfl, .inl ⟨.inl h, n1, fun m => c.nh L m (by simp)⟩, q.mv .unhide⟩
mutual
theorem Dat.swap {K : PySem.W.Frag} {H : Hp} {hid μ : List Addr} {L : Addr} : ∀ {d : D} {v : V}, Dat K H (L :: hid) μ d v -> Dat K H hid (μ ++ [L]) d v
 | .non, _, h => h
 | .bl _, _, h => h
 | .int _, _, h => h
 | .str _, _, h => h
 | .lst ds, v, h => by
  unfold Dat at h ⊢
  obtain ⟨a, vs, r, l, q⟩ := h
  refine ⟨a, vs, r, l.imp (fun z => ⟨z.1, fun m => z.2.1 (List.mem_cons_of_mem _ m), fun m => ?_⟩) id, Dats.swap q⟩
  rcases List.mem_append.mp m with m | m
  ·exact z.2.2 m
  ·exact z.2.1 (by simp at m; simp [m])
 | .tup ds, v, h => by
  unfold Dat at h ⊢
  obtain ⟨a, vs, r, l, q⟩ := h
  refine ⟨a, vs, r, l.imp (fun z => ⟨z.1, fun m => z.2.1 (List.mem_cons_of_mem _ m), fun m => ?_⟩) id, Dats.swap q⟩
  rcases List.mem_append.mp m with m | m
  ·exact z.2.2 m
  ·exact z.2.1 (by simp at m; simp [m])
 | .own k, v, h => by
  unfold Dat at h ⊢
  obtain ⟨a, r, q⟩ := h
  exact ⟨a, r, by rw [List.getElem?_append_left (List.getElem?_eq_some_iff.mp q).1]; exact q⟩
 | .dct, v, h => by
  unfold Dat at h ⊢
  obtain ⟨a, r, q, n1, n2⟩ := h
  refine ⟨a, r, q, fun m => n1 (List.mem_cons_of_mem _ m), fun m => ?_⟩
  rcases List.mem_append.mp m with m | m
  ·exact n2 m
  ·exact n1 (by simp at m; simp [m])
 | .exn C, v, h => by
  unfold Dat at h ⊢
  obtain ⟨a, φ, r, g, q, n1, n2⟩ := h
  refine ⟨a, φ, r, g, q, fun m => n1 (List.mem_cons_of_mem _ m), fun m => ?_⟩
  rcases List.mem_append.mp m with m | m
  ·exact n2 m
  ·exact n1 (by simp at m; simp [m])
 | .tab P, v, h => by
  unfold Dat at h ⊢
  exact h
 | .map ks ds, v, h => by
  unfold Dat at h ⊢
  obtain ⟨a, vs, r, q, n1, n2, hl, d⟩ := h
  refine ⟨a, vs, r, q, fun m => n1 (List.mem_cons_of_mem _ m), fun m => ?_, hl, Dats.swap d⟩
  rcases List.mem_append.mp m with m | m
  ·exact n2 m
  ·exact n1 (by simp at m; simp [m])
theorem Dats.swap {K : PySem.W.Frag} {H : Hp} {hid μ : List Addr} {L : Addr} : ∀ {ds : List D} {vs : List V}, Dats K H (L :: hid) μ ds vs -> Dats K H hid (μ ++ [L]) ds vs
 | [], _, h => h
 | d :: ds, vs, h => by
  unfold Dats at h ⊢
  obtain ⟨v, r, e1, h1, h2⟩ := h
  exact ⟨v, r, e1, Dat.swap h1, Dats.swap h2⟩
end
theorem Cells.swap {K : PySem.W.Frag} {H : Hp} {hid μ : List Addr} {O : Ow} {L : Addr} {vs : List V} {ds : List D} (c : Cells K H (L :: hid) μ O) (n1 : L ∉ hid) (h : H L = some (.lst vs)) (q : Dats K H (L :: hid) μ ds vs) : Cells K H hid (μ ++ [L]) (O ++ [ds]) := by
 have nm : L ∉ μ := fun m => c.nh L m (by simp)
 refine ⟨by simp [c.len], ?_, fun a m => ?_, fun a m => c.ht a (List.mem_cons_of_mem _ m), fun k a e => ?_⟩
 ·rw [List.nodup_append]
  refine ⟨c.nd, by simp, fun a ha b hb => ?_⟩
  have : b = L := by simpa using hb
  subst this
  rintro rfl
  exact nm ha
 ·rcases List.mem_append.mp m with m | m
  ·exact fun z => c.nh a m (List.mem_cons_of_mem _ z)
  ·have : a = L := by simpa using m
   subst this; exact n1
 ·by_cases hk : k < μ.length
  ·rw [List.getElem?_append_left hk] at e
   obtain ⟨ds', vs', h1, h2, h3⟩ := c.at_ k a e
   exact ⟨ds', vs', by rw [List.getElem?_append_left (by rw [<- c.len]; exact hk)]; exact h1, h2, h3.swap⟩
  ·rw [List.getElem?_append_right (by omega)] at e
   have e0 : k - μ.length = 0 := by
    have := (List.getElem?_eq_some_iff.mp e).1
    simp at this; omega
   rw [e0] at e
   simp at e; subst e
   refine ⟨ds, vs, ?_, h, q.swap⟩
   have : k = O.length := by have := c.len; omega
   subst this; simp
theorem Ext.grow {H H' : Hp} {μ μ' : List Addr} (e : Ext H μ H' μ') {L : Addr} (h : H L = Option.none) : Ext H μ H' (μ' ++ [L]) := by
 obtain ⟨ν, rfl⟩ := e.pre
 refine ⟨⟨ν ++ [L], by simp⟩, e.kept, fun b m => ?_, e.there, e.tab⟩
 rcases List.mem_append.mp m with m | m
 ·exact e.fresh b m
 ·have : b = L := by simpa using m
  subst this; exact .inr h
def z7q (o : Bool) (r : R (List D)) : R D := r.bnd fun acc O1 => if o = true then .ok (.own O1.length) (O1 ++ [acc]) else .ok (.lst acc) O1
theorem zbW {elt : Expr} {P : Program} {w : World} {K : PySem.W.Frag} {H : Hp} {hid μ : List Addr} {O : Ow} (c1 : Cells K H hid μ O) {r : R (List D)} {o : Bool} {Q : VK} (q : z0Y Ex K H hid μ (z7q o r) Q) {Q1 : Addr -> Hp -> Prop} (h : ∀ L H', Q (.ref L) H' -> Q1 L H') : zam (z7A elt) Ex K P w H hid μ r Q1 := by
 cases r with
 | bad => exact q
 | exc c' O' => exact q
 | ok acc O' =>
  intro L H' μ' nL x c ⟨vs, hv, dv⟩
  have n1 : L ∉ hid := fun m => c1.ht L m nL
  cases o with
  | false => exact h L H' (post.ok (show z0Y Ex K H hid μ (.ok (.lst acc) O') Q from q) x c.unhide (z5e c n1 hv dv))
  | true => exact h L H' (post.ok (show z0Y Ex K H hid μ (.ok (.own O'.length) (O' ++ [acc])) Q from q) (x.grow nL) (c.swap n1 hv dv) (z1a c.len))
theorem zaf {elt : Expr} {P : Program} {w : World} {K : PySem.W.Frag} {H : Hp} {hid μ : List Addr} {O : Ow} (c1 : Cells K H hid μ O) {σ : Sg} {σv : St} (e1 : EnvOk K H hid μ σ σv) {r : R (List D)} {o : Bool} {i : Nat} {E : zaZ} (q : postS Ex K H hid μ ((z7q o r).bnS fun d O1 => .nx (σ.set i (some d)) O1) E) {Q1 : Addr -> Hp -> Prop} (h : ∀ L H', E.nx (σv.set i (some (.ref L))) H' -> Q1 L H') :
  zam (z7A elt) Ex K P w H hid μ r Q1 := by
 cases r with
 | bad => exact q
 | exc c' O' => exact q
 | ok acc O' =>
  intro L H' μ' nL x c ⟨vs, hv, dv⟩
  have n1 : L ∉ hid := fun m => c1.ht L m nL
  cases o with
  | false =>
   have q : postS Ex K H hid μ (.nx (σ.set i (some (.lst acc))) O') E := q
   exact h L H' (q _ H' μ' x ((e1.ext x).set (z5e c n1 hv dv) i) c.unhide)
  | true =>
   have q : postS Ex K H hid μ (.nx (σ.set i (some (.own O'.length))) (O' ++ [acc])) E := q
   exact h L H' (q _ H' (μ' ++ [L]) (x.grow nL) ((e1.ext (x.grow nL)).set (z1a c.len) i) (c.swap n1 hv dv))
theorem zj3 {elt tg iter : Expr} {ifs : List Expr} {gs : List Comprehension} {scope : Scope} {pos : Pos} {ext : List Str} {g : Tg} {ts : List DT} {cs : List Cl} {te : DE}
  (blk : ∀ cells C s H fp, PG (cxB X (X.N ++ ext) scope cells C s H fp) tg (g.rd X.K) /\ PySem.Paired (fun e t => PDT (cxB X (X.N ++ ext) scope cells C s H fp) Ex0 e t) ifs ts /\ ClsOk (cxB X (X.N ++ ext) scope cells C s H fp) gs cs /\ PD (cxB X (X.N ++ ext) scope cells C s H fp) Ex0 elt te) (cells Cn s H fp) :
  PG (cxB X (X.N ++ ext) scope cells Cn s H fp) tg (g.rd X.K) /\ PySem.Paired (fun e t => PDT (cxB X (X.N ++ ext) scope cells Cn s H fp) Ex0 e t) ifs ts /\ ClsOk (cxB X (X.N ++ ext) scope cells Cn s H fp) gs cs /\ ∀ A hid k, (⟨tg, iter, ifs, 0⟩ :: gs : List Comprehension)[k]? = none -> z3Z (cxB X (X.N ++ ext) scope cells Cn s H fp) (z7A elt) A hid ((z7A elt).ex (⟨tg, iter, ifs, 0⟩ :: gs) scope pos) (⟨tg, iter, ifs, 0⟩ :: gs) (emL te) k [] :=
 let ⟨h1, h2, h3, h4⟩ := blk cells Cn s H fp
 ⟨h1, h2, h3, fun _ _ _ hk => zcY rfl h4 hk⟩
def z0n (o : Bool) (ext : Nat) (it0 : DI) (g : Tg) (ts : List DT) (cs : List Cl) (te : DE) : DE := fun σ O => z7q o (z2f ext it0 g ts cs te σ O)
theorem zfE {elt tg iter : Expr} {ifs : List Expr} {gs : List Comprehension} {scope : Scope} {pos : Pos} (o : Bool) (ext : List Str) {it0 : DI} {g : Tg} {ts : List DT} {cs : List Cl} {te : DE} (hcalm : X.calm = true) (hi : PDI X Ex tg iter it0) (hb : BOk X.env.scope scope (X.N ++ ext) (z07 (⟨it0, g, ts⟩ :: cs)))
  (blk : ∀ cells C s H fp, PG (cxB X (X.N ++ ext) scope cells C s H fp) tg (g.rd X.K) /\ PySem.Paired (fun e t => PDT (cxB X (X.N ++ ext) scope cells C s H fp) Ex0 e t) ifs ts /\ ClsOk (cxB X (X.N ++ ext) scope cells C s H fp) gs cs /\ PD (cxB X (X.N ++ ext) scope cells C s H fp) Ex0 elt te)
  (hs : ∀ x, foldedSetIterable iter X.env x = pure x := by intro _; rfl) : PD X Ex (.ListComp elt (⟨tg, iter, ifs, 0⟩ :: gs) scope pos) (z0n o ext.length it0 g ts cs te) := by
 refine ⟨?_⟩
 rintro pins s σv H Q I ⟨hid, μ, σ, O, e1, c1, q⟩
 rw [eval_ListComp]
 unfold z0n at q
 rw [<- z5l] at q
 refine z62 (z8D elt) (use := none) hcalm hi hb (zj3 blk) hs I e1 c1 (zbW c1 q fun L H' hQ s' C I' ns nC l1 y1 ce pn => ?_)
 obtain ⟨m, hn⟩ := ns
 exact ⟨m, hn, fun h' hs' => ⟨.ref L, H', Inv.bare I' hs' nC l1 y1 ce pn, rfl, hQ⟩⟩
theorem z7N {elt tg iter : Expr} {ifs : List Expr} {gs : List Comprehension} {scope : Scope} {pos spos py : Pos} {y : Str} {i : Nat} (o : Bool) (ext : List Str) {it0 : DI} {g : Tg} {ts : List DT} {cs : List Cl} {te : DE} (hcalm : X.calm = true) (hN : X.N.Nodup) (hiy : X.N[i]? = some y) (hy : X.env.scope.names.lookup y = some .local)
  (hi : PDI X Ex tg iter it0) (hb : BOk X.env.scope scope (X.N ++ ext) (z07 (⟨it0, g, ts⟩ :: cs)))
  (blk : ∀ cells C s H fp, PG (cxB X (X.N ++ ext) scope cells C s H fp) tg (g.rd X.K) /\ PySem.Paired (fun e t => PDT (cxB X (X.N ++ ext) scope cells C s H fp) Ex0 e t) ifs ts /\ ClsOk (cxB X (X.N ++ ext) scope cells C s H fp) gs cs /\ PD (cxB X (X.N ++ ext) scope cells C s H fp) Ex0 elt te)
  (hsw : swapsWith (.ListComp elt (⟨tg, iter, ifs, 0⟩ :: gs) scope pos) (some (.Name y py)) spos.line X.env = pure true)
  (hs : ∀ x, foldedSetIterable iter X.env x = pure x := by intro _; rfl) : PDS X Ex (.Assign [.Name y py] (.ListComp elt (⟨tg, iter, ifs, 0⟩ :: gs) scope pos) spos) (z0W i (z0n o ext.length it0 g ts cs te)) := by
 refine ⟨?_⟩
 rintro pins s σv H E I ⟨hid, μ, σ, O, e1, c1, q⟩
 rw [exec_Assign_Name_used _ _ _ _ hsw]
 refine wpAny_bind (wpAny_standAt (wpAny_bind ?_))
 show wpAny _ X.A (do let _ <- comprehension (.ListComp elt (⟨tg, iter, ifs, 0⟩ :: gs) scope pos) scope X.env _ (newList []) false (eval iter X.env) (some (assign (.Name y py) X.env))) _ _ s
 have q : postS Ex X.K H hid μ ((z7q o (z2f ext.length it0 g ts cs te σ O)).bnS fun d O1 => .nx (σ.set i (some d)) O1) E := q
 rw [<- z5l] at q
 refine wpAny_bind (wpAny_mono (z62 (z8D elt) (use := some (assign (.Name y py) X.env)) (Q := fun _ s' => SP X pins E .next s') hcalm hi hb (zj3 blk) hs I e1 c1 (zaf c1 e1 q fun L H' hQ s' C I' ns nC l1 y1 ce pn => ?_)) (fun _ s' hq => wpAny_pure (wpAny_pure hq)) fun _ _ e => e)
 obtain ⟨m, hn⟩ := ns
 show wpAny _ _ (assign (.Name y py) X.env (.ref L)) _ _ s'
 refine wpAny_assign_Name (z6K (v := .ref L) I' hN hiy (.inl hy) rfl (fun s'' I'' hsame => ?_) (.inr hy))
 obtain ⟨a, hsb, ha⟩ := hsame
 have hCa : C ≠ a := by
  rcases ha with z | z
  ·rw [z]; exact l1
  ·exact fun e => ce y a z e.symm
 refine ⟨m, hn.sameBut hsb hCa, fun h' hs' => ?_⟩
 exact ⟨_, H', Inv.bare I'' hs' nC l1 y1 ce pn, hQ⟩
end
def z1j {α β : Type} (f : α -> Option β) : List α -> Option (List β)
 | [] => some []
 | x :: xs => match f x, z1j f xs with
  | some p, some ps => some (p :: ps)
  | _, _ => none
def z9u (cs : List Nat) : Option PyData := if cs.all (· < 1114112) = true then some (.str ⟨cs.toArray⟩) else none
def z2k (O : Ow) : Nat -> D -> Option PyData
 | 0, d => match d with
  | .non => some .none
  | .bl b => some (.bool b)
  | .int i => some (.int i)
  | .str cs => z9u cs
  | _ => none
 | n + 1, d => match d with
  | .non => some .none
  | .bl b => some (.bool b)
  | .int i => some (.int i)
  | .str cs => z9u cs
  | .lst ds => (z1j (z2k O n) ds).map .list
  | .tup ds => (z1j (z2k O n) ds).map .tuple
  | .own k => match O[k]? with
   | some ds => (z1j (z2k O n) ds).map .list
   | none => none
  | .dct => none
  | .exn _ => none
  | .tab _ => none
  | .map _ _ => none
section
variable {X : Cx} {pins : List (Addr × Obj)} {σv : St} {H : Hp} {s : Shared} {hid μ : List Addr} {O : Ow}
theorem z2i {n : Nat} (I : L2.Inv X pins σv H s) (ih : ∀ (d : D) (v : V) (u : Value) (p : PyData), Dat X.K H hid μ d v -> RelV v u -> z2k O n d = some p -> ∃ as, Reads s.heap u p as /\ p.canLay0 = true /\ p.depth <= n) :
  ∀ (ds : List D) (vs : List V) (us : List Value) (ps : List PyData), Dats X.K H hid μ ds vs -> Vals vs us -> z1j (z2k O n) ds = some ps -> ∃ as, ReadsAll s.heap us ps as /\ PyData.canLayAll0 ps = true /\ PyData.depthAll ps <= n
 | [], vs, us, ps, h, r, e => by
  unfold Dats at h; subst h
  cases r
  cases e
  exact ⟨[], .nil, rfl, Nat.zero_le _⟩
 | d :: ds, vs, us, ps, h, r, e => by
  unfold Dats at h
  obtain ⟨v, t, rfl, h1, h2⟩ := h
  cases r with
  | cons r1 r2 =>
   unfold z1j at e
   split at e
   ·rename_i p ps' e1 e2
    cases e
    obtain ⟨as, q1, q2, q3⟩ := ih d v _ p h1 r1 e1
    obtain ⟨bs, z1, z2, z3⟩ := z2i I ih ds t _ ps' h2 r2 e2
    refine ⟨as ++ bs, .cons q1 z1, ?_, ?_⟩
    ·unfold PyData.canLayAll0; rw [q2, z2]; rfl
    ·unfold PyData.depthAll; exact Nat.max_le.mpr ⟨q3, z3⟩
   ·cases e
theorem z5i {n : Nat} {cs : List Nat} {t : Tok} {p : PyData} (e : z9u cs = some p) : ∃ as, Reads s.heap (.str ⟨cs.toArray⟩ t) p as /\ p.canLay0 = true /\ p.depth <= n := by
 unfold z9u at e
 split at e
 ·rename_i hc
  cases e
  exact ⟨[], .str _ _, by unfold PyData.canLay0 PyData.strOk; simpa using hc, Nat.zero_le _⟩
 ·cases e
theorem z1c (I : L2.Inv X pins σv H s) (c : Cells X.K H hid μ O) : ∀ (n : Nat) (d : D) (v : V) (u : Value) (p : PyData), Dat X.K H hid μ d v -> RelV v u -> z2k O n d = some p -> ∃ as, Reads s.heap u p as /\ p.canLay0 = true /\ p.depth <= n := by
 intro n
 induction n with
 | zero =>
  intro d v u p h r e
  cases d with
  | non => unfold Dat at h; subst h; cases r; cases e; exact ⟨[], .none, rfl, Nat.zero_le _⟩
  | bl b => unfold Dat at h; subst h; cases r; cases e; exact ⟨[], .bool _, rfl, Nat.zero_le _⟩
  | int b => unfold Dat at h; subst h; obtain ⟨t, rfl⟩ := r; cases e; exact ⟨[], .int _ _, rfl, Nat.zero_le _⟩
  | str cs =>
   unfold Dat at h; subst h; obtain ⟨t, rfl⟩ := r
   exact z5i (show z9u cs = some p from e)
  | _ => cases e
 | succ n ih =>
  intro d v u p h r e
  cases d with
  | non => unfold Dat at h; subst h; cases r; cases e; exact ⟨[], .none, rfl, Nat.zero_le _⟩
  | bl b => unfold Dat at h; subst h; cases r; cases e; exact ⟨[], .bool _, rfl, Nat.zero_le _⟩
  | int b => unfold Dat at h; subst h; obtain ⟨t, rfl⟩ := r; cases e; exact ⟨[], .int _ _, rfl, Nat.zero_le _⟩
  | str cs =>
   unfold Dat at h; subst h; obtain ⟨t, rfl⟩ := r
   exact z5i (show z9u cs = some p from e)
  | lst ds =>
   unfold Dat at h
   obtain ⟨a, vs, rfl, l, q⟩ := h
   cases r
   have e : (z1j (z2k O n) ds).map PyData.list = some p := e
   cases e1 : z1j (z2k O n) ds with
   | none => rw [e1] at e; cases e
   | some ps =>
    rw [e1] at e; cases e
    obtain ⟨its, rv, ⟨o, k, ho, hc, hd, hdt⟩, hz⟩ := I.list l.sq
    obtain ⟨as, z1, z2, z3⟩ := z2i I ih ds vs its ps q rv e1
    exact ⟨_, .list ho hc hdt (by simpa using z1), by unfold PyData.canLay0; exact z2, by unfold PyData.depth; omega⟩
  | tup ds =>
   unfold Dat at h
   obtain ⟨a, vs, rfl, l, q⟩ := h
   cases r
   have e : (z1j (z2k O n) ds).map PyData.tuple = some p := e
   cases e1 : z1j (z2k O n) ds with
   | none => rw [e1] at e; cases e
   | some ps =>
    rw [e1] at e; cases e
    obtain ⟨its, rv, ⟨o, ho, hc, k, hdt⟩, hz⟩ := I.tuple l.sq
    obtain ⟨as, z1, z2, z3⟩ := z2i I ih ds vs its ps q rv e1
    exact ⟨_, .tuple ho hc hdt (by simpa using z1), by unfold PyData.canLay0; exact z2, by unfold PyData.depth; omega⟩
  | own k =>
   unfold Dat at h
   obtain ⟨a, rfl, hk⟩ := h
   cases r
   obtain ⟨ds, vs, h1, h2, h3⟩ := c.at_ k a hk
   have e : (match O[k]? with | some ds => (z1j (z2k O n) ds).map PyData.list | none => none) = some p := e
   rw [h1] at e
   cases e1 : z1j (z2k O n) ds with
   | none => simp only [e1] at e; cases e
   | some ps =>
    simp only [e1] at e; cases e
    obtain ⟨its, rv, ⟨o, k', ho, hc, hd, hdt⟩, hz⟩ := I.list (.of h2)
    obtain ⟨as, z1, z2, z3⟩ := z2i I ih ds vs its ps h3 rv e1
    exact ⟨_, .list ho hc hdt (by simpa using z1), by unfold PyData.canLay0; exact z2, by unfold PyData.depth; omega⟩
  | dct => cases e
  | exn _ => cases e
  | tab _ => cases e
  | map _ _ => cases e
end
def py (O : Ow) (d : D) : Option PyData := z2k O 8 d
def rPy (K : PySem.W.Frag) (f : PyData -> PyData -> Option Bool) : R2 := fun v w H Q => ∃ hid μ O x y a b k, Cells K H hid μ O /\ Dat K H hid μ x v /\ Dat K H hid μ y w /\ py O x = some a /\ py O y = some b /\ f a b = some k /\ Q (.bl k) H
def fPy (f : PyData -> PyData -> Option Bool) : Ow -> D -> D -> R D := fun O x y => match py O x, py O y with
 | some a, some b => match f a b with
  | some k => .ok (.bl k) O
  | none => .bad
 | _, _ => .bad
section
variable {X : Cx} {Ex : Nat -> Hp -> Prop}
theorem z5d {f : PyData -> PyData -> Option Bool} : OpD X Ex (rPy X.K f) (fPy f) := by
 intro H hid μ O x y v w Q c dx dy q
 unfold fPy at q
 split at q
 ·rename_i a b e1 e2
  split at q
  ·rename_i k e3
   exact ⟨hid, μ, O, x, y, a, b, k, c, dx, dy, e1, e2, e3, post.here q c z1w⟩
  ·exact False.elim q
 ·exact False.elim q
def eqF : PyData -> PyData -> Option Bool := fun a b => some (PyData.eqv a b)
def neF : PyData -> PyData -> Option Bool := fun a b => some (!PyData.eqv a b)
def inF : PyData -> PyData -> Option Bool := fun a b => match b with
 | .list xs => some (xs.any fun y => PyData.eqv y a)
 | .tuple xs => some (xs.any fun y => PyData.eqv y a)
 | _ => none
def zhT : PyData -> PyData -> Option Bool := fun a b => match b with
 | .list xs => some (!xs.any fun y => PyData.eqv y a)
 | .tuple xs => some (!xs.any fun y => PyData.eqv y a)
 | _ => none
theorem z5N {p : PyData} (h1 : p.canLay0 = true) (h2 : p.depth <= 8) : SeqAt.shaped p = true := by
 unfold SeqAt.shaped
 rw [h1, decide_eq_true (show p.depth <= 64 by omega)]; rfl
theorem zaD (hu : X.A.units + 64 < cLine) : OpR X (compareOp .Eq) (rPy X.K eqF) := by
 intro pins s σ H x y v u Q I rx ry h
 obtain ⟨hid, μ, O, dx, dy, a, b, k, c, h1, h2, e1, e2, e3, q⟩ := h
 obtain ⟨as, z1, z2, z3⟩ := z1c I c 8 dx x v a h1 rx e1
 obtain ⟨bs, y1, y2, y3⟩ := z1c I c 8 dy y u b h2 ry e2
 cases e3
 exact PyProof.Rows.eq_dataH z1 y1 (z5N z2 z3) (z5N y2 y3) hu ⟨.bl _, H, I, rfl, q⟩
theorem z9z (hu : X.A.units + 64 < cLine) : OpR X (compareOp .NotEq) (rPy X.K neF) := by
 intro pins s σ H x y v u Q I rx ry h
 obtain ⟨hid, μ, O, dx, dy, a, b, k, c, h1, h2, e1, e2, e3, q⟩ := h
 obtain ⟨as, z1, z2, z3⟩ := z1c I c 8 dx x v a h1 rx e1
 obtain ⟨bs, y1, y2, y3⟩ := z1c I c 8 dy y u b h2 ry e2
 cases e3
 exact PyProof.Rows.ne_dataH z1 y1 (z5N z2 z3) (z5N y2 y3) hu ⟨.bl _, H, I, rfl, q⟩
theorem zc3 {A : Around} {n m : Nat} (h : m <= 8) (hu : A.units + 64 < cLine) : A.units + 1 + min n m < cLine := by
 have := Nat.min_le_right n m
 omega
theorem zfJ (hu : X.A.units + 64 < cLine) : OpR X (compareOp .In) (rPy X.K inF) := by
 intro pins s σ H x y v u Q I rx ry h
 obtain ⟨hid, μ, O, dx, dy, a, b, k, c, h1, h2, e1, e2, e3, q⟩ := h
 obtain ⟨as, z1, z2, z3⟩ := z1c I c 8 dx x v a h1 rx e1
 obtain ⟨bs, y1, y2, y3⟩ := z1c I c 8 dy y u b h2 ry e2
 cases b with
 | list xs => cases e3; exact SeqAt.in_list_reads y1 z1 y2 z2 (zc3 z3 hu) ⟨.bl _, H, I, rfl, q⟩
 | tuple xs => cases e3; exact SeqAt.in_tuple_reads y1 z1 y2 z2 (zc3 z3 hu) ⟨.bl _, H, I, rfl, q⟩
 | _ => cases e3
theorem zcU (hu : X.A.units + 64 < cLine) : OpR X (compareOp .NotIn) (rPy X.K zhT) := by
 intro pins s σ H x y v u Q I rx ry h
 obtain ⟨hid, μ, O, dx, dy, a, b, k, c, h1, h2, e1, e2, e3, q⟩ := h
 obtain ⟨as, z1, z2, z3⟩ := z1c I c 8 dx x v a h1 rx e1
 obtain ⟨bs, y1, y2, y3⟩ := z1c I c 8 dy y u b h2 ry e2
 cases b with
 | list xs => cases e3; exact SeqAt.notIn_list_reads y1 z1 y2 z2 (zc3 z3 hu) ⟨.bl _, H, I, rfl, q⟩
 | tuple xs => cases e3; exact SeqAt.notIn_tuple_reads y1 z1 y2 z2 (zc3 z3 hu) ⟨.bl _, H, I, rfl, q⟩
 | _ => cases e3
end
end DL
namespace DL
open PySem L2
section
variable {e : Expr}
def lsV (O : Ow) : D -> Option (List D)
 | .lst ds => some ds
 | .own k => O[k]?
 | _ => none
def tpV : D -> Option (List D)
 | .tup ds => some ds
 | _ => none
theorem z1O {K : PySem.W.Frag} {H : Hp} {hid μ : List Addr} {O : Ow} {d : D} {v : V} {ds : List D} (cl : Cells K H hid μ O) (h : Dat K H hid μ d v) (e : lsV O d = some ds) : ∃ p vs, v = .ref p /\ SqL K H p vs /\ Dats K H hid μ ds vs := by
 cases d with
 | lst xs =>
  unfold Dat at h
  obtain ⟨p, vs, rfl, l, q⟩ := h
  cases e
  exact ⟨p, vs, rfl, l.sq, q⟩
 | own k =>
  unfold Dat at h
  obtain ⟨p, rfl, hk⟩ := h
  obtain ⟨ds', vs, h1, h2, h3⟩ := cl.at_ k p hk
  have e : O[k]? = some ds := e
  rw [h1] at e; cases e
  exact ⟨p, vs, rfl, .of h2, h3⟩
 | _ => cases e
theorem z58 {K : PySem.W.Frag} {H : Hp} {hid μ : List Addr} {d : D} {v : V} {ds : List D} (h : Dat K H hid μ d v) (e : tpV d = some ds) : ∃ p vs, v = .ref p /\ SqT K H p vs /\ Dats K H hid μ ds vs := by
 cases d with
 | tup xs =>
  unfold Dat at h
  obtain ⟨p, vs, rfl, l, q⟩ := h
  cases e
  exact ⟨p, vs, rfl, l.sq, q⟩
 | _ => cases e
def zjx : Ow -> D -> D -> R D := fun O x y => match x, y with
 | .str s, .str t => if s.length + t.length <= 100000 then .ok (.str (s ++ t)) O else .bad
 | _, _ => .bad
end
theorem z8o {K : PySem.W.Frag} {H : Hp} {hid μ : List Addr} {ds : List D} {vs : List V} (h : Dats K H hid μ ds vs) {i : Int} {d : D} (e : atI ds i = some d) : ∃ v, atI vs i = some v /\ Dat K H hid μ d v := by
 unfold atI at e ⊢
 rw [<- h.length]
 cases q : ixN ds.length i with
 | none => rw [q] at e; cases e
 | some j => rw [q] at e; exact h.get e
def fIx : Ow -> D -> D -> R D := fun O x y => match y with
 | .int i => match lsV O x with
  | some ds => match atI ds i with
   | some d => .ok d O
   | none => .bad
  | none => match tpV x with
   | some ds => match atI ds i with
    | some d => .ok d O
    | none => .bad
   | none => match x with
    | .str cs => if cs.length <= 100000 then match atI cs i with
      | some ch => .ok (.str [ch]) O
      | none => .bad
     else .bad
    | _ => .bad
 | _ => .bad
section
variable {X : Cx} {Ex : Nat -> Hp -> Prop} {pos : Pos} {a b c e : Expr} {ta tb : DE}
theorem zhi : OpD X Ex (rIx X.K) fIx := by
 intro H hid μ O x y v w Q c dx dy q
 unfold fIx at q
 split at q
 ·rename_i i
  unfold Dat at dy; subst dy
  split at q
  ·rename_i ds e
   obtain ⟨p, vs, rfl, sq, dd⟩ := z1O c dx e
   split at q
   ·rename_i d ed
    obtain ⟨z, h1, h2⟩ := z8o dd ed
    exact .inl ⟨p, vs, i, z, rfl, rfl, sq, h1, post.here q c h2⟩
   ·exact False.elim q
  ·split at q
   ·rename_i ds e
    obtain ⟨p, vs, rfl, sq, dd⟩ := z58 dx e
    split at q
    ·rename_i d ed
     obtain ⟨z, h1, h2⟩ := z8o dd ed
     exact .inr (.inl ⟨p, vs, i, z, rfl, rfl, sq, h1, post.here q c h2⟩)
    ·exact False.elim q
   ·split at q
    ·rename_i cs _ _
     unfold Dat at dx; subst dx
     obtain ⟨hl, q⟩ := post.ite q
     split at q
     ·rename_i ch ed
      refine .inr (.inr ⟨_, i, ch, rfl, rfl, ?_, ?_, post.here q c z8a⟩)
      ·show cs.toArray.size <= _
       rw [List.size_toArray]; exact z0y hl
      ·simpa using ed
     ·exact False.elim q
    ·exact False.elim q
 ·exact False.elim q
theorem ziU (ha : PD X Ex a ta) (hb : PD X Ex b tb) (hs : za5 b) : PD X Ex (.Subscript a b pos) (dOp fIx ta tb) := z10 (zic zh6 ha.out hb.out hs) (z8k zhi)
def z0c (f : Ow -> List D -> R D) (t : DA) : DE := fun σ O => (t σ O).bnd fun xs O1 => f O1 xs
def z3j (X : Cx) (Ex : Nat -> Hp -> Prop) (r : List V -> Hp -> VK -> Prop) (f : Ow -> List D -> R D) : Prop := ∀ (H : Hp) (hid μ : List Addr) (O : Ow) (xs : List D) (vs : List V) (Q : VK), Cells X.K H hid μ O -> Dats X.K H hid μ xs vs -> z0Y Ex X.K H hid μ (f O xs) Q -> r vs H Q
theorem zdt {r : List V -> Hp -> VK -> Prop} {f : Ow -> List D -> R D} {t : DA} (h : z3j X Ex r f) (hid μ : List Addr) (σ : Sg) (O : Ow) (σv : St) (H : Hp) (Q : VK) (e1 : EnvOk X.K H hid μ σ σv) (c1 : Cells X.K H hid μ O) (q : z0Y Ex X.K H hid μ (z0c f t σ O) Q) : tCB r (rdA Ex X.K t) σv H Q :=
 rdA.go e1 c1 q fun xs O1 vs H1 μ1 e2 x c d p => h H1 hid μ1 O1 xs vs Q c d p
theorem z2H {x : Str} {id : String} {p : Pos} {es : List Expr} {r : List V -> Hp -> VK -> Prop} {f : Ow -> List D -> R D} {t : DA} (hc : CallR X (.builtin id) r) (h : z3j X Ex r f) (hg : Gl X x) (hm : X.mg x = none) (hv : bootBuiltins x = some (.builtin id)) (ha : PDA X Ex (e :: es) t)
  (hn : x ≠ "__name__" := by decide) (hdb : (x == ("__debug__" : Str)) = false := by decide) (he : starEach (e :: es) X.env = (false, eval e X.env) :: starEach es X.env := by rfl) (hpl : (backTo pos (starEach es X.env)).any (·.1) = false := by rfl) :
  PD X Ex (.Call (.Name x p) (e :: es) [] pos) (z0c f t) := z10 (z3A hc hg hm hv ha.out hn hdb he hpl) (zdt h)
theorem z3i {x : Str} {T : String} {p : Pos} {es : List Expr} {r : List V -> Hp -> VK -> Prop} {f : Ow -> List D -> R D} {t : DA} (hc : CallR X (.type T) r) (h : z3j X Ex r f) (hg : Gl X x) (hm : X.mg x = none) (hv : bootBuiltins x = some (.type T)) (ha : PDA X Ex (e :: es) t)
  (hn : x ≠ "__name__" := by decide) (hdb : (x == ("__debug__" : Str)) = false := by decide) (he : starEach (e :: es) X.env = (false, eval e X.env) :: starEach es X.env := by rfl) (hpl : (backTo pos (starEach es X.env)).any (·.1) = false := by rfl) :
  PD X Ex (.Call (.Name x p) (e :: es) [] pos) (z0c f t) := z10 (z6R hc hg hm hv ha.out hn hdb he hpl) (zdt h)
def z2p : Ow -> List D -> R D := fun O xs => match xs with
 | [x] => match lsV O x with
  | some ds => .ok (.int ds.length) O
  | none => match tpV x with
   | some ds => .ok (.int ds.length) O
   | none => match x with
    | .str cs => if cs.length <= 100000 then .ok (.int cs.length) O else .bad
    | _ => .bad
 | _ => .bad
theorem zhe : z3j X Ex (fun xs H Q => ∃ x n, xs = [x] /\ zjc X.K x H n /\ Q (.int n) H) z2p := by
 intro H hid μ O xs vs Q c d q
 unfold z2p at q
 split at q
 ·rename_i x
  obtain ⟨v, rfl, dx⟩ := z2m d
  split at q
  ·rename_i ds e
   obtain ⟨p, ws, rfl, sq, dd⟩ := z1O c dx e
   exact ⟨_, ds.length, rfl, .inl ⟨ws, sq, dd.length⟩, post.here q c z0o⟩
  ·split at q
   ·rename_i ds e
    obtain ⟨p, ws, rfl, sq, dd⟩ := z58 dx e
    exact ⟨_, ds.length, rfl, .inr ⟨ws, sq, dd.length⟩, post.here q c z0o⟩
   ·split at q
    ·rename_i cs _ _
     unfold Dat at dx; subst dx
     obtain ⟨hl, q⟩ := post.ite q
     refine ⟨_, cs.length, rfl, ⟨?_, ?_⟩, post.here q c z0o⟩
     ·show cs.toArray.size <= _
      rw [List.size_toArray]; exact z0y hl
     ·show cs.length = cs.toArray.size
      rw [List.size_toArray]
    ·exact False.elim q
 ·exact False.elim q
def ziK : Ow -> List D -> R D := fun O xs => match xs with
 | [.int i] => .ok (.int i) O
 | [.bl k] => .ok (.int (if k then 1 else 0)) O
 | _ => .bad
theorem zgk : z3j X Ex (fun xs H Q => (∃ i, xs = [.int i] /\ Q (.int i) H) \/ ∃ k, xs = [.bl k] /\ Q (.int (if k then 1 else 0)) H) ziK := by
 intro H hid μ O xs vs Q c d q
 unfold ziK at q
 split at q
 ·obtain ⟨v, rfl, dx⟩ := z2m d
  unfold Dat at dx; subst dx
  exact .inl ⟨_, rfl, post.here q c z0o⟩
 ·obtain ⟨v, rfl, dx⟩ := z2m d
  unfold Dat at dx; subst dx
  exact .inr ⟨_, rfl, post.here q c z0o⟩
 ·exact False.elim q
def z3s : Ow -> List D -> R D := fun O xs => match xs with
 | [x] => match lsV O x with
  | some ds => .ok (.tup ds) O
  | none => match tpV x with
   | some ds => .ok (.tup ds) O
   | none => .bad
 | _ => .bad
theorem zbN : z3j X Ex (fun xs H Q => ∃ p ys, xs = [.ref p] /\ ((SqL X.K H p ys /\ ∀ l, H l = none -> Q (.ref l) (upd H l (.tup ys))) \/ (SqT X.K H p ys /\ Q (.ref p) H))) z3s := by
 intro H hid μ O xs vs Q c d q
 unfold z3s at q
 split at q
 ·rename_i x
  obtain ⟨v, rfl, dx⟩ := z2m d
  split at q
  ·rename_i ds e
   obtain ⟨p, ws, rfl, sq, dd⟩ := z1O c dx e
   exact ⟨p, ws, rfl, .inl ⟨sq, fun l hl => post.ok q (.laid hl) (c.laid hl) (Dat.newT c hl dd)⟩⟩
  ·split at q
   ·rename_i ds e
    obtain ⟨p, ws, rfl, sq, dd⟩ := z58 dx e
    refine ⟨p, ws, rfl, .inr ⟨sq, post.here q c ?_⟩⟩
    cases x with
    | tup ys => cases e; exact dx
    | _ => cases e
   ·exact False.elim q
 ·exact False.elim q
def zcu (o : Bool) : Ow -> List D -> R D := fun O xs => match xs with
 | [x] => match (match lsV O x with | some ds => some ds | none => tpV x) with
  | some ds => if o = true then .ok (.own O.length) (O ++ [ds]) else .ok (.lst ds) O
  | none => .bad
 | _ => .bad
theorem zeI (o : Bool) : z3j X Ex (fun xs H Q => ∃ p ys, xs = [.ref p] /\ (SqL X.K H p ys \/ SqT X.K H p ys) /\ ∀ l, H l = none -> Q (.ref l) (upd H l (.lst ys))) (zcu o) := by
 intro H hid μ O xs vs Q c d q
 unfold zcu at q
 split at q
 ·rename_i x
  obtain ⟨v, rfl, dx⟩ := z2m d
  split at q
  ·rename_i ds e
   have h : ∃ p ws, v = .ref p /\ (SqL X.K H p ws \/ SqT X.K H p ws) /\ Dats X.K H hid μ ds ws := by
    cases e1 : lsV O x with
    | some es =>
     rw [e1] at e; cases e
     obtain ⟨p, ws, h1, sq, dd⟩ := z1O c dx e1
     exact ⟨p, ws, h1, .inl sq, dd⟩
    | none =>
     rw [e1] at e
     obtain ⟨p, ws, h1, sq, dd⟩ := z58 dx e
     exact ⟨p, ws, h1, .inr sq, dd⟩
   obtain ⟨p, ws, rfl, sq, dd⟩ := h
   refine ⟨p, ws, rfl, sq, fun l hl => ?_⟩
   cases o with
   | true => exact post.ok (show z0Y Ex X.K H hid μ (.ok (.own O.length) (O ++ [ds])) Q from q) (.cell hl) (c.cell hl dd) (z1a c.len)
   | false => exact post.ok (show z0Y Ex X.K H hid μ (.ok (.lst ds) O) Q from q) (.laid hl) (c.laid hl) (Dat.newL c hl dd)
  ·exact False.elim q
 ·exact False.elim q
def z8h : Ow -> List D -> R D := fun O xs => match xs with
 | [.int i, .int j] => .ok (.int (if j > i then j else i)) O
 | _ => .bad
def z7Q : Ow -> List D -> R D := fun O xs => match xs with
 | [.int i, .int j] => .ok (.int (if j < i then j else i)) O
 | _ => .bad
theorem zeu : z3j X Ex (fun xs H Q => ∃ i j, xs = [.int i, .int j] /\ Q (.int (if j > i then j else i)) H) z8h := by
 intro H hid μ O xs vs Q c d q
 unfold z8h at q
 split at q
 ·obtain ⟨v, w, rfl, d1, d2⟩ := z9r d
  unfold Dat at d1 d2; subst d1; subst d2
  exact ⟨_, _, rfl, post.here q c z0o⟩
 ·exact False.elim q
theorem ze2 : z3j X Ex (fun xs H Q => ∃ i j, xs = [.int i, .int j] /\ Q (.int (if j < i then j else i)) H) z7Q := by
 intro H hid μ O xs vs Q c d q
 unfold z7Q at q
 split at q
 ·obtain ⟨v, w, rfl, d1, d2⟩ := z9r d
  unfold Dat at d1 d2; subst d1; subst d2
  exact ⟨_, _, rfl, post.here q c z0o⟩
 ·exact False.elim q
end
def DSp (K : PySem.W.Frag) (Ec : XK -> Nat -> Hp -> Prop) (n : Nat) (F : List D -> Ow -> R D) : Sp := fun vs H Q E => vs.length = n /\ ∃ hid μ ds O, Dats K H hid μ ds vs /\ Cells K H hid μ O /\ z0Y (Ec E) K H hid μ (F ds O) Q
abbrev Ec0 : XK -> Nat -> Hp -> Prop := fun _ _ _ => False
section
variable {X : Cx} {CX : CXT} {k : Nat} {f : Addr} {fd : FuncData} {ps : List Str} {E : XK} {Ec : XK -> Nat -> Hp -> Prop} {x : Str} {p pos : Pos} {e : Expr} {es : List Expr} {t : DA} {F : List D -> Ow -> R D} {n : Nat}
def dFn (n : Nat) (F : List D -> Ow -> R D) (t : DA) : DE := fun σ O => (t σ O).bnd fun ds O1 => if ds.length = n then F ds O1 else .bad
theorem zih (G : FnOk X.prog X.w X.K X.mg X.base CX k f fd ps (DSp X.K Ec n F)) (hr : Room k X.A) (hg : Gl X x) (hm : X.mg x = some (.ref f)) (hk : PySem.W.keepIn X.K (.ref f) = true) (hb : Binds X.K fd ps []) (hx : z8S CX X E) (ha : PDA X (Ec E) (e :: es) t)
  (hdb : (x == ("__debug__" : Str)) = false := by decide) (he : starEach (e :: es) X.env = (false, eval e X.env) :: starEach es X.env := by rfl) (hpl : (backTo pos (starEach es X.env)).any (·.1) = false := by rfl) :
  PD X (Ec E) (.Call (.Name x p) (e :: es) [] pos) (dFn n F t) :=
 z10 (ze6 (dvs := []) (ds := []) G hr hg hm hk hb .nil hx ha.out hdb he hpl) fun hid μ σ O σv H Q e1 c1 q => rdA.go e1 c1 q fun ds O1 vs H1 μ1 e2 x2 c2 d2 q2 => by
  obtain ⟨hl, q2⟩ := post.ite q2
  refine ⟨by rw [List.append_nil, <- d2.length]; exact hl, hid, μ1, ds, O1, ?_, c2, q2⟩
  rw [List.append_nil]; exact d2
end
def fin (r : RS) : R D := match r with
 | .nx _ O => .ok .non O
 | .rt d O => .ok d O
 | .exc c O => .exc c O
 | _ => .bad
def z27 (n : Nat) (t : DS) : List D -> Ow -> R D := fun ds O => fin (t (ds.map some ++ List.replicate (n - ds.length) none) O)
theorem z7X {K : PySem.W.Frag} {H : Hp} {hid μ : List Addr} {ds : List D} {vs : List V} (h : Dats K H hid μ ds vs) (N : List Str) : EnvOk K H hid μ (ds.map some ++ List.replicate (N.length - ds.length) none) (L2.start N vs) := by
 unfold L2.start
 have hl := h.length
 refine ⟨by simp [hl], fun i d e => ?_⟩
 have hi : i < ds.length := by
  by_cases hi : i < ds.length
  ·exact hi
  ·rw [List.getElem?_append_right (by simpa using hi), List.getElem?_replicate] at e
   split at e <;> cases e
 rw [List.getElem?_append_left (by simpa using hi), List.getElem?_map] at e
 cases q : ds[i]? with
 | none => rw [q] at e; cases e
 | some d' =>
  rw [q] at e; cases e
  obtain ⟨v, h1, h2⟩ := h.get q
  exact ⟨v, by rw [List.getElem?_append_left (by simp; omega), List.getElem?_map, h1]; rfl, h2⟩
abbrev cx0 (P : Program) (w : World) (K : PySem.W.Frag) (mg : Str -> Option Value) (base : Heap) (N : List Str) (qual : Str) (scope : Scope) (f : Addr) (cdv : Value) (A : Around) (outer : List Env) (s : Shared) (H : Hp) (E : XK) : Cx :=
 (zfD (fun _ _ _ _ _ _ => False) P w K mg base N qual scope f cdv A outer s H E).nox
theorem zhy {P : Program} {w : World} {K : PySem.W.Frag} {mg : Str -> Option Value} {base : Heap} {k : Nat} {f : Addr} {name qual : Str} {params : Arguments} {body : List Stmt} {scope : Scope} {dV kV doc pm cdv ct oc : Value} {an od : Option Addr} {osl : Array (Option Value)} {N ps : List Str} {t : DS}
  (lk : K.lookup f = some ⟨oc, od, .func (PySem.W.fnOf name qual params body scope dV kV doc pm an cdv ct), osl⟩) (hcd : PySem.W.codeIn K cdv qual = true) (S : z0a N ps scope)
  (hbody : ∀ (A : Around) (outer : List Env) (s : Shared) (H : Hp) (E : XK), Room k (A.deeper (PyProof.Rows.envOfC qual scope s.heap.objs.size f cdv)) -> z7t (cx0 P w K mg base N qual scope f cdv A outer s H E) Ex0 body t) :
  FnOk P w K mg base (fun _ _ _ _ _ _ => False) (k + 1) f (PySem.W.fnOf name qual params body scope dV kV doc pm an cdv ct) ps (DSp K Ec0 ps.length (z27 N.length t)) := by
 refine z0l lk hcd S (fun vs H Q E h => h.1) fun A outer s H vs Q E hr h => ?_
 obtain ⟨hl, hid, μ, ds, O, d, c, q⟩ := h
 refine ⟨_, (hbody A outer s H E hr).out.nox, hid, μ, _, O, z7X d N, c, ?_⟩
 unfold z27 at q
 generalize t (ds.map some ++ List.replicate (N.length - ds.length) none) O = r at q
 cases r with
 | nx σ O' => exact fun σv H' μ' x e c' => q .non H' μ' x c' z84
 | rt d' O' => exact fun v H' μ' x c' r => q v H' μ' x c' r
 | bk σ O' => exact False.elim q
 | ct σ O' => exact False.elim q
 | exc c' O' => exact fun H' μ' x c2 => q H' μ' x c2
 | bad => exact False.elim q
def z2n : D -> String
 | .non => "NoneType"
 | .bl _ => "bool"
 | .int _ => "int"
 | .str _ => "str"
 | .lst _ => "list"
 | .own _ => "list"
 | .tup _ => "tuple"
 | .dct => "dict"
 | .exn _ => "exception"
 | .tab _ => "bool"
 | .map _ _ => "dict"
def z7p (t c : String) : Bool := t == c || (t == "bool" && c == "int")
section
variable {X : Cx} {Ex : Nat -> Hp -> Prop} {pos : Pos} {a b c e : Expr} {ta te : DE} {pins : List (Addr × Obj)} {σv : St} {H : Hp} {s : Shared} {hid μ : List Addr} {O : Ow}
def z4d : List String := ["NoneType", "bool", "int", "str", "list", "tuple", "dict"]
theorem z1U (K : PySem.W.Frag) {t c : String} (ht : t ∈ z4d) (hc : c ∈ ["int", "bool", "str", "list", "tuple", "dict"]) : PySem.W.kitOne K (.type t) (.type c) = some (z7p t c) := by
 simp only [z4d, List.mem_cons, List.not_mem_nil, or_false] at ht hc
 rcases ht with rfl | rfl | rfl | rfl | rfl | rfl | rfl <;> rcases hc with rfl | rfl | rfl | rfl | rfl | rfl <;> first | rfl | decide
theorem z4K {v : V} {u : Value} {d : D} (I : L2.Inv X pins σv H s) (cl : Cells X.K H hid μ O) (h : Dat X.K H hid μ d v) (r : RelV v u) : ∃ (T : Value) (Hh : Heap -> Prop), PySem.W.KitX X.K u T Hh /\ Hh s.heap /\ u ≠ .builtin "__main__.__loader__#opaque" /\ ∀ c ∈ (["int", "bool", "str", "list", "tuple", "dict"] : List String), PySem.W.kitOne X.K T (.type c) = some (z7p (z2n d) c) := by
 cases d with
 | non => unfold Dat at h; subst h; cases r; exact ⟨.type "NoneType", _, PySem.W.kitx_none, True.intro, (fun z => nomatch z), fun c hc => z1U X.K (t := "NoneType") (by simp [z4d]) hc⟩
 | bl _ => unfold Dat at h; subst h; cases r; exact ⟨.type "bool", _, PySem.W.kitx_bool, True.intro, (fun z => nomatch z), fun c hc => z1U X.K (t := "bool") (by simp [z4d]) hc⟩
 | int _ => unfold Dat at h; subst h; obtain ⟨t, rfl⟩ := r; exact ⟨.type "int", _, PySem.W.kitx_int, True.intro, (fun z => nomatch z), fun c hc => z1U X.K (t := "int") (by simp [z4d]) hc⟩
 | str _ => unfold Dat at h; subst h; obtain ⟨t, rfl⟩ := r; exact ⟨.type "str", _, PySem.W.kitx_str, True.intro, (fun z => nomatch z), fun c hc => z1U X.K (t := "str") (by simp [z4d]) hc⟩
 | lst ds =>
  unfold Dat at h
  obtain ⟨p, vs, rfl, l, q⟩ := h
  cases r
  obtain ⟨its, rv, ⟨o, n, h1, h2, _⟩, _⟩ := I.list l.sq
  exact ⟨.type "list", _, PySem.W.kitx_list, ⟨o, h1, h2⟩, (fun z => nomatch z), fun c hc => z1U X.K (t := "list") (by simp [z4d]) hc⟩
 | own k =>
  unfold Dat at h
  obtain ⟨p, rfl, hk⟩ := h
  cases r
  obtain ⟨ds, vs, _, h2, _⟩ := cl.at_ k p hk
  obtain ⟨its, rv, ⟨o, n, h1, h2, _⟩, _⟩ := I.list (.of h2)
  exact ⟨.type "list", _, PySem.W.kitx_list, ⟨o, h1, h2⟩, (fun z => nomatch z), fun c hc => z1U X.K (t := "list") (by simp [z4d]) hc⟩
 | tup ds =>
  unfold Dat at h
  obtain ⟨p, vs, rfl, l, q⟩ := h
  cases r
  obtain ⟨its, rv, ⟨o, h1, h2, _⟩, _⟩ := I.tuple l.sq
  exact ⟨.type "tuple", _, PySem.W.kitx_tuple, ⟨o, h1, h2⟩, (fun z => nomatch z), fun c hc => z1U X.K (t := "tuple") (by simp [z4d]) hc⟩
 | dct =>
  unfold Dat at h
  obtain ⟨p, rfl, hr, _⟩ := h
  cases r
  obtain ⟨_, _, vs, _, o, es, ep, h1, h2, _⟩ := Rd.ok hr I.hok
  exact ⟨.type "dict", _, PySem.W.kitx_dict, ⟨o, h1, h2.1⟩, (fun z => nomatch z), fun c hc => z1U X.K (t := "dict") (by simp [z4d]) hc⟩
 | tab _ => unfold Dat at h; obtain ⟨rfl, _⟩ := h; cases r; exact ⟨.type "bool", _, PySem.W.kitx_bool, True.intro, (fun z => nomatch z), fun c hc => z1U X.K (t := "bool") (by simp [z4d]) hc⟩
 | map ks ds =>
  unfold Dat at h
  obtain ⟨p, vs, rfl, hr, _⟩ := h
  cases r
  obtain ⟨_, _, vs, _, o, es, ep, h1, h2, _⟩ := Rd.ok hr I.hok
  exact ⟨.type "dict", _, PySem.W.kitx_dict, ⟨o, h1, h2.1⟩, (fun z => nomatch z), fun c hc => z1U X.K (t := "dict") (by simp [z4d]) hc⟩
 | exn C =>
  unfold Dat at h
  obtain ⟨p, φ, rfl, ⟨k, g⟩, hr, _⟩ := h
  cases r
  obtain ⟨y, _⟩ := Rd.ok hr I.hok
  refine ⟨_, _, zhf k, g _ y, (fun z => nomatch z), fun c hc => ?_⟩
  rw [k.kit c hc]
  simp only [List.mem_cons, List.not_mem_nil, or_false] at hc
  rcases hc with rfl | rfl | rfl | rfl | rfl | rfl <;> rfl
def kOk : List String := ["int", "bool", "str", "list", "tuple", "dict"]
theorem z9B : CallR X (.builtin "isinstance") (fun xs H Q => ∃ x C hid μ O d, xs = [x, .ty C] /\ C ∈ kOk /\ Cells X.K H hid μ O /\ Dat X.K H hid μ d x /\ Q (.bl (z7p (z2n d) C)) H) := by
 intro pins s σ H xs us Q I r h
 obtain ⟨x, C, hid, μ, O, d, rfl, hC, cl, dx, q⟩ := h
 obtain ⟨u, w', rfl, rx, rc⟩ := z7v r
 cases rc
 obtain ⟨T, Hh, Z, p, hx, hk⟩ := z4K I cl dx rx
 exact PySem.W.kia_one Z I.kIn p (hk _ hC) hx fun tk => ⟨.bl _, H, I.tok tk, rfl, q⟩
def z2P (C : String) (t : DE) : DE := fun σ O => (t σ O).bnd fun d O1 => .ok (.bl (z7p (z2n d) C)) O1
theorem z6o {C : Str} {n : String} {p p' : Pos} (ha : PD X Ex a ta) (hn : n ∈ kOk) (hg : Gl X "isinstance") (hm : X.mg "isinstance" = none) (hv : bootBuiltins "isinstance" = some (.builtin "isinstance")) (hgC : Gl X C) (hmC : X.mg C = none) (hvC : bootBuiltins C = some (.type n)) (hCn : C ≠ "__name__" := by decide)
  (hCd : (C == ("__debug__" : Str)) = false := by decide) (he : starEach [a, .Name C p'] X.env = (false, eval a X.env) :: starEach [.Name C p'] X.env := by rfl) (he2 : starEach [.Name C p'] X.env = [(false, eval (.Name C p') X.env)] := by rfl) (hpl : (backTo pos (starEach [.Name C p'] X.env)).any (·.1) = false := by rfl) :
  PD X Ex (.Call (.Name "isinstance" p) [a, .Name C p'] [] pos) (z2P n ta) :=
 z10 (z3A (z9B (X := X)) hg hm hv (z2a ha.out (z2a (z7R (v := .ty n) hgC hmC hvC rfl hCn hCd) z5b he2) he) (by decide) (by decide) he hpl) fun hid μ σ O σv H Q e1 c1 q => rd.go e1 c1 q fun d O1 v H1 μ1 e2 x cl r p2 =>
  ⟨v, n, hid, μ1, O1, d, rfl, hn, cl, r, post.here p2 cl z1w⟩
def z7r (to : DE) (t : DA) : DE := fun σ O => (to σ O).bnd fun x O1 => match x with
 | .own k => (t σ O1).bnd fun ys O2 => match ys, O2[k]? with
  | [y], some ds => if ds.length < 100000 then .ok .non (O2.set k (ds ++ [y])) else .bad
  | _, _ => .bad
 | _ => .bad
theorem zai {o : Expr} {to : DE} {t : DA} {es : List Expr} {apos cpos : Pos} (ho : PD X Ex o to) (ha : PDA X Ex (e :: es) t) (hbase : attributeBase o "append" X.env (eval o X.env) = eval o X.env := by rfl)
  (hfew : ((backTo cpos (starEach (e :: es) X.env)).all (fun x => !x.1) && (backToKw cpos (keywordEach [] X.env)).all (fun x => x.1.isSome) && decide ((e :: es).length + ([] : List Keyword).length + (if ([] : List Keyword).isEmpty then 0 else 1) < 30)) = true := by rfl)
  (hline : (apos.endLine == cpos.line) = true := by rfl) (hs : starEach (e :: es) X.env = (false, eval e X.env) :: starEach es X.env := by rfl) (hplain : (backTo cpos (starEach es X.env)).any (·.1) = false := by rfl) :
  PD X Ex (.Call (.Attribute o "append" apos) (e :: es) [] cpos) (z7r to t) :=
 z10 (zcs PySem.F.plainAttrs_list PySem.F.slot_list_append PySem.F.type_list_append z6X ho.out ha.out hbase hfew hline hs hplain) fun hid μ σ O σv H Q e1 c1 q => rd.go e1 c1 q fun d O1 v H1 μ1 e2 x cl r p => by
  cases d with
  | own k =>
   have hr := r
   unfold Dat at r
   obtain ⟨A, rfl, hk⟩ := r
   obtain ⟨ds, vs, h1, h2, h3⟩ := cl.at_ k A hk
   refine ⟨.inl ⟨rfl, vs, .of h2⟩, rdA.go e2 cl p fun ys O2 ws H2 μ2 e3 x3 c3 d3 p3 => ?_⟩
   split at p3
   ·rename_i y es' hds
    obtain ⟨hl, p3⟩ := post.ite p3
    obtain ⟨w, rfl, dw⟩ := z2m d3
    have hk2 : μ2[k]? = some A := by
     have := hr.ext x3
     unfold Dat at this
     obtain ⟨A', e', hk'⟩ := this
     cases e'; exact hk'
    obtain ⟨ds2, vs2, g1, g2, g3⟩ := c3.at_ k A hk2
    rw [hds] at g1; cases g1
    refine ⟨A, vs2, w, rfl, rfl, g2, Nat.lt_of_lt_of_le (by rw [<- g3.length]; exact hl) (by decide), ?_⟩
    exact post.ok p3 (.put (List.mem_of_getElem? hk2) ⟨_, g2⟩) (c3.put hk2 (g3.append (.cons dw .nil))) z84
   ·exact False.elim p3
  | _ => exact False.elim p
def zcg (te to ti : DE) : DS := fun σ O => (te σ O).bnS fun y O1 => (to σ O1).bnS fun x O2 => (ti σ O2).bnS fun i O3 => match x, i with
 | .own k, .int i => match O3[k]? with
  | some ds => match ixN ds.length i with
   | some j => .nx σ (O3.set k (ds.set j y))
   | none => .bad
  | none => .bad
 | _, _ => .bad
theorem zec {o i : Expr} {to ti : DE} {spos : Pos} (he : PD X Ex e te) (ho : PD X Ex o to) (hi : PD X Ex i ti) (ha : ∀ v, assign (.Subscript o i pos) X.env v = (do
   let ov <- holding [v] (eval o X.env)
   let iv <- holding [v, ov] (eval i X.env)
   standAt pos
   holding [v, ov, iv] (setItem ov iv v)
   release [v, ov, iv] []) := by intro _; rfl) (hs : swapsWithSole [.Subscript o i pos] e spos.line X.env = pure false := by rfl) (hw : swappedStores [.Subscript o i pos] e X.env = pure none := by rfl)
  (h1 : (assignEach [.Subscript o i pos] X.env).map (·.2) = [assign (.Subscript o i pos) X.env] := by rfl) : PDS X Ex (.Assign [.Subscript o i pos] e spos) (zcg te to ti) :=
 z44 (zhj he.out (zgg ho.out hi.out zcV ha) hs hw h1) fun hid μ σ O E σv H e1 c1 q => rd.goS e1 c1 q fun y O1 v H1 μ1 e2 x1 c2 d2 q2 => rd.goS e2 c2 q2 fun x O2 u H2 μ2 e3 x2 c3 d3 q3 => rd.goS e3 c3 q3 fun ii O3 w H3 μ3 e4 x3 c4 d4 q4 => by
  split at q4
  ·rename_i k j
   split at q4
   ·rename_i ds hds
    split at q4
    ·rename_i m hm
     have d3' := d3.ext x3
     unfold Dat at d3' d4
     obtain ⟨A, rfl, hk⟩ := d3'
     subst d4
     obtain ⟨ds2, vs2, g1, g2, g3⟩ := c4.at_ k A hk
     rw [hds] at g1; cases g1
     refine ⟨A, vs2, j, m, rfl, rfl, g2, by rw [<- g3.length]; exact hm, ?_⟩
     exact q4 σv _ μ3 (.put (List.mem_of_getElem? hk) ⟨_, g2⟩) (e4.ext (.put (List.mem_of_getElem? hk) ⟨_, g2⟩)) (c4.put hk (g3.set ((d2.ext x2).ext x3) m))
    ·exact False.elim q4
   ·exact False.elim q4
  ·exact False.elim q4
def bls : List D -> Option (List Bool)
 | [] => some []
 | .bl b :: r => (bls r).map (b :: ·)
 | _ => none
theorem zbi {K : PySem.W.Frag} : ∀ {ds : List D} {vs : List V} {bs : List Bool}, Dats K H hid μ ds vs -> bls ds = some bs -> vs = bs.map V.bl
 | [], vs, bs, h, e => by unfold Dats at h; subst h; cases e; rfl
 | d :: ds, vs, bs, h, e => by
  unfold Dats at h
  obtain ⟨v, r, rfl, h1, h2⟩ := h
  cases d with
  | bl b =>
   unfold bls at e
   cases q : bls ds with
   | none => rw [q] at e; cases e
   | some cs =>
    rw [q] at e; cases e
    unfold Dat at h1; subst h1
    rw [zbi h2 q]; rfl
  | _ => cases e
def zaB : Ow -> List D -> R D := fun O xs => match xs with
 | [x] => match lsV O x with
  | some ds => match bls ds with
   | some bs => .ok (.bl (bs.all id)) O
   | none => .bad
  | none => .bad
 | _ => .bad
def zgd : Ow -> List D -> R D := fun O xs => match xs with
 | [x] => match lsV O x with
  | some ds => match bls ds with
   | some bs => .ok (.bl (bs.any id)) O
   | none => .bad
  | none => .bad
 | _ => .bad
theorem zgR : z3j X Ex (fun xs H Q => ∃ (p : Addr) (bs : List Bool), xs = [.ref p] /\ SqL X.K H p (bs.map V.bl) /\ Q (.bl (bs.all id)) H) zaB := by
 intro H hid μ O xs vs Q c d q
 unfold zaB at q
 split at q
 ·rename_i x
  obtain ⟨v, rfl, dx⟩ := z2m d
  split at q
  ·rename_i ds e
   obtain ⟨p, ws, rfl, sq, dd⟩ := z1O c dx e
   split at q
   ·rename_i bs eb
    refine ⟨p, bs, rfl, ?_, post.here q c z1w⟩
    rw [<- zbi dd eb]; exact sq
   ·exact False.elim q
  ·exact False.elim q
 ·exact False.elim q
theorem zh7 : z3j X Ex (fun xs H Q => ∃ (p : Addr) (bs : List Bool), xs = [.ref p] /\ SqL X.K H p (bs.map V.bl) /\ Q (.bl (bs.any id)) H) zgd := by
 intro H hid μ O xs vs Q c d q
 unfold zgd at q
 split at q
 ·rename_i x
  obtain ⟨v, rfl, dx⟩ := z2m d
  split at q
  ·rename_i ds e
   obtain ⟨p, ws, rfl, sq, dd⟩ := z1O c dx e
   split at q
   ·rename_i bs eb
    refine ⟨p, bs, rfl, ?_, post.here q c z1w⟩
    rw [<- zbi dd eb]; exact sq
   ·exact False.elim q
  ·exact False.elim q
 ·exact False.elim q
theorem zay (bs : List Bool) : (List.range bs.length).all (fun i => bs.getD i true) = bs.all id := by
 rw [Bool.eq_iff_iff, List.all_eq_true, List.all_eq_true]
 constructor
 ·intro h b hb
  obtain ⟨i, hi, e⟩ := List.mem_iff_getElem.mp hb
  have := h i (by simpa using hi)
  rw [List.getD_eq_getElem?_getD, List.getElem?_eq_getElem hi, e] at this
  exact this
 ·intro h i hi
  have hi : i < bs.length := by simpa using hi
  rw [List.getD_eq_getElem?_getD, List.getElem?_eq_getElem hi]
  exact h _ (List.getElem_mem hi)
theorem zaT (bs : List Bool) : (List.range bs.length).any (fun i => bs.getD i true) = bs.any id := by
 rw [Bool.eq_iff_iff, List.any_eq_true, List.any_eq_true]
 constructor
 ·rintro ⟨i, hi, h⟩
  have hi : i < bs.length := by simpa using hi
  rw [List.getD_eq_getElem?_getD, List.getElem?_eq_getElem hi] at h
  exact ⟨_, List.getElem_mem hi, h⟩
 ·rintro ⟨b, hb, h⟩
  obtain ⟨i, hi, e⟩ := List.mem_iff_getElem.mp hb
  exact ⟨i, by simpa using hi, by rw [List.getD_eq_getElem?_getD, List.getElem?_eq_getElem hi, e]; exact h⟩
theorem z9J {bs : List Bool} {its : List Value} (r : Vals (bs.map V.bl) its) {i : Nat} {v : Value} (h : its.toArray[i]? = some v) : v = .bool (bs.getD i true) := by
 have h : its[i]? = some v := by simpa using h
 have hi : i < bs.length := by
  have := r.length
  have := (List.getElem?_eq_some_iff.mp h).1
  simp at *; omega
 obtain ⟨u, h1, h2⟩ := r.get (i := i) (x := .bl bs[i]) (by rw [List.getElem?_map, List.getElem?_eq_getElem hi]; rfl)
 rw [h] at h1; cases h1
 cases h2
 rw [List.getD_eq_getElem?_getD, List.getElem?_eq_getElem hi]; rfl
theorem z9C (hc : X.calm = true) : CallR X (.builtin "all") (fun xs H Q => ∃ (p : Addr) (bs : List Bool), xs = [.ref p] /\ SqL X.K H p (bs.map V.bl) /\ Q (.bl (bs.all id)) H) := by
 intro pins s σ H xs us Q I r h
 obtain ⟨p, bs, rfl, sq, q⟩ := h
 obtain ⟨u, rfl, ru⟩ := z3c r
 cases ru
 obtain ⟨its, rv, pl, hz⟩ := I.list sq
 have hl : its.toArray.size = bs.length := by have := rv.length; simp at *; omega
 have hne : p ≠ s.heap.objs.size := by obtain ⟨o, n, e, _⟩ := pl; exact Nat.ne_of_lt (Heap.lt_size e)
 refine call_all_walk (wpAny_pyIter_list pl.isList ?_)
 refine ⟨s.heap.objs.size, _, _, its.toArray.size, _, _, fun i => bs.getD i true, rfl, Walks.list (show X.A.in1.handled = none from I.ok.hd hc) _ p hne its.toArray, ⟨⟨_, Heap.get?_push_size _ rfl, rfl, rfl⟩, pl.isList.push _⟩, fun i v s' Q' E' hP hQ => ?_, fun h' tk hk => ?_⟩
 ·rw [z9J rv hP]; exact wpAny_truthy_bool hQ
 ·rw [hl, zay]
  exact ⟨.bl _, H, I.kept (t' := tk) fun b o e => hk b o (by simpa using Nat.ne_of_lt (Heap.lt_size e)) (Heap.get?_push_of_some _ e), rfl, q⟩
theorem zbr (hc : X.calm = true) : CallR X (.builtin "any") (fun xs H Q => ∃ (p : Addr) (bs : List Bool), xs = [.ref p] /\ SqL X.K H p (bs.map V.bl) /\ Q (.bl (bs.any id)) H) := by
 intro pins s σ H xs us Q I r h
 obtain ⟨p, bs, rfl, sq, q⟩ := h
 obtain ⟨u, rfl, ru⟩ := z3c r
 cases ru
 obtain ⟨its, rv, pl, hz⟩ := I.list sq
 have hl : its.toArray.size = bs.length := by have := rv.length; simp at *; omega
 have hne : p ≠ s.heap.objs.size := by obtain ⟨o, n, e, _⟩ := pl; exact Nat.ne_of_lt (Heap.lt_size e)
 refine call_any_walk (wpAny_pyIter_list pl.isList ?_)
 refine ⟨s.heap.objs.size, _, _, its.toArray.size, _, _, fun i => bs.getD i true, rfl, Walks.list (show X.A.in1.handled = none from I.ok.hd hc) _ p hne its.toArray, ⟨⟨_, Heap.get?_push_size _ rfl, rfl, rfl⟩, pl.isList.push _⟩, fun i v s' Q' E' hP hQ => ?_, fun h' tk hk => ?_⟩
 ·rw [z9J rv hP]; exact wpAny_truthy_bool hQ
 ·rw [hl, zaT]
  exact ⟨.bl _, H, I.kept (t' := tk) fun b o e => hk b o (by simpa using Nat.ne_of_lt (Heap.lt_size e)) (Heap.get?_push_of_some _ e), rfl, q⟩
end
section
variable {X : Cx} {Ex : Nat -> Hp -> Prop} {pos : Pos} {a b c e o : Expr} {ta tb te to : DE} {pins : List (Addr × Obj)} {σv : St} {H : Hp} {s : Shared} {hid μ : List Addr} {O : Ow}
def zgw (K : PySem.W.Frag) : R2 := fun x y H Q => ∃ l b xs zs, x = .ref l /\ y = .ref b /\ SqL K H l xs /\ SqL K H b zs /\ xs.length + zs.length <= sizeLine /\ ∀ p, H p = none -> Q (.ref p) (upd H p (.lst (xs ++ zs)))
theorem zfp : OpR X (binaryOp .Add) (zgw X.K) := by
 intro pins s σ H x y v u Q I rx ry h
 obtain ⟨l, b, xs, zs, rfl, rfl, h1, h2, hz, q⟩ := h
 cases rx
 cases ry
 obtain ⟨its, r1, p1, z1⟩ := I.list h1
 obtain ⟨its2, r2, p2, z2⟩ := I.list h2
 obtain ⟨⟨c1, d1, t1, s1⟩, n1, g1, k1, m1, w1⟩ := p1
 obtain ⟨⟨c2, d2, t2, s2⟩, n2, g2, k2, m2, w2⟩ := p2
 simp only at k1 m1 w1 k2 m2 w2
 subst k1 m1 w1 k2 m2 w2
 have ea : its.toArray ++ its2.toArray = (its ++ its2).toArray := by simp
 have l1 := r1.length
 have l2 := r2.length
 refine PySem.concat_meets ⟨_, g1, rfl⟩ ⟨_, g2, rfl⟩ PySem.noFill_list_add PySem.seq_list_add PySem.F.slot_list_add PySem.F.entry_list_add (PySem.F.args_list_add_2 _ _)
  (PyProof.Rows.list_addW l b its.toArray its2.toArray n1 n2 none none s1 s2 (by simp only [List.size_toArray]; omega)) ⟨g1, g2, ?_⟩
 rw [ea]
 exact ⟨.ref _, _, I.lnew (t' := s.toks) (r1.append r2) (by rw [List.length_append]; omega), rfl, q _ I.fresh⟩
def z2W : Ow -> D -> D -> R D := fun O x y => match x, y with
 | .int i, .int j => .ok (.int (i + j)) O
 | .str p, .str q => if p.length + q.length <= 100000 then .ok (.str (p ++ q)) O else .bad
 | .tup xs, .tup ys => if xs ≠ [] /\ xs.length + ys.length <= 100000 then .ok (.tup (xs ++ ys)) O else .bad
 | x, y => match lsV O x, lsV O y with
  | some xs, some ys => if xs.length + ys.length <= 100000 then .ok (.lst (xs ++ ys)) O else .bad
  | _, _ => .bad
def zg7 (K : PySem.W.Frag) : R2 := fun x y H Q => (∃ i j, x = .int i /\ y = .int j /\ Q (.int (i + j)) H) \/ (∃ i j, x = .str i /\ y = .str j /\ i.length + j.length <= sizeLine /\ Q (.str (i ++ j)) H) \/ zhw K x y H Q \/ zgw K x y H Q
theorem zfY : OpR X (binaryOp .Add) (zg7 X.K) := OpR.or zgB (OpR.or z9f (OpR.or zfz zfp))
theorem zfN : OpD X Ex (zg7 X.K) z2W := by
 intro H hid μ O x y v w Q c dx dy q
 unfold z2W at q
 split at q
 ·unfold Dat at dx dy; subst dx; subst dy
  exact .inl ⟨_, _, rfl, rfl, post.here q c z0o⟩
 ·rename_i p q'
  unfold Dat at dx dy; subst dx; subst dy
  obtain ⟨hl, q⟩ := post.ite q
  refine .inr (.inl ⟨_, _, rfl, rfl, ?_, ?_⟩)
  ·show p.toArray.size + q'.toArray.size <= _
   simp only [List.size_toArray]; exact z0y hl
  ·have e : ((⟨p.toArray⟩ : Str) ++ (⟨q'.toArray⟩ : Str)) = ⟨(p ++ q').toArray⟩ := by
    show (⟨p.toArray ++ q'.toArray⟩ : Str) = _
    simp
   rw [e]
   exact post.here q c z8a
 ·rename_i xs ys
  have dx0 := dx
  unfold Dat at dx dy
  obtain ⟨p, vs, rfl, l1, q1⟩ := dx
  obtain ⟨p', vs', rfl, l2, q2⟩ := dy
  obtain ⟨⟨hn, hl⟩, q⟩ := post.ite q
  have e1 := q1.length
  have e2 := q2.length
  refine .inr (.inr (.inl ⟨p, p', vs, vs', rfl, rfl, l1.sq, l2.sq, ?_, z0y (by omega), ?_, ?_⟩))
  ·rintro rfl
   exact hn (List.length_eq_zero_iff.mp e1)
  ·rintro rfl
   have : ys = [] := List.length_eq_zero_iff.mp e2
   subst this
   rw [List.append_nil] at q
   exact post.here q c dx0
  ·intro _ l hl0
   exact post.ok q (.laid hl0) (c.laid hl0) (Dat.newT c hl0 (q1.append q2))
 ·split at q
  ·rename_i xs ys e1 e2
   obtain ⟨p, vs, rfl, s1, q1⟩ := z1O c dx e1
   obtain ⟨p', vs', rfl, s2, q2⟩ := z1O c dy e2
   obtain ⟨hl, q⟩ := post.ite q
   have l1 := q1.length
   have l2 := q2.length
   exact .inr (.inr (.inr ⟨p, p', vs, vs', rfl, rfl, s1, s2, z0y (by omega), fun l hl0 => post.ok q (.laid hl0) (c.laid hl0) (Dat.newL c hl0 (q1.append q2))⟩))
  ·exact False.elim q
theorem zhb (ha : PD X Ex a ta) (hb : PD X Ex b tb) : PD X Ex (.BinOp a .Add b pos) (dOp z2W ta tb) := z54 zfY zfN ha hb
def zj6 (i : Int) : List Nat := ((toString i : Str)).cps.toList
def zd2 : Ow -> List D -> R D := fun O xs => match xs with
 | [.int i] => if i.natAbs < 2 ^ 64 then .ok (.str (zj6 i)) O else .bad
 | _ => .bad
theorem z94 {n : Nat} (h : n < 2 ^ 64) : n.log2 < 1920 := by
 by_cases hn : n = 0
 ·subst hn; decide
 ·have := (Nat.log2_lt hn (k := 64)).mpr h
  omega
theorem z5P (x : Str) : (⟨x.cps.toList.toArray⟩ : Str) = x := by
 cases x; simp
theorem zdP : z3j X Ex (fun xs H Q => ∃ i, xs = [.int i] /\ i.natAbs.log2 < 1920 /\ Q (.str (toString i)) H) zd2 := by
 intro H hid μ O xs vs Q c d q
 unfold zd2 at q
 split at q
 ·rename_i i
  obtain ⟨v, rfl, dx⟩ := z2m d
  unfold Dat at dx; subst dx
  obtain ⟨hl, q⟩ := post.ite q
  refine ⟨i, rfl, z94 hl, post.here q c ?_⟩
  unfold Dat zj6
  rw [z5P]
 ·exact False.elim q
def dS1 (g : List Nat -> List Nat -> Option D) (to : DE) (t : DA) : DE := fun σ O => (to σ O).bnd fun x O1 => match x with
 | .str i => (t σ O1).bnd fun ys O2 => match ys with
  | [.str j] => match g i j with
   | some d => .ok d O2
   | none => .bad
  | _ => .bad
 | _ => .bad
def zaL : List D -> Option (List Str)
 | [] => some []
 | .str cs :: r => (zaL r).map (⟨cs.toArray⟩ :: ·)
 | _ => none
theorem z9K {K : PySem.W.Frag} : ∀ {ds : List D} {vs : List V} {ys : List Str}, Dats K H hid μ ds vs -> zaL ds = some ys -> vs = ys.map V.str
 | [], vs, ys, h, e => by unfold Dats at h; subst h; cases e; rfl
 | d :: ds, vs, ys, h, e => by
  unfold Dats at h
  obtain ⟨v, r, rfl, h1, h2⟩ := h
  cases d with
  | str cs =>
   unfold zaL at e
   cases q : zaL ds with
   | none => rw [q] at e; cases e
   | some zs =>
    rw [q] at e; cases e
    unfold Dat at h1; subst h1
    rw [z9K h2 q]; rfl
  | _ => cases e
theorem z3T : ∀ {ys : List Str} {us : List Value}, Vals (ys.map V.str) us -> PyProof.Rows.StrsAre us ys := by
 intro ys
 induction ys with
 | nil => intro us r; rw [List.map_nil] at r; cases r; exact .nil
 | cons y ys ih =>
  intro us r
  rw [List.map_cons] at r
  cases r with
  | cons r1 r2 =>
   obtain ⟨t, e⟩ := r1
   subst e
   exact .cons y t (ih r2)
def zi4 (K : PySem.W.Frag) : V -> List V -> Hp -> VK -> Prop := fun x xs H Q => ∃ i p ys, x = .str i /\ xs = [.ref p] /\ (SqL K H p (ys.map V.str) \/ SqT K H p (ys.map V.str)) /\ i.length <= 16 /\ (ys.map (·.length)).sum + ys.length <= 1048576 /\ Q (.str (Txt.join i ys)) H
theorem zdY : MtR X "str.join" (zi4 X.K) := by
 intro pins s σ H x xs v us Q I rx rs h
 obtain ⟨i, p, ys, rfl, rfl, sq, hi, hw, q⟩ := h
 obtain ⟨t, rfl⟩ := rx
 obtain ⟨u, rfl, ru⟩ := z3c rs
 cases ru
 rcases sq with sq | sq
 ·obtain ⟨its, r1, p1, z1⟩ := I.list sq
  exact PyProof.Rows.join_listW p1.isList (z3T r1) hi hw fun t' k => ⟨.str _, H, I.tok k, ⟨_, rfl⟩, q⟩
 ·obtain ⟨its, r1, p1, z1⟩ := I.tuple sq
  exact PyProof.Rows.join_tupleW p1 (z3T r1) hi hw fun t' k => ⟨.str _, H, I.tok k, ⟨_, rfl⟩, q⟩
def z86 (to : DE) (t : DA) : DE := fun σ O => (to σ O).bnd fun x O1 => match x with
 | .str i => (t σ O1).bnd fun ys O2 => match ys with
  | [z] => match (match lsV O2 z with | some ds => some ds | none => tpV z) with
   | some ds => match zaL ds with
    | some zs => if i.length <= 16 /\ (zs.map (·.length)).sum + zs.length <= 1048576 then .ok (.str (Txt.join ⟨i.toArray⟩ zs).cps.toList) O2 else .bad
    | none => .bad
   | none => .bad
  | _ => .bad
 | _ => .bad
theorem ze4 {t : DA} {es : List Expr} {apos cpos : Pos} (ho : PD X Ex o to) (ha : PDA X Ex (e :: es) t) (hbase : attributeBase o "join" X.env (eval o X.env) = eval o X.env := by rfl)
  (hfew : ((backTo cpos (starEach (e :: es) X.env)).all (fun x => !x.1) && (backToKw cpos (keywordEach [] X.env)).all (fun x => x.1.isSome) && decide ((e :: es).length + ([] : List Keyword).length + (if ([] : List Keyword).isEmpty then 0 else 1) < 30)) = true := by rfl)
  (hline : (apos.endLine == cpos.line) = true := by rfl) (hs : starEach (e :: es) X.env = (false, eval e X.env) :: starEach es X.env := by rfl) (hplain : (backTo cpos (starEach es X.env)).any (·.1) = false := by rfl) :
  PD X Ex (.Call (.Attribute o "join" apos) (e :: es) [] cpos) (z86 to t) :=
 z10 (zcs PySem.F.plainAttrs_str PySem.F.slot_str_join PySem.F.type_str_join zdY ho.out ha.out hbase hfew hline hs hplain) fun hid μ σ O σv H Q e1 c1 q => rd.go e1 c1 q fun d O1 v H1 μ1 e2 x cl r p => by
  cases d with
  | str i =>
   unfold Dat at r
   subst r
   refine ⟨rfl, rdA.go e2 cl p fun ys O2 ws H2 μ2 e3 x3 c3 d3 p3 => ?_⟩
   split at p3
   ·rename_i z
    obtain ⟨w, rfl, dw⟩ := z2m d3
    split at p3
    ·rename_i ds hds
     split at p3
     ·rename_i zs hzs
      obtain ⟨⟨h1, h2⟩, p3⟩ := post.ite p3
      have h : ∃ p ws, w = .ref p /\ (SqL X.K H2 p ws \/ SqT X.K H2 p ws) /\ Dats X.K H2 hid μ2 ds ws := by
       cases e1 : lsV O2 z with
       | some es =>
        rw [e1] at hds; cases hds
        obtain ⟨p, ws, h1, sq, dd⟩ := z1O c3 dw e1
        exact ⟨p, ws, h1, .inl sq, dd⟩
       | none =>
        rw [e1] at hds
        obtain ⟨p, ws, h1, sq, dd⟩ := z58 dw hds
        exact ⟨p, ws, h1, .inr sq, dd⟩
      obtain ⟨pp, ws, rfl, sq, dd⟩ := h
      have ev := z9K dd hzs
      subst ev
      refine ⟨_, pp, zs, rfl, rfl, sq, ?_, h2, post.here p3 c3 ?_⟩
      ·show i.toArray.size <= 16
       simpa using h1
      ·unfold Dat; rw [z5P]
     ·exact False.elim p3
    ·exact False.elim p3
   ·exact False.elim p3
  | _ => exact False.elim p
abbrev DO := Sg -> Ow -> R (Option Int)
def rdO (Ex : Nat -> Hp -> Prop) (K : PySem.W.Frag) (t : DO) : TO := fun σv H Q => ∃ hid μ σ O, EnvOk K H hid μ σ σv /\ Cells K H hid μ O /\ post Ex K (fun _ _ (d v : Option Int) => d = v) H hid μ (t σ O) Q
structure PDO (X : Cx) (Ex : Nat -> Hp -> Prop) (e : Option Expr) (t : DO) : Prop where
 out : PO X e (rdO Ex X.K t)
def z7d : DO := fun _ O => .ok none O
def z7w (t : DE) : DO := fun σ O => (t σ O).bnd fun d O1 => match d with
 | .int i => .ok (some i) O1
 | _ => .bad
theorem PO.imp {e : Option Expr} {t t' : TO} (h : PO X e t) (f : ∀ σ H Q, t' σ H Q -> t σ H Q) : PO X e t' := fun pins s σ H Q I q => h pins s σ H Q I (f σ H Q q)
theorem zcN : PDO X Ex none z7d := PDO.mk <| PO.imp zfI fun σv H Q ⟨hid, μ, σ, O, e1, c1, q⟩ => post.here (v := none) q c1 rfl
theorem zbO (h : PD X Ex e te) : PDO X Ex (some e) (z7w te) := PDO.mk <| PO.imp (zer h.out) fun σv H Q ⟨hid, μ, σ, O, e1, c1, q⟩ => rd.go e1 c1 q fun d O1 v H1 μ1 e2 x cl r p => by
 cases d with
 | int i => unfold Dat at r; subst r; exact ⟨i, rfl, post.here (v := some i) p cl rfl⟩
 | _ => exact False.elim p
theorem rdO.go {α' β' : Type} {rel' : Hp -> List Addr -> α' -> β' -> Prop} {t : DO} {hid μ : List Addr} {σ : Sg} {O : Ow} {σv : St} {H : Hp} {Q1 : Option Int -> Hp -> Prop} {k : Option Int -> Ow -> R α'} {Q : β' -> Hp -> Prop} (e1 : EnvOk X.K H hid μ σ σv) (c1 : Cells X.K H hid μ O)
  (q : post Ex X.K rel' H hid μ ((t σ O).bnd k) Q)
  (f : ∀ v O1 H1 μ1, EnvOk X.K H1 hid μ1 σ σv -> Ext H μ H1 μ1 -> Cells X.K H1 hid μ1 O1 -> post Ex X.K rel' H1 hid μ1 (k v O1) Q -> Q1 v H1) : rdO Ex X.K t σv H Q1 :=
 ⟨hid, μ, σ, O, e1, c1, post.bnd q fun d O1 v H1 μ1 x c r p => by
  have r : d = v := r
  subst r
  exact f d O1 H1 μ1 (e1.ext x) x c p⟩
def zj2 : V -> Option Int -> Option Int -> Hp -> VK -> Prop := fun x lo hi H Q => ∃ i, x = .str i /\ i.length <= sizeLine /\ Q (.str (Txt.slice i lo hi)) H
theorem z9p {h : Heap} {sl : Addr} {vl vu : Value} {lo hi : Option Int} (hs : h.IsSliceOf sl vl vu .none) (pl : IsPart vl lo) (pu : IsPart vu hi) : ∃ l u : Option (Int × Tok), h.IsSlice sl l u none /\ l.map (·.1) = lo /\ u.map (·.1) = hi := by
 obtain ⟨ob, g, k1, k2⟩ := hs
 cases pl with
 | none =>
  cases pu with
  | none => exact ⟨none, none, ⟨ob, g, k1, k2⟩, rfl, rfl⟩
  | int j t => exact ⟨none, some (j, t), ⟨ob, g, k1, k2⟩, rfl, rfl⟩
 | int i t =>
  cases pu with
  | none => exact ⟨some (i, t), none, ⟨ob, g, k1, k2⟩, rfl, rfl⟩
  | int j t' => exact ⟨some (i, t), some (j, t'), ⟨ob, g, k1, k2⟩, rfl, rfl⟩
theorem zdy : SlR X zj2 := by
 intro pins s σ H x v vl vu lo hi sl Q I rx hs pl pu h
 obtain ⟨i, rfl, hz, q⟩ := h
 obtain ⟨t, rfl⟩ := rx
 obtain ⟨l, u, hs2, rfl, rfl⟩ := z9p hs pl pu
 refine ⟨"str", _, PySem.F.slot_str_getitem.lookup, typeIs_str s i t, ?_⟩
 exact wpAny_getItem_str_slice (l := l) (u := u) (st := none) hs2 rfl (post_val_or_str ⟨Nat.le_trans (Txt.slice_le i _ _) hz, fun t' k => ⟨.str _, H, I.tok k, ⟨_, rfl⟩, q⟩⟩)
def zbE (xs : List D) (lo hi : Option Int) : List D := (xs.drop (HT.sIx xs.length 0 lo)).take (HT.sIx xs.length xs.length hi - HT.sIx xs.length 0 lo)
def fSl (O : Ow) (x : D) (lo hi : Option Int) : R D := match x with
 | .str i => if i.length <= 100000 then .ok (.str (Txt.slice ⟨i.toArray⟩ lo hi).cps.toList) O else .bad
 | .tup ds => if HT.sIx ds.length 0 lo = 0 /\ HT.sIx ds.length ds.length hi = ds.length then .bad else .ok (.tup (zbE ds lo hi)) O
 | x => match lsV O x with
  | some ds => .ok (.lst (zbE ds lo hi)) O
  | none => .bad
def dSl (te : DE) (tl th : DO) : DE := fun σ O => (te σ O).bnd fun x O1 => (tl σ O1).bnd fun lo O2 => (th σ O2).bnd fun hi O3 => fSl O3 x lo hi
def zj7 (K : PySem.W.Frag) : V -> Option Int -> Option Int -> Hp -> VK -> Prop := fun x lo hi H Q => zj2 x lo hi H Q \/ zjm K x lo hi H Q \/ ziY K x lo hi H Q
theorem z3q {K : PySem.W.Frag} {ds : List D} {vs : List V} (h : Dats K H hid μ ds vs) (lo hi : Option Int) : Dats K H hid μ (zbE ds lo hi) (zdd vs lo hi) := by
 unfold zbE zdd
 rw [h.length]
 exact Dats.take _ (Dats.drop _ h)
theorem ziA {lo hi : Option Expr} {tl th : DO} {p2 : Pos} (he : PD X Ex e te) (hl : PDO X Ex lo tl) (hu : PDO X Ex hi th) : PD X Ex (.Subscript e (.Slice lo hi none p2) pos) (dSl te tl th) :=
 z10 (z8U (r := zj7 X.K) (SlR.or zdy (SlR.or zdr zbC)) he.out hl.out hu.out) fun hid μ σ O σv H Q e1 c1 q => rd.go e1 c1 q fun d O1 v H1 μ1 e2 x cl r p => rdO.go e2 cl p fun l O2 H2 μ2 e3 x3 c3 p3 => rdO.go e3 c3 p3 fun u O3 H3 μ3 e4 x4 c4 p4 => by
  have r' := (r.ext x3).ext x4
  unfold fSl at p4
  split at p4
  ·rename_i i
   unfold Dat at r'; subst r'
   obtain ⟨hl.out, p4⟩ := post.ite p4
   refine .inl ⟨_, rfl, ?_, post.here p4 c4 ?_⟩
   ·show i.toArray.size <= _
    rw [List.size_toArray]; exact z0y hl.out
   ·unfold Dat; rw [z5P]
  ·rename_i ds
   unfold Dat at r'
   obtain ⟨pa, vs, rfl, la, q1⟩ := r'
   split at p4
   ·exact False.elim p4
   ·rename_i hw
    refine .inr (.inl ⟨pa, vs, rfl, la.sq, by rw [<- q1.length]; exact hw, fun l' hl' => post.ok p4 (.laid hl') (c4.laid hl') (Dat.newT c4 hl' (z3q q1 l u))⟩)
  ·split at p4
   ·rename_i ds eds
    obtain ⟨pa, vs, rfl, sq, q1⟩ := z1O c4 r' eds
    exact .inr (.inr ⟨pa, vs, rfl, sq, fun l' hl' => post.ok p4 (.laid hl') (c4.laid hl') (Dat.newL c4 hl' (z3q q1 l u))⟩)
   ·exact False.elim p4
def zhW : Ow -> D -> D -> R D := fun O x y => match x, y with
 | .str i, .str j => .ok (.bl (!(PySem.Builtin.Str.occurrences ⟨j.toArray⟩ ⟨i.toArray⟩ 0 j.length 1).isEmpty)) O
 | _, _ => .bad
theorem zf1 : OpD X Ex (fun x y H Q => ∃ i j, x = .str i /\ y = .str j /\ Q (.bl (!(Builtin.Str.occurrences j i 0 j.length 1).isEmpty)) H) zhW := by
 intro H hid μ O x y v w Q c dx dy q
 unfold zhW at q
 split at q
 ·rename_i i j
  unfold Dat at dx dy; subst dx; subst dy
  refine ⟨_, _, rfl, rfl, post.here q c ?_⟩
  have e : (⟨j.toArray⟩ : Str).length = j.length := by show j.toArray.size = _; simp
  rw [e]; exact z1w
 ·exact False.elim q
end
def z0H (K : PySem.W.Frag) (mg : Str -> Option Value) (x : Str) (st : Stmt) : Prop := ∃ f fd, mg x = some (.ref f) /\ L2.Fun K x x st f fd
structure Callee (P : Program) (w : World) (K : PySem.W.Frag) (mg : Str -> Option Value) (base : Heap) (x : Str) (k n : Nat) (F : List D -> Ow -> R D) : Prop where
 ex : ∃ f fd ps, mg x = some (.ref f) /\ PySem.W.keepIn K (.ref f) = true /\ Binds K fd ps [] /\ FnOk P w K mg base CX0 k f fd ps (DSp K Ec0 n F)
theorem zhH {X : Cx} {x : Str} {k j n : Nat} {F : List D -> Ow -> R D} {p pos : Pos} {e : Expr} {es : List Expr} {t : DA} (c : Callee X.prog X.w X.K X.mg X.base x k n F) (hr : Room j X.A) (hk : k <= j) (hg : Gl X x) (ha : PDA X Ex0 (e :: es) t)
  (hdb : (x == ("__debug__" : Str)) = false := by decide) (he : starEach (e :: es) X.env = (false, eval e X.env) :: starEach es X.env := by rfl) (hpl : (backTo pos (starEach es X.env)).any (·.1) = false := by rfl) :
  PD X Ex0 (.Call (.Name x p) (e :: es) [] pos) (dFn n F t) := by
 obtain ⟨f, fd, ps, hm, hkp, hb, G⟩ := c.ex
 exact zih (Ec := Ec0) (E := E0) (G.mono hk) hr hg hm hkp hb zi9 ha hdb he hpl
theorem fnC {P : Program} {w : World} {K : PySem.W.Frag} {mg : Str -> Option Value} {base : Heap} {k : Nat} {x : Str} {st : Stmt} {N ps : List Str} {t : DS} (h : z0H K mg x st) (S : z0a N ps (z02 st))
  (hb : ∀ (kV doc pm : Value) (an : Option Addr) (cdv ct : Value) (us : List Value), us.length = ps.length -> bindArgs (PySem.W.fnOf x x (z2v st) (z1G st) (z02 st) .none kV doc pm an cdv ct) ⟨us, []⟩ = pure (ps.zip us))
  (hbody : ∀ (f : Addr) (cdv : Value) (A : Around) (outer : List Env) (s : Shared) (H : Hp) (E : XK), Room k (A.deeper (PyProof.Rows.envOfC x (z02 st) s.heap.objs.size f cdv)) -> z7t (cx0 P w K mg base N x (z02 st) f cdv A outer s H E) Ex0 (z1G st) t) :
  Callee P w K mg base x (k + 1) ps.length (z27 N.length t) := by
 obtain ⟨f, fd, hm, F⟩ := h
 refine ⟨f, fd, ps, hm, F.kp, F.binds hb, ?_⟩
 obtain ⟨oc, od, kV, doc, pm, an, cdv, ct, osl, rfl, lk, hcd⟩ := F.ex
 exact zhy lk hcd S fun A outer s H E hr => hbody f cdv A outer s H E hr
theorem Callee.imp {P : Program} {w : World} {K : PySem.W.Frag} {mg : Str -> Option Value} {base : Heap} {k n : Nat} {x : Str} {F G : List D -> Ow -> R D} (c : Callee P w K mg base x k n F)
  (h : ∀ ds O H hid μ Q, Cells K H hid μ O -> z0Y Ex0 K H hid μ (G ds O) Q -> z0Y Ex0 K H hid μ (F ds O) Q) : Callee P w K mg base x k n G := by
 obtain ⟨f, fd, ps, hm, hkp, hb, Fo⟩ := c.ex
 refine ⟨f, fd, ps, hm, hkp, hb, Fo.imp fun vs H Q E ⟨hl, hid, μ, ds, O, d, cl, q⟩ => ⟨hl, hid, μ, ds, O, d, cl, h ds O H hid μ Q cl q⟩⟩
theorem Callee.bad {P : Program} {w : World} {K : PySem.W.Frag} {mg : Str -> Option Value} {base : Heap} {k n : Nat} {x : Str} {F : List D -> Ow -> R D} (c : Callee P w K mg base x k n F) : Callee P w K mg base x k n (fun _ _ => .bad) :=
 c.imp fun _ _ _ _ _ _ _ q => False.elim q
def frz (O : Ow) (n : Nat) : Nat -> D -> Option D
 | 0, d => match d with
  | .own k => if k < n then some (.own k) else none
  | .lst _ => none
  | .tup _ => none
  | .map _ _ => none
  | d => some d
 | f + 1, d => match d with
  | .own k => if k < n then some (.own k) else match O[k]? with
   | some ds => (z1j (frz O n f) ds).map .lst
   | none => none
  | .lst ds => (z1j (frz O n f) ds).map .lst
  | .tup ds => (z1j (frz O n f) ds).map .tup
  | .map _ _ => none
  | d => some d
def za4 (n : Nat) (r : R D) : R D := match r with
 | .ok d O => match frz O n 8 d, z1j (z1j (frz O n 8)) (O.take n) with
  | some d', some O' => .ok d' O'
  | _, _ => .bad
 | r => r
section
variable {K : PySem.W.Frag} {H : Hp} {hid μ ν : List Addr} {O : Ow} {n : Nat}
theorem z2u {f : D -> Option D} {μ' : List Addr} (ih : ∀ d d' v, f d = some d' -> Dat K H hid μ d v -> Dat K H hid μ' d' v) : ∀ (ds ds' : List D) (vs : List V), z1j f ds = some ds' -> Dats K H hid μ ds vs -> Dats K H hid μ' ds' vs
 | [], ds', vs, e, h => by cases e; unfold Dats at h ⊢; exact h
 | d :: ds, ds', vs, e, h => by
  unfold z1j at e
  split at e
  ·rename_i p ps e1 e2
   cases e
   unfold Dats at h
   obtain ⟨v, r, rfl, h1, h2⟩ := h
   exact .cons (ih d p v e1 h1) (z2u ih ds ps r e2 h2)
  ·cases e
theorem zdq (c : Cells K H hid (μ ++ ν) O) (hn : μ.length = n) : ∀ (f : Nat) (d d' : D) (v : V), frz O n f d = some d' -> Dat K H hid (μ ++ ν) d v -> Dat K H hid μ d' v := by
 have sub : ∀ {a : Addr}, a ∉ μ ++ ν -> a ∉ μ := fun h m => h (List.mem_append_left _ m)
 have low : ∀ {k : Nat} {v : V}, k < n -> Dat K H hid (μ ++ ν) (.own k) v -> Dat K H hid μ (.own k) v := fun {k v} hk h => by
  unfold Dat at h ⊢
  obtain ⟨a, rfl, e⟩ := h
  rw [List.getElem?_append_left (by omega)] at e
  exact ⟨a, rfl, e⟩
 have dc : ∀ {v : V}, Dat K H hid (μ ++ ν) .dct v -> Dat K H hid μ .dct v := fun {v} h => by
  unfold Dat at h ⊢
  obtain ⟨a, rfl, r, n1, n2⟩ := h
  exact ⟨a, rfl, r, n1, sub n2⟩
 have xc : ∀ {C : Nat} {v : V}, Dat K H hid (μ ++ ν) (.exn C) v -> Dat K H hid μ (.exn C) v := fun {C v} h => by
  unfold Dat at h ⊢
  obtain ⟨a, φ, rfl, g, r, n1, n2⟩ := h
  exact ⟨a, φ, rfl, g, r, n1, sub n2⟩
 intro f
 induction f with
 | zero =>
  intro d d' v e h
  cases d with
  | own k =>
   unfold frz at e; dsimp only at e
   split at e
   ·rename_i hk; cases e; exact low hk h
   ·cases e
  | lst ds => cases e
  | tup ds => cases e
  | dct => cases e; exact dc h
  | map ks ds => cases e
  | exn C => cases e; exact xc h
  | tab P => cases e; unfold Dat at h ⊢; exact h
  | non => cases e; unfold Dat at h ⊢; exact h
  | bl b => cases e; unfold Dat at h ⊢; exact h
  | int i => cases e; unfold Dat at h ⊢; exact h
  | str i => cases e; unfold Dat at h ⊢; exact h
 | succ f ih =>
  intro d d' v e h
  cases d with
  | own k =>
   unfold frz at e; dsimp only at e
   split at e
   ·rename_i hk; cases e; exact low hk h
   ·rename_i hk
    unfold Dat at h
    obtain ⟨a, rfl, hk2⟩ := h
    obtain ⟨ds, vs, h1, h2, h3⟩ := c.at_ k a hk2
    rw [h1] at e
    dsimp only at e
    cases e1 : z1j (frz O n f) ds with
    | none => rw [e1] at e; cases e
    | some ps =>
     rw [e1] at e; cases e
     unfold Dat
     refine ⟨a, vs, rfl, .inl ⟨.inl h2, c.nh a (List.mem_of_getElem? hk2), fun m => ?_⟩, z2u ih ds ps vs e1 h3⟩
     obtain ⟨j, hj, ej⟩ := List.mem_iff_getElem.mp m
     have q1 : (μ ++ ν)[j]? = some a := by rw [List.getElem?_append_left hj, List.getElem?_eq_getElem hj, ej]
     obtain ⟨w1, z1⟩ := List.getElem?_eq_some_iff.mp q1
     obtain ⟨w2, z2⟩ := List.getElem?_eq_some_iff.mp hk2
     have := (List.getElem_inj c.nd).mp (z1.trans z2.symm)
     omega
  | lst ds =>
   unfold frz at e; dsimp only at e
   unfold Dat at h
   obtain ⟨a, vs, rfl, l, q⟩ := h
   cases e1 : z1j (frz O n f) ds with
   | none => rw [e1] at e; cases e
   | some ps =>
    rw [e1] at e; cases e
    unfold Dat
    exact ⟨a, vs, rfl, l.imp (fun z => ⟨z.1, z.2.1, sub z.2.2⟩) id, z2u ih ds ps vs e1 q⟩
  | tup ds =>
   unfold frz at e; dsimp only at e
   unfold Dat at h
   obtain ⟨a, vs, rfl, l, q⟩ := h
   cases e1 : z1j (frz O n f) ds with
   | none => rw [e1] at e; cases e
   | some ps =>
    rw [e1] at e; cases e
    unfold Dat
    exact ⟨a, vs, rfl, l.imp (fun z => ⟨z.1, z.2.1, sub z.2.2⟩) id, z2u ih ds ps vs e1 q⟩
  | dct => cases e; exact dc h
  | map ks ds => cases e
  | exn C => cases e; exact xc h
  | tab P => cases e; unfold Dat at h ⊢; exact h
  | non => cases e; unfold Dat at h ⊢; exact h
  | bl b => cases e; unfold Dat at h ⊢; exact h
  | int i => cases e; unfold Dat at h ⊢; exact h
  | str i => cases e; unfold Dat at h ⊢; exact h
theorem z5S {α β : Type} {f : α -> Option β} : ∀ {l : List α} {r : List β}, z1j f l = some r -> r.length = l.length
 | [], r, e => by cases e; rfl
 | x :: l, r, e => by
  unfold z1j at e
  split at e
  ·rename_i p ps e1 e2; cases e; simp [z5S e2]
  ·cases e
theorem z8Z {α β : Type} {f : α -> Option β} : ∀ {l : List α} {r : List β} {k : Nat} {y : β}, z1j f l = some r -> r[k]? = some y -> ∃ x, l[k]? = some x /\ f x = some y
 | [], r, k, y, e, h => by cases e; simp at h
 | x :: l, r, k, y, e, h => by
  unfold z1j at e
  split at e
  ·rename_i p ps e1 e2
   cases e
   cases k with
   | zero => simp at h; subst h; exact ⟨x, by simp, e1⟩
   | succ k => obtain ⟨z, h1, h2⟩ := z8Z (k := k) e2 (by simpa using h); exact ⟨z, by simpa using h1, h2⟩
  ·cases e
theorem zd0 {Ex : Nat -> Hp -> Prop} {r : R D} {Q : VK} (hn : μ.length = n) (q : z0Y Ex K H hid μ (za4 n r) Q) : z0Y Ex K H hid μ r Q := by
 cases r with
 | bad => exact q
 | exc c O' => exact q
 | ok d O' =>
  intro v H' μ' x c h
  obtain ⟨ν, rfl⟩ := x.pre
  have q1 : z0Y Ex K H hid μ (match frz O' n 8 d, z1j (z1j (frz O' n 8)) (O'.take n) with | some d', some O2 => .ok d' O2 | _, _ => .bad) Q := q
  cases e1 : frz O' n 8 d with
  | none => rw [e1] at q1; exact False.elim q1
  | some d' =>
   cases e2 : z1j (z1j (frz O' n 8)) (O'.take n) with
   | none => rw [e1, e2] at q1; exact False.elim q1
   | some O2 =>
    rw [e1, e2] at q1
    have xe : Ext H μ H' μ := ⟨⟨[], by simp⟩, x.kept, fun _ m => .inl m, x.there, x.tab⟩
    have hl : O'.length = (μ ++ ν).length := c.len.symm
    have c2 : Cells K H' hid μ O2 := by
     refine ⟨?_, (List.nodup_append.mp c.nd).1, fun a m => c.nh a (List.mem_append_left _ m), c.ht, fun k a e => ?_⟩
     ·rw [z5S e2, List.length_take, hl, List.length_append, hn]; omega
     ·have hk : k < μ.length := (List.getElem?_eq_some_iff.mp e).1
      obtain ⟨ds, vs, h1, h2, h3⟩ := c.at_ k a (by rw [List.getElem?_append_left hk]; exact e)
      have hk2 : k < O2.length := by rw [z5S e2, List.length_take, hl, List.length_append, hn]; omega
      obtain ⟨ds', g1, g2⟩ := z8Z e2 (List.getElem?_eq_getElem hk2)
      have : ds' = ds := by
       rw [List.getElem?_take, if_pos (by omega), h1] at g1
       cases g1; rfl
      subst this
      exact ⟨_, vs, List.getElem?_eq_getElem hk2, h2, z2u (zdq c hn 8) _ _ vs g2 h3⟩
    exact q1 v H' μ xe c2 (zdq c hn 8 d d' v e1 h)
end
def zgn (F : List D -> Ow -> R D) : List D -> Ow -> R D := fun ds O => za4 O.length (F ds O)
theorem Callee.frz {P : Program} {w : World} {K : PySem.W.Frag} {mg : Str -> Option Value} {base : Heap} {k n : Nat} {x : Str} {F : List D -> Ow -> R D} (c : Callee P w K mg base x k n F) : Callee P w K mg base x k n (zgn F) :=
 c.imp fun ds O H hid μ Q cl q => zd0 cl.len q
def zj8 (sc scope : Scope) (N' : List Str) (sl : List Nat) : Bool :=
 (match scope.kind with | .function => true | _ => false) && decide ((scope.names.map (·.1)).Nodup) && (scope.names.all fun y => !(y.2 == .free) || sc.names.lookup y.1 == some .cell || sc.names.lookup y.1 == some .free) &&
 (N'.zipIdx.all fun p => !((scope.names.any fun y => y.1 == p.1 && y.2 == .local) || (scope.names.any fun y => y.1 == p.1 && y.2 == .cell)) || sl.contains p.2)
theorem z3t {sc scope : Scope} {N' : List Str} {sl : List Nat} (h : zj8 sc scope N' sl = true) : BOk sc scope N' sl := by
 unfold zj8 at h
 simp only [Bool.and_eq_true, decide_eq_true_eq, List.all_eq_true] at h
 obtain ⟨⟨⟨h1, h2⟩, h3⟩, h4⟩ := h
 refine ⟨?_, h2, fun y hy hf => ?_, fun i x hx hm => ?_⟩
 ·cases e : scope.kind <;> rw [e] at h1 <;> first | rfl | cases h1
 ·have := h3 y hy
  rw [hf] at this
  simpa using this
 ·have hp : (x, i) ∈ N'.zipIdx := by
   rw [List.mem_zipIdx_iff_getElem?]; exact hx
  have h := h4 _ hp
  have hany : ((scope.names.any fun y => y.1 == x && y.2 == .local) || (scope.names.any fun y => y.1 == x && y.2 == .cell)) = true := by
   rw [Bool.or_eq_true]
   exact hm.imp (fun m => List.any_eq_true.mpr ⟨_, m, by simp⟩) fun m => List.any_eq_true.mpr ⟨_, m, by simp⟩
  have h : (!((scope.names.any fun y => y.1 == x && y.2 == .local) || (scope.names.any fun y => y.1 == x && y.2 == .cell)) || sl.contains i) = true := h
  rw [hany] at h
  simpa using h
structure ziG (mg : Str -> Option Value) (x : Str) (cs : List Nat) : Prop where
 ex : ∃ t, mg x = some (.str ⟨cs.toArray⟩ t)
section
variable {X : Cx} {Ex : Nat -> Hp -> Prop} {pos : Pos} {a b c e : Expr} {ta : DE} {pins : List (Addr × Obj)} {σv : St} {H : Hp} {s : Shared} {hid μ : List Addr} {O : Ow}
theorem zeA {x : Str} {cs : List Nat} (h : ziG X.mg x cs) (hg : Gl X x := by rfl) (hd : (x == ("__debug__" : Str)) = false := by decide) : PD X Ex (.Name x pos) (dC (.str cs)) := by
 obtain ⟨t, h⟩ := h.ex
 exact zcA cs hg h rfl hd
def z9i (C C' : String) (t : DE) : DE := fun σ O => (t σ O).bnd fun d O1 => .ok (.bl (z7p (z2n d) C || z7p (z2n d) C')) O1
theorem zbn : CallR X (.builtin "isinstance") (fun xs H Q => ∃ x p C C' hid μ O d, xs = [x, .ref p] /\ SqT X.K H p [.ty C, .ty C'] /\ C ∈ kOk /\ C' ∈ kOk /\ Cells X.K H hid μ O /\ Dat X.K H hid μ d x /\ Q (.bl (z7p (z2n d) C || z7p (z2n d) C')) H) := by
 intro pins s σ H xs us Q I r h
 obtain ⟨x, tp, C, C', hid, μ, O, d, rfl, sq, hC, hC', cl, dx, q⟩ := h
 obtain ⟨u, w', rfl, rx, rc⟩ := z7v r
 cases rc
 obtain ⟨T, Hh, Z, p, hx, hk⟩ := z4K I cl dx rx
 obtain ⟨its, rv, ⟨⟨c1, d1, t1, s1⟩, h1, h2, n, h3⟩, hz⟩ := I.tuple sq
 simp only at h2 h3
 subst h2 h3
 obtain ⟨v1, v2, rfl, r1, r2⟩ := z7v rv
 cases r1; cases r2
 refine PySem.W.kia_tup (b := z7p (z2n d) C || z7p (z2n d) C') Z I.kIn p h1 ?_ hx fun tk => ⟨.bl _, H, I.tok tk, rfl, q⟩
 unfold PySem.W.kitAny
 rw [hk _ hC]
 cases z7p (z2n d) C with
 | true => rfl
 | false =>
  dsimp only
  unfold PySem.W.kitAny
  rw [hk _ hC']
  cases z7p (z2n d) C' <;> rfl
theorem zf9 {C C' : Str} {n n' : String} {p p' p'' pt : Pos} {kt} (ha : PD X Ex a ta) (hn : n ∈ kOk) (hn' : n' ∈ kOk) (hg : Gl X "isinstance") (hm : X.mg "isinstance" = none) (hv : bootBuiltins "isinstance" = some (.builtin "isinstance")) (hgC : Gl X C) (hmC : X.mg C = none) (hvC : bootBuiltins C = some (.type n))
  (hgC' : Gl X C') (hmC' : X.mg C' = none) (hvC' : bootBuiltins C' = some (.type n')) (hCn : C ≠ "__name__" := by decide) (hCd : (C == ("__debug__" : Str)) = false := by decide) (hCn' : C' ≠ "__name__" := by decide) (hCd' : (C' == ("__debug__" : Str)) = false := by decide)
  (he : starEach [a, .Tuple [.Name C p', .Name C' p''] kt pt] X.env = (false, eval a X.env) :: starEach [.Tuple [.Name C p', .Name C' p''] kt pt] X.env := by rfl) (he2 : starEach [.Tuple [.Name C p', .Name C' p''] kt pt] X.env = [(false, eval (.Tuple [.Name C p', .Name C' p''] kt pt) X.env)] := by rfl)
  (hpl : (backTo pos (starEach [.Tuple [.Name C p', .Name C' p''] kt pt] X.env)).any (·.1) = false := by rfl) (h3 : starEach [.Name C p', .Name C' p''] X.env = (false, eval (.Name C p') X.env) :: starEach [.Name C' p''] X.env := by rfl) (h4 : starEach [.Name C' p''] X.env = [(false, eval (.Name C' p'') X.env)] := by rfl) :
  PD X Ex (.Call (.Name "isinstance" p) [a, .Tuple [.Name C p', .Name C' p''] kt pt] [] pos) (z9i n n' ta) :=
 z10 (z3A (zbn (X := X)) hg hm hv (z2a ha.out (z2a (zdk (z2a (z7R (v := .ty n) hgC hmC hvC rfl hCn hCd) (z2a (z7R (v := .ty n') hgC' hmC' hvC' rfl hCn' hCd') z5b h4) h3)) z5b he2) he) (by decide) (by decide) he hpl) fun hid μ σ O σv H Q e1 c1 q => rd.go e1 c1 q fun d O1 v H1 μ1 e2 x cl r p2 =>
  ⟨by show 2 <= sizeLine; decide, fun l hl => ⟨v, l, n, n', hid, μ1, O1, d, rfl, .of z0g, hn, hn', cl.laid hl, r.ext (.laid hl), post.ok p2 (.laid hl) (cl.laid hl) z1w⟩⟩
def fIn : Ow -> D -> D -> R D := fun O x y => match y with
 | .str _ => zhW O x y
 | _ => fPy inF O x y
def zey : Ow -> D -> D -> R D := fun O x y => match y with
 | .str _ => match zhW O x y with
  | .ok (.bl b) O1 => .ok (.bl (!b)) O1
  | _ => .bad
 | _ => fPy zhT O x y
theorem zhL (hu : X.A.units + 64 < cLine) : OpR X (compareOp .In) (fun x y H Q => rPy X.K inF x y H Q \/ ∃ i j, x = .str i /\ y = .str j /\ Q (.bl (!(Builtin.Str.occurrences j i 0 j.length 1).isEmpty)) H) := OpR.or (zfJ hu) zb5
theorem zho : OpD X Ex (fun x y H Q => rPy X.K inF x y H Q \/ ∃ i j, x = .str i /\ y = .str j /\ Q (.bl (!(Builtin.Str.occurrences j i 0 j.length 1).isEmpty)) H) fIn := by
 intro H hid μ O x y v w Q c dx dy q
 unfold fIn at q
 split at q
 ·exact .inr (zf1 H hid μ O _ _ v w Q c dx dy q)
 ·exact .inl (z5d H hid μ O x y v w Q c dx dy q)
theorem zaI (hu : X.A.units + 64 < cLine) : OpR X (compareOp .NotIn) (fun x y H Q => rPy X.K zhT x y H Q \/ ∃ i j, x = .str i /\ y = .str j /\ Q (.bl (!(!(Builtin.Str.occurrences j i 0 j.length 1).isEmpty))) H) := OpR.or (zcU hu) z6T
theorem zaQ : OpD X Ex (fun x y H Q => rPy X.K zhT x y H Q \/ ∃ i j, x = .str i /\ y = .str j /\ Q (.bl (!(!(Builtin.Str.occurrences j i 0 j.length 1).isEmpty))) H) zey := by
 intro H hid μ O x y v w Q c dx dy q
 unfold zey at q
 split at q
 ·rename_i cs
  cases x with
  | str i =>
   unfold Dat at dx dy; subst dx; subst dy
   refine .inr ⟨_, _, rfl, rfl, post.here (d := D.bl (!(!(PySem.Builtin.Str.occurrences ⟨cs.toArray⟩ ⟨i.toArray⟩ 0 cs.length 1).isEmpty))) q c ?_⟩
   have e : (⟨cs.toArray⟩ : Str).length = cs.length := by show cs.toArray.size = _; simp
   rw [e]; exact z1w
  | _ => exact False.elim q
 ·exact .inl (z5d H hid μ O x y v w Q c dx dy q)
end
section
variable {X : Cx} {pins : List (Addr × Obj)} {σv : St} {H : Hp} {s : Shared}
theorem Inv.turns {h' : Heap} {t' : Nat} (ch : List Addr) (I : L2.Inv X pins σv H s) (k : ∀ b o, b ∉ ch -> s.heap.get? b = some o -> h'.get? b = some o) (hf : ∀ b ∈ ch, z6b X pins H b) : L2.Inv X pins σv H { s with heap := h', toks := t' } := by
 have nit : ∀ b u, H b = some u -> b ∉ ch := fun b u e z => by rw [(hf b z).1] at e; cases e
 have un : Un (frs X.stack) ch H H s.heap h' := ⟨fun b o e _ _ n => k b o n e, fun b o e _ _ n => ⟨o.slots, k b o n e⟩, fun _ _ _ n _ => n, fun b o e n => ⟨o, k b o n e⟩, fun _ _ e => e, fun _ _ _ e => e, fun b ps e => ⟨#[], by rw [e]; simp⟩⟩
 have hok : HOk X.prog X.w H h' := fun b u e => (I.hok b u e).stay (fun c v hc q => k c v (by
  rcases hc with z | z
  ·rw [z]; exact nit b u e
  ·exact nit c _ z) q) (fun _ q => q) fun _ _ q => q
 exact I.call (t' := t') (d' := s.drawn) un hok I.bare fun b hb => let ⟨_, f1, _, f3, f4, f5⟩ := hf b hb; ⟨f3, f1, f4, f5⟩
end
def Itz (K : PySem.W.Frag) (l m : Addr) : It :=
 ⟨fun i H => ∃ xs ys x y, SqL K H l xs /\ SqL K H m ys /\ xs[i]? = some x /\ ys[i]? = some y,
   fun i H v H' => ∃ p x y, H p = none /\ v = .ref p /\ (∀ xs, SqL K H l xs -> xs[i]? = some x) /\ (∀ ys, SqL K H m ys -> ys[i]? = some y) /\ H' = upd H p (.tup [x, y]),
   fun i H => ∃ xs ys, SqL K H l xs /\ SqL K H m ys /\ (xs.length <= i \/ ys.length <= i)⟩
def zed (z t o i j l m : Addr) (n : Nat) (h : Heap) : Prop := IsZip h z t o .none /\ IsPair h t (.ref i) (.ref j) /\ (∃ a b, IsPair h o a b) /\ h.IsListIter i l n /\ h.IsListIter j m n
theorem zcH {P : Program} {w : World} {K : PySem.W.Frag} {es : List Expr} {kt} {pt : Pos} (z t o i j l m : Addr) (ap : [z, t, o, i, j].Nodup) : z9t P w K (.Tuple es kt pt) (Itz K l m) [z, t, o, i, j] z (zed z t o i j l m) := by
 have apart : ∀ {X : Cx} {pins : List (Addr × Obj)} {s : Shared} {σ : St} {H : Hp} {xs ys : List V}, X.K = K -> L2.Inv X pins σ H s -> (∀ b ∈ [z, t, o, i, j], z6b X pins H b) -> zed z t o i j l m 0 s.heap \/ True -> SqL K H l xs -> SqL K H m ys ->
   (∃ k, zed z t o i j l m k s.heap) -> ZipApart z t o i j l m := by
  intro X pins s σ H xs ys hK I hf _ h1 h2 ⟨k, hz, ht, ⟨a, b, ho⟩, hi, hj⟩
  subst hK
  simp only [List.nodup_cons, List.mem_cons, List.not_mem_nil, or_false, not_or, List.nodup_nil, and_true] at ap
  obtain ⟨⟨a1, a2, a3, a4⟩, ⟨b1, b2, b3⟩, ⟨c1, c2⟩, d1, _⟩ := ap
  obtain ⟨its, _, p1, _⟩ := I.list h1
  obtain ⟨its2, _, p2, _⟩ := I.list h2
  have cz : ∀ {q : Addr} {vs : Array Value}, s.heap.IsList q vs -> q ≠ z := fun {q vs} hl e => by
   subst e
   obtain ⟨ob, g, k1, _⟩ := hl
   have hz : s.heap.get? q = some _ := hz
   rw [hz] at g; cases g; simp at k1
  have co : ∀ {q : Addr} {vs : Array Value}, s.heap.IsList q vs -> q ≠ o := fun {q vs} hl e => by
   subst e
   obtain ⟨ob, g, k1, _⟩ := hl
   have ho : s.heap.get? q = some _ := ho
   rw [ho] at g; cases g; simp at k1
  have ci : ∀ {q x : Addr} {n : Nat} {vs : Array Value} {y : Addr}, s.heap.IsList q vs -> s.heap.IsListIter x y n -> q ≠ x := fun {q x n vs y} hl hx e => by
   subst e
   obtain ⟨ob, g, k1, _⟩ := hl
   obtain ⟨ob2, g2, k2, _⟩ := hx
   rw [g] at g2; cases g2; rw [k1] at k2; injection k2 with h; exact absurd h (by decide)
  exact ⟨Ne.symm a1, Ne.symm a2, Ne.symm a3, Ne.symm a4, b1, b2, b3, c1, c2, d1, cz p1.isList, co p1.isList, ci p1.isList hi, ci p1.isList hj, cz p2.isList, co p2.isList, ci p2.isList hi, ci p2.isList hj⟩
 refine ⟨by simp, fun n h st b hb => ?_, fun n h h' st k => ?_, ?_, ?_, fun A n s Q E st q => wpAny_pyIter_zip st.1 q⟩
 ·obtain ⟨hz, ht, ⟨a, b', ho⟩, ⟨o1, g1, k1, m1⟩, ⟨o2, g2, k2, m2⟩⟩ := st
  simp only [List.mem_cons, List.not_mem_nil, or_false] at hb
  rcases hb with rfl | rfl | rfl | rfl | rfl
  ·exact ⟨_, hz, fun v e => by cases e⟩
  ·exact ⟨_, ht, fun v e => by cases e⟩
  ·exact ⟨_, ho, fun v e => by cases e⟩
  ·exact ⟨_, g1, fun v e => by rw [m1] at e; cases e⟩
  ·exact ⟨_, g2, fun v e => by rw [m2] at e; cases e⟩
 ·obtain ⟨hz, ht, ⟨a, b', ho⟩, ⟨o1, g1, k1, m1⟩, ⟨o2, g2, k2, m2⟩⟩ := st
  exact ⟨k z (by simp) _ hz, k t (by simp) _ ht, ⟨a, b', k o (by simp) _ ho⟩, ⟨o1, k i (by simp) _ g1, k1, m1⟩, ⟨o2, k j (by simp) _ g2, k2, m2⟩⟩
 ·intro X hP hw hK hc n pins s σ H E I hf st hg
  have hK0 := hK
  subst hP hw hK
  obtain ⟨xs, ys, x, y, h1, h2, e1, e2⟩ := hg
  have D := apart rfl I hf (.inr trivial) h1 h2 ⟨n, st⟩
  obtain ⟨hz, ht, ⟨a, b, ho⟩, hi, hj⟩ := st
  obtain ⟨its, r1, p1, z1⟩ := I.list h1
  obtain ⟨its2, r2, p2, z2⟩ := I.list h2
  obtain ⟨u, g1, q1⟩ := r1.get e1
  obtain ⟨v, g2, q2⟩ := r2.get e2
  refine wpAny_pyNext_zip_item D hz ht ho hi hj p1.isList p2.isList (by simpa using g1) (by simpa using g2) fun h' b1 b2 b3 b4 b5 b6 hk => ⟨_, rfl, ?_⟩
  refine wpAny_letOwnedTupleGo_zip b1 fun h'' c1 c2 => ?_
  have nb : ∀ q ∈ [z, t, o, i, j], s.heap.objs.size ≠ q := fun q hq e => by
   have : ∃ ob, s.heap.get? q = some ob := by
    simp only [List.mem_cons, List.not_mem_nil, or_false] at hq
    rcases hq with rfl | rfl | rfl | rfl | rfl
    ·exact ⟨_, hz⟩
    ·exact ⟨_, ht⟩
    ·exact ⟨_, ho⟩
    ·obtain ⟨ob, g, _⟩ := hi; exact ⟨_, g⟩
    ·obtain ⟨ob, g, _⟩ := hj; exact ⟨_, g⟩
   obtain ⟨ob, g⟩ := this
   exact absurd (Heap.lt_size g) (by rw [e]; exact Nat.lt_irrefl _)
  have keep : ∀ c ob, c ∉ [z, t, o, i, j] -> s.heap.get? c = some ob -> h''.get? c = some ob := fun c ob hc e => by
   simp only [List.mem_cons, List.not_mem_nil, or_false, not_or] at hc
   exact c2.extBut _ _ hc.1 (hk c ob hc.1 hc.2.2.1 hc.2.2.2.1 hc.2.2.2.2 e)
  have I1 : L2.Inv X pins σ H { s with heap := h'', toks := s.toks } := Inv.turns [z, t, o, i, j] I keep hf
  have hnew : h''.get? s.heap.objs.size = some { cls := .type "tuple", data := .seq #[u, v] } := c2.extBut _ _ (nb z (by simp)) b5
  have fr : H s.heap.objs.size = none := I.hok.fresh (Nat.le_refl _)
  -- the pair is laid: all stands already
  have I2 : L2.Inv X pins σ (upd H s.heap.objs.size (.tup [x, y])) { s with heap := h'', toks := s.toks } := by
   have un : Un (frs X.stack) [z, t, o, i, j] H (upd H s.heap.objs.size (.tup [x, y])) s.heap h'' := by
    refine ⟨fun c ob e _ _ hc => keep c ob hc e, fun c ob e _ _ hc => ⟨ob.slots, keep c ob hc e⟩, fun c ob e hn _ => ?_, fun c ob e hc => ⟨ob, keep c ob hc e⟩, fun c zs e => ?_, fun c ob u e => ?_, fun c ps e => ⟨#[], ?_⟩⟩
    ·rw [z09 (Nat.ne_of_lt (Heap.lt_size e))]; exact hn
    ·rw [z09 (z0d e fr)]; exact e
    ·rw [z09 (z0d e fr)]; exact e
    ·rw [z09 (z0d e fr), e]; simp
   have hok : HOk X.prog X.w (upd H s.heap.objs.size (.tup [x, y])) h'' := by
    intro c u' e
    by_cases hc : c = s.heap.objs.size
    ·subst hc
     rw [z0g] at e; cases e
     exact ⟨by show 2 <= sizeLine; decide, [u, v], .cons q1 (.cons q2 .nil), ⟨_, hnew, rfl, _, rfl⟩⟩
    ·rw [z09 hc] at e
     refine (I1.hok c u' e).stay (fun _ _ _ q => q) (fun p q => ?_) fun p zs q => ?_
     ·by_cases hp : p = s.heap.objs.size
      ·subst hp; rw [fr] at q; cases q
      ·rw [z09 hp]; exact q
     ·by_cases hp : p = s.heap.objs.size
      ·subst hp; rw [fr] at q; cases q
      ·rw [z09 hp]; exact q
   exact I.call (t' := s.toks) (d' := s.drawn) un hok I.bare fun b hb => let ⟨_, f1, _, f3, f4, f5⟩ := hf b hb; ⟨f3, f1, f4, f5⟩
  refine ⟨.ref s.heap.objs.size, _, I2, rfl, ⟨_, x, y, fr, rfl, fun zs hz => ?_, fun zs hz => ?_, rfl⟩, ⟨c1, ?_, ⟨_, _, c2.extBut _ _ D.TOz b2⟩, b3.extBut c2.extBut D.i1z, b4.extBut c2.extBut D.i2z⟩, fun b hb => ?_⟩
  ·rw [I.list_inj hz h1]; exact e1
  ·rw [I.list_inj hz h2]; exact e2
  ·exact c2.extBut _ _ D.TIz (hk _ _ D.TIz D.TITO D.TIi1 D.TIi2 ht)
  ·rw [z09 (Ne.symm (nb b hb))]; exact (hf b hb).1
 ·intro X hP hw hK hc n pins s σ H E I hf st hg
  subst hP hw hK
  obtain ⟨xs, ys, h1, h2, e1⟩ := hg
  have D := apart rfl I hf (.inr trivial) h1 h2 ⟨n, st⟩
  obtain ⟨hz, ht, ⟨a, b, ho⟩, hi, hj⟩ := st
  obtain ⟨its, r1, p1, z1⟩ := I.list h1
  obtain ⟨its2, r2, p2, z2⟩ := I.list h2
  have l1 := r1.length
  have l2 := r2.length
  refine wpAny_pyNext_zip_end (I.ok.hd hc) D hz ht ho hi hj p1.isList p2.isList (e1.imp (fun z => ?_) fun z => ?_) fun h' hk => ⟨rfl, ?_⟩
  ·simp; omega
  ·simp; omega
  ·refine Inv.turns (t' := s.toks) [z, t, o, i, j] I (fun c ob hc e => ?_) hf
   simp only [List.mem_cons, List.not_mem_nil, or_false, not_or] at hc
   exact hk c ob hc.1 hc.2.2.1 hc.2.2.2.1 hc.2.2.2.2 e
def LsAt (K : PySem.W.Frag) (src : Src) (a : Addr) (H : Hp) (hid μ : List Addr) : Prop := ∀ hid' H' μ' O', Mv H hid μ H' hid' μ' -> Cells K H' hid' μ' O' -> ∃ ds vs, SqL K H' a vs /\ Dats K H' hid' μ' ds vs /\ ∀ i, src.get O' i = ds[i]?
section
variable {K : PySem.W.Frag} {H : Hp} {hid μ : List Addr}
theorem LsAt.val {ds : List D} {vs : List V} {a : Addr} (l : LstAt K H hid μ a vs) (q : Dats K H hid μ ds vs) : LsAt K (.val ds) a H hid μ := fun hid' H' μ' O' m c => ⟨ds, vs, (l.mv m).sq, q.mv m, fun _ => rfl⟩
theorem LsAt.own {k : Nat} {a : Addr} (hk : μ[k]? = some a) : LsAt K (.own k) a H hid μ := by
 intro hid' H' μ' O' m c
 obtain ⟨ν, rfl⟩ := m.pre
 have hk' : (μ ++ ν)[k]? = some a := by rw [List.getElem?_append_left (List.getElem?_eq_some_iff.mp hk).1]; exact hk
 obtain ⟨ds, vs, h1, h2, h3⟩ := c.at_ k a hk'
 exact ⟨ds, vs, .of h2, h3, fun i => by show (match O'[k]? with | some ds => ds[i]? | none => none) = _; rw [h1]⟩
theorem LsAt.mv {src : Src} {a : Addr} {H1 : Hp} {hid1 μ1 : List Addr} (h : LsAt K src a H hid μ) (e : Mv H hid μ H1 hid1 μ1) : LsAt K src a H1 hid1 μ1 := fun hid' H' μ' O' m c => h hid' H' μ' O' (e.trans m) c
theorem SrcAt.zip {a b : Addr} {s1 s2 : Src} (h1 : LsAt K s1 a H hid μ) (h2 : LsAt K s2 b H hid μ) : SrcAt K (Itz K a b) (.zip s1 s2) H hid μ := by
 intro hid' H' μ' O' m c i
 obtain ⟨ds, vs, q1, d1, g1⟩ := h1 hid' H' μ' O' m c
 obtain ⟨es, ws, q2, d2, g2⟩ := h2 hid' H' μ' O' m c
 show match (match s1.get O' i, s2.get O' i with | some x, some y => some (D.tup [x, y]) | _, _ => none) with | some d => _ | none => _
 rw [g1, g2]
 cases e1 : ds[i]? with
 | none =>
  dsimp only
  exact ⟨vs, ws, q1, q2, .inl (by rw [<- d1.length]; exact List.getElem?_eq_none_iff.mp e1)⟩
 | some x =>
  cases e2 : es[i]? with
  | none =>
   dsimp only
   exact ⟨vs, ws, q1, q2, .inr (by rw [<- d2.length]; exact List.getElem?_eq_none_iff.mp e2)⟩
  | some y =>
   dsimp only
   obtain ⟨v, w1, r1⟩ := d1.get e1
   obtain ⟨w, w2, r2⟩ := d2.get e2
   refine ⟨⟨vs, ws, v, w, q1, q2, w1, w2⟩, fun z H'' yl => ?_⟩
   obtain ⟨p, v', w', hp, rfl, f1, f2, rfl⟩ := yl
   have t1 := f1 vs q1
   rw [w1] at t1; cases t1
   have t2 := f2 ws q2
   rw [w2] at t2; cases t2
   exact ⟨.laid hp, c.laid hp, Dat.newT c hp (.cons r1 (.cons r2 .nil))⟩
end
def z5L : D -> Option Src
 | .lst ds => some (.val ds)
 | .own k => some (.own k)
 | _ => none
theorem z8J {K : PySem.W.Frag} {H : Hp} {hid μ : List Addr} {O : Ow} {d : D} {v : V} {src : Src} (c : Cells K H hid μ O) (h : Dat K H hid μ d v) (e : z5L d = some src) : ∃ a vs, v = .ref a /\ SqL K H a vs /\ LsAt K src a H hid μ := by
 cases d with
 | lst ds =>
  unfold Dat at h
  obtain ⟨a, vs, rfl, l, q⟩ := h
  cases e
  exact ⟨a, vs, rfl, l.sq, .val l q⟩
 | own k =>
  unfold Dat at h
  obtain ⟨a, rfl, hk⟩ := h
  cases e
  obtain ⟨ds, vs, h1, h2, h3⟩ := c.at_ k a hk
  exact ⟨a, vs, rfl, .of h2, .own hk⟩
 | _ => cases e
def zhR (t : DA) : DI := fun σ O => (t σ O).bnd fun xs O1 => match xs with
 | [x, y] => match z5L x, z5L y with
  | some p, some q => .ok (.zip p q) O1
  | _, _ => .bad
 | _ => .bad
section
variable {X : Cx} {Ex : Nat -> Hp -> Prop} {pos : Pos} {a b c : Expr} {pins : List (Addr × Obj)} {σv : St} {H : Hp} {s : Shared} {hid μ : List Addr} {O : Ow}
theorem z8M : bootBuiltins "zip" = some (.type "zip") := by boot_by_name
theorem zfF {es' : List Expr} {kt} {pt : Pos} {t : DA} {p : Pos} (hg : Gl X "zip") (hm : X.mg "zip" = none) (ha : PDA X Ex [a, b] t) (hs : starEach [a, b] X.env = [(false, eval a X.env), (false, eval b X.env)] := by rfl) (hs2 : starEach [b] X.env = [(false, eval b X.env)] := by rfl) :
  PDI X Ex (.Tuple es' kt pt) (.Call (.Name "zip" p) [a, b] [] pos) (zhR t) := by
 refine ⟨?_⟩
 rintro pins s σv H Rr I ⟨hid, μ, σ, O, e1, c1, q⟩
 refine PyProof.Rows.Call_ (z4O I hg hm z8M (PyProof.Rows.callWith_type1 (thn (ha.out pos pins s σv H _ I (rdA.go e1 c1 q (Q1 := fun vs H1 => ∃ hid μ1 O1 ds, Cells X.K H1 hid μ1 O1 /\ Dats X.K H1 hid μ1 ds vs /\
   post Ex X.K (fun H' μ' s J => SrcAt X.K J s H' hid μ') H1 hid μ1 (match ds with | [x, y] => (match z5L x, z5L y with | some p, some q => .ok (.zip p q) O1 | _, _ => .bad) | _ => .bad) Rr)
  fun ds O1 vs H1 μ1 e2 x cl d p => ⟨hid, μ1, O1, ds, cl, d, p⟩)) fun us s1 ⟨vs, H1, I1, r1, hid, μ1, O1, ds, cl, d, p⟩ => ?_) (by rw [hs, hs2]) (by rw [hs2]; rfl)))
 split at p
 ·rename_i x y
  split at p
  ·rename_i sp sq e1 e2
   obtain ⟨v, w, rfl, dx, dy⟩ := z9r d
   obtain ⟨l, vs1, rfl, q1, la1⟩ := z8J cl dx e1
   obtain ⟨m, vs2, rfl, q2, la2⟩ := z8J cl dy e2
   obtain ⟨u1, u2, rfl, ru1, ru2⟩ := z7v r1
   cases ru1; cases ru2
   obtain ⟨its, _, p1, _⟩ := I1.list q1
   obtain ⟨its2, _, p2, _⟩ := I1.list q2
   refine call_zip_2 p1.isList p2.isList fun h' g5 g3 g4 g1 g2 hz hk => ?_
   refine wpAny_pyIter_zip g5 ?_
   have I2 : L2.Inv X pins σv H1 { s1 with heap := h', toks := s1.toks } := I1.kept hk
   refine ⟨s1.heap.objs.size + 4, [s1.heap.objs.size + 4, s1.heap.objs.size + 2, s1.heap.objs.size + 3, s1.heap.objs.size, s1.heap.objs.size + 1], _, _, H1, rfl, I2, zcH _ _ _ _ _ l m ?_, ⟨g5, g3, ⟨_, _, g4⟩, g1, g2⟩, fun b hb => ?_, post.here p cl (.zip la1 la2)⟩
   ·have nn : ∀ (n : Addr), [n + 4, n + 2, n + 3, n, n + 1].Nodup := fun n => by
     simp only [List.nodup_cons, List.mem_cons, List.not_mem_nil, or_false, not_or, List.nodup_nil, and_true]
     refine ⟨⟨?_, ?_, ?_, ?_⟩, ⟨?_, ?_, ?_⟩, ⟨?_, ?_⟩, ?_, not_false⟩ <;> simp [Addr] at * <;> omega
    exact nn _
   ·have hb' : s1.heap.objs.size <= b := by
     simp only [List.mem_cons, List.not_mem_nil, or_false] at hb
     rcases hb with rfl | rfl | rfl | rfl | rfl <;> omega
    have f := I1.fpOk (H' := H1) hb' (I1.hok.fresh hb')
    exact f
  ·exact False.elim p
 ·exact False.elim p
theorem zgx {i j : Nat} {x y : Str} {px py pt : Pos} {kt : Nat} (hc : X.calm = true) (hN : X.N.Nodup) (hi : X.N[i]? = some x) (hj : X.N[j]? = some y) (hx : Loc X.env.scope x) (hy : Loc X.env.scope y)
  (hf : X.fn x = true \/ X.env.scope.names.lookup x = some .local) (hf2 : X.fn y = true \/ X.env.scope.names.lookup y = some .local) : PG X (.Tuple [.Name x px, .Name y py] kt pt) ((Tg.two i j).rd X.K) :=
 zgr hc (z8X (z7z hN hi hx hf) (z8X (z7z hN hj hy hf2) zfg))
def z6C : Ow -> List D -> R D := fun O xs => match xs with
 | [.str cs] => match PySem.intText? ⟨cs.toArray⟩ with
  | some n => if cs.length <= 640 then .ok (.int n) O else .bad
  | none => .bad
 | xs => ziK O xs
theorem zb1 : CallR X (.type "int") (fun xs H Q => ∃ x n, xs = [.str x] /\ PySem.intText? x = some n /\ x.length <= 640 /\ Q (.int n) H) := by
 intro pins s σ H xs us Q I r h
 obtain ⟨x, n, rfl, hn, hl, q⟩ := h
 obtain ⟨u, rfl, t, rfl⟩ := z3c r
 exact PySem.W.KIN.call_text hn hl ⟨.int _, H, I.tok _, ⟨_, rfl⟩, q⟩
def zhh : List V -> Hp -> VK -> Prop := fun xs H Q => ((∃ i, xs = [.int i] /\ Q (.int i) H) \/ ∃ k, xs = [.bl k] /\ Q (.int (if k then 1 else 0)) H) \/ ∃ x n, xs = [.str x] /\ PySem.intText? x = some n /\ x.length <= 640 /\ Q (.int n) H
theorem zbg : CallR X (.type "int") zhh := CallR.or zbB zb1
theorem zeV : z3j X Ex zhh z6C := by
 intro H hid μ O xs vs Q c d q
 unfold z6C at q
 split at q
 ·rename_i cs
  obtain ⟨v, rfl, dx⟩ := z2m d
  unfold Dat at dx; subst dx
  split at q
  ·rename_i n hn
   obtain ⟨hl, q⟩ := post.ite q
   refine .inr ⟨_, n, rfl, hn, ?_, post.here q c z0o⟩
   show cs.toArray.size <= 640
   simpa using hl
  ·exact False.elim q
 ·exact .inl (zgk H hid μ O _ vs Q c d q)
end
theorem Callee.self {P : Program} {w : World} {K : PySem.W.Frag} {mg : Str -> Option Value} {base : Heap} {k n : Nat} {x : Str} {F : List D -> Ow -> R D} (c : Callee P w K mg base x k n F) : Callee P w K mg base x k n F := c
section
variable {X : Cx} {Ex : Nat -> Hp -> Prop} {pos dpos : Pos} {e o i : Expr} {ti : DE} {σv : St} {H : Hp} {hid μ : List Addr} {O : Ow}
theorem zc7 : PDS X Ex (.Pass pos) z1l := z44 zfe fun hid μ σ O E σv H e1 c1 q => q σv H μ .refl e1 c1
def zff (tab : List (Int × Int)) : List (Key × V) := tab.map fun kv => (Sum.inl kv.1, V.int kv.2)
def zgh (tab : List (Int × Int)) (i : Int) : Option Int := match z9W (z3f [] (zff tab)) (Sum.inl i) with
 | some (.int v) => some v
 | _ => none
def ziy (at_ : List (Int × Int) -> Int -> Option Int) (tab : List (Int × Int)) (t : DE) : DE := fun σ O => (t σ O).bnd fun x O1 => match x with
 | .int i => match at_ tab i with
  | some v => .ok (.int v) O1
  | none => .bad
 | _ => .bad
def zge : List (Int × Int) -> DE -> DE := ziy zgh
theorem z43 {σ : St} {H : Hp} {Q : List (V × V) -> Hp -> Prop} : ∀ {tab : List (Int × Int)}, Q (tab.map fun kv => (V.int kv.1, V.int kv.2)) H -> z75 (tab.map fun kv => (tC (.int kv.1), tC (.int kv.2))) σ H Q
 | [], h => h
 | kv :: r, h => by
  show z75 (r.map fun kv => (tC (.int kv.1), tC (.int kv.2))) σ H fun ps H3 => Q ((V.int kv.1, V.int kv.2) :: ps) H3
  exact z43 (tab := r) h
theorem zgQ {keys : List (Option Expr)} {values : List Expr} {trs : List (TE × TE)} (tab : List (Int × Int)) (h : PPs X dpos keys values trs) (htr : trs = tab.map fun kv => (tC (.int kv.1), tC (.int kv.2))) (hall : keys.all (·.isSome) = true) (hl : keys.length = values.length) (h0 : keys ≠ []) (h15 : keys.length <= 15) (h15' : tab.length <= 15)
  (hu : X.A.units + 1 < cLine) (hi : PD X Ex i ti) (hs : ziC i) : PD X Ex (.Subscript (.Dict keys values dpos) i pos) (zge tab ti) :=
 z10 (zfh hu (zfd h hall hl h0 h15) hi.out hs) fun hid μ σ O σv H Q e1 c1 q => fun p hp => by
  subst htr
  refine z43 ⟨z0g, zff tab, by simp [zff, kV], by simpa [zff] using h15', ?_⟩
  rw [zfs]
  have x0 : Ext H μ (upd H p (.dK (z3f [] (zff tab)))) μ := .laid hp
  refine rd.go (e1.ext x0) (c1.laid hp) (post.ext q x0) fun d O1 v H1 μ1 e2 x1 c2 r p2 => ?_
  cases d with
  | int j =>
   unfold Dat at r; subst r
   have p2 : z0Y Ex X.K H1 hid μ1 (match zgh tab j with | some v => .ok (.int v) O1 | none => .bad) Q := p2
   cases et : zgh tab j with
   | none => rw [et] at p2; exact False.elim p2
   | some v =>
    rw [et] at p2
    have hv : z9W (z3f [] (zff tab)) (Sum.inl j) = some (.int v) := by
     unfold zgh at et
     split at et
     ·rename_i w hw; cases et; exact hw
     ·cases et
    refine ⟨p, .int v, rfl, .inl ⟨z3f [] (zff tab), Sum.inl j, .inl (x1.keep p _ z0g (c1.not_in hp).2), rfl, hv.symm⟩, post.here p2 c2 z0o⟩
  | _ => exact False.elim p2
def zjg : List DictEntry -> List (Int × Int) -> Bool
 | [], [] => true
 | e :: es, (k, v) :: r => (match e.key with | .int i _ => i == k | _ => false) && (e.hash == hashInt k) && (match e.val with | .int i _ => i == v | _ => false) && zjg es r
 | _, _ => false
def zjw (o : Obj) (tab : List (Int × Int)) : Bool := (match o.cls with | .type n => n == "dict" | _ => false) && o.dict.isNone && o.slots.isEmpty && decide ((tab.map (·.1)).Nodup) && (match o.data with | .dict es _ => zjg es.toList tab | _ => false)
structure zjO (K : PySem.W.Frag) (mg : Str -> Option Value) (x : Str) (tab : List (Int × Int)) : Prop where
 ex : ∃ e o, mg x = some (.ref e) /\ K.lookup e = some o /\ zjw o tab = true /\ (e == sysModules) = false
end
end DL
namespace DL
open PySem L2 PyProof.Rows
def z8Y : List D -> Option (List (List Nat))
 | [] => some []
 | .str cs :: r => (z8Y r).map (cs :: ·)
 | _ => none
section
variable {H : Hp} {hid μ : List Addr}
theorem z88 {K : PySem.W.Frag} : ∀ {ds : List D} {vs : List V} {ss : List (List Nat)}, Dats K H hid μ ds vs -> z8Y ds = some ss -> vs = ss.map fun cs => V.str ⟨cs.toArray⟩
 | [], vs, ys, h, e => by unfold Dats at h; subst h; cases e; rfl
 | d :: ds, vs, ys, h, e => by
  unfold Dats at h
  obtain ⟨v, r, rfl, h1, h2⟩ := h
  cases d with
  | str cs =>
   unfold z8Y at e
   cases q : z8Y ds with
   | none => rw [q] at e; cases e
   | some zs =>
    rw [q] at e; cases e
    unfold Dat at h1; subst h1
    rw [z88 h2 q]; rfl
  | _ => cases e
theorem zgc : bootBuiltins "len" = some (.builtin "len") := by boot_by_name
theorem zgD : bootBuiltins "all" = some (.builtin "all") := by boot_by_name
theorem zgA : bootBuiltins "any" = some (.builtin "any") := by boot_by_name
theorem zdE : bootBuiltins "int" = some (.type "int") := by boot_by_name
theorem zdF : bootBuiltins "str" = some (.type "str") := by boot_by_name
theorem z5w : bootBuiltins "tuple" = some (.type "tuple") := by boot_by_name
theorem z8e : bootBuiltins "list" = some (.type "list") := by boot_by_name
theorem zh5 : bootBuiltins "max" = some (.builtin "max") := by boot_by_name
theorem zhd : bootBuiltins "min" = some (.builtin "min") := by boot_by_name
theorem z2C : bootBuiltins "sorted" = some (.builtin "sorted") := by boot_by_name
theorem z0U : bootBuiltins "isinstance" = some (.builtin "isinstance") := by boot_by_name
theorem zeZ : bootBuiltins "bool" = some (.type "bool") := by boot_by_name
end
theorem fnD {P : Program} {w : World} {K : PySem.W.Frag} {mg : Str -> Option Value} {base : Heap} {k : Nat} {x : Str} {st : Stmt} {N ps : List Str} {t : DS} {f : Addr} {fd : FuncData} (F : L2.Fun K x x st f fd) (S : z0a N ps (z02 st))
  (hbody : ∀ (cdv : Value) (A : Around) (outer : List Env) (s : Shared) (H : Hp) (E : XK), Room k (A.deeper (PyProof.Rows.envOfC x (z02 st) s.heap.objs.size f cdv)) -> z7t (cx0 P w K mg base N x (z02 st) f cdv A outer s H E) Ex0 (z1G st) t) :
  FnOk P w K mg base CX0 (k + 1) f fd ps (DSp K Ec0 ps.length (z27 N.length t)) := by
 obtain ⟨oc, od, kV, doc, pm, an, cdv, ct, osl, rfl, lk, hcd⟩ := F.ex
 exact zhy lk hcd S fun A outer s H E hr => hbody cdv A outer s H E hr
theorem ziN {K : PySem.W.Frag} {F : List D -> Ow -> R D} {H : Hp} {a : Addr} {ns : List Int} (h : ∃ O, F [.lst (ns.map .int)] [] = .ok (.bl true) O) (sq : SqL K H a (ns.map V.int)) : DSp K Ec0 1 F [.ref a] H (fun v _ => v = .bl true) fun _ _ _ => False := by
 obtain ⟨O, h⟩ := h
 have dn : ∀ (l : List Int), Dats K H [] [] (l.map D.int) (l.map V.int) := fun l => by
  induction l with
  | nil => exact .nil
  | cons x r ih => exact .cons z0o ih
 refine ⟨rfl, [], [], [.lst (ns.map .int)], [], .cons ?_ .nil, ⟨rfl, by simp, by simp, by simp, fun k a e => by simp at e⟩, ?_⟩
 ·unfold Dat
  exact ⟨a, _, rfl, sq.imp (fun z => ⟨z, by simp, by simp⟩) id, dn ns⟩
 ·rw [h]
  intro v H' μ' _ _ r
  unfold Dat at r
  exact r
theorem walkD' {l : PySem.W.OpenLaw} {q : Program} {loose : List Str} {XP : (Str -> Option Value) -> Heap -> Prop} {YP : World -> Heap -> Prop} {d : DefRec} {K : Params -> PySem.W.Frag} {k : Nat} {x : Str} {F : List D -> Ow -> R D} (hn : l.most = some 63) (hdf : d.params.defaults = []) (hr : Room k callerA)
  (hY : ∀ (w : World) (h : Heap), YP w h -> (K w.params).In h)
  (hF : ∀ (w : World) (mg : Str -> Option Value) (fa : Addr) (h : Heap), (K w.params).In h -> h.Ns mainGlobals mg -> mg d.name = some (.ref fa) ->
   ∃ fd : FuncData, (∀ (s : Shared) (u : Value), BindsTo s fd ⟨[u], []⟩ [(x, u)]) /\ ∀ base : Heap, (K w.params).In base -> base.Ns mainGlobals mg -> FnOk l.prog w (K w.params) mg base CX0 k fa fd [x] (DSp (K w.params) Ec0 1 F))
  (pure_ : ∀ ns : List Int, ns.length <= 63 -> ∃ O, F [.lst (ns.map .int)] [] = .ok (.bl true) O) :
  PySem.W.WalkO q loose XP YP l.row.toRowW d [] (fun f vs => PySem.call f vs) :=
 L2.walk_of (n := 63) (k := k) (x := x) (CX := fun _ => CX0) (sp := fun w => DSp (K w.params) Ec0 1 F) hn (by decide) hdf hr hY hF (fun w H a ns hl _ hS => ziN (pure_ ns hl) hS) fun _ _ _ _ _ z => z
end DL
namespace DL
theorem zdV {α : Type} (pre ds : List α) (d : α) : (pre ++ d :: ds)[pre.length]? = some d := by simp
theorem z7i {step : D -> Ow -> List D -> R (List D)} {O : Ow} {g : D -> List D} : ∀ (ds pre acc : List D) (f : Nat), ds.length <= f -> (∀ d ∈ ds, ∀ acc : List D, acc.length < 100000 -> step d O acc = .ok (acc ++ g d) O) -> acc.length + (ds.flatMap g).length + ds.length < 100000 ->
  z0m (.val (pre ++ ds)) step f pre.length O acc = .ok (acc ++ ds.flatMap g) O
 | [], pre, acc, f, _, _, _ => by
  cases f <;> (unfold z0m; simp [Src.get])
 | d :: ds, pre, acc, 0, h, _, _ => by simp at h
 | d :: ds, pre, acc, f + 1, h, hs, hl => by
  unfold z0m
  have e : Src.get (.val (pre ++ d :: ds)) O pre.length = some d := zdV pre ds d
  rw [e]
  simp only [List.flatMap_cons, List.length_append, List.length_cons] at hl
  show ((step d O acc).bnd fun acc' O' => z0m (.val (pre ++ d :: ds)) step f (pre.length + 1) O' acc') = _
  rw [hs d List.mem_cons_self acc (by omega)]
  show z0m (.val (pre ++ d :: ds)) step f (pre.length + 1) O (acc ++ g d) = _
  have := z7i ds (pre ++ [d]) (acc ++ g d) f (by simpa using h) (fun d' h' => hs d' (List.mem_cons_of_mem _ h')) (by rw [List.length_append]; omega)
  rw [List.append_assoc, List.singleton_append, List.length_append, List.length_singleton] at this
  rw [this]; simp
theorem zht {ext : Nat} {it0 : DI} {i : Nat} {ts : List DT} {te : DE} {σ : Sg} {O : Ow} {ds : List D} {p : D -> Bool} {e : D -> D} (hi : it0 σ O = .ok (.val ds) O) (hl : ds.length < 50000)
  (hp : ∀ d ∈ ds, z55 ts ((clr (clr (σ ++ List.replicate ext none) [i]) [i]).set i (some d)) O = .ok (p d) O) (he : ∀ d ∈ ds, p d = true -> te ((clr (clr (σ ++ List.replicate ext none) [i]) [i]).set i (some d)) O = .ok (e d) O) (o : Bool) :
  z0n o ext it0 (.one i) ts [] te σ O = z7q o (.ok ((ds.filter p).map e) O) := by
 unfold z0n z2f
 rw [hi]
 show z7q o (noX (z0m (.val ds) _ ds.length 0 O [])) = _
 have step : ∀ d ∈ ds, ∀ acc : List D, acc.length < 100000 -> z4J ⟨it0, .one i, ts⟩ [] te (clr (σ ++ List.replicate ext none) (z07 [⟨it0, .one i, ts⟩])) d O acc = .ok (acc ++ (if p d = true then [e d] else [])) O := by
  intro d hd acc ha
  show (match Tg.put (.one i) d (clr (clr (σ ++ List.replicate ext none) [i]) [i]) with | some σ1 => (z55 ts σ1 O).bnd fun b O3 => if b = true then z1Y [] te σ1 O3 acc else .ok acc O3 | none => .bad) = _
  show (z55 ts ((clr (clr (σ ++ List.replicate ext none) [i]) [i]).set i (some d)) O).bnd _ = _
  rw [hp d hd]
  show (if p d = true then z1Y [] te _ O acc else .ok acc O) = _
  by_cases hpd : p d = true
  ·rw [if_pos hpd, if_pos hpd]
   unfold z1Y
   rw [he d hd hpd]
   show (if acc.length < 100000 then _ else _) = _
   rw [if_pos ha]
  ·rw [if_neg hpd, if_neg hpd]; simp
 have hb : ∀ l : List D, (l.flatMap fun d => if p d = true then [e d] else []) = (l.filter p).map e := by
  intro l
  induction l with
  | nil => rfl
  | cons x l ih =>
   rw [List.flatMap_cons, ih, List.filter_cons]
   by_cases hx : p x = true
   ·rw [if_pos hx, if_pos hx]; rfl
   ·rw [if_neg hx, if_neg hx]; rfl
 have hlen : ((ds.filter p).map e).length <= ds.length := by rw [List.length_map]; exact List.length_filter_le _ _
 have w := z7i (O := O) (g := fun d => if p d = true then [e d] else []) ds [] [] ds.length (Nat.le_refl _) step (by rw [hb]; simp at hlen ⊢; omega)
 rw [List.nil_append, hb, List.nil_append] at w
 have w' : z0m (.val ds) (z4J ⟨it0, .one i, ts⟩ [] te (clr (σ ++ List.replicate ext none) (z07 [⟨it0, .one i, ts⟩]))) ds.length 0 O [] = .ok ((ds.filter p).map e) O := w
 rw [w']; rfl
theorem z7h {ds : List D} {step : D -> Sg -> Ow -> RS} (I : Nat -> Sg -> Ow -> Prop) (h : ∀ i σ O d, I i σ O -> ds[i]? = some d -> ∃ σ' O', step d σ O = .nx σ' O' /\ I (i + 1) σ' O') :
  ∀ (f i : Nat) (σ : Sg) (O : Ow), I i σ O -> ds.length <= i + f -> i <= ds.length -> ∃ σ' O', z0L (.val ds) step f i σ O = .nx σ' O' /\ I ds.length σ' O'
 | 0, i, σ, O, hI, h1, h2 => by
  have : i = ds.length := by omega
  subst this
  refine ⟨σ, O, ?_, hI⟩
  unfold z0L
  have e : Src.get (.val ds) O ds.length = none := by simp [Src.get]
  rw [e]
 | f + 1, i, σ, O, hI, h1, h2 => by
  unfold z0L
  have eg : Src.get (.val ds) O i = ds[i]? := rfl
  rw [eg]
  cases e : ds[i]? with
  | none =>
   have : i = ds.length := by have := List.getElem?_eq_none_iff.mp e; omega
   subst this
   exact ⟨σ, O, rfl, hI⟩
  | some d =>
   obtain ⟨σ', O', e1, e2⟩ := h i σ O d hI e
   dsimp only
   rw [e1]
   exact z7h I h f (i + 1) σ' O' e2 (by omega) (by have := (List.getElem?_eq_some_iff.mp e).1; omega)
theorem z6P {ds : List D} {step : D -> Ow -> List D -> R (List D)} (I : Nat -> Ow -> List D -> Prop) (h : ∀ i O acc d, I i O acc -> ds[i]? = some d -> ∃ acc' O', step d O acc = .ok acc' O' /\ I (i + 1) O' acc') :
  ∀ (f i : Nat) (O : Ow) (acc : List D), I i O acc -> ds.length <= i + f -> i <= ds.length -> ∃ acc' O', z0m (.val ds) step f i O acc = .ok acc' O' /\ I ds.length O' acc'
 | 0, i, O, acc, hI, h1, h2 => by
  have : i = ds.length := by omega
  subst this
  refine ⟨acc, O, ?_, hI⟩
  unfold z0m
  have e : Src.get (.val ds) O ds.length = none := by simp [Src.get]
  rw [e]
 | f + 1, i, O, acc, hI, h1, h2 => by
  unfold z0m
  have eg : Src.get (.val ds) O i = ds[i]? := rfl
  rw [eg]
  cases e : ds[i]? with
  | none =>
   have : i = ds.length := by have := List.getElem?_eq_none_iff.mp e; omega
   subst this
   exact ⟨acc, O, rfl, hI⟩
  | some d =>
   obtain ⟨acc', O', e1, e2⟩ := h i O acc d hI e
   dsimp only
   rw [e1]
   exact z6P I h f (i + 1) O' acc' e2 (by omega) (by have := (List.getElem?_eq_some_iff.mp e).1; omega)
def z5V (n : Nat) : D -> Bool
 | .own k => decide (k < n)
 | .lst _ => false
 | .tup _ => false
 | .map _ _ => false
 | _ => true
def z2o (O : Ow) : Prop := ∀ c ∈ O, ∀ d ∈ c, z5V O.length d = true
theorem z3k {O : Ow} {n f : Nat} {d : D} (h : z5V n d = true) : frz O n f d = some d := by
 cases d with
 | own k =>
  have h : k < n := by simpa [z5V] using h
  cases f <;> (unfold frz; dsimp only; rw [if_pos h])
 | lst ds => cases h
 | tup ds => cases h
 | map _ _ => cases h
 | _ => cases f <;> rfl
theorem z2F {α : Type} {f : α -> Option α} : ∀ {l : List α}, (∀ x ∈ l, f x = some x) -> z1j f l = some l
 | [], _ => rfl
 | x :: l, h => by
  unfold z1j
  rw [h x List.mem_cons_self, z2F fun y hy => h y (List.mem_cons_of_mem _ hy)]
theorem zak {O' : Ow} {d : D} {cs : List D} (hO : ∀ c ∈ O', ∀ d ∈ c, z5V O'.length d = true) (X : Ow) (h : frz (O' ++ X) O'.length 8 d = some (.lst cs)) : za4 O'.length (.ok d (O' ++ X)) = .ok (.lst cs) O' := by
 unfold za4
 dsimp only
 rw [h]
 have : (O' ++ X).take O'.length = O' := by simp
 rw [this, z2F fun c hc => z2F fun d hd => z3k (hO c hc d hd)]
section
variable {σ σ' : Sg} {O O1 O2 : Ow} {t u ta tb : DE} {tA : DA} {x y : D} {b : Bool} {ds : List D}
theorem z0b (h : t σ O = .ok x O1) : z00 t z03 σ O = .ok [x] O1 := by show ((t σ O).bnd _) = _; rw [h]; rfl
theorem z0e (h1 : t σ O = .ok x O1) (h2 : u σ O1 = .ok y O2) : z00 t (z00 u z03) σ O = .ok [x, y] O2 := by
 show ((t σ O).bnd _) = _
 rw [h1]
 show ((z00 u z03 σ O1).bnd _) = _
 rw [z0b h2]; rfl
theorem z2I (h1 : t σ O = .ok x O1) (h2 : tA σ O1 = .ok ds O2) : z00 t tA σ O = .ok (x :: ds) O2 := by
 show ((t σ O).bnd _) = _
 rw [h1]
 show ((tA σ O1).bnd _) = _
 rw [h2]; rfl
theorem z7m {n : Nat} {F : List D -> Ow -> R D} (h : tA σ O = .ok ds O1) (hn : ds.length = n) : dFn n F tA σ O = F ds O1 := by show ((tA σ O).bnd _) = _; rw [h]; show (if ds.length = n then _ else _) = _; rw [if_pos hn]
theorem z13 {f : Ow -> List D -> R D} (h : tA σ O = .ok ds O1) : z0c f tA σ O = f O1 ds := by show ((tA σ O).bnd _) = _; rw [h]; rfl
theorem z0f {f : Ow -> D -> D -> R D} (h1 : ta σ O = .ok x O1) (h2 : tb σ O1 = .ok y O2) : dOp f ta tb σ O = f O2 x y := by
 show ((ta σ O).bnd _) = _
 rw [h1]
 show ((tb σ O1).bnd _) = _
 rw [h2]; rfl
theorem z0k (h : t σ O = .ok (.bl b) O1) : z0z t σ O = .ok b O1 := by show ((t σ O).bnd _) = _; rw [h]; rfl
theorem z0E (h : t σ O = .ok (.bl b) O1) : z1s t σ O = .ok b O1 := by show ((t σ O).bnd _) = _; rw [h]; rfl
theorem z1F {c : DT} (h : c σ O = .ok b O1) : z1o c σ O = .ok (!b) O1 := by show ((c σ O).bnd _) = _; rw [h]; rfl
theorem z1N (h : t σ O = .ok (.lst ds) O1) : dIt t σ O = .ok (.val ds) O1 := by show ((t σ O).bnd _) = _; rw [h]; rfl
theorem z4F (h : t σ O = .ok (.tup ds) O1) : dIt t σ O = .ok (.val ds) O1 := by show ((t σ O).bnd _) = _; rw [h]; rfl
theorem z34 {i : Nat} (h : t σ O = .ok x O1) : z0W i t σ O = .nx (σ.set i (some x)) O1 := by show ((t σ O).bnS _) = _; rw [h]; rfl
theorem z0u (h : t σ O = .ok x O1) : z0B t σ O = .rt x O1 := by show ((t σ O).bnS _) = _; rw [h]; rfl
theorem z4m (h : t σ O = .ok x O1) : z1e t σ O = .nx σ O1 := by show ((t σ O).bnS _) = _; rw [h]; rfl
theorem z1f {c : DT} {a d : DS} (h : c σ O = .ok b O1) : sIf c a d σ O = if b = true then a σ O1 else d σ O1 := by show ((c σ O).bnS _) = _; rw [h]; rfl
theorem z0j {a d : DS} (h : a σ O = .nx σ' O1) : z0i a d σ O = d σ' O1 := by show (match a σ O with | .nx σ' O' => _ | r => r) = _; rw [h]
theorem z3V {a d : DS} (h : a σ O = .rt x O1) : z0i a d σ O = .rt x O1 := by show (match a σ O with | .nx σ' O' => _ | r => r) = _; rw [h]
theorem z65 {it : DI} {g : Tg} {body : DS} {src : Src} (h : it σ O = .ok src O1) : z4T it g body σ O = z0L src (fun d σ O => match g.put d σ with | some σ' => body σ' O | none => .bad) (src.size O1) 0 σ O1 := by show ((it σ O).bnS _) = _; rw [h]; rfl
theorem z1S {n : Nat} (h : tA σ O = .ok [.int (n : Nat)] O1) (hn : n < 100000) : z24 tA σ O = .ok (.val ((List.range n).map fun (i : Nat) => D.int (i : Int))) O1 := by
 have hc : -1000000 <= ((n : Nat) : Int) /\ ((n : Nat) : Int) <= 1000000 := by constructor <;> omega
 unfold z24
 rw [h]
 dsimp only [R.bnd]
 rw [if_pos hc]
 unfold zdo
 have e2 : (((n : Nat) : Int) - 0).toNat = n := by omega
 rw [e2]
 congr 2
 refine List.map_congr_left fun i _ => ?_
 rw [Int.zero_add]
theorem z8x {cs : List Nat} (h : cs.length <= 100000) : z2p O [.str cs] = .ok (.int cs.length) O := by
 show (if cs.length <= 100000 then R.ok (D.int cs.length) O else R.bad) = _
 rw [if_pos h]
theorem zee {cs : List Nat} {i : Nat} (h : cs.length <= 100000) (hi : i < cs.length) : fIx O (.str cs) (.int (i : Int)) = .ok (.str [cs[i]]) O := by
 show (if cs.length <= 100000 then (match L2.atI cs (i : Int) with | some ch => R.ok (D.str [ch]) O | none => R.bad) else R.bad) = _
 rw [if_pos h, L2.atI_nat (List.getElem?_eq_getElem hi)]
theorem zb9 {i : Nat} (hi : i < ds.length) : fIx O (.tup ds) (.int (i : Int)) = .ok ds[i] O := by
 show (match L2.atI ds (i : Int) with | some d => R.ok d O | none => R.bad) = _
 rw [L2.atI_nat (List.getElem?_eq_getElem hi)]
theorem zas {i : Nat} (hi : i < ds.length) : fIx O (.lst ds) (.int (i : Int)) = .ok ds[i] O := by
 show (match L2.atI ds (i : Int) with | some d => R.ok d O | none => R.bad) = _
 rw [L2.atI_nat (List.getElem?_eq_getElem hi)]
end
theorem z8O (O : Ow) (n : Nat) : ∀ l : List Int, z1j (z2k O n) (l.map D.int) = some (l.map PySem.PyData.int)
 | [] => rfl
 | x :: l => by
  have e : z2k O n (.int x) = some (.int x) := by cases n <;> rfl
  show z1j (z2k O n) (D.int x :: l.map D.int) = _
  unfold z1j
  rw [e, z8O O n l]; rfl
theorem zgj (O : Ow) (l : List Int) : fPy eqF O (.lst (l.map D.int)) (.lst []) = .ok (.bl l.isEmpty) O := by
 unfold fPy py
 have e : z2k O 8 (.lst (l.map D.int)) = some (.list (l.map PySem.PyData.int)) := by
  show (z1j (z2k O 7) (l.map D.int)).map PySem.PyData.list = _
  rw [z8O]; rfl
 rw [e]
 cases l <;> rfl
theorem z8H {α : Type} {src : Src} {step : D -> Ow -> List D -> R (List D)} {O : Ow} {inj : α -> D} {g : α -> List D} {all : List α} (hg : ∀ i, src.get O i = (all.map inj)[i]?) : ∀ (ds pre : List α) (acc : List D) (f : Nat), all = pre ++ ds -> ds.length <= f ->
  (∀ a ∈ ds, ∀ acc : List D, acc.length < 100000 -> step (inj a) O acc = .ok (acc ++ g a) O) -> acc.length + (ds.flatMap g).length + ds.length < 100000 -> z0m src step f pre.length O acc = .ok (acc ++ ds.flatMap g) O
 | [], pre, acc, f, ha, _, _, _ => by
  have e : src.get O pre.length = none := by rw [hg, ha]; simp
  cases f <;> (unfold z0m; rw [e]; simp)
 | d :: ds, pre, acc, 0, _, h, _, _ => by simp at h
 | d :: ds, pre, acc, f + 1, ha, h, hs, hl => by
  unfold z0m
  have e : src.get O pre.length = some (inj d) := by rw [hg, ha]; simp
  rw [e]
  simp only [List.flatMap_cons, List.length_append, List.length_cons] at hl
  show ((step (inj d) O acc).bnd fun acc' O' => z0m src step f (pre.length + 1) O' acc') = _
  rw [hs d List.mem_cons_self acc (by omega)]
  show z0m src step f (pre.length + 1) O (acc ++ g d) = _
  have := z8H hg ds (pre ++ [d]) (acc ++ g d) f (by rw [ha]; simp) (by simpa using h) (fun d' h' => hs d' (List.mem_cons_of_mem _ h')) (by rw [List.length_append]; omega)
  rw [List.length_append, List.length_singleton] at this
  rw [this]; simp
theorem z1L {α β : Type} (p : α -> Bool) (e : α -> β) : ∀ l : List α, (l.flatMap fun d => if p d = true then [e d] else []) = (l.filter p).map e
 | [] => rfl
 | x :: l => by
  rw [List.flatMap_cons, z1L p e l, List.filter_cons]
  by_cases hx : p x = true
  ·rw [if_pos hx, if_pos hx]; rfl
  ·rw [if_neg hx, if_neg hx]; rfl
theorem z37 {α : Type} {ext : Nat} {it0 : DI} {g : Tg} {ts : List DT} {te : DE} {σ : Sg} {O O0 : Ow} {src : Src} {l : List α} {inj : α -> D} {p : α -> Bool} {e : α -> D} {τ : α -> Sg} {o : Bool} (hi : it0 σ O0 = .ok src O) (hg : ∀ i, src.get O i = (l.map inj)[i]?) (hsz : src.size O = l.length) (hl : l.length < 50000)
  (hτ : ∀ a ∈ l, g.put (inj a) (clr (clr (σ ++ List.replicate ext none) (g.slots ++ [])) (g.slots ++ [])) = some (τ a)) (hp : ∀ a ∈ l, z55 ts (τ a) O = .ok (p a) O) (he : ∀ a ∈ l, p a = true -> te (τ a) O = .ok (e a) O) :
  z0n o ext it0 g ts [] te σ O0 = z7q o (.ok ((l.filter p).map e) O) := by
 unfold z0n z2f
 rw [hi]
 show z7q o (noX (z0m src _ (src.size O) 0 O [])) = _
 have step : ∀ a ∈ l, ∀ acc : List D, acc.length < 100000 -> z4J ⟨it0, g, ts⟩ [] te (clr (σ ++ List.replicate ext none) (z07 [⟨it0, g, ts⟩])) (inj a) O acc = .ok (acc ++ (if p a = true then [e a] else [])) O := by
  intro a ha acc hacc
  show (match g.put (inj a) (clr (clr (σ ++ List.replicate ext none) (g.slots ++ [])) (g.slots ++ [])) with | some σ1 => (z55 ts σ1 O).bnd fun b O3 => if b = true then z1Y [] te σ1 O3 acc else .ok acc O3 | none => .bad) = _
  rw [hτ a ha]
  show (z55 ts (τ a) O).bnd _ = _
  rw [hp a ha]
  show (if p a = true then z1Y [] te _ O acc else .ok acc O) = _
  by_cases hpd : p a = true
  ·rw [if_pos hpd, if_pos hpd]
   unfold z1Y
   rw [he a ha hpd]
   show (if acc.length < 100000 then _ else _) = _
   rw [if_pos hacc]
  ·rw [if_neg hpd, if_neg hpd]; simp
 have hlen : ((l.filter p).map e).length <= l.length := by rw [List.length_map]; exact List.length_filter_le _ _
 have w := z8H (O := O) (inj := inj) (g := fun d => if p d = true then [e d] else []) hg l [] [] l.length rfl (Nat.le_refl _) step (by rw [z1L]; simp at hlen ⊢; omega)
 rw [z1L, List.nil_append] at w
 have w' : z0m src (z4J ⟨it0, g, ts⟩ [] te (clr (σ ++ List.replicate ext none) (z07 [⟨it0, g, ts⟩]))) (src.size O) 0 O [] = .ok ((l.filter p).map e) O := by rw [hsz]; exact w
 rw [w']; rfl
section
variable {α : Type} {ext : Nat} {it0 : DI} {i : Nat} {t : DT} {te : DE} {σ : Sg} {O O0 : Ow} {l : List α} {inj : α -> D} {p : α -> Bool} {e : α -> D} {τ : α -> Sg} {o : Bool}
theorem z5F {σ : Sg} {O : Ow} {b : Bool} (h : t σ O = .ok b O) : z55 [t] σ O = .ok b O := by
 show ((t σ O).bnd _) = _
 rw [h]; cases b <;> rfl
theorem z39 (hi : it0 σ O0 = .ok (.val (l.map inj)) O) (hl : l.length < 50000) (hτ : ∀ a, (clr (clr (σ ++ List.replicate ext none) [i]) [i]).set i (some (inj a)) = τ a) (hp : ∀ a ∈ l, t (τ a) O = .ok (p a) O) (he : ∀ a ∈ l, p a = true -> te (τ a) O = .ok (e a) O) :
  z0n o ext it0 (.one i) [t] [] te σ O0 = z7q o (.ok ((l.filter p).map e) O) :=
 z37 (g := .one i) hi (fun _ => rfl) (by show (l.map inj).length = _; simp) hl (fun a _ => congrArg some (hτ a)) (fun a ha => z5F (hp a ha)) he
theorem zcx (hi : it0 σ O0 = .ok (.val (l.map inj)) O) (hl : l.length < 50000) (hτ : ∀ a, (clr (clr (σ ++ List.replicate ext none) [i]) [i]).set i (some (inj a)) = τ a) (he : ∀ a ∈ l, te (τ a) O = .ok (e a) O) :
  z0n o ext it0 (.one i) [] [] te σ O0 = z7q o (.ok (l.map e) O) := by
 have := z37 (o := o) (g := .one i) (ts := []) (p := fun _ => true) (te := te) hi (fun _ => rfl) (by show (l.map inj).length = _; simp) hl (fun a _ => congrArg some (hτ a)) (fun a ha => rfl) fun a ha _ => he a ha
 rw [this, List.filter_eq_self.mpr (fun _ _ => rfl)]
end
theorem z4r {α : Type} {it : DI} {i : Nat} {body : DS} {σ : Sg} {O0 O : Ow} {l : List α} {inj : α -> D} (hi : it σ O0 = .ok (.val (l.map inj)) O) (I : Nat -> Sg -> Ow -> Prop) (h : ∀ (k : Nat) a σ O, l[k]? = some a -> I k σ O -> ∃ σ' O', body (σ.set i (some (inj a))) O = .nx σ' O' /\ I (k + 1) σ' O') (h0 : I 0 σ O) :
  ∃ σ' O', z4T it (.one i) body σ O0 = .nx σ' O' /\ I l.length σ' O' := by
 obtain ⟨σ', O', l1, l2⟩ := z7h (ds := l.map inj) (step := fun d σ O => match Tg.put (.one i) d σ with | some σ' => body σ' O | none => .bad) I (fun j σ O d hI hd => by
  rw [List.getElem?_map] at hd
  cases e : l[j]? with
  | none => rw [e] at hd; cases hd
  | some a =>
   rw [e] at hd; cases hd
   exact h j a σ O e hI) (l.map inj).length 0 σ O h0 (by simp) (Nat.zero_le _)
 rw [List.length_map] at l2
 exact ⟨σ', O', (z65 hi).trans l1, l2⟩
theorem z68 : ∀ l : List Bool, bls (l.map D.bl) = some l
 | [] => rfl
 | x :: l => by
  show (bls (l.map D.bl)).map (x :: ·) = _
  rw [z68 l]; rfl
theorem zbU {α : Type} (O : Ow) (l : List α) (p : α -> Bool) : zgd O [.lst (l.map fun a => D.bl (p a))] = .ok (.bl (l.any p)) O := by
 show (match bls (l.map fun a => D.bl (p a)) with | some bs => R.ok (D.bl (bs.any id)) O | none => R.bad) = _
 have : (l.map fun a => D.bl (p a)) = (l.map p).map D.bl := by rw [List.map_map]; rfl
 rw [this, z68]
 show R.ok (D.bl _) O = _
 rw [List.any_map]; rfl
theorem z3y {α : Type} (O : Ow) (l : List α) (p : α -> Bool) : zaB O [.lst (l.map fun a => D.bl (p a))] = .ok (.bl (l.all p)) O := by
 show (match bls (l.map fun a => D.bl (p a)) with | some bs => R.ok (D.bl (bs.all id)) O | none => R.bad) = _
 have : (l.map fun a => D.bl (p a)) = (l.map p).map D.bl := by rw [List.map_map]; rfl
 rw [this, z68]
 show R.ok (D.bl _) O = _
 rw [List.all_map]; rfl
end DL
namespace DL
open PySem L2
structure XAt (h0 : Heap) (H : Hp) (h : Heap) (a : Addr) (C : Value) : Prop where
 ex : ∃ oe vs, h.get? a = some oe /\ (oe.cls = C /\ oe.dict = none) /\ oe.data = .fields vs /\ 1 < vs.size /\ (vs[1]? = some .none \/ ∃ T oT ts, vs[1]? = some (.ref T) /\ T ≠ a /\ h0.get? T = none /\ H T = none /\ h.get? T = some oT /\ oT.data = .fields ts /\ ts[3]? = some .none)
 new : h0.get? a = none
 free : H a = none
structure Kp (h0 : Heap) (H : Hp) (fs : List Addr) (h h' : Heap) : Prop where
 keep : ∀ b o, h.get? b = some o -> b ∉ fs -> (H b ≠ none \/ h0.get? b ≠ none) -> h'.get? b = some o
 slot : ∀ b o, h.get? b = some o -> b ∈ fs -> ∃ sl, h'.get? b = some { o with slots := sl }
 there : ∀ b o, h.get? b = some o -> ∃ o', h'.get? b = some o'
 size : h.objs.size <= h'.objs.size
open PyProof.Rows (AllBare)
def CXr (P : Program) (w : World) (Cl : Nat -> Value) : CXT := fun outer H s E e s' => ∃ a c H', e = .ref a /\ s'.os = s.os /\ AllBare s'.gens /\ Un (frs outer) [] H H' s.heap s'.heap /\ HOk P w H' s'.heap /\ XAt s.heap H' s'.heap a (Cl c) /\ E (Cl c) none H'
abbrev Xk (Cl : Nat -> Value) (E : XK) : Nat -> Hp -> Prop := fun c H => E (Cl c) none H
section
end
structure ziv (Cl : Nat -> Value) (P : Program) (w : World) (K : PySem.W.Frag) (mg : Str -> Option Value) (base : Heap) (x : Str) (k n : Nat) (F : List D -> Ow -> R D) : Prop where
 ex : ∃ f fd ps, mg x = some (.ref f) /\ PySem.W.keepIn K (.ref f) = true /\ Binds K fd ps [] /\ FnOk P w K mg base (CXr P w Cl) k f fd ps (DSp K (Xk Cl) n F)
open PyProof.Rows (AllBare IntsAre)
structure zjH (mg : Str -> Option Value) (base : Heap) (c Pt : Addr) : Prop where
 hd : PySem.W.CodeHd base c Pt
 bl : base.BuiltinsAt mg Pt
section
end
section
end
section
variable {h0 : Heap} {H : Hp}
theorem Kp.refl {h : Heap} {fs : List Addr} : Kp h0 H fs h h := ⟨fun _ _ e _ _ => e, fun b o e _ => ⟨o.slots, e⟩, fun _ o e => ⟨o, e⟩, Nat.le_refl _⟩
theorem Kp.trans {h h1 h2 : Heap} {fs : List Addr} (x : Kp h0 H fs h h1) (y : Kp h0 H fs h1 h2) : Kp h0 H fs h h2 :=
 ⟨fun b o e n k => y.keep b o (x.keep b o e n k) n k, fun b o e n => by
  obtain ⟨sl, e1⟩ := x.slot b o e n
  obtain ⟨sl', e2⟩ := y.slot b _ e1 n
  exact ⟨sl', e2⟩, fun b o e => by
  obtain ⟨o1, e1⟩ := x.there b o e
  exact y.there b o1 e1, Nat.le_trans x.size y.size⟩
end
section
end
section
end
section
end
section
end
structure zjR (nf n y xT : Str) (p0 p1 p2 p3 p5 p6 p7 pq pc : Pos) (kc) : Prop where
 hfd : (nf == ("__debug__" : Str)) = false := by decide
 hfcd : (nf == ("__classdict__" : Str)) = false := by decide
 hnd : (n == ("__debug__" : Str)) = false := by decide
 hncd : (n == ("__classdict__" : Str)) = false := by decide
 hTd : (xT == ("__debug__" : Str)) = false := by decide
 hs0 : ∀ env : Env, swapsWith (.Call (.Name nf p1) [] [] p2) none p3.line env = pure false := by intro _; rfl
 hsA : ∀ env : Env, swapsWith (.Constant .none kc pc) (some (.Name y pq)) p0.line env = pure false := by intro _; rfl
 hs : ∀ env : Env, swapsWithSole [.Name y p5] (.Name n p6) p7.line env = pure false := by intro _; rfl
 hw : ∀ env : Env, swappedStores [.Name y p5] (.Name n p6) env = pure none := by intro _; rfl
section
end
section
end
section
end
section
end
structure zhV (out sc : Scope) : Prop where
 kind : sc.kind = .function
 co : sc.isCoroutine = false
 gen : sc.isGenerator = false
 nd : (sc.names.map (·.1)).Nodup
 cell : ∀ x ∈ sc.names, x.2 ≠ .cell
 loc : ∀ x ∈ sc.names, x.2 ≠ .local
 frees : ∀ y ∈ sc.names, y.2 = .free -> out.names.lookup y.1 = some .cell \/ out.names.lookup y.1 = some .free
section
end
section
variable {X : Cx} {Ex : Nat -> Hp -> Prop}
def z7c : Ow -> D -> D -> R D := fun O x y => match x, y with
 | .str [c], .int i => if 0 <= i /\ i <= 16 then .ok (.str (List.replicate i.toNat c)) O else .bad
 | _, _ => .bad
theorem z6m (c : Nat) : ∀ (k : Nat) (acc : List Nat), (List.replicate k (#[c] : Array Nat)).foldl (· ++ ·) acc.toArray = (acc ++ List.replicate k c).toArray
 | 0, acc => by simp
 | k + 1, acc => by
  rw [List.replicate_succ, List.foldl_cons]
  have e : acc.toArray ++ #[c] = (acc ++ [c]).toArray := by simp
  rw [e, z6m c k]
  rw [List.replicate_succ]
  simp
theorem zf7 (c : Nat) (i : Int) : Txt.mul (⟨#[c]⟩ : Str) i = ⟨(List.replicate i.toNat c).toArray⟩ := by
 unfold Txt.mul
 by_cases h1 : i < 1
 ·rw [if_pos h1]
  have : i.toNat = 0 := by omega
  rw [this]; rfl
 ·rw [if_neg h1]
  by_cases h2 : i = 1
  ·subst h2; rfl
  ·have h3 : (i == 1 || (⟨#[c]⟩ : Str).length == 0) = false := by
    have : (i == 1) = false := by simpa using h2
    rw [this]; rfl
   rw [if_neg (by rw [h3]; decide)]
   have := z6m c i.toNat []
   simp only [List.nil_append] at this
   rw [this]
theorem zex : OpR X (binaryOp .Mult) (fun x y H Q => ∃ c i, x = .str ⟨#[c]⟩ /\ y = .int i /\ 0 <= i /\ i <= 16 /\ Q (.str ⟨(List.replicate i.toNat c).toArray⟩) H) := by
 intro pins s σ H x y v u Q I rx ry h
 obtain ⟨c, i, rfl, rfl, h0, h1, q⟩ := h
 obtain ⟨t, rfl⟩ := rx
 obtain ⟨t', rfl⟩ := ry
 refine SB.mul ?_ fun tk k => ⟨.str (Txt.mul ⟨#[c]⟩ i), H, I.tok k, ⟨_, rfl⟩, by rw [zf7]; exact q⟩
 refine ⟨?_, fun h2 h3 => ?_, fun h2 h3 => ?_⟩
 ·have a1 : decide (i < -(2 ^ 63 : Int)) = false := by simp; omega
  have a2 : decide (i ≥ 2 ^ 63) = false := by simp; omega
  rw [a1, a2]; rfl
 ·have e : ((⟨#[c]⟩ : Str).length : Int) = 1 := rfl
  rw [e]
  have : (1 : Int) <= (2 ^ 63 - 1) / i := by
   rw [Int.le_ediv_iff_mul_le (by omega)]
   omega
  omega
 ·have e : (⟨#[c]⟩ : Str).length * i.toNat = i.toNat := by
   show 1 * _ = _
   omega
  rw [e]
  have : i.toNat <= 16 := by omega
  generalize i.toNat = n at this
  revert n
  decide
theorem zbK : OpD X Ex (fun x y H Q => ∃ c i, x = .str ⟨#[c]⟩ /\ y = .int i /\ 0 <= i /\ i <= 16 /\ Q (.str ⟨(List.replicate i.toNat c).toArray⟩) H) z7c := by
 intro H hid μ O x y v w Q c dx dy q
 unfold z7c at q
 split at q
 ·rename_i cc i
  unfold Dat at dx dy; subst dx; subst dy
  obtain ⟨hl, q⟩ := post.ite q
  refine ⟨cc, i, rfl, rfl, hl.1, hl.2, post.here q c ?_⟩
  unfold Dat; rfl
 ·exact False.elim q
end
structure Inner (P : Program) (w : World) (ia : Addr) (fp : List Addr) (n : Nat) (Pv : Nat -> Value -> Prop) (Sx : Nat -> Heap -> Prop) : Prop where
 stab : ∀ i h h', Sx i h -> (∀ b ∈ ia :: fp, ∀ o, h.get? b = some o -> h'.get? b = some o) -> Sx i h'
 item : ∀ (A : Around) (i : Nat) (s : Shared) (Q : Value -> Shared -> Prop) (E : Value -> Shared -> Prop), i < n -> Sx i s.heap -> (∀ v h' tk, Pv i v -> Sx (i + 1) h' -> Heap.SameBut ia s.heap h' -> Q v { s with heap := h', toks := tk }) -> wpAny (model P w) A (Builtin.SmallTypes.nextOf (.ref ia)) Q E s
 done : ∀ (A : Around) (i : Nat) (s : Shared) (Q : Value -> Shared -> Prop) (E : Value -> Shared -> Prop), A.handled = none -> n <= i -> Sx i s.heap -> (∀ h' e, Heap.ExtBut ia s.heap h' -> (∃ o, h'.get? e = some o /\ o.cls = .type "StopIteration") -> E (.ref e) { s with heap := h' }) -> wpAny (model P w) A (Builtin.SmallTypes.nextOf (.ref ia)) Q E s
section
variable {P : Program} {w : World} {A : Around} {E : Value -> Shared -> Prop} {s : Shared}
theorem z8z {α : Type} {Q : α -> Shared -> Prop} (hh : A.handled = none) (h : ∀ h' e, (∀ b o, s.heap.get? b = some o -> h'.get? b = some o) -> (∃ o, h'.get? e = some o /\ o.cls = .type "StopIteration") -> E (.ref e) { s with heap := h' }) :
  wpAny (model P w) A (newExc (.type "StopIteration") [] >>= fun e => (raiseNew e : Sem α)) Q E s := by
 refine wpAny_bind ?_
 simp only [newExc, newTuple]
 refine wpAny_bind (wpAny_newObj_type (?_) (by size_fits))
 refine wpAny_bind (m := firstArgMember _ _) (wpAny_of_eq (a := .none) (by first | rfl | (simp only [firstArgMember]; rfl)) (wpAny_newObj_type ?_ (by size_fits)))
 simp only [raiseNew]
 refine wpAny_bind (wpAny_handled ?_); rw [hh]
 refine wpAny_bind (wpAny_pure (wpAny_throw (h _ _ (fun b o e => Heap.get?_push_of_some _ (Heap.get?_push_of_some _ e)) ⟨_, Heap.get?_push_size _ rfl, rfl⟩)))
theorem za8 (ia tt : Addr) (items : Array Value) (hne : tt ≠ ia) : Inner P w ia [tt] items.size (fun i v => items[i]? = some v) (fun i h => h.IsTupleIter ia tt i /\ h.IsTuple tt items) where
 stab := by
  rintro i h h' ⟨⟨o, e, c, d⟩, ⟨o2, e2, r⟩⟩ k
  exact ⟨⟨o, k ia (by simp) o e, c, d⟩, ⟨o2, k tt (by simp) o2 e2, r⟩⟩
 item := by
  rintro A i s Q E hi ⟨hit, htt⟩ hq
  obtain ⟨ob, hob, hcl, hda⟩ := id hit
  obtain ⟨ol, hol, k1, nl, hdl⟩ := id htt
  have hxx : items[i]? = some items[i] := Array.getElem?_eq_getElem hi
  unfold Builtin.SmallTypes.nextOf
  refine wpAny_bind (wpAny_callSpecial?_slot (name := "__next__") hit.typeIs F.slot_tuple_iterator_next (wpAny_call_entry F.slot_tuple_iterator_next hit.typeIs F.entry_tuple_iterator_next ?_ (F.args_tuple_iterator_next_1 _)))
  show wpAny _ _ (field (.ref ia) 0 >>= _) _ _ s
  refine wpAny_bind (wpAny_field hob hda (x := .ref tt) rfl ?_)
  show wpAny _ _ (if (Value.ref tt == Value.none) = true then _ else _) _ _ s
  rw [if_neg (by exact Bool.false_ne_true)]
  show wpAny _ _ (field (.ref ia) 1 >>= _) _ _ s
  refine wpAny_bind (wpAny_field hob hda (x := .int i 0) rfl ?_)
  show wpAny _ _ (seqItems? (.ref tt) >>= _) _ _ s
  refine wpAny_bind (wpAny_seqItems hol hdl ?_)
  simp only [Int.toNat_natCast, hxx]
  refine wpAny_bind (wpAny_setField hob hda (by simp) (wpAny_pure ⟨_, rfl, wpAny_pure (hq _ _ s.toks hxx ⟨?_, ?_⟩ (Heap.SameBut.update ..))⟩))
  ·exact ⟨_, Heap.get?_update_self _ hob (Obj.isFreed_of_fields (Obj.data_mapFields hda _)), (Obj.cls_mapFields ..).trans hcl, by rw [Obj.data_mapFields hda]; simp [rawInt]⟩
  ·exact ⟨ol, (Heap.SameBut.update ..).extBut _ _ hne hol, k1, nl, hdl⟩
 done := by
  rintro A i s Q E hh hi ⟨hit, htt⟩ hq
  obtain ⟨ob, hob, hcl, hda⟩ := id hit
  obtain ⟨ol, hol, k1, nl, hdl⟩ := id htt
  have hxx : items[i]? = none := by simp [hi]
  unfold Builtin.SmallTypes.nextOf
  refine wpAny_bind (wpAny_callSpecial?_slot (name := "__next__") hit.typeIs F.slot_tuple_iterator_next (wpAny_call_entry F.slot_tuple_iterator_next hit.typeIs F.entry_tuple_iterator_next ?_ (F.args_tuple_iterator_next_1 _)))
  show wpAny _ _ (field (.ref ia) 0 >>= _) _ _ s
  refine wpAny_bind (wpAny_field hob hda (x := .ref tt) rfl ?_)
  show wpAny _ _ (if (Value.ref tt == Value.none) = true then _ else _) _ _ s
  rw [if_neg (by exact Bool.false_ne_true)]
  show wpAny _ _ (field (.ref ia) 1 >>= _) _ _ s
  refine wpAny_bind (wpAny_field hob hda (x := .int i 0) rfl ?_)
  show wpAny _ _ (seqItems? (.ref tt) >>= _) _ _ s
  refine wpAny_bind (wpAny_seqItems hol hdl ?_)
  simp only [Int.toNat_natCast, hxx]
  refine wpAny_bind (wpAny_rule (wpAny_bind (wpAny_setField hob hda (by simp) ?_)))
  refine z8z (by first | exact hh | (show A.in1.handled = none; exact hh)) fun h' e k he => hq h' e (fun b o hb z => k b o ((Heap.SameBut.update ..).extBut _ _ hb z)) he
theorem zbb (ia : Addr) (x : Str) (t : Tok) : Inner P w ia [] x.cps.size (fun i v => ∃ c tk, x.cps[i]? = some c /\ v = .str ⟨#[c]⟩ tk) (fun i h => h.IsStrIter ia "str_ascii_iterator" x t i) where
 stab := by
  rintro i h h' ⟨o, e, c, d⟩ k
  exact ⟨o, k ia (by simp) o e, c, d⟩
 item := by
  rintro A i s Q E hi hit hq
  obtain ⟨ob, hob, hcl, hda⟩ := id hit
  have hxx : x.cps[i]? = some x.cps[i] := Array.getElem?_eq_getElem hi
  unfold Builtin.SmallTypes.nextOf
  refine wpAny_bind (wpAny_callSpecial?_slot (name := "__next__") hit.typeIs F.slot_str_ascii_iterator_next (wpAny_call_entry F.slot_str_ascii_iterator_next hit.typeIs F.entry_str_ascii_iterator_next ?_ (F.args_str_ascii_iterator_next_1 _)))
  show wpAny _ _ (field (.ref ia) 0 >>= _) _ _ s
  refine wpAny_bind (wpAny_field hob hda (x := .str x t) rfl ?_)
  show wpAny _ _ (field (.ref ia) 1 >>= _) _ _ s
  refine wpAny_bind (wpAny_field hob hda (x := .int i 0) rfl ?_)
  simp only [Int.toNat_natCast, hxx]
  refine wpAny_bind (wpAny_setField hob hda (by simp) (wpAny_bind (wpAny_mkStr (wpAny_pure ⟨_, rfl, wpAny_pure (hq _ _ _ ⟨_, _, hxx, rfl⟩ ?_ (Heap.SameBut.update ..))⟩) (by show 1 <= sizeLine; decide))))
  exact ⟨_, Heap.get?_update_self _ hob (Obj.isFreed_of_fields (Obj.data_mapFields hda _)), (Obj.cls_mapFields ..).trans hcl, by rw [Obj.data_mapFields hda]; simp [rawInt]⟩
 done := by
  rintro A i s Q E hh hi hit hq
  obtain ⟨ob, hob, hcl, hda⟩ := id hit
  have hxx : x.cps[i]? = none := by simp [hi]
  unfold Builtin.SmallTypes.nextOf
  refine wpAny_bind (wpAny_callSpecial?_slot (name := "__next__") hit.typeIs F.slot_str_ascii_iterator_next (wpAny_call_entry F.slot_str_ascii_iterator_next hit.typeIs F.entry_str_ascii_iterator_next ?_ (F.args_str_ascii_iterator_next_1 _)))
  show wpAny _ _ (field (.ref ia) 0 >>= _) _ _ s
  refine wpAny_bind (wpAny_field hob hda (x := .str x t) rfl ?_)
  show wpAny _ _ (field (.ref ia) 1 >>= _) _ _ s
  refine wpAny_bind (wpAny_field hob hda (x := .int i 0) rfl ?_)
  simp only [Int.toNat_natCast, hxx]
  refine wpAny_bind (wpAny_rule (wpAny_bind (wpAny_setField hob hda (by simp) (wpAny_bind (wpAny_letGo ?_)))))
  refine z8z (by first | exact hh | (show A.in1.handled = none; exact hh)) fun h' e k he => hq h' e (fun b o hb z => k b o ((Heap.SameBut.update ..).extBut _ _ hb z)) he
theorem zbu (ia l : Addr) (items : Array Value) (hne : l ≠ ia) : Inner P w ia [l] items.size (fun i v => items[i]? = some v) (fun i h => h.IsListIter ia l i /\ h.IsList l items) where
 stab := by
  rintro i h h' ⟨⟨o, e, c, d⟩, ⟨o2, e2, r⟩⟩ k
  exact ⟨⟨o, k ia (by simp) o e, c, d⟩, ⟨o2, k l (by simp) o2 e2, r⟩⟩
 item := by
  rintro A i s Q E hi ⟨hit, hl⟩ hq
  obtain ⟨ol, hol, r⟩ := id hl
  exact wpAny_nextOf_list_item hit hl (Array.getElem?_eq_getElem hi) fun h' st sb => hq _ h' s.toks (Array.getElem?_eq_getElem hi) ⟨st, ⟨ol, sb.extBut _ _ hne hol, r⟩⟩ sb
 done := by
  rintro A i s Q E hh hi ⟨hit, hl⟩ hq
  exact wpAny_nextOf_list_end hh hit hl (by simp [hi]) fun h' e eb he => hq h' e eb he
end
structure ZAp (z ti to : Addr) (i1 i2 : Addr) (fp1 fp2 : List Addr) : Prop where
 a1 : ti ≠ z
 a2 : to ≠ z
 a3 : ti ≠ to
 b1 : ∀ b ∈ i1 :: fp1, b ≠ z /\ b ≠ to
 b2 : ∀ b ∈ i2 :: fp2, b ≠ z /\ b ≠ to
 c1 : i1 ∉ i2 :: fp2
 c2 : i2 ∉ i1 :: fp1
 d1 : ti ≠ i1
 d2 : ti ≠ i2
section
variable {P : Program} {w : World} {A : Around} {E : Value -> Shared -> Prop} {s : Shared} {z ti to i1 i2 : Addr} {fp1 fp2 : List Addr} {n1 n2 k : Nat} {P1 P2 : Nat -> Value -> Prop} {S1 S2 : Nat -> Heap -> Prop} {a b : Value}
theorem Inner.but {ia c : Addr} {fp : List Addr} {n i : Nat} {Pv : Nat -> Value -> Prop} {Sx : Nat -> Heap -> Prop} {h h' : Heap} (J : Inner P w ia fp n Pv Sx) (x : Sx i h) (e : Heap.ExtBut c h h') (hc : ∀ b ∈ ia :: fp, b ≠ c) : Sx i h' := J.stab i h h' x fun b hb o z => e b o (hc b hb) z
theorem zei {Q : Value -> Shared -> Prop} (J1 : Inner P w i1 fp1 n1 P1 S1) (J2 : Inner P w i2 fp2 n2 P2 S2) (D : ZAp z ti to i1 i2 fp1 fp2) (hz : IsZip s.heap z ti to .none) (hti : IsPair s.heap ti (.ref i1) (.ref i2)) (hto : IsPair s.heap to a b) (h1 : S1 k s.heap) (h2 : S2 k s.heap) (l1 : k < n1) (l2 : k < n2)
  (hq : ∀ x y h' tk, P1 k x -> P2 k y -> IsZip h' z ti to (rawInt s.heap.objs.size) -> IsPair h' to x y -> S1 (k + 1) h' -> S2 (k + 1) h' -> IsPair h' s.heap.objs.size x y ->
   (∀ c o, c ≠ z -> c ≠ to -> c ≠ i1 -> c ≠ i2 -> s.heap.get? c = some o -> h'.get? c = some o) -> Q (.ref s.heap.objs.size) { s with heap := h', toks := tk }) :
  wpAny (model P w) A (Builtin.«zip.__next__» ⟨[.ref z], []⟩) (fun f s' => ∃ v, f = .done (.ret v) /\ Q v s') E s := by
 have ne1 : ∀ b ∈ i1 :: fp1, b ≠ z := fun b hb => (D.b1 b hb).1
 have ne2 : ∀ b ∈ i2 :: fp2, b ≠ z := fun b hb => (D.b2 b hb).1
 have no1 : ∀ b ∈ i1 :: fp1, b ≠ to := fun b hb => (D.b1 b hb).2
 have no2 : ∀ b ∈ i2 :: fp2, b ≠ to := fun b hb => (D.b2 b hb).2
 have n21 : ∀ b ∈ i2 :: fp2, b ≠ i1 := fun b hb e => D.c1 (e ▸ hb)
 have n12 : ∀ b ∈ i1 :: fp1, b ≠ i2 := fun b hb e => D.c2 (e ▸ hb)
 have m1 : i1 ∈ i1 :: fp1 := List.mem_cons_self
 have m2 : i2 ∈ i2 :: fp2 := List.mem_cons_self
 show wpAny _ _ (field (.ref z) 2 >>= _) _ _ s
 refine wpAny_bind (wpAny_field hz rfl (x := (.bool false)) rfl ?_)
 show wpAny _ _ (field (.ref z) 3 >>= _) _ _ s
 refine wpAny_bind (wpAny_field hz rfl (x := (.ref ti)) rfl (wpAny_bind (wpAny_seqItems hti rfl ?_)))
 show wpAny _ _ (Builtin.SmallTypes.ownedTupleIsFree (.ref z) >>= _) _ _ s
 refine wpAny_bind ?_; unfold Builtin.SmallTypes.ownedTupleIsFree
 refine wpAny_bind (wpAny_field hz rfl (x := (.none)) rfl (wpAny_pure ?_))
 simp only [if_true]; refine wpAny_bind (wpAny_rule (wpAny_bind (wpAny_field hz rfl (x := (.ref to)) rfl ?_)))
 refine wpAny_bind (wpAny_setField_rec hz (by simp) fun ha za sa => ?_)
 have za : IsZip ha z ti to .ellipsis := za
 refine wpAny_bind ?_; simp only [List.zipIdx_cons, List.zipIdx_nil, List.forIn_cons, List.forIn_nil]
 refine wpAny_bind (wpAny_bind (wpAny_onRaise ?_)); show wpAny _ _ (Builtin.SmallTypes.nextOf (.ref i1) >>= _) _ _ _
 refine wpAny_bind (J1.item _ k _ _ _ l1 (J1.but h1 sa.extBut ne1) fun x hb tk1 px sb1 sb => wpAny_pure ?_)
 have tob : IsPair hb to a b := sb.extBut _ _ (Ne.symm (no1 _ m1)) (sa.extBut _ _ D.a2 hto)
 refine wpAny_bind (wpAny_seqItems tob rfl (wpAny_bind (wpAny_updateSeq_pair tob fun hc toc sc => ?_)))
 have toc : IsPair hc to x b := toc
 refine wpAny_bind (wpAny_letGo (wpAny_pure (wpAny_bind (wpAny_bind (wpAny_onRaise ?_))))); show wpAny _ _ (Builtin.SmallTypes.nextOf (.ref i2) >>= _) _ _ _
 refine wpAny_bind (J2.item _ k _ _ _ l2 (J2.but (J2.but (J2.but h2 sa.extBut ne2) sb.extBut n21) sc.extBut no2) fun y hd tk2 py sd2 sd => wpAny_pure ?_)
 have tod : IsPair hd to x b := sd.extBut _ _ (Ne.symm (no2 _ m2)) toc
 refine wpAny_bind (wpAny_seqItems tod rfl (wpAny_bind (wpAny_updateSeq_pair tod fun he toe se => ?_)))
 have toe : IsPair he to x y := toe
 refine wpAny_bind (wpAny_letGo (wpAny_pure (wpAny_pure (wpAny_bind (wpAny_seqItems toe rfl (wpAny_bind (wpAny_newTuple ?_)))))))
 have hsz : he.objs.size = s.heap.objs.size := by rw [se.1, sd.1, sc.1, sb.1, sa.1]
 have ze : IsZip he z ti to .ellipsis := se.extBut _ _ (Ne.symm D.a2) (sd.extBut _ _ (Ne.symm (ne2 _ m2)) (sc.extBut _ _ (Ne.symm D.a2) (sb.extBut _ _ (Ne.symm (ne1 _ m1)) za)))
 have ke : ∀ c o, c ≠ z -> c ≠ to -> c ≠ i1 -> c ≠ i2 -> s.heap.get? c = some o -> he.get? c = some o := fun c o q1 q2 q3 q4 e => se.extBut _ _ q2 (sd.extBut _ _ q4 (sc.extBut _ _ q2 (sb.extBut _ _ q3 (sa.extBut _ _ q1 e))))
 have s1e : S1 (k + 1) he := J1.but (J1.but (J1.but sb1 sc.extBut no1) sd.extBut n12) se.extBut no1
 have s2e : S2 (k + 1) he := J2.but sd2 se.extBut no2
 have zlt : z < he.objs.size := Heap.lt_size ze
 show wpAny _ _ (Builtin.SmallTypes.ownedTupleHandOut (.ref z) (.ref he.objs.size) >>= _) _ _ _
 refine wpAny_bind ?_; unfold Builtin.SmallTypes.ownedTupleHandOut
 have zf : IsZip (he.push { cls := .type "tuple", data := .seq #[x, y] }) z ti to .ellipsis := Heap.get?_push_of_some _ ze
 refine wpAny_bind (wpAny_setField_rec zf (by simp) fun hg zg sg => ?_)
 have zg : IsZip hg z ti to (rawInt he.objs.size) := zg
 refine wpAny_setField_rec zg (by simp) fun hi zi si => ?_
 have zi : IsZip hi z ti to (rawInt he.objs.size) := zi
 have up : ∀ c o, c ≠ z -> he.get? c = some o -> hi.get? c = some o := fun c o q e => si.extBut _ _ q (sg.extBut _ _ q (Heap.get?_push_of_some _ e))
 have pi : IsPair hi he.objs.size x y := si.extBut _ _ (Nat.ne_of_gt zlt) (sg.extBut _ _ (Nat.ne_of_gt zlt) (Heap.get?_push_size _ rfl))
 rw [hsz] at zi pi
 refine wpAny_pure ⟨_, rfl, ?_⟩
 show Q (.ref he.objs.size) _
 rw [hsz]
 exact hq x y hi _ px py zi (up _ _ D.a2 toe) (J1.stab _ _ _ s1e fun b hb o e => up b o (ne1 b hb) e) (J2.stab _ _ _ s2e fun b hb o e => up b o (ne2 b hb) e) pi fun c o q1 q2 q3 q4 e => up c o q1 (ke c o q1 q2 q3 q4 e)
theorem zf6 {Q : Fin -> Shared -> Prop} (hh : A.handled = none) (J1 : Inner P w i1 fp1 n1 P1 S1) (J2 : Inner P w i2 fp2 n2 P2 S2) (D : ZAp z ti to i1 i2 fp1 fp2) (hz : IsZip s.heap z ti to .none) (hti : IsPair s.heap ti (.ref i1) (.ref i2)) (hto : IsPair s.heap to a b) (h1 : S1 k s.heap) (h2 : S2 k s.heap) (hend : n1 <= k \/ (k < n1 /\ n2 <= k))
  (hE : ∀ h' tk e, (∀ c o, c ≠ z -> c ≠ to -> c ≠ i1 -> c ≠ i2 -> s.heap.get? c = some o -> h'.get? c = some o) -> (∃ o, h'.get? e = some o /\ o.cls = .type "StopIteration") -> E (.ref e) { s with heap := h', toks := tk }) :
  wpAny (model P w) A (Builtin.«zip.__next__» ⟨[.ref z], []⟩) Q E s := by
 have ne1 : ∀ b ∈ i1 :: fp1, b ≠ z := fun b hb => (D.b1 b hb).1
 have ne2 : ∀ b ∈ i2 :: fp2, b ≠ z := fun b hb => (D.b2 b hb).1
 have no1 : ∀ b ∈ i1 :: fp1, b ≠ to := fun b hb => (D.b1 b hb).2
 have no2 : ∀ b ∈ i2 :: fp2, b ≠ to := fun b hb => (D.b2 b hb).2
 have n21 : ∀ b ∈ i2 :: fp2, b ≠ i1 := fun b hb e => D.c1 (e ▸ hb)
 have m1 : i1 ∈ i1 :: fp1 := List.mem_cons_self
 have m2 : i2 ∈ i2 :: fp2 := List.mem_cons_self
 show wpAny _ _ (field (.ref z) 2 >>= _) _ _ s
 refine wpAny_bind (wpAny_field hz rfl (x := (.bool false)) rfl ?_)
 show wpAny _ _ (field (.ref z) 3 >>= _) _ _ s
 refine wpAny_bind (wpAny_field hz rfl (x := (.ref ti)) rfl (wpAny_bind (wpAny_seqItems hti rfl ?_)))
 show wpAny _ _ (Builtin.SmallTypes.ownedTupleIsFree (.ref z) >>= _) _ _ s
 refine wpAny_bind ?_; unfold Builtin.SmallTypes.ownedTupleIsFree
 refine wpAny_bind (wpAny_field hz rfl (x := (.none)) rfl (wpAny_pure ?_))
 simp only [if_true]; refine wpAny_bind (wpAny_rule (wpAny_bind (wpAny_field hz rfl (x := (.ref to)) rfl ?_)))
 refine wpAny_bind (wpAny_setField_rec hz (by simp) fun ha za sa => ?_)
 have za : IsZip ha z ti to .ellipsis := za
 refine wpAny_bind ?_; simp only [List.zipIdx_cons, List.zipIdx_nil, List.forIn_cons, List.forIn_nil]
 refine wpAny_bind (wpAny_bind (wpAny_onRaise ?_)); show wpAny _ _ (Builtin.SmallTypes.nextOf (.ref i1) >>= _) _ _ _
 have far : ∀ {h : Heap} {e : Addr}, IsZip h z ti to .ellipsis -> (∃ o, h.get? e = some o /\ o.cls = .type "StopIteration") -> e ≠ z := fun {h e} hz ⟨o, ho, hc⟩ q => by subst q; rw [hz] at ho; cases ho; simp at hc
 rcases hend with hend | ⟨l1, hend⟩
 ·refine wpAny_bind (J1.done _ k _ _ _ hh hend (J1.but h1 sa.extBut ne1) fun hb e eb he => ?_)
  have zb : IsZip hb z ti to .ellipsis := eb _ _ (Ne.symm (ne1 _ m1)) za
  have nz := far zb he
  obtain ⟨oe, hoe, hce⟩ := he
  exact wpAny_setField_rec zb (by simp) fun hc _ sc => hE hc _ e (fun c o q1 _ q3 _ x => sc.extBut _ _ q1 (eb _ _ q3 (sa.extBut _ _ q1 x))) ⟨oe, sc.extBut _ _ nz hoe, hce⟩
 ·refine wpAny_bind (J1.item _ k _ _ _ l1 (J1.but h1 sa.extBut ne1) fun x hb tk1 px sb1 sb => wpAny_pure ?_)
  have tob : IsPair hb to a b := sb.extBut _ _ (Ne.symm (no1 _ m1)) (sa.extBut _ _ D.a2 hto)
  refine wpAny_bind (wpAny_seqItems tob rfl (wpAny_bind (wpAny_updateSeq_pair tob fun hc toc sc => ?_)))
  refine wpAny_bind (wpAny_letGo (wpAny_pure (wpAny_bind (wpAny_bind (wpAny_onRaise ?_))))); show wpAny _ _ (Builtin.SmallTypes.nextOf (.ref i2) >>= _) _ _ _
  refine wpAny_bind (J2.done _ k _ _ _ hh hend (J2.but (J2.but (J2.but h2 sa.extBut ne2) sb.extBut n21) sc.extBut no2) fun hd e eb he => ?_)
  have zd : IsZip hd z ti to .ellipsis := eb _ _ (Ne.symm (ne2 _ m2)) (sc.extBut _ _ (Ne.symm D.a2) (sb.extBut _ _ (Ne.symm (ne1 _ m1)) za))
  have nz := far zd he
  obtain ⟨oe, hoe, hce⟩ := he
  exact wpAny_setField_rec zd (by simp) fun hf _ sf => hE hf _ e (fun c o q1 q2 q3 q4 x => sf.extBut _ _ q1 (eb _ _ q4 (sc.extBut _ _ q2 (sb.extBut _ _ q3 (sa.extBut _ _ q1 x))))) ⟨oe, sf.extBut _ _ nz hoe, hce⟩
theorem zen {Q : Option Value -> Shared -> Prop} (J1 : Inner P w i1 fp1 n1 P1 S1) (J2 : Inner P w i2 fp2 n2 P2 S2) (D : ZAp z ti to i1 i2 fp1 fp2) (hz : IsZip s.heap z ti to .none) (hti : IsPair s.heap ti (.ref i1) (.ref i2)) (hto : IsPair s.heap to a b) (h1 : S1 k s.heap) (h2 : S2 k s.heap) (l1 : k < n1) (l2 : k < n2)
  (hq : ∀ x y h' tk, P1 k x -> P2 k y -> IsZip h' z ti to (rawInt s.heap.objs.size) -> IsPair h' to x y -> S1 (k + 1) h' -> S2 (k + 1) h' -> IsPair h' s.heap.objs.size x y ->
   (∀ c o, c ≠ z -> c ≠ to -> c ≠ i1 -> c ≠ i2 -> s.heap.get? c = some o -> h'.get? c = some o) -> Q (some (.ref s.heap.objs.size)) { s with heap := h', toks := tk }) : wpAny (model P w) A (pyNext (.ref z)) Q E s := by
 have ht : s.TypeIs (.ref z) "zip" := ⟨_, hz, rfl⟩
 unfold pyNext
 exact wpAny_bind (wpAny_attempt (wpAny_callSpecial?_slot (name := "__next__") ht F.slot_zip_next (wpAny_call_entry F.slot_zip_next ht F.entry_zip_next (zei J1 J2 D hz hti hto h1 h2 l1 l2 fun x y h' tk q1 q2 q3 q4 q5 q6 q7 q8 => wpAny_pure (hq x y h' tk q1 q2 q3 q4 q5 q6 q7 q8)) (F.args_zip_next_1 _))))
theorem zhF {Q : Option Value -> Shared -> Prop} (hh : A.handled = none) (J1 : Inner P w i1 fp1 n1 P1 S1) (J2 : Inner P w i2 fp2 n2 P2 S2) (D : ZAp z ti to i1 i2 fp1 fp2) (hz : IsZip s.heap z ti to .none) (hti : IsPair s.heap ti (.ref i1) (.ref i2)) (hto : IsPair s.heap to a b) (h1 : S1 k s.heap) (h2 : S2 k s.heap) (hend : n1 <= k \/ (k < n1 /\ n2 <= k))
  (hq : ∀ h' tk, (∀ c o, c ≠ z -> c ≠ to -> c ≠ i1 -> c ≠ i2 -> s.heap.get? c = some o -> h'.get? c = some o) -> Q none { s with heap := h', toks := tk }) : wpAny (model P w) A (pyNext (.ref z)) Q E s := by
 have ht : s.TypeIs (.ref z) "zip" := ⟨_, hz, rfl⟩
 unfold pyNext
 refine wpAny_bind (wpAny_attempt (wpAny_callSpecial?_slot (name := "__next__") ht F.slot_zip_next (wpAny_call_entry F.slot_zip_next ht F.entry_zip_next (zf6 hh J1 J2 D hz hti hto h1 h2 hend fun h' tk e hk he => ?_) (F.args_zip_next_1 _))))
 obtain ⟨oe, ho, hc⟩ := he
 exact wpAny_bind (wpAny_isInstance (T := "StopIteration") (b := true) ⟨oe, ho, hc⟩ isSubtype_stop (wpAny_pure (hq _ tk hk)))
end
inductive ZK where
 | tup (t : Addr) (items : Array Value)
 | str (x : Str) (t : Tok)
 | lst (l : Addr) (items : Array Value)
def ZK.val : ZK -> Value
 | .tup t _ => .ref t
 | .str x t => .str x t
 | .lst l _ => .ref l
def ZK.obj : ZK -> Obj
 | .tup t _ => { cls := .type "tuple_iterator", data := .fields #[.ref t, .int 0 0] }
 | .str x t => { cls := .type "str_ascii_iterator", data := .fields #[.str x t, .int 0 0] }
 | .lst l _ => { cls := .type "list_iterator", data := .fields #[.ref l, .int 0 0] }
def ZK.pre (h : Heap) : ZK -> Prop
 | .tup t items => h.IsTuple t items
 | .str x _ => x.cps.all (· < 128) = true
 | .lst l items => h.IsList l items
theorem ZK.keep {h h' : Heap} (k : ∀ b o, h.get? b = some o -> h'.get? b = some o) : ∀ (q : ZK), q.pre h -> q.pre h'
 | .tup t items, ⟨o, e, r⟩ => ⟨o, k _ _ e, r⟩
 | .str x t, e => e
 | .lst l items, ⟨o, e, r⟩ => ⟨o, k _ _ e, r⟩
theorem ZK.iter {P : Program} {w : World} {A : Around} {E : Value -> Shared -> Prop} {s : Shared} {Q : Value -> Shared -> Prop} (q : ZK) (h : q.pre s.heap) (hq : Q (.ref s.heap.objs.size) { s with heap := s.heap.push q.obj }) : wpAny (model P w) A (pyIter q.val) Q E s := by
 cases q with
 | tup t items => exact wpAny_pyIter_tuple h hq
 | str x t => exact wpAny_pyIter_ascii h hq
 | lst l items => exact wpAny_pyIter_list h hq
abbrev zH (h : Heap) (a b : ZK) : Heap := (((((h.push a.obj).push b.obj).push { cls := .type "tuple", data := .seq #[.ref h.objs.size, .ref (h.push a.obj).objs.size] }).push { cls := .type "tuple", data := .seq #[.none, .none] }).push
 { cls := .type "zip", data := .fields #[.none, .bool false, .bool false, .ref ((h.push a.obj).push b.obj).objs.size, .ref (((h.push a.obj).push b.obj).push { cls := .type "tuple", data := .seq #[.ref h.objs.size, .ref (h.push a.obj).objs.size] }).objs.size] })
abbrev zA (h : Heap) (a b : ZK) : Addr := ((((h.push a.obj).push b.obj).push { cls := .type "tuple", data := .seq #[.ref h.objs.size, .ref (h.push a.obj).objs.size] }).push { cls := .type "tuple", data := .seq #[.none, .none] }).objs.size
theorem zeC (a b : ZK) (va vb : Value) (ea : a.val = va) (eb : b.val = vb) : Meets (Builtin.«zip.__new__» ⟨[.type "zip", va, vb], []⟩) (fun _ R s => a.pre s.heap /\ b.pre s.heap /\ R (.ok (.ret (.ref (zA s.heap a b)))) { s with heap := zH s.heap a b }) :=
 .of_wp fun P w A R s h => by
  obtain ⟨hp, g, d, tk, os⟩ := s; obtain ⟨h1, h2, h⟩ := h
  have hsub := sub_zip
  have i1 : ∀ {E : Value -> Shared -> Prop} {Q : Value -> Shared -> Prop}, Q (.ref hp.objs.size) ⟨hp.push a.obj, g, d, tk, os⟩ -> wpAny (model P w) A.in1 (pyIter va) Q E ⟨hp, g, d, tk, os⟩ := fun {E Q} hq => by rw [<- ea]; exact a.iter (s := ⟨hp, g, d, tk, os⟩) h1 hq
  have h2' : b.pre (hp.push a.obj) := b.keep (fun c o e => Heap.get?_push_of_some _ e) h2
  have i2 : ∀ {E : Value -> Shared -> Prop} {Q : Value -> Shared -> Prop}, Q (.ref (hp.push a.obj).objs.size) ⟨(hp.push a.obj).push b.obj, g, d, tk, os⟩ -> wpAny (model P w) A.in1 (pyIter vb) Q E ⟨hp.push a.obj, g, d, tk, os⟩ := fun {E Q} hq => by rw [<- eb]; exact b.iter (s := ⟨hp.push a.obj, g, d, tk, os⟩) h2' hq
  wp_walk using i1, i2
  exact ⟨_, rfl, h⟩
section
variable {P : Program} {w : World} {A : Around} {E : Value -> Shared -> Prop} {s : Shared}
theorem zbe (a b : ZK) {Q : Value -> Shared -> Prop} (ha : a.pre s.heap) (hb : b.pre s.heap)
  (h : ∀ h', IsZip h' (s.heap.objs.size + 4) (s.heap.objs.size + 2) (s.heap.objs.size + 3) .none -> IsPair h' (s.heap.objs.size + 2) (.ref s.heap.objs.size) (.ref (s.heap.objs.size + 1)) -> IsPair h' (s.heap.objs.size + 3) .none .none ->
   h'.get? s.heap.objs.size = some a.obj -> h'.get? (s.heap.objs.size + 1) = some b.obj -> (∀ c o, s.heap.get? c = some o -> h'.get? c = some o) -> Q (.ref (s.heap.objs.size + 4)) { s with heap := h' }) :
  wpAny (model P w) A (call (.type "zip") [a.val, b.val]) Q E s := by
 refine callType_new F.called_zip (by decide) (F.typeCall_zip_2 _ _) (F.newCall_zip_2 _ _) (fun obj => F.args_object_init_3 obj _ _) F.entry_zip_new (zeC a b _ _ rfl rfl) ⟨ha, hb, ?_⟩
 have fa : a.obj.isFreed = false := by cases a <;> rfl
 have fb : b.obj.isFreed = false := by cases b <;> rfl
 have e1 : (s.heap.push a.obj).objs.size = s.heap.objs.size + 1 := Heap.size_push ..
 have e2 : ((s.heap.push a.obj).push b.obj).objs.size = s.heap.objs.size + 2 := by rw [Heap.size_push, e1]
 have e3 : (((s.heap.push a.obj).push b.obj).push { cls := .type "tuple", data := .seq #[.ref s.heap.objs.size, .ref (s.heap.push a.obj).objs.size] }).objs.size = s.heap.objs.size + 3 := by rw [Heap.size_push, e2]
 have e4 : zA s.heap a b = s.heap.objs.size + 4 := by show Array.size _ = _; rw [Heap.size_push, e3]
 have g5 : (zH s.heap a b).get? (zA s.heap a b) = some _ := Heap.get?_push_size _ rfl
 have g4 : (zH s.heap a b).get? (((s.heap.push a.obj).push b.obj).push { cls := .type "tuple", data := .seq #[.ref s.heap.objs.size, .ref (s.heap.push a.obj).objs.size] }).objs.size = some _ := Heap.get?_push_of_some _ (Heap.get?_push_size _ rfl)
 have g3 : (zH s.heap a b).get? ((s.heap.push a.obj).push b.obj).objs.size = some _ := Heap.get?_push_of_some _ (Heap.get?_push_of_some _ (Heap.get?_push_size _ rfl))
 have g2 : (zH s.heap a b).get? (s.heap.push a.obj).objs.size = some _ := Heap.get?_push_of_some _ (Heap.get?_push_of_some _ (Heap.get?_push_of_some _ (Heap.get?_push_size _ fb)))
 have g1 : (zH s.heap a b).get? s.heap.objs.size = some _ := Heap.get?_push_of_some _ (Heap.get?_push_of_some _ (Heap.get?_push_of_some _ (Heap.get?_push_of_some _ (Heap.get?_push_size _ fa))))
 show _ /\ _
 rw [e2, e3, e4] at g5
 rw [e3] at g4
 rw [e1, e2] at g3
 rw [e1] at g2
 rw [e4]
 exact ⟨⟨_, g5, rfl⟩, h _ g5 g3 g4 g1 g2 fun c o x => Heap.get?_push_of_some _ (Heap.get?_push_of_some _ (Heap.get?_push_of_some _ (Heap.get?_push_of_some _ (Heap.get?_push_of_some _ x))))⟩
end
def Held (X : Cx) (H : Hp) (h : Heap) (b : Addr) : Prop := H b ≠ none \/ ∃ o, X.base.get? b = some o
theorem Held.far {X : Cx} {pins : List (Addr × Obj)} {σ : St} {H : Hp} {s : Shared} {b q : Addr} (I : L2.Inv X pins σ H s) (x : Held X H s.heap b) (f : z6b X pins H q) : b ≠ q := by
 rintro rfl
 rcases x with x | ⟨o, e⟩
 ·exact x f.1
 ·rcases f.2.2.2.1 with z | z
  ·exact I.ok.noex b o e z
  ·exact absurd (Nat.lt_of_lt_of_le (Heap.lt_size e) I.ok.bsz) (Nat.not_lt.mpr z)
structure zel (P : Program) (w : World) (K : PySem.W.Frag) (J : It) (ia : Addr) (S : Nat -> Heap -> Prop) : Prop where
 obj : ∀ i h, S i h -> ∃ o, h.get? ia = some o /\ ∀ v, o.data ≠ .cell v
 keep : ∀ i h h', S i h -> (∀ o, h.get? ia = some o -> h'.get? ia = some o) -> S i h'
 got : ∀ (X : Cx), X.prog = P -> X.w = w -> X.K = K -> ∀ (i : Nat) (pins : List (Addr × Obj)) (s : Shared) (σ : St) (H : Hp), L2.Inv X pins σ H s -> z6b X pins H ia -> S i s.heap -> (J.go i H \/ J.stop i H) ->
  ∃ fp n Pv Sx, Inner P w ia fp n Pv Sx /\ Sx i s.heap /\ (∀ j h, Sx j h -> S j h) /\ (J.go i H -> i < n) /\ (J.stop i H -> n <= i) /\ (∀ v, Pv i v -> ∃ x, RelV x v /\ J.yld i H x H) /\ ∀ b ∈ fp, Held X H s.heap b
section
variable {P : Program} {w : World} {K : PySem.W.Frag}
theorem zdw {X : Cx} {pins : List (Addr × Obj)} {σ : St} {H : Hp} {s : Shared} {a : Addr} {xs : List V} (I : L2.Inv X pins σ H s) (h : SqT X.K H a xs) : Held X H s.heap a := by
 rcases h with h | ⟨o, its, n, hk, _⟩
 ·exact .inl (by rcases h with h | ⟨_, h⟩ <;> (rw [h]; simp))
 ·exact .inr ⟨o, I.ok.mod.kin a o hk⟩
theorem zds {X : Cx} {pins : List (Addr × Obj)} {σ : St} {H : Hp} {s : Shared} {a : Addr} {xs : List V} (I : L2.Inv X pins σ H s) (h : SqL X.K H a xs) : Held X H s.heap a := by
 rcases h with h | ⟨o, its, n, hk, _⟩
 ·exact .inl (by rcases h with h | ⟨_, h⟩ <;> (rw [h]; simp))
 ·exact .inr ⟨o, I.ok.mod.kin a o hk⟩
theorem z4Y {xs : List V} {its : List Value} {i : Nat} {v : Value} (r : Vals xs its) (e : its[i]? = some v) : ∃ x, xs[i]? = some x /\ RelV x v := by
 have hl := r.length
 have hi : i < xs.length := by have := (List.getElem?_eq_some_iff.mp e).1; omega
 obtain ⟨u, g1, g2⟩ := r.get (List.getElem?_eq_getElem hi)
 rw [e] at g1; cases g1
 exact ⟨_, List.getElem?_eq_getElem hi, g2⟩
theorem zhM (a ia : Addr) : zel P w K (Itt K a) ia (fun i h => h.IsTupleIter ia a i) where
 obj := fun i h ⟨o, e, c, d⟩ => ⟨o, e, fun v z => by rw [d] at z; cases z⟩
 keep := fun i h h' ⟨o, e, c, d⟩ k => ⟨o, k o e, c, d⟩
 got := by
  intro X hP hw hK i pins s σ H I hf st hg
  subst hP hw hK
  have hs : ∃ xs, SqT X.K H a xs := by
   rcases hg with ⟨xs, x, h, _⟩ | ⟨xs, h, _⟩ <;> exact ⟨xs, h⟩
  obtain ⟨xs, hq⟩ := hs
  obtain ⟨its, rv, p, hz⟩ := I.tuple hq
  have hl := rv.length
  refine ⟨[a], _, _, _, za8 ia a its.toArray ((zdw I hq).far I hf), ⟨st, p⟩, fun j h z => z.1, fun ⟨ys, y, h1, h2⟩ => ?_, fun ⟨ys, h1, h2⟩ => ?_, fun v hv => ?_, fun b hb => ?_⟩
  ·have e := I.tuple_inj h1 hq; subst e
   have := (List.getElem?_eq_some_iff.mp h2).1
   simp; omega
  ·have e := I.tuple_inj h1 hq; subst e
   simp; omega
  ·have hv' : its[i]? = some v := by simpa using hv
   obtain ⟨x, e1, r1⟩ := z4Y rv hv'
   exact ⟨x, r1, rfl, fun ys hy => by rw [I.tuple_inj hy hq]; exact e1⟩
  ·have : b = a := by simpa using hb
   subst this; exact zdw I hq
theorem zdH (a ia : Addr) : zel P w K (Itl K a) ia (fun i h => h.IsListIter ia a i) where
 obj := fun i h ⟨o, e, c, d⟩ => ⟨o, e, fun v z => by rw [d] at z; cases z⟩
 keep := fun i h h' ⟨o, e, c, d⟩ k => ⟨o, k o e, c, d⟩
 got := by
  intro X hP hw hK i pins s σ H I hf st hg
  subst hP hw hK
  have hs : ∃ xs, SqL X.K H a xs := by
   rcases hg with ⟨xs, x, h, _⟩ | ⟨xs, h, _⟩ <;> exact ⟨xs, h⟩
  obtain ⟨xs, hq⟩ := hs
  obtain ⟨its, rv, p, hz⟩ := I.list hq
  have hl := rv.length
  refine ⟨[a], _, _, _, zbu ia a its.toArray ((zds I hq).far I hf), ⟨st, p.isList⟩, fun j h z => z.1, fun ⟨ys, y, h1, h2⟩ => ?_, fun ⟨ys, h1, h2⟩ => ?_, fun v hv => ?_, fun b hb => ?_⟩
  ·have e := I.list_inj h1 hq; subst e
   have := (List.getElem?_eq_some_iff.mp h2).1
   simp; omega
  ·have e := I.list_inj h1 hq; subst e
   simp; omega
  ·have hv' : its[i]? = some v := by simpa using hv
   obtain ⟨x, e1, r1⟩ := z4Y rv hv'
   exact ⟨x, r1, rfl, fun ys hy => by rw [I.list_inj hy hq]; exact e1⟩
  ·have : b = a := by simpa using hb
   subst this; exact zds I hq
theorem in_str (x : Str) (t : Tok) (ia : Addr) : zel P w K (Its x) ia (fun i h => h.IsStrIter ia "str_ascii_iterator" x t i) where
 obj := fun i h ⟨o, e, c, d⟩ => ⟨o, e, fun v z => by rw [d] at z; cases z⟩
 keep := fun i h h' ⟨o, e, c, d⟩ k => ⟨o, k o e, c, d⟩
 got := by
  intro X hP hw hK i pins s σ H I hf st hg
  subst hP hw hK
  refine ⟨[], _, _, _, zbb ia x t, st, fun j h z => z, fun z => z, fun z => z, fun v ⟨c, tk, e, hv⟩ => ?_, fun b hb => by cases hb⟩
  subst hv
  exact ⟨.str ⟨#[c]⟩, ⟨_, rfl⟩, rfl, c, e, rfl⟩
end
def Itw (J1 J2 : It) : It :=
 ⟨fun i H => J1.go i H /\ J2.go i H, fun i H v H' => ∃ p x y, H p = none /\ v = .ref p /\ J1.yld i H x H /\ J2.yld i H y H /\ H' = upd H p (.tup [x, y]), fun i H => J1.stop i H /\ (J2.go i H \/ J2.stop i H) \/ J1.go i H /\ J2.stop i H⟩
def zjI (z t o i j : Addr) (S1 S2 : Nat -> Heap -> Prop) (n : Nat) (h : Heap) : Prop := IsZip h z t o .none /\ IsPair h t (.ref i) (.ref j) /\ (∃ a b, IsPair h o a b) /\ S1 n h /\ S2 n h
theorem za3 {P : Program} {w : World} {K : PySem.W.Frag} {J1 J2 : It} {S1 S2 : Nat -> Heap -> Prop} {es : List Expr} {kt} {pt : Pos} (z t o i j : Addr) (ap : [z, t, o, i, j].Nodup) (N1 : zel P w K J1 i S1) (N2 : zel P w K J2 j S2) : z9t P w K (.Tuple es kt pt) (Itw J1 J2) [z, t, o, i, j] z (zjI z t o i j S1 S2) := by
 simp only [List.nodup_cons, List.mem_cons, List.not_mem_nil, or_false, not_or, List.nodup_nil, and_true] at ap
 obtain ⟨⟨a1, a2, a3, a4⟩, ⟨b1, b2, b3⟩, ⟨c1, c2⟩, d1, _⟩ := ap
 have zap : ∀ {X : Cx} {pins : List (Addr × Obj)} {s : Shared} {σ : St} {H : Hp} {fp1 fp2 : List Addr}, L2.Inv X pins σ H s -> (∀ b ∈ [z, t, o, i, j], z6b X pins H b) -> (∀ b ∈ fp1, Held X H s.heap b) -> (∀ b ∈ fp2, Held X H s.heap b) -> ZAp z t o i j fp1 fp2 := fun {X pins s σ H fp1 fp2} I hf h1 h2 =>
  ⟨Ne.symm a1, Ne.symm a2, b1, fun b hb => (List.mem_cons.mp hb).elim (fun e => by rw [e]; exact ⟨Ne.symm a3, Ne.symm c1⟩) fun hb => ⟨(h1 b hb).far I (hf z (by simp)), (h1 b hb).far I (hf o (by simp))⟩,
   fun b hb => (List.mem_cons.mp hb).elim (fun e => by rw [e]; exact ⟨Ne.symm a4, Ne.symm c2⟩) fun hb => ⟨(h2 b hb).far I (hf z (by simp)), (h2 b hb).far I (hf o (by simp))⟩,
   fun hb => (List.mem_cons.mp hb).elim d1 fun hb => (h2 i hb).far I (hf i (by simp)) rfl, fun hb => (List.mem_cons.mp hb).elim (Ne.symm d1) fun hb => (h1 j hb).far I (hf j (by simp)) rfl, b2, b3⟩
 refine ⟨by simp, fun n h st b hb => ?_, fun n h h' st k => ?_, ?_, ?_, fun A n s Q E st q => wpAny_pyIter_zip st.1 q⟩
 ·obtain ⟨hz, ht, ⟨a, b', ho⟩, hi, hj⟩ := st
  simp only [List.mem_cons, List.not_mem_nil, or_false] at hb
  rcases hb with rfl | rfl | rfl | rfl | rfl
  ·exact ⟨_, hz, fun v e => by cases e⟩
  ·exact ⟨_, ht, fun v e => by cases e⟩
  ·exact ⟨_, ho, fun v e => by cases e⟩
  ·exact N1.obj n h hi
  ·exact N2.obj n h hj
 ·obtain ⟨hz, ht, ⟨a, b', ho⟩, hi, hj⟩ := st
  exact ⟨k z (by simp) _ hz, k t (by simp) _ ht, ⟨a, b', k o (by simp) _ ho⟩, N1.keep n h h' hi (k i (by simp)), N2.keep n h h' hj (k j (by simp))⟩
 ·intro X hP hw hK hc n pins s σ H E I hf st hg
  obtain ⟨g1, g2⟩ := hg
  obtain ⟨hz, ht, ⟨a, b, ho⟩, hi, hj⟩ := st
  obtain ⟨fp1, n1, P1, T1, Z1, s1, u1, go1, st1, y1, f1⟩ := N1.got X hP hw hK n pins s σ H I (hf i (by simp)) hi (.inl g1)
  obtain ⟨fp2, n2, P2, T2, Z2, s2, u2, go2, st2, y2, f2⟩ := N2.got X hP hw hK n pins s σ H I (hf j (by simp)) hj (.inl g2)
  have D := zap I hf f1 f2
  subst hP hw hK
  refine zen Z1 Z2 D hz ht ho s1 s2 (go1 g1) (go2 g2) fun x y h' tk px py q1 q2 q3 q4 q5 hk => ⟨_, rfl, ?_⟩
  obtain ⟨vx, rx, yx⟩ := y1 x px
  obtain ⟨vy, ry, yy⟩ := y2 y py
  refine wpAny_letOwnedTupleGo_zip q1 fun h'' e1 e2 => ?_
  have nb : ∀ q ∈ [z, t, o, i, j], s.heap.objs.size ≠ q := fun q hq e => by
   have : ∃ ob, s.heap.get? q = some ob := by
    simp only [List.mem_cons, List.not_mem_nil, or_false] at hq
    rcases hq with rfl | rfl | rfl | rfl | rfl
    ·exact ⟨_, hz⟩
    ·exact ⟨_, ht⟩
    ·exact ⟨_, ho⟩
    ·obtain ⟨ob, g, _⟩ := N1.obj n _ hi; exact ⟨_, g⟩
    ·obtain ⟨ob, g, _⟩ := N2.obj n _ hj; exact ⟨_, g⟩
   obtain ⟨ob, g⟩ := this
   exact absurd (Heap.lt_size g) (by rw [e]; exact Nat.lt_irrefl _)
  have keep : ∀ c ob, c ∉ [z, t, o, i, j] -> s.heap.get? c = some ob -> h''.get? c = some ob := fun c ob hc e => by
   simp only [List.mem_cons, List.not_mem_nil, or_false, not_or] at hc
   exact e2.extBut _ _ hc.1 (hk c ob hc.1 hc.2.2.1 hc.2.2.2.1 hc.2.2.2.2 e)
  have I1 : L2.Inv X pins σ H { s with heap := h'', toks := tk } := Inv.turns [z, t, o, i, j] I keep hf
  have hnew : h''.get? s.heap.objs.size = some { cls := .type "tuple", data := .seq #[x, y] } := e2.extBut _ _ (nb z (by simp)) q5
  have fr : H s.heap.objs.size = none := I.hok.fresh (Nat.le_refl _)
  have I2 : L2.Inv X pins σ (upd H s.heap.objs.size (.tup [vx, vy])) { s with heap := h'', toks := tk } := by
   have un : Un (frs X.stack) [z, t, o, i, j] H (upd H s.heap.objs.size (.tup [vx, vy])) s.heap h'' := by
    refine ⟨fun c ob e _ _ hc => keep c ob hc e, fun c ob e _ _ hc => ⟨ob.slots, keep c ob hc e⟩, fun c ob e hn _ => ?_, fun c ob e hc => ⟨ob, keep c ob hc e⟩, fun c zs e => ?_, fun c ob u e => ?_, fun c ps e => ⟨#[], ?_⟩⟩
    ·rw [z09 (Nat.ne_of_lt (Heap.lt_size e))]; exact hn
    ·rw [z09 (z0d e fr)]; exact e
    ·rw [z09 (z0d e fr)]; exact e
    ·rw [z09 (z0d e fr), e]; simp
   have hok : HOk X.prog X.w (upd H s.heap.objs.size (.tup [vx, vy])) h'' := by
    intro c u' e
    by_cases hc : c = s.heap.objs.size
    ·subst hc
     rw [z0g] at e; cases e
     exact ⟨by show 2 <= sizeLine; decide, [x, y], .cons rx (.cons ry .nil), ⟨_, hnew, rfl, _, rfl⟩⟩
    ·rw [z09 hc] at e
     refine (I1.hok c u' e).stay (fun _ _ _ q => q) (fun p q => ?_) fun p zs q => ?_
     ·by_cases hp : p = s.heap.objs.size
      ·subst hp; rw [fr] at q; cases q
      ·rw [z09 hp]; exact q
     ·by_cases hp : p = s.heap.objs.size
      ·subst hp; rw [fr] at q; cases q
      ·rw [z09 hp]; exact q
   exact I.call (t' := tk) (d' := s.drawn) un hok I.bare fun b hb => let ⟨_, f1, _, f3, f4, f5⟩ := hf b hb; ⟨f3, f1, f4, f5⟩
  refine ⟨.ref s.heap.objs.size, _, I2, rfl, ⟨_, vx, vy, fr, rfl, yx, yy, rfl⟩, ⟨e1, ?_, ⟨_, _, e2.extBut _ _ D.a2 q2⟩, ?_, ?_⟩, fun b hb => ?_⟩
  ·exact e2.extBut _ _ D.a1 (hk _ _ D.a1 D.a3 D.d1 D.d2 ht)
  ·exact u1 _ _ (Z1.but q3 e2.extBut fun b hb => (D.b1 b hb).1)
  ·exact u2 _ _ (Z2.but q4 e2.extBut fun b hb => (D.b2 b hb).1)
  ·rw [z09 (Ne.symm (nb b hb))]; exact (hf b hb).1
 ·intro X hP hw hK hc n pins s σ H E I hf st hg
  obtain ⟨hz, ht, ⟨a, b, ho⟩, hi, hj⟩ := st
  have k1 : J1.go n H \/ J1.stop n H := hg.elim (fun z => .inr z.1) fun z => .inl z.1
  have k2 : J2.go n H \/ J2.stop n H := hg.elim (fun z => z.2) fun z => .inr z.2
  obtain ⟨fp1, n1, P1, T1, Z1, s1, u1, go1, st1, y1, f1⟩ := N1.got X hP hw hK n pins s σ H I (hf i (by simp)) hi k1
  obtain ⟨fp2, n2, P2, T2, Z2, s2, u2, go2, st2, y2, f2⟩ := N2.got X hP hw hK n pins s σ H I (hf j (by simp)) hj k2
  have D := zap I hf f1 f2
  subst hP hw hK
  refine zhF (I.ok.hd hc) Z1 Z2 D hz ht ho s1 s2 (hg.elim (fun q => .inl (st1 q.1)) fun q => .inr ⟨go1 q.1, st2 q.2⟩) fun h' tk hk => ⟨rfl, ?_⟩
  refine Inv.turns (t' := tk) [z, t, o, i, j] I (fun c ob hc e => ?_) hf
  simp only [List.mem_cons, List.not_mem_nil, or_false, not_or] at hc
  exact hk c ob hc.1 hc.2.2.1 hc.2.2.2.1 hc.2.2.2.2 e
def zkD : D -> Option Src
 | .lst ds => some (.val ds)
 | .own k => some (.own k)
 | .tup ds => some (.val ds)
 | .str cs => if cs.all (· < 128) = true then some (.val (cs.map fun c => .str [c])) else none
 | _ => none
def z5Z (t : DA) : DI := fun σ O => (t σ O).bnd fun xs O1 => match xs with
 | [x, y] => match zkD x, zkD y with
  | some p, some q => .ok (.zip p q) O1
  | _, _ => .bad
 | _ => .bad
theorem SrcAt.zipW {K : PySem.W.Frag} {J1 J2 : It} {s1 s2 : Src} {H : Hp} {hid μ : List Addr} (h1 : SrcAt K J1 s1 H hid μ) (h2 : SrcAt K J2 s2 H hid μ) : SrcAt K (Itw J1 J2) (.zip s1 s2) H hid μ := by
 intro hid' H' μ' O' m c i
 have q1 := h1 hid' H' μ' O' m c i
 have q2 := h2 hid' H' μ' O' m c i
 show match (match s1.get O' i, s2.get O' i with | some x, some y => some (D.tup [x, y]) | _, _ => none) with | some d => _ | none => _
 cases e1 : s1.get O' i with
 | none =>
  rw [e1] at q1
  refine .inl ⟨q1, ?_⟩
  cases e2 : s2.get O' i with
  | none => rw [e2] at q2; exact .inr q2
  | some d => rw [e2] at q2; exact .inl q2.1
 | some d1 =>
  rw [e1] at q1
  cases e2 : s2.get O' i with
  | none => rw [e2] at q2; exact .inr ⟨q1.1, q2⟩
  | some d2 =>
   rw [e2] at q2
   refine ⟨⟨q1.1, q2.1⟩, fun v H'' yl => ?_⟩
   obtain ⟨p, x, y, hp, rfl, y1, y2, rfl⟩ := yl
   exact ⟨.laid hp, c.laid hp, Dat.newT c hp (.cons (q1.2 x H' y1).2.2 (.cons (q2.2 y H' y2).2.2 .nil))⟩
section
variable {X : Cx} {Ex : Nat -> Hp -> Prop} {pos : Pos} {a b c e : Expr} {pins : List (Addr × Obj)} {σv : St} {H : Hp} {s : Shared} {hid μ : List Addr} {O : Ow}
theorem zem {d : D} {v : V} {u : Value} {src : Src} (I : L2.Inv X pins σv H s) (c : Cells X.K H hid μ O) (h : Dat X.K H hid μ d v) (r : RelV v u) (e : zkD d = some src) :
  ∃ (k : ZK) (J : It), k.val = u /\ k.pre s.heap /\ SrcAt X.K J src H hid μ /\ ∀ ia, ∃ S, zel X.prog X.w X.K J ia S /\ ∀ h : Heap, h.get? ia = some k.obj -> S 0 h := by
 cases d with
 | lst ds =>
  unfold Dat at h
  obtain ⟨q, vs, rfl, l, dd⟩ := h
  cases e; cases r
  obtain ⟨its, _, p, _⟩ := I.list l.sq
  exact ⟨.lst q its.toArray, _, rfl, p.isList, .val l dd, fun ia => ⟨_, zdH q ia, fun h z => ⟨_, z, rfl, rfl⟩⟩⟩
 | own k =>
  unfold Dat at h
  obtain ⟨q, rfl, hk⟩ := h
  cases e; cases r
  obtain ⟨ds, vs, h1, h2, h3⟩ := c.at_ k q hk
  obtain ⟨its, _, p, _⟩ := I.list (a := q) (xs := vs) (.of h2)
  exact ⟨.lst q its.toArray, _, rfl, p.isList, .own hk, fun ia => ⟨_, zdH q ia, fun h z => ⟨_, z, rfl, rfl⟩⟩⟩
 | tup ds =>
  unfold Dat at h
  obtain ⟨q, vs, rfl, l, dd⟩ := h
  cases e; cases r
  obtain ⟨its, _, p, _⟩ := I.tuple l.sq
  exact ⟨.tup q its.toArray, _, rfl, p, .tup l dd, fun ia => ⟨_, zhM q ia, fun h z => ⟨_, z, rfl, rfl⟩⟩⟩
 | str cs =>
  unfold Dat at h
  subst h
  obtain ⟨t, rfl⟩ := r
  have e' : (if cs.all (· < 128) = true then some (Src.val (cs.map fun c => D.str [c])) else none) = some src := e
  by_cases ha : cs.all (· < 128) = true
  ·rw [if_pos ha] at e'
   cases e'
   refine ⟨.str ⟨cs.toArray⟩ t, _, rfl, ?_, .str, fun ia => ⟨_, in_str _ t ia, fun h z => ⟨_, z, rfl, rfl⟩⟩⟩
   show cs.toArray.all (· < 128) = true
   simpa using ha
  ·rw [if_neg ha] at e'; cases e'
 | _ => cases e
theorem zcO {es' : List Expr} {kt} {pt : Pos} {t : DA} {p : Pos} (hg : Gl X "zip") (hm : X.mg "zip" = none) (ha : PDA X Ex [a, b] t) (hs : starEach [a, b] X.env = [(false, eval a X.env), (false, eval b X.env)] := by rfl) (hs2 : starEach [b] X.env = [(false, eval b X.env)] := by rfl) :
  PDI X Ex (.Tuple es' kt pt) (.Call (.Name "zip" p) [a, b] [] pos) (z5Z t) := by
 refine ⟨?_⟩
 rintro pins s σv H Rr I ⟨hid, μ, σ, O, e1, c1, q⟩
 refine PyProof.Rows.Call_ (z4O I hg hm z8M (PyProof.Rows.callWith_type1 (thn (ha.out pos pins s σv H _ I (rdA.go e1 c1 q (Q1 := fun vs H1 => ∃ hid μ1 O1 ds, Cells X.K H1 hid μ1 O1 /\ Dats X.K H1 hid μ1 ds vs /\
   post Ex X.K (fun H' μ' s J => SrcAt X.K J s H' hid μ') H1 hid μ1 (match ds with | [x, y] => (match zkD x, zkD y with | some p, some q => .ok (.zip p q) O1 | _, _ => .bad) | _ => .bad) Rr)
  fun ds O1 vs H1 μ1 e2 x cl d p => ⟨hid, μ1, O1, ds, cl, d, p⟩)) fun us s1 ⟨vs, H1, I1, r1, hid, μ1, O1, ds, cl, d, p⟩ => ?_) (by rw [hs, hs2]) (by rw [hs2]; rfl)))
 split at p
 ·rename_i x y
  split at p
  ·rename_i sp sq e1 e2
   obtain ⟨v, w, rfl, dx, dy⟩ := z9r d
   obtain ⟨u1, u2, rfl, ru1, ru2⟩ := z7v r1
   obtain ⟨k1, J1, v1, p1, t1, i1⟩ := zem I1 cl dx ru1 e1
   obtain ⟨k2, J2, v2, p2, t2, i2⟩ := zem I1 cl dy ru2 e2
   rw [<- v1, <- v2]
   refine zbe k1 k2 p1 p2 fun h' g5 g3 g4 g1 g2 hk => ?_
   refine wpAny_pyIter_zip g5 ?_
   have I2 : L2.Inv X pins σv H1 { s1 with heap := h', toks := s1.toks } := I1.kept hk
   obtain ⟨S1, N1, z1⟩ := i1 s1.heap.objs.size
   obtain ⟨S2, N2, z2⟩ := i2 (s1.heap.objs.size + 1)
   refine ⟨s1.heap.objs.size + 4, [s1.heap.objs.size + 4, s1.heap.objs.size + 2, s1.heap.objs.size + 3, s1.heap.objs.size, s1.heap.objs.size + 1], _, _, H1, rfl, I2, za3 _ _ _ _ _ ?_ N1 N2, ⟨g5, g3, ⟨_, _, g4⟩, z1 _ g1, z2 _ g2⟩, fun b hb => ?_, post.here p cl (.zipW t1 t2)⟩
   ·have nn : ∀ (n : Addr), [n + 4, n + 2, n + 3, n, n + 1].Nodup := fun n => by
     simp only [List.nodup_cons, List.mem_cons, List.not_mem_nil, or_false, not_or, List.nodup_nil, and_true]
     refine ⟨⟨?_, ?_, ?_, ?_⟩, ⟨?_, ?_, ?_⟩, ⟨?_, ?_⟩, ?_, not_false⟩ <;> simp [Addr] at * <;> omega
    exact nn _
   ·have hb' : s1.heap.objs.size <= b := by
     simp only [List.mem_cons, List.not_mem_nil, or_false] at hb
     rcases hb with rfl | rfl | rfl | rfl | rfl <;> omega
    exact I1.fpOk (H' := H1) hb' (I1.hok.fresh hb')
  ·exact False.elim p
 ·exact False.elim p
end
end DL
namespace DL
open PySem L2
open AutoSeq1 (wpAny_loadPart')
section
variable {P : Program} {w : World} {A : Around} {E : Value -> Shared -> Prop} {s : Shared}
variable {ea ia : Addr} {fp : List Addr} {n k : Nat} {Pv : Nat -> Value -> Prop} {Sx : Nat -> Heap -> Prop} {old : Value}
theorem zcL {Q : Option Value -> Shared -> Prop} (J : Inner P w ia fp n Pv Sx) (he : IsEnum s.heap ea ia (k : Nat) old) (hx : Sx k s.heap) (hk : k < n) (ne : ∀ b ∈ ia :: fp, b ≠ ea)
  (hq : ∀ x h' tk ti, Pv k x -> IsEnumOut h' ea ia ((k : Int) + 1) x s.heap.objs.size -> Sx (k + 1) h' -> h'.get? s.heap.objs.size = some { cls := .type "tuple", data := .seq #[.int (k : Nat) ti, x] } -> (∀ b o, b ≠ ea -> b ≠ ia -> s.heap.get? b = some o -> h'.get? b = some o) -> Q (some (.ref s.heap.objs.size)) { s with heap := h', toks := tk }) :
  wpAny (model P w) A (pyNext (.ref ea)) Q E s := by
 have ht : s.TypeIs (.ref ea) "enumerate" := ⟨_, he, rfl⟩
 have nia : ea ≠ ia := Ne.symm (ne ia List.mem_cons_self)
 unfold pyNext
 refine wpAny_bind (wpAny_attempt (wpAny_callSpecial?_slot (name := "__next__") ht F.slot_enumerate_next (wpAny_call_entry F.slot_enumerate_next ht F.entry_enumerate_next ?_ (F.args_enumerate_next_1 _))))
 obtain ⟨hp, g, d, tk, os⟩ := s
 show wpAny _ _ (field (.ref ea) 2 >>= _) _ _ _
 refine wpAny_bind (wpAny_field he rfl (x := .ref ia) rfl (wpAny_bind (J.item _ k _ _ _ hk hx fun x h1 tk1 px sx1 s1 => ?_)))
 have s1 : Heap.SameBut ia hp h1 := s1
 have e1 : IsEnum h1 ea ia (k : Nat) old := (s1.2 ea nia).trans he
 show wpAny _ _ (field (.ref ea) 3 >>= _) _ _ ⟨h1, g, d, tk1, os⟩
 refine wpAny_bind (wpAny_field e1 rfl (x := rawInt (k : Nat)) rfl ?_)
 show wpAny _ _ (field (.ref ea) 4 >>= _) _ _ ⟨h1, g, d, tk1, os⟩
 refine wpAny_bind (wpAny_field e1 rfl (x := (.none)) rfl ?_)
 show wpAny _ _ (mkInt (k : Nat) >>= _) _ _ ⟨h1, g, d, tk1, os⟩
 refine wpAny_bind (wpAny_mkInt ?_)
 show wpAny _ _ (setField (.ref ea) 3 (rawInt ((k : Int) + 1)) >>= _) _ _ ⟨h1, g, d, tk1 + 1, os⟩
 refine wpAny_bind (wpAny_setField_rec e1 (by simp) fun h2 e2 s2 => ?_)
 have s2 : Heap.SameBut ea h1 h2 := s2
 have e2 : IsEnum h2 ea ia ((k : Int) + 1) old := e2
 show wpAny _ _ (setField (.ref ea) 4 .none >>= _) _ _ ⟨h2, g, d, tk1 + 1, os⟩
 refine wpAny_bind (wpAny_setField_rec e2 (by simp) fun h3 e3 s3 => ?_)
 have s3 : Heap.SameBut ea h2 h3 := s3
 have e3 : IsEnum h3 ea ia ((k : Int) + 1) old := e3
 show wpAny _ _ (newTuple [.int (k : Nat) tk1, x] >>= _) _ _ ⟨h3, g, d, tk1 + 1, os⟩
 refine wpAny_bind (wpAny_newTuple ?_)
 have e4 : IsEnum (h3.push { cls := .type "tuple", data := .seq #[.int (k : Nat) tk1, x] }) ea ia ((k : Int) + 1) old := Heap.get?_push_of_some _ e3
 have hsz : h3.objs.size = hp.objs.size := by rw [s3.1, s2.1, s1.1]
 have hel : ea < hp.objs.size := Heap.lt_size he
 have t4 : (h3.push { cls := .type "tuple", data := .seq #[.int (k : Nat) tk1, x] }).get? hp.objs.size = some { cls := .type "tuple", data := .seq #[.int (k : Nat) tk1, x] } := by rw [<- hsz]; exact Heap.get?_push_size _ rfl
 have k4 : ∀ b o, b ≠ ea -> b ≠ ia -> hp.get? b = some o -> (h3.push { cls := .type "tuple", data := .seq #[.int (k : Nat) tk1, x] }).get? b = some o := fun b o q1 q2 z => Heap.get?_push_of_some _ (s3.extBut b o q1 (s2.extBut b o q1 (s1.extBut b o q2 z)))
 have x4 : Sx (k + 1) (h3.push { cls := .type "tuple", data := .seq #[.int (k : Nat) tk1, x] }) := J.stab _ _ _ (J.but (J.but sx1 s2.extBut ne) s3.extBut ne) fun b _ o z => Heap.get?_push_of_some _ z
 generalize h3.push { cls := .type "tuple", data := .seq #[.int (k : Nat) tk1, x] } = h4 at e4 t4 k4 x4
 show wpAny _ _ (Builtin.SmallTypes.ownedTupleIsFree (.ref ea) >>= _) _ _ ⟨h4, g, d, tk1 + 1, os⟩
 rw [hsz]
 refine wpAny_bind ?_; unfold Builtin.SmallTypes.ownedTupleIsFree
 refine wpAny_bind (wpAny_field e4 rfl (x := (.none)) rfl (wpAny_pure ?_))
 simp only [if_true]; refine wpAny_bind (wpAny_rule (wpAny_bind (wpAny_field e4 rfl (x := old) rfl (wpAny_bind (wpAny_setField_rec e4 (by simp) fun h5 e5 s5 => ?_)))))
 have s5 : Heap.SameBut ea h4 h5 := s5
 have e5 : IsEnum h5 ea ia ((k : Int) + 1) x := e5
 show wpAny _ _ (Builtin.SmallTypes.ownedTupleHandOut (.ref ea) (.ref hp.objs.size) >>= _) _ _ ⟨h5, g, d, tk1 + 1, os⟩
 refine wpAny_bind ?_; unfold Builtin.SmallTypes.ownedTupleHandOut
 refine wpAny_bind (wpAny_setField_rec e5 (by simp) fun h6 e6 s6 => ?_)
 have s6 : Heap.SameBut ea h5 h6 := s6
 have e6 : IsEnumOut h6 ea ia ((k : Int) + 1) x hp.objs.size := e6
 refine wpAny_setField_rec e6 (by simp) fun h7 e7 s7 => ?_
 have s7 : Heap.SameBut ea h6 h7 := s7
 have e7 : IsEnumOut h7 ea ia ((k : Int) + 1) x hp.objs.size := e7
 refine wpAny_bind (wpAny_letGo (wpAny_pure ⟨_, rfl, wpAny_pure (hq x h7 _ tk1 px e7 (J.but (J.but (J.but x4 s5.extBut ne) s6.extBut ne) s7.extBut ne) ?_ fun b o q1 q2 z => s7.extBut b o q1 (s6.extBut b o q1 (s5.extBut b o q1 (k4 b o q1 q2 z))))⟩))
 exact s7.extBut _ _ (Nat.ne_of_gt hel) (s6.extBut _ _ (Nat.ne_of_gt hel) (s5.extBut _ _ (Nat.ne_of_gt hel) t4))
theorem zfc {Q : Option Value -> Shared -> Prop} (hh : A.handled = none) (J : Inner P w ia fp n Pv Sx) (he : IsEnum s.heap ea ia (k : Nat) old) (hx : Sx k s.heap) (hk : n <= k) (hq : ∀ h', Heap.ExtBut ia s.heap h' -> Q none { s with heap := h' }) : wpAny (model P w) A (pyNext (.ref ea)) Q E s := by
 have ht : s.TypeIs (.ref ea) "enumerate" := ⟨_, he, rfl⟩
 unfold pyNext
 refine wpAny_bind (wpAny_attempt (wpAny_callSpecial?_slot (name := "__next__") ht F.slot_enumerate_next (wpAny_call_entry F.slot_enumerate_next ht F.entry_enumerate_next ?_ (F.args_enumerate_next_1 _))))
 show wpAny _ _ (field (.ref ea) 2 >>= _) _ _ _
 refine wpAny_bind (wpAny_field he rfl (x := .ref ia) rfl (wpAny_bind (J.done _ k _ _ _ hh hk hx fun h' e eb hs => ?_)))
 obtain ⟨oe, ho, hc⟩ := hs
 exact wpAny_bind (wpAny_isInstance (T := "StopIteration") (b := true) ⟨oe, ho, hc⟩ isSubtype_stop (wpAny_pure (hq _ eb)))
end
end DL
namespace DL
open PySem L2
def Ite (J : It) : It := ⟨J.go, fun i H v H' => ∃ p x, H p = none /\ v = .ref p /\ J.yld i H x H /\ H' = upd H p (.tup [.int (i : Nat), x]), J.stop⟩
def zjC (ea ia : Addr) (S : Nat -> Heap -> Prop) (n : Nat) (h : Heap) : Prop := (∃ old, IsEnum h ea ia (n : Nat) old) /\ S n h
theorem zaj {P : Program} {w : World} {K : PySem.W.Frag} {J : It} {S : Nat -> Heap -> Prop} {es : List Expr} {kt} {pt : Pos} (ea ia : Addr) (ap : ea ≠ ia) (N : zel P w K J ia S) (hself : ∀ (A : Around) (n : Nat) (s : Shared) (Q E : Value -> Shared -> Prop), (∃ old, IsEnum s.heap ea ia (n : Nat) old) -> Q (.ref ea) s -> wpAny (model P w) A (pyIter (.ref ea)) Q E s) : z9t P w K (.Tuple es kt pt) (Ite J) [ea, ia] ea (zjC ea ia S) := by
 refine ⟨by simp, fun n h st b hb => ?_, fun n h h' st k => ?_, ?_, ?_, fun A n s Q E st q => hself A n s Q E st.1 q⟩
 ·obtain ⟨⟨old, he⟩, hi⟩ := st
  simp only [List.mem_cons, List.not_mem_nil, or_false] at hb
  rcases hb with rfl | rfl
  ·exact ⟨_, he, fun v e => by cases e⟩
  ·exact N.obj n h hi
 ·obtain ⟨⟨old, he⟩, hi⟩ := st
  exact ⟨⟨old, k ea (by simp) _ he⟩, N.keep n h h' hi (k ia (by simp))⟩
 ·intro X hP hw hK hc n pins s σ H E I hf st hg
  have hg : J.go n H := hg
  obtain ⟨⟨old, he⟩, hi⟩ := st
  obtain ⟨fp, m, Pv, T, Z, s1, u1, go1, st1, y1, f1⟩ := N.got X hP hw hK n pins s σ H I (hf ia (by simp)) hi (.inl hg)
  subst hP hw hK
  have ne : ∀ b ∈ ia :: fp, b ≠ ea := fun b hb => (List.mem_cons.mp hb).elim (fun e => by rw [e]; exact Ne.symm ap) fun hb => (f1 b hb).far I (hf ea (by simp))
  refine zcL Z he s1 (go1 hg) ne fun x h' tk tki px q1 q2 q3 hk => ⟨_, rfl, ?_⟩
  obtain ⟨vx, rx, yx⟩ := y1 x px
  refine wpAny_letOwnedTupleGo_enum q1 fun h'' e1 e2 => ?_
  have nb : ∀ q ∈ [ea, ia], s.heap.objs.size ≠ q := fun q hq e => by
   have : ∃ ob, s.heap.get? q = some ob := by
    simp only [List.mem_cons, List.not_mem_nil, or_false] at hq
    rcases hq with rfl | rfl
    ·exact ⟨_, he⟩
    ·obtain ⟨ob, g, _⟩ := N.obj n _ hi; exact ⟨_, g⟩
   obtain ⟨ob, g⟩ := this
   exact absurd (Heap.lt_size g) (by rw [e]; exact Nat.lt_irrefl _)
  have keep : ∀ c ob, c ∉ [ea, ia] -> s.heap.get? c = some ob -> h''.get? c = some ob := fun c ob hc e => by
   simp only [List.mem_cons, List.not_mem_nil, or_false, not_or] at hc
   exact e2.extBut _ _ hc.1 (hk c ob hc.1 hc.2 e)
  have I1 : L2.Inv X pins σ H { s with heap := h'', toks := tk } := Inv.turns [ea, ia] I keep hf
  have hnew : h''.get? s.heap.objs.size = some { cls := .type "tuple", data := .seq #[.int (n : Nat) tki, x] } := e2.extBut _ _ (nb ea (by simp)) q3
  have fr : H s.heap.objs.size = none := I.hok.fresh (Nat.le_refl _)
  have I2 : L2.Inv X pins σ (upd H s.heap.objs.size (.tup [.int (n : Nat), vx])) { s with heap := h'', toks := tk } := by
   have un : Un (frs X.stack) [ea, ia] H (upd H s.heap.objs.size (.tup [.int (n : Nat), vx])) s.heap h'' := by
    refine ⟨fun c ob e _ _ hc => keep c ob hc e, fun c ob e _ _ hc => ⟨ob.slots, keep c ob hc e⟩, fun c ob e hn _ => ?_, fun c ob e hc => ⟨ob, keep c ob hc e⟩, fun c zs e => ?_, fun c ob u e => ?_, fun c ps e => ⟨#[], ?_⟩⟩
    ·rw [z09 (Nat.ne_of_lt (Heap.lt_size e))]; exact hn
    ·rw [z09 (z0d e fr)]; exact e
    ·rw [z09 (z0d e fr)]; exact e
    ·rw [z09 (z0d e fr), e]; simp
   have hok : HOk X.prog X.w (upd H s.heap.objs.size (.tup [.int (n : Nat), vx])) h'' := by
    intro c u' e
    by_cases hc : c = s.heap.objs.size
    ·subst hc
     rw [z0g] at e; cases e
     exact ⟨by show 2 <= sizeLine; decide, [.int (n : Nat) tki, x], .cons ⟨_, rfl⟩ (.cons rx .nil), ⟨_, hnew, rfl, _, rfl⟩⟩
    ·rw [z09 hc] at e
     refine (I1.hok c u' e).stay (fun _ _ _ q => q) (fun p q => ?_) fun p zs q => ?_
     ·by_cases hp : p = s.heap.objs.size
      ·subst hp; rw [fr] at q; cases q
      ·rw [z09 hp]; exact q
     ·by_cases hp : p = s.heap.objs.size
      ·subst hp; rw [fr] at q; cases q
      ·rw [z09 hp]; exact q
   exact I.call (t' := tk) (d' := s.drawn) un hok I.bare fun b hb => let ⟨_, f1, _, f3, f4, f5⟩ := hf b hb; ⟨f3, f1, f4, f5⟩
  refine ⟨.ref s.heap.objs.size, _, I2, rfl, ⟨_, vx, fr, rfl, yx, rfl⟩, ⟨⟨_, by exact_mod_cast e1⟩, ?_⟩, fun b hb => ?_⟩
  ·exact u1 _ _ (Z.but q2 e2.extBut ne)
  ·rw [z09 (Ne.symm (nb b hb))]; exact (hf b hb).1
 ·intro X hP hw hK hc n pins s σ H E I hf st hg
  have hg : J.stop n H := hg
  obtain ⟨⟨old, he⟩, hi⟩ := st
  obtain ⟨fp, m, Pv, T, Z, s1, u1, go1, st1, y1, f1⟩ := N.got X hP hw hK n pins s σ H I (hf ia (by simp)) hi (.inr hg)
  subst hP hw hK
  refine zfc (I.ok.hd hc) Z he s1 (st1 hg) fun h' eb => ⟨rfl, ?_⟩
  refine Inv.turns (t' := s.toks) [ea, ia] I (fun c ob hc e => ?_) hf
  simp only [List.mem_cons, List.not_mem_nil, or_false, not_or] at hc
  exact eb c ob hc.2 e
def z53 (ds : List D) : List D := ds.zipIdx.map fun q => .tup [.int (q.2 : Nat), q.1]
theorem z6y (ds : List D) (i : Nat) : (z53 ds)[i]? = (ds[i]?).map fun d => D.tup [.int (i : Nat), d] := by
 unfold z53
 rw [List.getElem?_map, List.getElem?_zipIdx]
 cases ds[i]? <;> simp
theorem SrcAt.enum {K : PySem.W.Frag} {J : It} {ds : List D} {H : Hp} {hid μ : List Addr} (h1 : SrcAt K J (.val ds) H hid μ) : SrcAt K (Ite J) (.val (z53 ds)) H hid μ := by
 intro hid' H' μ' O' m c i
 have q1 : match ds[i]? with | some d => J.go i H' /\ ∀ x H'', J.yld i H' x H'' -> Ext H' μ' H'' μ' /\ Cells K H'' hid' μ' O' /\ Dat K H'' hid' μ' d x | none => J.stop i H' := h1 hid' H' μ' O' m c i
 show match (z53 ds)[i]? with | some d => _ | none => _
 rw [z6y]
 cases e1 : ds[i]? with
 | none => rw [e1] at q1; exact q1
 | some d1 =>
  rw [e1] at q1
  refine ⟨q1.1, fun v H'' yl => ?_⟩
  obtain ⟨p, x, hp, rfl, y1, rfl⟩ := yl
  exact ⟨.laid hp, c.laid hp, Dat.newT c hp (.cons z0o (.cons (q1.2 x H' y1).2.2 .nil))⟩
section
variable {s : Shared}
theorem z9G : bootBuiltins "enumerate" = some (.type "enumerate") := by boot_by_name
theorem z6J {P : Program} {w : World} (ea ia : Addr) (A : Around) (n : Nat) (s : Shared) (Q E : Value -> Shared -> Prop) (h : ∃ old, IsEnum s.heap ea ia (n : Nat) old) (q : Q (.ref ea) s) : wpAny (model P w) A (pyIter (.ref ea)) Q E s := by
 obtain ⟨old, h⟩ := h
 have ht : s.TypeIs (.ref ea) "enumerate" := ⟨_, h, rfl⟩
 refine wpAny_pyIter_slot ht F.slot_enumerate_iter (wpAny_call_entry F.slot_enumerate_iter ht F.entry_enumerate_iter ?_ (F.args_enumerate_iter_1 _))
 show wpAny _ _ (ret (.ref ea)) _ _ s
 exact wpAny_pure ⟨_, rfl, "enumerate", _, ht, F.slot_enumerate_next.lookup, q⟩
end
end DL
namespace DL
open PySem L2
open PyProof.Rows hiding St
section
variable {X : Cx} {Ex : Nat -> Hp -> Prop} {pos : Pos} {a e : Expr} {te : DE} {pins : List (Addr × Obj)} {σv : L2.St} {H : Hp} {s : Shared} {hid μ : List Addr} {O : Ow}
def zjo : Ow -> D -> D -> R D := fun O x y => match x, y with
 | .tup [], .tup ys => .ok (.tup ys) O
 | x, y => z2W O x y
def zjf (K : PySem.W.Frag) : V -> Option Int -> Option Int -> Hp -> VK -> Prop := fun x lo hi H Q => ∃ a xs, x = .ref a /\ SqT K H a xs /\ (HT.sIx xs.length 0 lo = 0 /\ HT.sIx xs.length xs.length hi = xs.length) /\ Q (.ref a) H
theorem z61 {P : Program} {w : World} {A : Around} {E : Value -> Shared -> Prop} {s : Shared} {t sl : Addr} {items : Array Value} {vl vu : Value} {lo hi : Option Int} {Q : Value -> Shared -> Prop} (ht : IsTup s.heap t items) (hs : s.heap.IsSliceOf sl vl vu .none) (pl : IsPart vl lo) (pu : IsPart vu hi)
  (hw : HT.sIx items.size 0 lo = 0 /\ HT.sIx items.size items.size hi = items.size) (h : Q (.ref t) s) : wpAny (model P w) A (getItem (.ref t) (.ref sl)) Q E s := by
 obtain ⟨ob, hob, hcb, hdb⟩ := id hs
 have hTs : s.TypeIs (.ref sl) "slice" := ⟨ob, hob, hcb⟩
 unfold getItem
 try with_reducible refine wpAny_holding ?_
 first | refine wpAny_bind (wpAny_pure ?_) | skip
 refine wpAny_bind (wpAny_sequenceKey ht.typeIs (by decide) (wpAny_bind (wpAny_callSpecial?_slot (name := "__getitem__") ht.typeIs PyProof.Rows.slot_tuple_getitem (wpAny_call_entry PyProof.Rows.slot_tuple_getitem ht.typeIs entry_tuple_getitem ?_ (args_tuple_getitem _ _)))))
 show wpAny _ _ (Builtin.Tuple.tupleItemsOf (.ref t) >>= _) _ _ s
 refine wpAny_bind (tupleItemsOf_ ht (wpAny_bind (wpAny_typeOf hTs ?_)))
 rw [if_pos (by decide)]
 refine wpAny_bind (HT.sliceApplied_gen hs pl pu ?_)
 have hyes : (((HT.sIx items.size 0 lo : Nat) : Int) == 0 && (1 : Int) == 1 && (HT.sIx items.size items.size hi - HT.sIx items.size 0 lo) == items.size) = true := by
  rw [hw.1, hw.2]; simp
 show wpAny _ _ (if (((HT.sIx items.size 0 lo : Nat) : Int) == 0 && (1 : Int) == 1 && (HT.sIx items.size items.size hi - HT.sIx items.size 0 lo) == items.size) = true then _ else _) _ _ s
 rw [if_pos hyes]
 refine wpAny_bind (m := Builtin.Tuple.tupleIsExact (.ref t)) ?_
 unfold Builtin.Tuple.tupleIsExact
 refine wpAny_bind (wpAny_typeOf ht.typeIs (wpAny_pure ?_))
 rw [if_pos (by decide)]
 exact wpAny_bind (wpAny_rule (wpAny_pure ⟨_, rfl, wpAny_pure h⟩))
theorem zch : SlR X (zjf X.K) := by
 intro pins s σ H x v vl vu lo hi sl Q I rx hs pl pu h
 obtain ⟨p, xs, rfl, hx, hw, q⟩ := h
 cases rx
 obtain ⟨its, r, ht, hz⟩ := I.tuple hx
 have hlen : its.toArray.size = xs.length := by rw [List.size_toArray]; exact r.length.symm
 exact ⟨"tuple", _, PyProof.Rows.slot_tuple_getitem.lookup, ht.typeIs, z61 ht hs pl pu (by rw [hlen]; exact hw) ⟨.ref p, H, I, rfl, q⟩⟩
def zjr (O : Ow) (x : D) (lo hi : Option Int) : R D := match x with
 | .tup ds => if HT.sIx ds.length 0 lo = 0 /\ HT.sIx ds.length ds.length hi = ds.length then .ok (.tup ds) O else .ok (.tup (zbE ds lo hi)) O
 | x => fSl O x lo hi
def zg0 (te : DE) (tl th : DO) : DE := fun σ O => (te σ O).bnd fun x O1 => (tl σ O1).bnd fun lo O2 => (th σ O2).bnd fun hi O3 => zjr O3 x lo hi
theorem zgX {lo hi : Option Expr} {tl th : DO} {p2 : Pos} (he : PD X Ex e te) (hl : PDO X Ex lo tl) (hu : PDO X Ex hi th) : PD X Ex (.Subscript e (.Slice lo hi none p2) pos) (zg0 te tl th) :=
 z10 (z8U (r := fun x lo hi H Q => zjf X.K x lo hi H Q \/ zj7 X.K x lo hi H Q) (SlR.or zch (SlR.or zdy (SlR.or zdr zbC))) he.out hl.out hu.out) fun hid μ σ O σv H Q e1 c1 q => rd.go e1 c1 q fun d O1 v H1 μ1 e2 x cl r p => rdO.go e2 cl p fun l O2 H2 μ2 e3 x3 c3 p3 => rdO.go e3 c3 p3 fun u O3 H3 μ3 e4 x4 c4 p4 => by
  have r' := (r.ext x3).ext x4
  cases d with
  | tup ds =>
   have rr := r'
   unfold Dat at r'
   obtain ⟨pa, vs, rfl, la, q1⟩ := r'
   have p4' : z0Y Ex X.K H3 hid μ3 (if HT.sIx ds.length 0 l = 0 /\ HT.sIx ds.length ds.length u = ds.length then .ok (.tup ds) O3 else .ok (.tup (zbE ds l u)) O3) Q := p4
   split at p4'
   ·rename_i hw
    exact .inl ⟨pa, vs, rfl, la.sq, by rw [<- q1.length]; exact hw, post.here p4' c4 rr⟩
   ·rename_i hw
    exact .inr (.inr (.inl ⟨pa, vs, rfl, la.sq, by rw [<- q1.length]; exact hw, fun l' hl' => post.ok p4' (.laid hl') (c4.laid hl') (Dat.newT c4 hl' (z3q q1 l u))⟩))
  | str i =>
   unfold Dat at r'; subst r'
   have p4' : z0Y Ex X.K H3 hid μ3 (if i.length <= 100000 then .ok (.str (Txt.slice ⟨i.toArray⟩ l u).cps.toList) O3 else .bad) Q := p4
   obtain ⟨hll, p4'⟩ := post.ite p4'
   refine .inr (.inl ⟨_, rfl, ?_, post.here p4' c4 ?_⟩)
   ·show i.toArray.size <= _
    rw [List.size_toArray]; exact z0y hll
   ·unfold Dat; rw [z5P]
  | lst ds =>
   have p4' : z0Y Ex X.K H3 hid μ3 (.ok (.lst (zbE ds l u)) O3) Q := p4
   obtain ⟨pa, vs, rfl, sq, q1⟩ := z1O c4 r' (show lsV O3 (.lst ds) = some ds from rfl)
   exact .inr (.inr (.inr ⟨pa, vs, rfl, sq, fun l' hl' => post.ok p4' (.laid hl') (c4.laid hl') (Dat.newL c4 hl' (z3q q1 l u))⟩))
  | own k =>
   have p4' : z0Y Ex X.K H3 hid μ3 (match O3[k]? with | some ds => .ok (.lst (zbE ds l u)) O3 | none => .bad) Q := p4
   split at p4'
   ·rename_i ds eds
    obtain ⟨pa, vs, rfl, sq, q1⟩ := z1O c4 r' (show lsV O3 (.own k) = some ds from eds)
    exact .inr (.inr (.inr ⟨pa, vs, rfl, sq, fun l' hl' => post.ok p4' (.laid hl') (c4.laid hl') (Dat.newL c4 hl' (z3q q1 l u))⟩))
   ·exact False.elim p4'
  | _ => exact False.elim p4
end
end DL
namespace DL
open PySem L2
section
variable {X : Cx} {Ex : Nat -> Hp -> Prop}
def zhq : Ow -> D -> D -> R D := fun O x y => match x, y with
 | .int i, .int j => .ok (.bl (decide (i < j))) O
 | .str p, .str q => .ok (.bl (decide (p < q))) O
 | _, _ => .bad
theorem zhn : OpR X (compareOp .Lt) (fun x y H Q => (∃ i j, x = .str i /\ y = .str j /\ Q (.bl (decide (i.cps.toList < j.cps.toList))) H) \/ rI0 (fun i j => .bl (decide (i < j))) x y H Q) := OpR.or zbD zeU
theorem zfr : OpD X Ex (fun x y H Q => (∃ i j, x = .str i /\ y = .str j /\ Q (.bl (decide (i.cps.toList < j.cps.toList))) H) \/ rI0 (fun i j => .bl (decide (i < j))) x y H Q) zhq := by
 intro H hid μ O x y v w Q c dx dy q
 unfold zhq at q
 split at q
 ·rename_i i j
  exact .inr (zau H hid μ O (.int i) (.int j) v w Q c dx dy q)
 ·unfold Dat at dx dy; subst dx; subst dy
  exact .inl ⟨_, _, rfl, rfl, post.here q c z1w⟩
 ·exact False.elim q
end
section
variable {X : Cx} {Ex : Nat -> Hp -> Prop} {pos : Pos} {σv : St} {H : Hp} {hid μ : List Addr} {O : Ow}
structure ziH (mg : Str -> Option Value) (x : Str) (i : Int) : Prop where
 ex : ∃ t, mg x = some (.int i t)
theorem ze0 {x : Str} {i : Int} (h : ziH X.mg x i) (hg : Gl X x := by rfl) (hd : (x == ("__debug__" : Str)) = false := by decide) : PD X Ex (.Name x pos) (dC (.int i)) := by
 obtain ⟨t, h⟩ := h.ex
 exact z10 (zaV (v := .int i) hg h ⟨_, rfl⟩ hd) fun hid μ σ O σv H Q e1 c1 q => post.here q c1 z0o
end
end DL
namespace DL
open PySem L2 PySem.Spec PyProof.Rows
end DL
namespace DL
open PySem L2 PySem.Spec PyProof.Rows
open Sem (wp)
end DL
namespace DL
open PySem L2 PySem.Spec PyProof.Rows
end DL
namespace DL
open PySem
theorem zhu : bootBuiltins "set" = some (.type "set") := by boot_by_name
end DL
namespace DL
open PySem L2
open AutoSeq1 (wpAny_loadPart')
section
variable {X : Cx} {Ex : Nat -> Hp -> Prop} {b e o : Expr} {to : DE}
def zhY : Int -> Int -> Option D := fun i j => if 0 <= j then some (.int (i / 2 ^ j.toNat)) else none
def ziW : Int -> Int -> Option D := gI Builtin.bitAnd
theorem zfq : OpD X Ex (rI (fun _ j => 0 <= j) fun i j => .int (i / 2 ^ j.toNat)) (fI zhY) := z3I fun i j d h => by
 unfold zhY at h
 split at h
 ·rename_i hc; cases h; exact ⟨hc, fun _ _ _ _ => z0o⟩
 ·cases h
theorem zfL : OpD X Ex (rI0 fun i j => .int (Builtin.bitAnd i j)) (fI ziW) := z38 fun i j d h _ _ _ _ => by cases h; exact z0o
theorem zaw (l : Addr) (xs : Array Value) (n : Nat) (b : Addr) (ys : Array Value) (m : Nat) (sl : Array (Option Value)) (hc0 : ¬(!xs.isEmpty && Builtin.List.listTooLong (xs.size + ys.size)) = true) (hc1 : xs.size <= sizeLine) (hs2 : xs.size + ys.size <= sizeLine + 1) :
  Meets (Builtin.«list.extend» ⟨[.ref l, .ref b], []⟩) (fun _ R s => s.heap.get? l = some { cls := .type "list", data := .seq xs n } /\ s.heap.get? b = some { cls := .type "list", data := .seq ys m, slots := sl } /\ R (.ok (.ret .none)) { s with heap := s.heap.update l (Obj.mapSeq fun x => x ++ ys) }) :=
 .of_wp fun prog w A R s h => by
  obtain ⟨hp, g, d, tk, os⟩ := s
  obtain ⟨gl, gb, h⟩ := h
  have f1 := AutoSeq1.sub_tuple_tuple
  have f2 := AutoSeq1.sub_list_list
  have f3 := AutoSeq1.sub_tuple_list
  have f4 := AutoSeq1.sub_list_tuple
  have hz : (xs ++ ys).size <= sizeLine + 1 := by rw [Array.size_append]; exact hs2
  wp_walk using (wpAny_updateSeq gl rfl (hz := hc1) (_hz' := hz)), wpAny_loadPart' gl, wpAny_loadPart' gb
  exact ⟨_, rfl, h⟩
def zjy (K : PySem.W.Frag) : V -> List V -> Hp -> VK -> Prop := fun x vs H Q => ∃ l b xs zs, x = .ref l /\ vs = [.ref b] /\ H l = some (.lst xs) /\ SqL K H b zs /\ xs.length + zs.length <= sizeLine /\ Q .non (upd H l (.lst (xs ++ zs)))
theorem zgL : MtM X "list.extend" (zjy X.K) := by
 intro pins s σ H x vs v us Q I rx rv h
 obtain ⟨l, b, xs, zs, rfl, rfl, hH, hB, hz, q⟩ := h
 cases rx
 obtain ⟨u, rfl, ru⟩ := rv.one
 cases ru
 obtain ⟨z, its, n, r, hl, e⟩ := I.lstM hH
 obtain ⟨its2, r2, ⟨ob, n2, e2, hc2, hd2, hs2⟩, _⟩ := I.list hB
 obtain ⟨cc, dct, dt, sl⟩ := ob
 have hc2 : cc = .type "list" := hc2
 have hd2 : dct = none := hd2
 have hs2 : dt = .seq its2.toArray n2 := hs2
 subst hc2; subst hd2; subst hs2
 have hl2 := r2.length
 have hsz : its.toArray.size + its2.toArray.size <= sizeLine := by rw [List.size_toArray, List.size_toArray]; omega
 have hlong : ¬ (!its.toArray.isEmpty && Builtin.List.listTooLong (its.toArray.size + its2.toArray.size)) = true := by
  rw [zbY hsz, Bool.and_false]
  exact Bool.false_ne_true
 refine call_meets F.slot_list_extend ⟨_, e, rfl⟩ F.entry_list_extend (F.args_list_extend_2 _ _)
  (zaw l its.toArray n b its2.toArray n2 sl hlong (by rw [List.size_toArray]; omega) (by omega)) ⟨e, e2, ?_⟩
 refine ⟨.non, _, I.lset (its' := its ++ its2) hH e (by simp) (r.append r2) ?_, rfl, q⟩
 rw [List.length_append]
 omega
def zev (to : DE) (t : DA) : DE := fun σ O => (to σ O).bnd fun x O1 => match x with
 | .own k => (t σ O1).bnd fun ys O2 => match ys, O2[k]? with
  | [y], some ds => match lsV O2 y with
   | some es => if ds.length + es.length <= 100000 then .ok .non (O2.set k (ds ++ es)) else .bad
   | none => .bad
  | _, _ => .bad
 | _ => .bad
theorem zae {o : Expr} {to : DE} {t : DA} {es : List Expr} {apos cpos : Pos} (ho : PD X Ex o to) (ha : PDA X Ex (e :: es) t) (hbase : attributeBase o "extend" X.env (eval o X.env) = eval o X.env := by rfl)
  (hfew : ((backTo cpos (starEach (e :: es) X.env)).all (fun x => !x.1) && (backToKw cpos (keywordEach [] X.env)).all (fun x => x.1.isSome) && decide ((e :: es).length + ([] : List Keyword).length + (if ([] : List Keyword).isEmpty then 0 else 1) < 30)) = true := by rfl)
  (hline : (apos.endLine == cpos.line) = true := by rfl) (hs : starEach (e :: es) X.env = (false, eval e X.env) :: starEach es X.env := by rfl) (hplain : (backTo cpos (starEach es X.env)).any (·.1) = false := by rfl) :
  PD X Ex (.Call (.Attribute o "extend" apos) (e :: es) [] cpos) (zev to t) :=
 z10 (zcs PySem.F.plainAttrs_list PySem.F.slot_list_extend PySem.F.type_list_extend zgL ho.out ha.out hbase hfew hline hs hplain) fun hid μ σ O σv H Q e1 c1 q => rd.go e1 c1 q fun d O1 v H1 μ1 e2 x cl r p => by
  cases d with
  | own k =>
   have hr := r
   unfold Dat at r
   obtain ⟨A, rfl, hk⟩ := r
   obtain ⟨ds, vs, h1, h2, h3⟩ := cl.at_ k A hk
   refine ⟨.inl ⟨rfl, vs, .of h2⟩, rdA.go e2 cl p fun ys O2 ws H2 μ2 e3 x3 c3 d3 p3 => ?_⟩
   split at p3
   ·rename_i y es' hds
    split at p3
    ·rename_i zs hz
     obtain ⟨hl, p3⟩ := post.ite p3
     obtain ⟨w, rfl, dw⟩ := z2m d3
     have hk2 : μ2[k]? = some A := by
      have := hr.ext x3
      unfold Dat at this
      obtain ⟨A', e', hk'⟩ := this
      cases e'; exact hk'
     obtain ⟨ds2, vs2, g1, g2, g3⟩ := c3.at_ k A hk2
     rw [hds] at g1; cases g1
     obtain ⟨pb, vz, rfl, sq, dz⟩ := z1O c3 dw hz
     refine ⟨A, pb, vs2, vz, rfl, rfl, g2, sq, Nat.le_trans (by rw [<- g3.length, <- dz.length]; exact hl) (by decide), ?_⟩
     exact post.ok p3 (.put (List.mem_of_getElem? hk2) ⟨_, g2⟩) (c3.put hk2 (g3.append dz)) z84
    ·exact False.elim p3
   ·exact False.elim p3
  | _ => exact False.elim p
end
set_option maxHeartbeats 1000000 in
theorem zaE (q : ZK) (va : Value) (ea : q.val = va) :
  Meets (Builtin.«enumerate.__new__» ⟨[.type "enumerate", va], []⟩) (fun _ R s => q.pre s.heap /\
   R (.ok (.ret (.ref (s.heap.push q.obj).objs.size))) { s with heap := (s.heap.push q.obj).push { cls := .type "enumerate", data := .fields #[.none, .bool false, .ref s.heap.objs.size, rawInt 0, .none, .none] } }) :=
 .of_wp fun P w A R s h => by
  obtain ⟨hp, g, d, tk, os⟩ := s; obtain ⟨h1, h⟩ := h
  have hsub := sub_enumerate
  have i1 : ∀ {A : Around} {E : Value -> Shared -> Prop} {Q : Value -> Shared -> Prop}, Q (.ref hp.objs.size) ⟨hp.push q.obj, g, d, tk, os⟩ -> wpAny (model P w) A (pyIter va) Q E ⟨hp, g, d, tk, os⟩ := fun {A E Q} hq => by rw [<- ea]; exact q.iter (s := ⟨hp, g, d, tk, os⟩) h1 hq
  wp_walk
  refine wpAny_stack_any fun st => wpAny_pure (?_)
  split
  ·rename_i cc _ _ _ _ _
   cases (cc == Value.type "enumerate")
   ·wp_walk using i1
    exact ⟨_, rfl, h⟩
   ·wp_walk using i1
    exact ⟨_, rfl, h⟩
  ·wp_walk using i1
   exact ⟨_, rfl, h⟩
section
variable {P : Program} {w : World} {A : Around} {E : Value -> Shared -> Prop} {s : Shared}
theorem z93 (q : ZK) {Q : Value -> Shared -> Prop} (hT : q.pre s.heap)
  (h : ∀ h', IsEnum h' (s.heap.objs.size + 1) s.heap.objs.size 0 .none -> h'.get? s.heap.objs.size = some q.obj -> (∀ b o, s.heap.get? b = some o -> h'.get? b = some o) -> Q (.ref (s.heap.objs.size + 1)) { s with heap := h' }) :
  wpAny (model P w) A (call (.type "enumerate") [q.val]) Q E s := by
 refine callType_new F.called_enumerate (by decide) (F.typeCall_enumerate_1 _) (F.newCall_enumerate_1 _) (fun obj => F.args_object_init_2 obj _) F.entry_enumerate_new (zaE q _ rfl) ⟨hT, ?_⟩
 have fa : q.obj.isFreed = false := by cases q <;> rfl
 have hz : (s.heap.push q.obj).objs.size = s.heap.objs.size + 1 := Heap.size_push ..
 show _ /\ _
 rw [hz]
 have he : IsEnum ((s.heap.push q.obj).push { cls := .type "enumerate", data := .fields #[.none, .bool false, .ref s.heap.objs.size, rawInt 0, .none, .none] }) (s.heap.objs.size + 1) s.heap.objs.size 0 .none := by
  have q := Heap.get?_push_size (s.heap.push q.obj) (o := { cls := .type "enumerate", data := .fields #[.none, .bool false, .ref s.heap.objs.size, rawInt 0, .none, .none] }) rfl
  rw [hz] at q; exact q
 exact ⟨⟨_, he, rfl⟩, h _ he (Heap.get?_push_of_some _ (Heap.get?_push_size _ fa)) fun b o x => Heap.get?_push_of_some _ (Heap.get?_push_of_some _ x)⟩
end
def zaG (t : DA) : DI := fun σ O => (t σ O).bnd fun xs O1 => match xs with
 | [x] => match zkD x with
  | some (.val ds) => .ok (.val (z53 ds)) O1
  | _ => .bad
 | _ => .bad
section
variable {X : Cx} {Ex : Nat -> Hp -> Prop} {pos : Pos} {a b : Expr} {pins : List (Addr × Obj)} {σv : St} {H : Hp} {s : Shared} {hid μ : List Addr} {O : Ow}
theorem zaq {es' : List Expr} {kt} {pt : Pos} {t : DA} {p : Pos} (hg : Gl X "enumerate") (hm : X.mg "enumerate" = none) (ha : PDA X Ex [a] t) (hs : starEach [a] X.env = [(false, eval a X.env)] := by rfl) :
  PDI X Ex (.Tuple es' kt pt) (.Call (.Name "enumerate" p) [a] [] pos) (zaG t) := by
 refine ⟨?_⟩
 rintro pins s σv H Rr I ⟨hid, μ, σ, O, e1, c1, q⟩
 refine PyProof.Rows.Call_ (z4O I hg hm z9G (PyProof.Rows.callWith_type1 (thn (ha.out pos pins s σv H _ I (rdA.go e1 c1 q (Q1 := fun vs H1 => ∃ hid μ1 O1 ds, Cells X.K H1 hid μ1 O1 /\ Dats X.K H1 hid μ1 ds vs /\
   post Ex X.K (fun H' μ' s J => SrcAt X.K J s H' hid μ') H1 hid μ1 (match ds with | [x] => (match zkD x with | some (.val ds) => .ok (.val (z53 ds)) O1 | _ => .bad) | _ => .bad) Rr)
  fun ds O1 vs H1 μ1 e2 x cl d p => ⟨hid, μ1, O1, ds, cl, d, p⟩)) fun us s1 ⟨vs, H1, I1, r1, hid, μ1, O1, ds, cl, d, p⟩ => ?_) (by rw [hs]; rfl) (by rfl)))
 split at p
 ·rename_i x
  split at p
  ·rename_i ts hz
   obtain ⟨v, rfl, dx⟩ := z2m d
   obtain ⟨u1, rfl, ru1⟩ := z3c r1
   obtain ⟨k1, J1, v1, p1, t1, i1⟩ := zem I1 cl dx ru1 hz
   rw [<- v1]
   refine z93 k1 p1 fun h' g1 g2 hk => ?_
   refine z6J (s1.heap.objs.size + 1) s1.heap.objs.size _ 0 _ _ _ ⟨_, g1⟩ ?_
   have I2 : L2.Inv X pins σv H1 { s1 with heap := h', toks := s1.toks } := I1.kept hk
   obtain ⟨S1, N1, z1⟩ := i1 s1.heap.objs.size
   refine ⟨s1.heap.objs.size + 1, [s1.heap.objs.size + 1, s1.heap.objs.size], _, _, H1, rfl, I2, zaj _ _ (Nat.succ_ne_self _) N1 (z6J _ _), ⟨⟨_, g1⟩, z1 _ g2⟩, fun b hb => ?_, post.here p cl (.enum t1)⟩
   have hb' : s1.heap.objs.size <= b := by
    simp only [List.mem_cons, List.not_mem_nil, or_false] at hb
    rcases hb with rfl | rfl <;> omega
   exact I1.fpOk (H' := H1) hb' (I1.hok.fresh hb')
  ·exact False.elim p
 ·exact False.elim p
end
end DL
namespace DL
open PySem
theorem zdL (t : SetTable) (es : Array (Int × Value)) (h : Int) (x : Value) : (layNew t es h x).2.1.led = t.led := by
 unfold layNew
 split
 ·rename_i slot wd _
  show ((t.put slot).1.orStandIn _).led = _
  unfold SetTable.orStandIn
  split <;> rfl
 ·rfl
theorem zaa (t : SetTable) (es : Array (Int × Value)) (n : Nat) : (relayAll t es n).2.1.led = t.led /\ (t.plain = false -> (relayAll t es n).2.1.plain = false) := by
 unfold relayAll
 cases h : t.relaid (es.map (·.1)) n with
 | none => exact ⟨rfl, fun _ => rfl⟩
 | some p =>
  obtain ⟨t', order⟩ := p
  have hl : t'.led = t.led /\ t'.plain = t.plain := by
   unfold SetTable.relaid SetTable.laid at h
   cases hc : SetTable.layClean (SetTable.sizeAbove n - 1) (es.map (·.1)) with
   | none => rw [hc] at h; cases h
   | some ow => rw [hc] at h; cases h; exact ⟨rfl, rfl⟩
  dsimp only
  split
  ·exact ⟨hl.1, fun e => hl.2.trans e⟩
  ·exact ⟨rfl, fun _ => rfl⟩
def byT (w : World) : Bool := w.params.followText "set-order"
def z4t (e : Int × Value) : Str := match e.2 with
 | .str x _ => x
 | _ => ⟨#[]⟩
def SetX (P : Program) (w : World) (a : Addr) (ks : List Str) (h : Heap) : Prop :=
 ∃ o es ep t, h.get? a = some o /\ o.ExactSet /\ o.data = .set es ep t /\ ElemsOf (strKind P w) es.toList /\ (es.toList.map z4t).Perm ks /\ ks.Nodup /\ es.size < scanBound /\ t.fits es.size = true /\ (byT w = false -> t.led = true) /\ (es.size ≠ 0 -> t.plain = false)
section
variable {P : Program} {w : World} {A : Around} {E : Value -> Shared -> Prop} {s : Shared} {a : Addr} {ks : List Str}
theorem SetX.keep {h h' : Heap} (k : ∀ o, h.get? a = some o -> h'.get? a = some o) : SetX P w a ks h -> SetX P w a ks h' := fun ⟨o, es, ep, t, ho, r⟩ => ⟨o, es, ep, t, k o ho, r⟩
theorem SetX.size {h : Heap} (x : SetX P w a ks h) : ∃ o es ep t, h.get? a = some o /\ o.data = .set es ep t /\ es.size = ks.length := by
 obtain ⟨o, es, ep, t, ho, hx, hd, hel, hp, _⟩ := x
 exact ⟨o, es, ep, t, ho, hd, by rw [<- hp.length_eq]; simp⟩
theorem z5B {l : List (Int × Value)} (h : ElemsOf (strKind P w) l) {e : Int × Value} (he : e ∈ l) : ∃ t, e.2 = .str (z4t e) t := by
 obtain ⟨⟨k, hk, _⟩, _⟩ := h e he
 obtain ⟨t, ht⟩ := Value.isStrOf_shape (x := k) (v := e.2) hk
 exact ⟨t, by unfold z4t; rw [ht]⟩
theorem zdv {e : Int × Value} {t : Tok} (h : e.2 = .str (z4t e) t) (x : Str) : (strKind P w).is x e.2 = true ↔ z4t e = x := by
 rw [h]
 constructor
 ·intro q
  obtain ⟨t', e'⟩ := Value.isStrOf_shape (x := x) (v := .str (z4t e) t) q
  injection e'
 ·intro q
  rw [q]
  show Value.isStrOf x (.str x t) = true
  simp [Value.isStrOf]
def z7O (ks : List Str) (x : Str) : List Str := if ks.contains x = true then ks else ks ++ [x]
theorem zdI {h : Heap} {o : Obj} {es es' : Array (Int × Value)} {ep : Nat} {t t' : SetTable} {ks' : List Str} (ho : h.get? a = some o) (hx : o.ExactSet) (hd : o.data = .set es ep t) (hel : ElemsOf (strKind P w) es'.toList) (hp : (es'.toList.map z4t).Perm ks') (hn : ks'.Nodup)
  (hb : es'.size < scanBound) (hf : t'.fits es'.size = true) (hl : byT w = false -> t'.led = true) (hpl : es'.size ≠ 0 -> t'.plain = false) : SetX P w a ks' (h.update a (Obj.putSet es' t')) /\ (h.update a (Obj.putSet es' t')).get? a = some { o with data := .set es' (ep + 1) t' } := by
 have g := Heap.get?_update_self (Obj.putSet es' t') ho (by rw [putSet_of es' t' hd]; rfl)
 rw [putSet_of es' t' hd] at g
 exact ⟨⟨_, es', ep + 1, t', g, hx, rfl, hel, hp, hn, hb, hf, hl, hpl⟩, g⟩
theorem zjj {x : Str} {tk : Tok} {Q : Bool -> Shared -> Prop} (hS : SetX P w a ks s.heap) (hroom : ks.length + 1 < scanBound)
  (h : ∀ b h', Heap.SameBut a s.heap h' -> SetX P w a (z7O ks x) h' -> Q b { s with heap := h' }) :
  wpAny (model P w) A (setAddHashed a (.str x tk) ((strKind P w).hash x)) Q E s := by
 obtain ⟨o, es, ep, t, ho, hx, hd, hel, hp, hn, hb, hf, hl, hpl⟩ := hS
 have hkey : (strKind P w).is x (.str x tk) = true := by show Value.isStrOf x (.str x tk) = true; simp [Value.isStrOf]
 have hsz : es.size = ks.length := by rw [<- hp.length_eq]; simp
 unfold setAddHashed setAddHashedIn
 refine wpAny_holding (wpAny_bind (wpAny_setState_of ho hd hf ?_))
 dsimp only
 rw [byScan_of (x := .str x tk) rfl hb hel, if_pos rfl]
 unfold setAddByScan
 refine wpAny_bind (wpAny_bind (wpAny_rule (wpAny_bind (wpAny_setScan_of hkey ho hd hf hel ?_))))
 cases hr : List.findIdx? (fun e => (strKind P w).is x e.2) es.toList with
 | some j =>
  dsimp only
  obtain ⟨hj, hpj, _⟩ := List.findIdx?_eq_some_iff_getElem.mp hr
  have hin : x ∈ ks := by
   obtain ⟨t', ht'⟩ := z5B hel (List.getElem_mem hj)
   have := (zdv ht' x).mp hpj
   exact hp.mem_iff.mp (List.mem_map.mpr ⟨_, List.getElem_mem hj, this⟩)
  refine wpAny_pure (wpAny_pure ?_)
  have := h false s.heap (Heap.SameBut.refl a s.heap) (by
   unfold z7O
   rw [if_pos (List.contains_iff_mem.mpr hin)]
   exact ⟨o, es, ep, t, ho, hx, hd, hel, hp, hn, hb, hf, hl, hpl⟩)
  cases s; exact this
 | none =>
  dsimp only
  have hnin : x ∉ ks := fun hm => by
   obtain ⟨e, he, ek⟩ := List.mem_map.mp (hp.mem_iff.mpr hm)
   obtain ⟨t', ht'⟩ := z5B hel he
   have := List.findIdx?_eq_none_iff.mp hr e he
   rw [(zdv ht' x).mpr ek] at this
   cases this
  have ea : z7O ks x = ks ++ [x] := by unfold z7O; rw [if_neg (fun z => hnin (List.contains_iff_mem.mp z))]
  have hpm := layNew_perm t es ((strKind P w).hash x) (.str x tk)
  have hft := layNew_fits t es ((strKind P w).hash x) (.str x tk)
  have hld := zdL t es ((strKind P w).hash x) (.str x tk)
  generalize layNew t es ((strKind P w).hash x) (.str x tk) = L at hpm hft hld ⊢
  obtain ⟨es1, t1, wd, gv⟩ := L
  dsimp only at hpm hft hld ⊢
  rw [Array.toList_push] at hpm
  have hel1 : ElemsOf (strKind P w) es1.toList := (hel.push hkey rfl).perm hpm
  have hp1 : (es1.toList.map z4t).Perm (ks ++ [x]) := by
   refine (hpm.map z4t).trans ?_
   rw [List.map_append]
   exact hp.append_right _
  have hn1 : (ks ++ [x]).Nodup := by
   rw [List.nodup_append]
   exact ⟨hn, by simp, fun p hp q hq => by
    have : q = x := by simpa using hq
    subst this; rintro rfl; exact hnin hp⟩
  have hs1 : es1.size = ks.length + 1 := by rw [<- Array.length_toList, <- List.length_map (f := z4t), hp1.length_eq]; simp
  have hb1 : es1.size < scanBound := by rw [hs1]; exact hroom
  have gw : ∀ (b : Bool) {s1 : Shared} {Q' : Unit -> Shared -> Prop}, Q' () s1 -> wpAny (model P w) A (match b with | true => rule "set.scan.the-table-gave-way" | false => pure ()) Q' E s1 := fun b s1 Q' hq => by
   cases b
   ·exact wpAny_pure hq
   ·exact wpAny_rule hq
  refine wpAny_bind (gw _ ?_)
  have tail : ∀ t2 : SetTable, t2.led = t.led -> t2.plain = false -> t2.fits es1.size = true -> wpAny (model P w) A (do
    storeSet a es1 t2
    if (!wd && t2.tooFull) = true then do
      (match (relayAll t2 es1 (SetTable.grown es1.size)).2.2 with | true => rule "set.scan.the-table-gave-way" | false => pure ())
      storeSet a (relayAll t2 es1 (SetTable.grown es1.size)).1 (relayAll t2 es1 (SetTable.grown es1.size)).2.1
      pure (some true)
     else pure (some true)) (fun r s' => wpAny (model P w) A (match r with | some added => (pure added : Sem Bool) | none => setAddHashedIn a (.str x tk) ((strKind P w).hash x) 99999) Q E s') E s := by
   intro t2 h1 h2 h3
   obtain ⟨S1, g1⟩ := zdI (P := P) (w := w) (ks' := ks ++ [x]) (es' := es1) (t' := t2) ho hx hd hel1 hp1 hn1 hb1 h3 (fun e => h1.trans (hl e)) (fun _ => h2)
   have sb := Heap.SameBut.update s.heap a (Obj.putSet es1 t2)
   refine wpAny_bind (wpAny_storeSet_of ho hd ?_ (fits_of_scanBound hb1))
   split
   ·have rp := relayAll_perm t2 es1 (SetTable.grown es1.size)
    have rf := relayAll_fits t2 es1 (SetTable.grown es1.size)
    have rl := zaa t2 es1 (SetTable.grown es1.size)
    generalize relayAll t2 es1 (SetTable.grown es1.size) = R at rp rf rl ⊢
    obtain ⟨es2, t3, gv2⟩ := R
    dsimp only at rp rf rl ⊢
    have s2 : es2.size = es1.size := by rw [<- Array.length_toList, rp.length_eq, Array.length_toList]
    have b2 : es2.size < scanBound := by rw [s2]; exact hb1
    refine wpAny_bind (gw _ (wpAny_bind (wpAny_storeSet_of g1 rfl ?_ (fits_of_scanBound b2))))
    obtain ⟨S2, _⟩ := zdI (P := P) (w := w) (ks' := ks ++ [x]) (es' := es2) (t' := t3) g1 hx rfl (hel1.perm rp) ((rp.map z4t).trans hp1) hn1 b2 rf (fun e => rl.1.trans (h1.trans (hl e))) (fun _ => rl.2 h2)
    exact wpAny_pure (wpAny_pure (h true _ (sb.trans (Heap.SameBut.update _ a _)) (by rw [ea]; exact S2)))
   ·exact wpAny_pure (wpAny_pure (h true _ sb (by rw [ea]; exact S1)))
  split
  ·rename_i hpt
   refine wpAny_bind ?_
   rw [hashByValue_scannable 8 (x := .str x tk) rfl]
   refine wpAny_pure ?_
   exact tail { t1 with plain := false } hld rfl (SetTable.fits_plain_off hft)
  ·rename_i hpt
   refine wpAny_bind (wpAny_pure ?_)
   rw [if_pos rfl]
   exact tail t1 hld (by simpa using hpt) hft
end
def ded (l : List Str) : List Str := l.foldl z7O []
theorem z8r (l : List Str) (x : Str) : ded (l ++ [x]) = z7O (ded l) x := by unfold ded; rw [List.foldl_append]; rfl
theorem zbR (ks : List Str) (x : Str) : (z7O ks x).length <= ks.length + 1 := by unfold z7O; split <;> simp
theorem z8g : ∀ (l : List Str), (ded l).length <= l.length := fun l => by
 have : ∀ (l ks : List Str), (l.foldl z7O ks).length <= ks.length + l.length := by
  intro l
  induction l with
  | nil => intro ks; exact Nat.le_refl _
  | cons x l ih => intro ks; refine Nat.le_trans (ih (z7O ks x)) ?_; have := zbR ks x; rw [List.length_cons]; omega
 have h := this l []
 simpa [ded] using h
theorem zc0 {ks : List Str} {x y : Str} : y ∈ z7O ks x ↔ y ∈ ks \/ y = x := by
 unfold z7O
 split
 ·rename_i h
  exact ⟨.inl, fun q => q.elim id fun e => by rw [e]; exact List.contains_iff_mem.mp h⟩
 ·rw [List.mem_append, List.mem_singleton]
theorem z89 {y : Str} : ∀ (l : List Str), y ∈ ded l ↔ y ∈ l := fun l => by
 have : ∀ (l ks : List Str), y ∈ l.foldl z7O ks ↔ y ∈ ks \/ y ∈ l := by
  intro l
  induction l with
  | nil => intro ks; simp
  | cons x l ih => intro ks; rw [List.foldl_cons, ih, zc0, List.mem_cons]; exact ⟨fun h => by rcases h with (h | h) | h <;> simp [h], fun h => by rcases h with h | h | h <;> simp [h]⟩
 rw [ded, this]; simp
section
variable {P : Program} {w : World} {A : Around} {E : Value -> Shared -> Prop} {s : Shared} {a : Addr} {ks : List Str} {R : Result -> Shared -> Prop}
theorem zdU {x : Str} {tk : Tok} {Q : Value -> Shared -> Prop} (hS : SetX P w a ks s.heap) (hroom : ks.length + 1 < scanBound)
  (h : ∀ h', Heap.SameBut a s.heap h' -> SetX P w a (z7O ks x) h' -> Q .none { s with heap := h', toks := s.toks + 1 }) :
  wpAny (model P w) A (call (.builtin "set.add") [.ref a, .str x tk]) Q E s := by
 obtain ⟨o, es, ep, t, ho, hx, r⟩ := id hS
 refine wpAny_call_entry F.slot_set_add ⟨o, ho, hx.1⟩ F.entry_set_add ?_ (F.args_set_add_2 _ _)
 unfold Builtin.«set.add» Builtin.Frozenset.oneOther
 simp only [List.isEmpty_nil, bind_assoc]
 unfold Builtin.Frozenset.addrOf setAdd
 refine wpAny_bind (wpAny_pure (wpAny_bind (wpAny_pure (wpAny_bind (wpAny_holding (wpAny_bind ((strKind P w).pyHash (k := x) (by show Value.isStrOf x (.str x tk) = true; simp [Value.isStrOf]) ?_)))))))
 refine zjj (s := { s with toks := s.toks + 1 }) hS hroom fun b h' sb S' => ?_
 exact wpAny_pure ⟨_, rfl, h h' sb S'⟩
variable {I : Addr} {fp wr : List Addr} {n : Nat} {Pv : Nat -> Value -> Prop} {St : Nat -> Heap -> Prop}
theorem zjE (W : Walks P w A.in1 I fp wr n Pv St) (S : Addr) (hSf : S ∉ fp) (vs : List Str) (hl : vs.length = n) (hval : ∀ i v, Pv i v -> i < n -> ∃ t, v = .str (vs.getD i ⟨#[]⟩) t) (hb : n + 1 < scanBound) :
  ∀ (k i : Nat) (s : Shared), n - i = k -> i <= n -> St i s.heap -> SetX P w S (ded (vs.take i)) s.heap ->
   (∀ h' tk, (∀ b o, b ∉ S :: wr -> s.heap.get? b = some o -> h'.get? b = some o) -> SetX P w S (ded vs) h' -> R (.ok (.ret .none)) { s with heap := h', toks := tk }) ->
   codeAny (model P w) A (.builtin "set.update.loop" ⟨[.ref S, .ref I], []⟩) R s := by
 have hSw : S ∉ wr := fun h => hSf (W.sub _ h)
 intro k
 induction k with
 | zero =>
  intro i s hk hi st hS hR
  have e : i = n := by omega
  subst e
  refine codeAny_builtin PyProof.Rows.F.entry_set_update_loop ?_
  rw [Around.under_plainId PyProof.Rows.F.plain_set_update_loop _]
  show wpAny _ A.in1 (pyNext (.ref I) >>= _) _ _ s
  refine wpAny_bind (W.done s _ _ st fun h' tk hm => ?_)
  refine wpAny_pure (hR h' tk (fun b o hb z => hm b o (fun q => hb (List.mem_cons_of_mem _ q)) z) ?_)
  rw [<- hl, List.take_length] at hS
  exact hS.keep fun o z => hm S o hSw z
 | succ k ih =>
  intro i s hk hi st hS hR
  have hlt : i < n := by omega
  refine codeAny_builtin PyProof.Rows.F.entry_set_update_loop ?_
  rw [Around.under_plainId PyProof.Rows.F.plain_set_update_loop _]
  show wpAny _ A.in1 (pyNext (.ref I) >>= _) _ _ s
  refine wpAny_bind (W.item i s _ _ hlt st fun v h1 tk1 pv st1 hm => ?_)
  obtain ⟨t, rfl⟩ := hval i v pv hlt
  have S1 : SetX P w S (ded (vs.take i)) h1 := hS.keep fun o z => hm S o hSw z
  show wpAny _ A.in1 (holding [_] (setAdd S _) >>= _) _ _ _
  unfold setAdd
  refine wpAny_bind (wpAny_holding (wpAny_holding (wpAny_bind ((strKind P w).pyHash (k := vs.getD i ⟨#[]⟩) (by show Value.isStrOf _ (.str _ t) = true; simp [Value.isStrOf]) ?_))))
  refine zjj (s := { s with heap := h1, toks := tk1 + 1 }) S1 (by have := z8g (vs.take i); rw [List.length_take] at this; omega) fun b h2 sb S2 => ?_
  have e2 : z7O (ded (vs.take i)) (vs.getD i ⟨#[]⟩) = ded (vs.take (i + 1)) := by
   rw [<- z8r, List.take_succ, List.getD_eq_getElem?_getD, List.getElem?_eq_getElem (by omega)]; rfl
  rw [e2] at S2
  refine wpAny_pure ⟨plainId_quiet PyProof.Rows.F.plain_set_update_loop _, ih (i + 1) _ (by omega) hlt (W.frame _ _ _ st1 fun b hb o z => ?_) S2 fun h' tk hk2 S' => ?_⟩
  ·rw [sb.2 b (fun q : b = S => hSf (by rw [<- q]; exact hb))]; exact z
  ·refine hR h' tk (fun b o hb z => hk2 b o hb ?_) S'
   rw [sb.2 b (fun q : b = S => hb (by rw [q]; exact List.mem_cons_self))]
   exact hm b o (fun q => hb (List.mem_cons_of_mem _ q)) z
end
section
variable {P : Program} {w : World} {A : Around} {E : Value -> Shared -> Prop} {s : Shared}
abbrev z1A (w : World) : Obj := { cls := .type "set", dict := none, data := .set #[] 0 (.fresh 0 0 (!byT w)) }
theorem zjt (w : World) (h : Heap) : SetX P w h.objs.size [] (h.push (z1A w)) :=
 ⟨_, #[], 0, _, Heap.get?_push_size _ rfl, ⟨rfl, rfl, rfl⟩, rfl, fun e he => by simp at he, by simp, by simp, by decide, by rfl, fun e => by show (!byT w) = true; rw [e]; rfl, fun e => absurd rfl e⟩
theorem z9y (v : Value) {Q1 : Value -> Shared -> Prop} (h : Q1 (.ref s.heap.objs.size) { s with heap := s.heap.push (z1A w) }) :
  codeAny (model P w) A (.call (.builtin "set.__new__") ⟨[.type "set", v], []⟩) (wants Q1 E) s := by
 refine codeAny_of_tree ?_
 show wpAny _ A.in1 (do checkBuiltinCall "set.__new__" ⟨[.type "set", v], []⟩; again (.builtin "set.__new__" ⟨[.type "set", v], []⟩)) _ _ s
 refine wpAny_bind (wpAny_of_eq (F.newCall_set_1 v) (wpAny_pure ⟨plainId_quiet F.plain_set_new _, codeAny_builtin F.entry_set_new ?_⟩))
 rw [Around.under_plainId F.plain_set_new _]
 unfold Builtin.«set.__new__» Builtin.Frozenset.newClass
 have hsub := sub_set_self
 obtain ⟨hp, g, d, tk, os⟩ := s
 dsimp only
 wp_walk
 refine wpAny_askSetting (wpAny_pure ?_)
 dsimp only
 simp only [newObj]
 exact wpAny_bind (wpAny_alloc (wpAny_pure (wpAny_pure h)))
def ZK.ty : ZK -> String
 | .tup _ _ => "tuple"
 | .str _ _ => "str"
 | .lst _ _ => "list"
theorem zh3 : isSubtype (.type "tuple") (.type "set") = pure false := by rw [isSubtype_type]; kernel_rfl
theorem zhJ : isSubtype (.type "tuple") (.type "frozenset") = pure false := by rw [isSubtype_type]; kernel_rfl
theorem ZK.typ (q : ZK) (h : q.pre s.heap) (hn : ∀ x t, q ≠ .str x t) : ∃ ob a, q.val = .ref a /\ s.heap.get? a = some ob /\ ob.cls = .type q.ty := by
 cases q with
 | tup t items => obtain ⟨o, e, c, _⟩ := h; exact ⟨o, t, rfl, e, c⟩
 | str x t => exact absurd rfl (hn x t)
 | lst l items => obtain ⟨o, e, c, _⟩ := h; exact ⟨o, l, rfl, e, c⟩
def ZK.vals : ZK -> Array Value
 | .tup _ its => its
 | .str _ _ => #[]
 | .lst _ its => its
theorem ZK.walks (q : ZK) (hh : A.handled = none) (hn : ∀ x t, q ≠ .str x t) (I : Addr) {h : Heap} (hp : q.pre h) (hI : h.get? I = some q.obj) (hne : q.val ≠ .ref I) :
  ∃ ax St, q.val = .ref ax /\ Walks P w A I [I, ax] [I] q.vals.size (fun i v => q.vals[i]? = some v) St /\ St 0 h := by
 cases q with
 | tup t items => exact ⟨t, _, rfl, Walks.tuple hh I t (fun e => hne (by rw [e]; rfl)) items, ⟨_, hI, rfl, rfl⟩, hp⟩
 | str x t => exact absurd rfl (hn x t)
 | lst l items => exact ⟨l, _, rfl, Walks.list hh I l (fun e => hne (by rw [e]; rfl)) items, ⟨_, hI, rfl, rfl⟩, hp⟩
set_option maxHeartbeats 4000000 in
theorem zaS (q : ZK) {Q : Value -> Shared -> Prop} (hh : A.handled = none) (hp : q.pre s.heap) (hn : ∀ x t, q ≠ .str x t) (vs : List Str) (hl : vs.length = q.vals.size) (hv : ∀ i (v : Value), q.vals[i]? = some v -> ∃ t : Tok, v = Value.str (vs.getD i ⟨#[]⟩) t) (hb : vs.length + 1 < scanBound)
  (h : ∀ h' tk, SetX P w s.heap.objs.size (ded vs) h' -> (∀ b o, b < s.heap.objs.size -> s.heap.get? b = some o -> h'.get? b = some o) -> Q (.ref s.heap.objs.size) { s with heap := h', toks := tk }) :
  wpAny (model P w) A (call (.type "set") [q.val]) Q E s := by
 obtain ⟨c, tl, hmro⟩ := F.called_set.mro
 have hmade := F.called_set.made
 have hsub := F.called_set.sub
 obtain ⟨ob, l, el, hol, hcl⟩ := q.typ hp hn
 rw [el]
 refine wpAny_call (codeAny_of_tree ?_)
 show wpAny _ _ (callAny (.type "set") _) _ _ _
 refine wpAny_pure ⟨Code.quiet_builtin _ (by decide +kernel), codeAny_builtin F.entry_type_call ?_⟩
 rw [Around.under_plain (weight_type_call_type "set" [.ref l] []) rfl]
 have h1 := F.called_set.notType
 have h2 := F.called_set.canCreate
 have hct := F.typeCall_set_1 (.ref l)
 repeat (any_goals (first | assumption | wp_step))
 refine codeAny_mono (z9y (.ref l) (E := E) (Q1 := fun obj s1 => obj = .ref s.heap.objs.size /\ s1 = { s with heap := s.heap.push (z1A w) }) ⟨rfl, rfl⟩) fun r s1 hr => ?_
 cases r with
 | error e => exact hr
 | ok fl =>
  cases fl with
  | ret obj =>
   obtain ⟨rfl, rfl⟩ := hr
   have hS : (s.heap.push (z1A w)).get? s.heap.objs.size = some (z1A w) := Heap.get?_push_size _ rfl
   have hT : Shared.TypeIs { s with heap := s.heap.push (z1A w) } (.ref s.heap.objs.size) "set" := ⟨_, hS, rfl⟩
   have hli := F.called_set.init.lookup
   have hbi := F.called_set.init.bind (.ref s.heap.objs.size)
   repeat (any_goals (first | assumption | wp_step))
   refine codeAny_mono (codeAny_call_builtin (R := wants (fun r s2 => r = .none /\ ∃ h' tk, s2 = { s with heap := h', toks := tk } /\ SetX P w s.heap.objs.size (ded vs) h' /\ (∀ b o, b < s.heap.objs.size -> s.heap.get? b = some o -> h'.get? b = some o)) E) F.called_set.init.plain F.entry_set_init (check_set_init_1 hT ?_)) fun r2 s2 hr2 => ?_
   ·obtain ⟨ocls, odict, odata, oslots⟩ := ob
    have hcl : ocls = .type q.ty := hcl
    subst hcl
    have hol' : (s.heap.push (z1A w)).get? l = some { cls := .type q.ty, dict := odict, data := odata, slots := oslots } := Heap.get?_push_of_some _ hol
    have hp1 : q.pre (s.heap.push (z1A w)) := q.keep (fun b o e => Heap.get?_push_of_some _ e) hp
    have hlS : l < s.heap.objs.size := Heap.lt_size hol
    have i1 : ∀ {B : Around} {E' : Value -> Shared -> Prop} {Q' : Value -> Shared -> Prop} {tk : Nat}, Q' (.ref (s.heap.push (z1A w)).objs.size) { s with heap := (s.heap.push (z1A w)).push q.obj, toks := tk } -> wpAny (model P w) B (pyIter (.ref l)) Q' E' { s with heap := s.heap.push (z1A w), toks := tk } := fun {B E' Q' tk} hq => by
     rw [<- el]; exact q.iter (s := { s with heap := s.heap.push (z1A w), toks := tk }) hp1 hq
    have hs1 : isSubtype (.type q.ty) (.type "set") = pure false := by
     cases q with
     | tup _ _ => exact zh3
     | str x t => exact absurd rfl (hn x t)
     | lst _ _ => exact F.sub_list_set
    have hs2 : isSubtype (.type q.ty) (.type "frozenset") = pure false := by
     cases q with
     | tup _ _ => exact zhJ
     | str x t => exact absurd rfl (hn x t)
     | lst _ _ => exact F.sub_list_frozenset
    have hnd : (Value.type q.ty == Value.type "dict") = false := by cases q <;> rfl
    unfold Builtin.«set.__init__» noKeywords Builtin.Frozenset.updateFrom
    generalize hPI : pyIter = PI
    wp_walk
    subst hPI
    refine i1 ?_
    refine wpAny_bind (wpAny_runValue ?_)
    have hh3 : A.in1.in1.in1.handled = none := by simp [hh]
    have hsz : (s.heap.push (z1A w)).objs.size = s.heap.objs.size + 1 := Heap.size_push ..
    have fo : q.obj.isFreed = false := by cases q <;> rfl
    obtain ⟨ax, St, ea, W, st0⟩ := q.walks (P := P) (w := w) (A := A.in1.in1.in1) hh3 hn (s.heap.push (z1A w)).objs.size (h := (s.heap.push (z1A w)).push q.obj) (q.keep (fun b o e => Heap.get?_push_of_some _ e) hp1) (Heap.get?_push_size _ fo) (by rw [el, hsz]; intro e; injection e with e; exact absurd hlS (by rw [e]; exact Nat.not_lt.mpr (Nat.le_succ _)))
    have eax : ax = l := by rw [el] at ea; injection ea with ea; exact ea.symm
    subst eax
    refine zjE W s.heap.objs.size (by
      rw [hsz]
      simp only [List.mem_cons, List.not_mem_nil, or_false, not_or]
      exact ⟨Nat.ne_of_lt (Nat.lt_succ_self _), Nat.ne_of_gt hlS⟩) vs hl (fun i v e _ => hv i v e) (by rw [<- hl]; exact hb) (q.vals.size - 0) 0 _ (by omega) (Nat.zero_le _) st0 ?_ fun h' tk hk S' => ?_
    ·exact (zjt (P := P) w s.heap).keep fun o e => Heap.get?_push_of_some _ e
    ·refine wpAny_pure (wpAny_pure ⟨rfl, h', tk, rfl, S', fun b o hb e => hk b o ?_ (Heap.get?_push_of_some _ (Heap.get?_push_of_some _ e))⟩)
     rw [hsz]
     simp only [List.mem_cons, List.not_mem_nil, or_false, not_or]
     exact ⟨Nat.ne_of_lt hb, Nat.ne_of_lt (Nat.lt_succ_of_lt hb)⟩
   ·cases r2 with
    | error e => exact hr2
    | ok fl2 =>
     cases fl2 with
     | ret r =>
      obtain ⟨rfl, h', tk, rfl, S', hk⟩ := hr2
      repeat (any_goals (first | assumption | wp_step))
      exact h _ _ S' hk
     | _ => exact hr2.elim
  | _ => exact hr.elim
end
theorem zdD : Manifest.owners.lookup (String.ofList ['r', 'o', 't', 'a', 'r', 'e', 't', 'i', '_', 't', 'e', 's'].reverse) = some Manifest.sig_set_iterator := by kernel_rfl
theorem slot_sn : Slot "set_iterator" "__next__" "set_iterator.__next__" := Slot.of (owner := "set_iterator") (n := "__next__") (by rw [typeLookup_type, builtinLookup_eq_fast]; kernel_rfl) (by decide +kernel) (by decide +kernel) (by decide +kernel) (by first | exact .inl (by decide +kernel) | exact .inr (by decide +kernel)) (by rw [isSubtype_type]; kernel_rfl)
theorem zbp : Slot "set_iterator" "__iter__" "set_iterator.__iter__" := Slot.of (owner := "set_iterator") (n := "__iter__") (by rw [typeLookup_type, builtinLookup_eq_fast]; kernel_rfl) (by decide +kernel) (by decide +kernel) (by decide +kernel) (by first | exact .inl (by decide +kernel) | exact .inr (by decide +kernel)) (by rw [isSubtype_type]; kernel_rfl)
theorem zcI : entryFor table "set_iterator.__next__" = some Builtin.«set_iterator.__next__» := entryFor_of_tree (by kernel_rfl)
theorem zdW (a : Value) : argsOk "set_iterator.__next__" ⟨[a], []⟩ := by
 unfold argsOk
 rw [signature?_of (id := "set_iterator.__next__") (n := ['_', '_', 't', 'x', 'e', 'n', '_', '_']) (o := ['r', 'o', 't', 'a', 'r', 'e', 't', 'i', '_', 't', 'e', 's']) (by kernel_rfl) zdD]
 kernel_rfl
theorem zeB (a : Value) : argsOk "set_iterator.__iter__" ⟨[a], []⟩ := by
 unfold argsOk
 rw [signature?_of (id := "set_iterator.__iter__") (n := ['_', '_', 'r', 'e', 't', 'i', '_', '_']) (o := ['r', 'o', 't', 'a', 'r', 'e', 't', 'i', '_', 't', 'e', 's']) (by kernel_rfl) zdD]
 kernel_rfl
theorem zcG : entryFor table "set.__iter__" = some Builtin.«frozenset.__iter__» := entryFor_alias (id' := "frozenset.__iter__") (by kernel_rfl) rfl (by decide +kernel) (by kernel_rfl)
theorem zcl : entryFor table "set_iterator.__iter__" = some Builtin.«dict_keyiterator.__iter__» := entryFor_alias (id' := "dict_keyiterator.__iter__") (by kernel_rfl) rfl (by decide +kernel) (by kernel_rfl)
theorem z23 {α : Type} {l : List α} {i : Nat} {x : α} (h : l[i]? = some x) : (x :: l.eraseIdx i).Perm l := by
 obtain ⟨hi, e⟩ := List.getElem?_eq_some_iff.mp h
 have q : l.take i ++ x :: l.drop (i + 1) = l := by rw [<- e, List.getElem_cons_drop hi, List.take_append_drop]
 rw [List.eraseIdx_eq_take_drop_succ]
 exact List.perm_middle.symm.trans (by rw [q])
theorem z7j {α : Type} (next : Nat -> Nat) : ∀ (fuel k : Nat) (left : List α) (out : Array α), left.length = fuel -> (pickOrder.go next fuel k left out).toList.Perm (out.toList ++ left)
 | 0, k, left, out, h => by
  have : left = [] := List.length_eq_zero_iff.mp h
  subst this
  unfold pickOrder.go
  simp
 | fuel + 1, k, left, out, h => by
  unfold pickOrder.go
  have hl : next k % left.length < left.length := Nat.mod_lt _ (by omega)
  rw [List.getElem?_eq_getElem hl]
  dsimp only
  have e := List.length_eraseIdx_of_lt hl
  refine (z7j next fuel (k + 1) _ _ (by rw [e]; omega)).trans ?_
  rw [Array.toList_push, List.append_assoc]
  exact List.Perm.append_left _ (z23 (List.getElem?_eq_getElem hl))
theorem z1t {α : Type} (next : Nat -> Nat) (xs : Array α) : (pickOrder next xs).toList.Perm xs.toList := by
 unfold pickOrder
 have := z7j next xs.size 0 xs.toList #[] (by simp)
 simpa using this
section
variable {P : Program} {w : World} {A : Around} {E : Value -> Shared -> Prop} {s : Shared} {a : Addr}
theorem zeR {src : Source} {n : Nat} {Q : Nat -> Shared -> Prop} (hn : n ≠ 0) (h : ∀ i d, i < n -> Q i { s with drawn := d }) : wpAny (model P w) A (choose src n) Q E s :=
 fun Γ p _ => ⟨hn, h _ _ (Nat.mod_lt _ (Nat.pos_of_ne_zero hn))⟩
theorem zgy {α : Type} : ∀ (n : Nat) (xs : List α) (s : Shared) (Q : List α -> Shared -> Prop), xs.length = n -> (∀ ys d, ys.Perm xs -> Q ys { s with drawn := d }) -> wpAny (model P w) A (drawOrder n xs) Q E s
 | 0, xs, s, Q, h, hq => by
  have : xs = [] := List.length_eq_zero_iff.mp h
  subst this
  unfold drawOrder
  exact wpAny_pure (by have := hq [] s.drawn (List.Perm.refl _); cases s; exact this)
 | n + 1, [], s, Q, h, hq => by simp at h
 | n + 1, x :: xs, s, Q, h, hq => by
  unfold drawOrder
  refine wpAny_bind (zeR (by simp) fun i d hi => ?_)
  rw [List.getElem?_eq_getElem hi]
  refine wpAny_bind (zgy n _ _ _ (by rw [List.length_eraseIdx_of_lt hi]; simpa using h) fun ys d' hp => wpAny_pure ?_)
  exact hq _ d' ((List.Perm.cons _ hp).trans (z23 (List.getElem?_eq_getElem hi)))
abbrev itO (first : Value) (i : Nat) (a : Addr) (n ep : Nat) : Obj := { cls := .type "set_iterator", data := .fields #[first, rawInt i, .ref a, rawInt n, rawInt ep] }
theorem zgl {I : Addr} {Q : Option Value -> Shared -> Prop} (hT : s.TypeIs (.ref I) "set_iterator") (h : wpAny (model P w) A.in1 (Builtin.«set_iterator.__next__» ⟨[.ref I], []⟩) (fun f s' => ∃ v, f = .done (.ret v) /\ Q (some v) s') (fun e s' => ∃ o, e = .ref o /\ (∃ ob, s'.heap.get? o = some ob /\ ob.cls = .type "StopIteration") /\ Q none s') s) :
  wpAny (model P w) A (pyNext (.ref I)) Q E s := by
 unfold pyNext
 refine wpAny_bind (wpAny_attempt (wpAny_callSpecial?_slot (name := "__next__") hT slot_sn (wpAny_call_entry slot_sn hT zcI ?_ (zdW _))))
 refine wpAny_mono h (fun f s' hf => ?_) fun e s' he => ?_
 ·obtain ⟨v, rfl, q⟩ := hf
  exact ⟨v, rfl, wpAny_pure q⟩
 ·obtain ⟨o, rfl, ⟨ob, ho, hc⟩, q⟩ := he
  exact wpAny_bind (wpAny_isInstance (T := "StopIteration") (b := true) ⟨ob, ho, hc⟩ isSubtype_stop (wpAny_pure q))
end
section
variable {P : Program} {w : World} {A : Around} {E : Value -> Shared -> Prop} {s : Shared} {a : Addr} {o : Obj} {es : Array (Int × Value)} {ep : Nat} {t : SetTable}
theorem z6n {α : Type} {Q : α -> Shared -> Prop} (hh : A.handled = none) (h : ∀ h' e, (∀ b o, s.heap.get? b = some o -> h'.get? b = some o) -> (∃ o, h'.get? e = some o /\ o.cls = .type "StopIteration") -> E (.ref e) { s with heap := h' }) :
  wpAny (model P w) A (newExc (.type "StopIteration") [] >>= fun e => (raiseNew e : Sem α)) Q E s := by
 refine wpAny_bind ?_
 simp only [newExc, newTuple]
 refine wpAny_bind (wpAny_newObj_type (?_) (by size_fits))
 refine wpAny_bind (m := firstArgMember _ _) (wpAny_of_eq (a := .none) (by first | rfl | (simp only [firstArgMember]; rfl)) (wpAny_newObj_type ?_ (by size_fits)))
 simp only [raiseNew]
 refine wpAny_bind (wpAny_handled ?_); rw [hh]
 refine wpAny_bind (wpAny_pure (wpAny_throw (h _ _ (fun b o e => Heap.get?_push_of_some _ (Heap.get?_push_of_some _ e)) ⟨_, Heap.get?_push_size _ rfl, rfl⟩)))
theorem zdf {sl i : Nat} {Q : Option (Value × Nat) -> Shared -> Prop} (ho : s.heap.get? a = some o) (hd : o.data = .set es ep t) (hf : t.fits es.size = true) (hb : byT w = true) (h : Q (((pickOrder (w.params.setOrder a ep) es)[i]?).map fun e => (e.2, sl)) s) :
  wpAny (model P w) A (setNext a sl i ep) Q E s := by
 have hb' : (model P w).w.params.followText "set-order" = true := hb
 unfold setNext setsByText
 refine wpAny_bind (wpAny_setState_of ho hd hf ?_)
 dsimp only
 refine wpAny_bind (wpAny_bind (wpAny_askSetting (wpAny_pure ?_)))
 rw [hb', if_pos rfl, if_neg (by simp)]
 refine wpAny_bind ?_
 unfold setWalk setsByText
 refine wpAny_bind (wpAny_setState_of ho hd hf ?_)
 dsimp only
 refine wpAny_bind (wpAny_bind (wpAny_askSetting (wpAny_pure ?_)))
 rw [hb', if_pos rfl]
 exact wpAny_bind (wpAny_askSetting (wpAny_pure (wpAny_pure h)))
theorem z9L {sl i : Nat} {Q : Option (Value × Nat) -> Shared -> Prop} (ho : s.heap.get? a = some o) (hd : o.data = .set es ep t) (hf : t.fits es.size = true) (hb : byT w = false) (hs : es.size <= 1) (hl : t.led = true)
  (h : Q (match es[SetTable.below t.place sl]?, t.place[SetTable.below t.place sl]? with | some (_, x), some j => some (x, j + 1) | _, _ => none) s) :
  wpAny (model P w) A (setNext a sl i ep) Q E s := by
 have hb' : (model P w).w.params.followText "set-order" = false := hb
 unfold setNext setsByText
 refine wpAny_bind (wpAny_setState_of ho hd hf ?_)
 dsimp only
 refine wpAny_bind (wpAny_bind (wpAny_askSetting (wpAny_pure ?_)))
 rw [hb', if_neg (by simp)]
 show wpAny _ _ (if (!t.plain && decide (es.size > 1)) = true then _ else _) _ _ _
 have h1 : (!t.plain && decide (es.size > 1)) = false := by
  rw [decide_eq_false (by omega)]; simp
 rw [h1, if_neg (by simp)]
 refine wpAny_bind ?_
 show wpAny _ _ (if (!t.led && !es.isEmpty) = true then _ else _) _ _ _
 rw [hl, if_neg (by simp)]
 exact wpAny_pure (wpAny_pure h)
theorem zbk {pl : Nat} {x : Int × Value} {Q : Value -> Shared -> Prop} (ho : s.heap.get? a = some o) (hd : o.data = .set es ep t) (hf : t.fits es.size = true) (hx : es[pl]? = some x) (h : Q x.2 s) :
  wpAny (model P w) A (setNextDrawn a pl ep) Q E s := by
 unfold setNextDrawn
 refine wpAny_bind (wpAny_setState_of ho hd hf ?_)
 dsimp only
 rw [if_neg (by simp), hx]
 exact wpAny_pure h
theorem zeY {Q : Bool -> Shared -> Prop} (ho : s.heap.get? a = some o) (hd : o.data = .set es ep t) (hf : t.fits es.size = true) (hpl : es.size ≠ 0 -> t.plain = false) (h : Q (!byT w && decide (es.size > 1)) s) : wpAny (model P w) A (setDrawn a) Q E s := by
 unfold setDrawn setsByText
 refine wpAny_bind (wpAny_setState_of ho hd hf ?_)
 dsimp only
 refine wpAny_bind (wpAny_bind (wpAny_askSetting (wpAny_pure (wpAny_pure ?_))))
 have e : (!t.plain && decide (es.size > 1)) = decide (es.size > 1) := by
  by_cases q : es.size > 1
  ·rw [hpl (by omega), decide_eq_true q]; rfl
  ·rw [decide_eq_false q]; simp
 show Q (!byT w && (!t.plain && decide (es.size > 1))) s
 rw [e]; exact h
theorem zcc {I : Addr} {sl i : Nat} {R : Option (Value × Nat)} {Q : Option Value -> Shared -> Prop} (ho : s.heap.get? a = some o) (hd : o.data = .set es ep t) (hf : t.fits es.size = true) (hI : s.heap.get? I = some (itO (rawInt sl) i a es.size ep)) (hne : a ≠ I) (hh : A.handled = none)
  (hn : ∀ (B : Around) (Q' : Option (Value × Nat) -> Shared -> Prop) (E' : Value -> Shared -> Prop), Q' R s -> wpAny (model P w) B (setNext a sl i ep) Q' E' s)
  (hq : ∀ v j, R = some (v, j) -> ∀ h', Heap.SameBut I s.heap h' -> h'.get? I = some (itO (rawInt j) (i + 1) a es.size ep) -> Q (some v) { s with heap := h' })
  (hz : R = none -> ∀ h', Heap.ExtBut I s.heap h' -> Q none { s with heap := h' }) : wpAny (model P w) A (pyNext (.ref I)) Q E s := by
 refine zgl ⟨_, hI, rfl⟩ ?_
 unfold Builtin.«set_iterator.__next__» slotArgs
 dsimp only
 rw [if_neg (by simp), if_neg (by simp)]
 refine wpAny_bind (wpAny_pure (wpAny_bind (wpAny_fieldsOf hI rfl ?_)))
 show wpAny _ _ (setEntries a >>= _) _ _ _
 refine wpAny_bind (wpAny_setEntries_of ho hd hf ?_)
 rw [if_neg (by simp)]
 show wpAny _ _ (setNext a sl i ep >>= _) _ _ _
 refine wpAny_bind (hn _ _ _ ?_)
 obtain ⟨hp, g, d, tk, os⟩ := s
 cases hR : R with
 | some p =>
  obtain ⟨v, j⟩ := p
  dsimp only
  refine wpAny_bind (wpAny_setField_rec hI (by simp) fun h1 e1 s1 => ?_)
  refine wpAny_bind (wpAny_setField_rec e1 (by simp) fun h2 e2 s2 => ?_)
  exact wpAny_pure ⟨v, rfl, hq v j hR h2 (s1.trans s2) e2⟩
 | none =>
  dsimp only
  refine wpAny_bind (wpAny_setField_rec hI (by simp) fun h1 e1 s1 => ?_)
  refine z6n (by simpa using hh) fun h' e he hc => ⟨e, rfl, hc, hz hR h' fun b ob hb z => he b ob (s1.extBut b ob hb z)⟩
theorem zhQ {I tt : Addr} {i : Nat} {first : Value} {ps : List Nat} {Q : Option Value -> Shared -> Prop} (ho : s.heap.get? a = some o) (hd : o.data = .set es ep t) (hf : t.fits es.size = true) (hI : s.heap.get? I = some (itO (.ref tt) i a es.size ep)) (ht : s.heap.get? tt = some { cls := .type "tuple", data := .seq (ps.map fun (j : Nat) => rawInt (j : Int)).toArray }) (hh : A.handled = none)
  (hq : ∀ j x, ps[i]? = some j -> es[j]? = some x -> ∀ h', Heap.SameBut I s.heap h' -> h'.get? I = some (itO (.ref tt) (i + 1) a es.size ep) -> Q (some x.2) { s with heap := h' }) (hin : ∀ j, ps[i]? = some j -> j < es.size)
  (hz : ps[i]? = none -> ∀ h', Heap.ExtBut I s.heap h' -> Q none { s with heap := h' }) : wpAny (model P w) A (pyNext (.ref I)) Q E s := by
 refine zgl ⟨_, hI, rfl⟩ ?_
 unfold Builtin.«set_iterator.__next__» slotArgs
 dsimp only
 rw [if_neg (by simp), if_neg (by simp)]
 refine wpAny_bind (wpAny_pure (wpAny_bind (wpAny_fieldsOf hI rfl ?_)))
 show wpAny _ _ (setEntries a >>= _) _ _ _
 refine wpAny_bind (wpAny_setEntries_of ho hd hf ?_)
 rw [if_neg (by simp)]
 show wpAny _ _ (seqItems? (.ref tt) >>= _) _ _ _
 refine wpAny_bind (wpAny_seqItems ht rfl ?_)
 obtain ⟨hp, g, d, tk, os⟩ := s
 have e0 : ((ps.map fun (j : Nat) => rawInt (j : Int)).toArray)[((i : Int)).toNat]? = (ps[i]?).map fun (j : Nat) => rawInt (j : Int) := by
  rw [Int.toNat_natCast, List.getElem?_toArray, List.getElem?_map]
 dsimp only
 rw [e0]
 cases hR : ps[i]? with
 | some j =>
  have hj := hin j hR
  dsimp only [Option.map_some, rawInt]
  refine wpAny_bind (zbk (pl := j) (x := es[j]) ho hd hf (Array.getElem?_eq_getElem hj) ?_)
  refine wpAny_bind (wpAny_setField_rec hI (by simp) fun h1 e1 s1 => ?_)
  exact wpAny_pure ⟨_, rfl, hq j _ hR (Array.getElem?_eq_getElem hj) h1 s1 e1⟩
 | none =>
  dsimp only [Option.map_none]
  refine wpAny_bind (wpAny_setField_rec hI (by simp) fun h1 e1 s1 => ?_)
  refine wpAny_bind (wpAny_setField_rec e1 (by simp) fun h2 e2 s2 => ?_)
  refine z6n (by simpa using hh) fun h' e he hc => ⟨e, rfl, hc, hz hR h' fun b ob hb z => he b ob (s2.extBut b ob hb (s1.extBut b ob hb z))⟩
end
section
variable {P : Program} {w : World} {A : Around} {E : Value -> Shared -> Prop} {s : Shared} {a : Addr} {o : Obj} {es : Array (Int × Value)} {ep : Nat} {t : SetTable} {I tt : Addr}
abbrev PvS (os : List Str) : Nat -> Value -> Prop := fun i v => ∃ tk : Tok, v = .str (os.getD i ⟨#[]⟩) tk
theorem zeE {Q : Value -> Shared -> Prop} (h : ∃ ob, s.heap.get? I = some ob /\ ob.cls = .type "set_iterator") (q : Q (.ref I) s) : wpAny (model P w) A (pyIter (.ref I)) Q E s := by
 have ht : s.TypeIs (.ref I) "set_iterator" := h
 refine wpAny_pyIter_slot ht zbp (wpAny_call_entry zbp ht zcl ?_ (zeB _))
 unfold Builtin.«dict_keyiterator.__iter__»
 obtain ⟨hp, g, d, tk, os⟩ := s
 wp_walk
 exact ⟨_, rfl, "set_iterator", _, ht, slot_sn.lookup, q⟩
theorem z9A {l : List (Int × Value)} (hel : ElemsOf (strKind P w) l) {i : Nat} {e : Int × Value} (h : l[i]? = some e) : PvS (l.map z4t) i e.2 := by
 obtain ⟨tk, ht⟩ := z5B hel (List.mem_of_getElem? h)
 refine ⟨tk, ?_⟩
 rw [List.getD_eq_getElem?_getD, List.getElem?_map, h]
 exact ht
theorem zeP (hd : o.data = .set es ep t) (hf : t.fits es.size = true) (hel : ElemsOf (strKind P w) es.toList) (hb : byT w = true) (hh : A.handled = none) (hne : a ≠ I) :
  Walks P w A I [I, a] [I] es.size (PvS ((pickOrder (w.params.setOrder a ep) es).toList.map z4t)) (fun i h => (∃ sl : Nat, h.get? I = some (itO (rawInt sl) i a es.size ep)) /\ h.get? a = some o) where
 sub := fun b hb => by simp at hb; simp [hb]
 frame := fun i h h' st hk => ⟨let ⟨sl, e⟩ := st.1; ⟨sl, hk I (by simp) _ e⟩, hk a (by simp) _ st.2⟩
 item := fun i s Q E hi st hq => by
  obtain ⟨⟨sl, hI⟩, ho⟩ := st
  have hpm := z1t (w.params.setOrder a ep) es
  have hsz : (pickOrder (w.params.setOrder a ep) es).size = es.size := by rw [<- Array.length_toList, hpm.length_eq, Array.length_toList]
  have hi' : i < (pickOrder (w.params.setOrder a ep) es).size := by omega
  refine zcc (R := some ((pickOrder (w.params.setOrder a ep) es)[i].2, sl)) ho hd hf hI hne hh (fun B Q' E' h => zdf ho hd hf hb (by rw [Array.getElem?_eq_getElem hi']; exact h)) (fun v j e h' sb e' => ?_) fun e => by cases e
  cases e
  refine hq _ h' s.toks (z9A (hel.perm hpm) (by rw [Array.getElem?_toList]; exact Array.getElem?_eq_getElem hi')) ⟨⟨_, e'⟩, ?_⟩ fun b ob hb z => ?_
  ·rw [sb.2 a hne]; exact ho
  ·rw [sb.2 b (by simpa using hb)]; exact z
 done := fun s Q E st hq => by
  obtain ⟨⟨sl, hI⟩, ho⟩ := st
  have hpm := z1t (w.params.setOrder a ep) es
  have hsz : (pickOrder (w.params.setOrder a ep) es).size = es.size := by rw [<- Array.length_toList, hpm.length_eq, Array.length_toList]
  refine zcc (R := none) ho hd hf hI hne hh (fun B Q' E' h => zdf ho hd hf hb (by rw [Array.getElem?_eq_none (by omega)]; exact h)) (fun v j e => by cases e) fun _ h' eb => hq h' s.toks fun b ob hb z => eb b ob (by simpa using hb) z
 self := fun i s Q E st hq => zeE (let ⟨⟨sl, e⟩, _⟩ := st; ⟨_, e, rfl⟩) hq
theorem zfl (hd : o.data = .set es ep t) (hf : t.fits es.size = true) (hel : ElemsOf (strKind P w) es.toList) (hh : A.handled = none) (hne : a ≠ I) (hnt : tt ≠ I) {ps : List Nat} (hps : ps.Perm (List.range es.size)) :
  Walks P w A I [I, a, tt] [I] es.size (PvS ((ps.filterMap fun j => es[j]?).map z4t)) (fun i h => h.get? I = some (itO (.ref tt) i a es.size ep) /\ h.get? a = some o /\ h.get? tt = some { cls := .type "tuple", data := .seq (ps.map fun (j : Nat) => rawInt (j : Int)).toArray }) where
 sub := fun b hb => by simp at hb; simp [hb]
 frame := fun i h h' st hk => ⟨hk I (by simp) _ st.1, hk a (by simp) _ st.2.1, hk tt (by simp) _ st.2.2⟩
 item := fun i s Q E hi st hq => by
  obtain ⟨hI, ho, ht⟩ := st
  have hlen : ps.length = es.size := by rw [hps.length_eq]; simp
  have hin : ∀ j ∈ ps, j < es.size := fun j hj => List.mem_range.mp (hps.mem_iff.mp hj)
  refine zhQ (first := .ref tt) ho hd hf hI ht hh (fun j x e1 e2 h' sb e' => ?_) (fun j e => hin j (List.mem_of_getElem? e)) fun e => absurd (List.getElem?_eq_none_iff.mp e) (by omega)
  have hfm : ∀ (l : List Nat), (∀ j ∈ l, j < es.size) -> (l.filterMap fun j => es[j]?) = l.map fun j => es.getD j default := by
   intro l
   induction l with
   | nil => intro _; rfl
   | cons q l ih =>
    intro h
    have hq' := h q List.mem_cons_self
    rw [List.filterMap_cons, Array.getElem?_eq_getElem hq', ih fun j hj => h j (List.mem_cons_of_mem _ hj), List.map_cons]
    simp [Array.getD, hq']
  have hx : (ps.filterMap fun j => es[j]?)[i]? = some x := by
   rw [hfm ps hin, List.getElem?_map, e1]
   have hj := hin j (List.mem_of_getElem? e1)
   rw [Array.getElem?_eq_getElem hj] at e2
   have : es[j] = x := Option.some.inj e2
   simp [Array.getD, hj, this]
  have hel' : ElemsOf (strKind P w) (ps.filterMap fun j => es[j]?) := fun e he => by
   obtain ⟨j, _, hj⟩ := List.mem_filterMap.mp he
   exact hel e (by rw [<- Array.getElem?_toList] at hj; exact List.mem_of_getElem? hj)
  refine hq _ h' s.toks (z9A hel' hx) ⟨e', ?_, ?_⟩ fun b ob hb z => ?_
  ·rw [sb.2 a hne]; exact ho
  ·rw [sb.2 tt hnt]; exact ht
  ·rw [sb.2 b (by simpa using hb)]; exact z
 done := fun s Q E st hq => by
  obtain ⟨hI, ho, ht⟩ := st
  have hlen : ps.length = es.size := by rw [hps.length_eq]; simp
  have hn : ps[es.size]? = none := List.getElem?_eq_none_iff.mpr (by omega)
  exact zhQ (first := .ref tt) ho hd hf hI ht hh (fun j x e1 => by rw [hn] at e1; cases e1) (fun j e => by rw [hn] at e; cases e) fun _ h' eb => hq h' s.toks fun b ob hb z => eb b ob (by simpa using hb) z
 self := fun i s Q E st hq => zeE ⟨_, st.1, rfl⟩ hq
theorem zdO (xs : Array Nat) (h : xs.size <= 1) : SetTable.below xs 0 = 0 := by
 unfold SetTable.below
 have : xs.size = 0 \/ xs.size = 1 := by omega
 rcases this with e | e
 ·rw [e]; rfl
 ·rw [e]
  unfold SetTable.below.go
  rw [if_pos (by omega)]
  dsimp only
  rw [if_neg (by simp)]
  unfold SetTable.below.go
  rfl
theorem zfv (xs : Array Nat) (p : Nat) (h : xs.size = 1) (hp : xs[0]? = some p) : SetTable.below xs (p + 1) = 1 := by
 unfold SetTable.below
 rw [h]
 unfold SetTable.below.go
 rw [if_pos (by omega)]
 dsimp only
 have e : xs.getD ((0 + 1) / 2) (p + 1) = p := by
  show xs.getD 0 (p + 1) = p
  rw [Array.getD_eq_getD_getElem?, hp]; rfl
 rw [e, if_pos (by omega)]
 unfold SetTable.below.go
 rfl
theorem zbZ (hd : o.data = .set es ep t) (hf : t.fits es.size = true) (hel : ElemsOf (strKind P w) es.toList) (hb : byT w = false) (hs : es.size <= 1) (hl : t.led = true) (hh : A.handled = none) (hne : a ≠ I) :
  Walks P w A I [I, a] [I] es.size (PvS (es.toList.map z4t)) (fun i h => (∃ sl : Nat, h.get? I = some (itO (rawInt sl) i a es.size ep) /\ SetTable.below t.place sl = i) /\ h.get? a = some o) where
 sub := fun b hb => by simp at hb; simp [hb]
 frame := fun i h h' st hk => ⟨let ⟨sl, e, q⟩ := st.1; ⟨sl, hk I (by simp) _ e, q⟩, hk a (by simp) _ st.2⟩
 item := fun i s Q E hi st hq => by
  obtain ⟨⟨sl, hI, hbl⟩, ho⟩ := st
  have hpz : t.place.size = es.size := by simp only [SetTable.fits, Bool.and_eq_true, beq_iff_eq] at hf; exact hf.1
  have h1 : es.size = 1 := by omega
  have h0 : i = 0 := by omega
  subst h0
  have hp1 : t.place.size = 1 := by omega
  refine zcc (R := some (es[0].2, t.place[0] + 1)) ho hd hf hI hne hh (fun B Q' E' h => z9L ho hd hf hb hs hl (by rw [hbl, Array.getElem?_eq_getElem hi, Array.getElem?_eq_getElem (by omega)]; exact h)) (fun v j e h' sb e' => ?_) fun e => by cases e
  cases e
  refine hq _ h' s.toks (z9A hel (by rw [Array.getElem?_toList]; exact Array.getElem?_eq_getElem hi)) ⟨⟨_, e', zfv _ _ hp1 (Array.getElem?_eq_getElem _)⟩, ?_⟩ fun b ob hb z => ?_
  ·rw [sb.2 a hne]; exact ho
  ·rw [sb.2 b (by simpa using hb)]; exact z
 done := fun s Q E st hq => by
  obtain ⟨⟨sl, hI, hbl⟩, ho⟩ := st
  refine zcc (R := none) ho hd hf hI hne hh (fun B Q' E' h => z9L ho hd hf hb hs hl (by rw [hbl, Array.getElem?_eq_none (Nat.le_refl _)]; exact h)) (fun v j e => by cases e) fun _ h' eb => hq h' s.toks fun b ob hb z => eb b ob (by simpa using hb) z
 self := fun i s Q E st hq => zeE (let ⟨⟨sl, e, _⟩, _⟩ := st; ⟨_, e, rfl⟩) hq
end
section
variable {P : Program} {w : World} {A : Around} {E : Value -> Shared -> Prop} {s : Shared} {a : Addr} {ks : List Str}
theorem zdJ (es : Array (Int × Value)) : ∀ (l : List Nat), (∀ j ∈ l, j < es.size) -> (l.filterMap fun j => es[j]?).length = l.length
 | [], _ => rfl
 | q :: l, h => by
  rw [List.filterMap_cons, Array.getElem?_eq_getElem (h q List.mem_cons_self)]
  show (_ :: _).length = _
  rw [List.length_cons, List.length_cons, zdJ es l fun j hj => h j (List.mem_cons_of_mem _ hj)]
structure ItX (P : Program) (w : World) (a : Addr) (ks : List Str) (s : Shared) (I : Addr) (s1 : Shared) : Prop where
 ex : ∃ (os : List Str) (fp : List Addr) (St : Nat -> Heap -> Prop), os.Perm ks /\ I ∈ fp /\ (∀ b ∈ fp, b < s1.heap.objs.size) /\ (∀ b ∈ fp, b = a \/ s.heap.objs.size <= b) /\ (∀ B : Around, B.handled = none -> Walks P w B I fp [I] os.length (PvS os) St) /\ St 0 s1.heap
 keep : ∀ b o, s.heap.get? b = some o -> s1.heap.get? b = some o
 ty : ∃ ob, s1.heap.get? I = some ob /\ ob.cls = .type "set_iterator"
 new : s.heap.objs.size <= I
 gens : s1.gens = s.gens
 os : s1.os = s.os
theorem zil {Q : Value -> Shared -> Prop} (hS : SetX P w a ks s.heap) (h : ∀ I s1, ItX P w a ks s I s1 -> Q (.ref I) s1) : wpAny (model P w) A (pyIter (.ref a)) Q E s := by
 obtain ⟨o, es, ep, t, ho, hx, hd, hel, hp, hn, hb, hf, hl, hpl⟩ := hS
 have hT : s.TypeIs (.ref a) "set" := ⟨o, ho, hx.1⟩
 have hsz : es.size = ks.length := by rw [<- hp.length_eq]; simp
 have halt : a < s.heap.objs.size := Heap.lt_size ho
 refine wpAny_pyIter_slot hT F.slot_set_iter (wpAny_call_entry F.slot_set_iter hT zcG ?_ (F.args_set_iter_1 _))
 unfold Builtin.«frozenset.__iter__» Builtin.Frozenset.slot0 slotArgs
 simp only [List.isEmpty_nil, Bool.not_true, Bool.false_eq_true, ↓reduceIte, bind_assoc, List.length_nil, bne_self_eq_false]
 unfold Builtin.Frozenset.addrOf Builtin.Frozenset.sizeOf
 refine wpAny_bind (wpAny_pure (wpAny_bind (wpAny_pure (wpAny_bind (wpAny_bind (wpAny_setEntries_of ho hd hf (wpAny_pure ?_)))))))
 refine wpAny_bind (zeY ho hd hf hpl ?_)
 have fin : ∀ (first : Value) (h1 : Heap) (d : Drawn), (∀ b ob, s.heap.get? b = some ob -> h1.get? b = some ob) -> s.heap.objs.size <= h1.objs.size ->
   (∃ (os : List Str) (fp : List Addr) (St : Nat -> Heap -> Prop), os.Perm ks /\ h1.objs.size ∈ fp /\ (∀ b ∈ fp, b < h1.objs.size + 1) /\ (∀ b ∈ fp, b = a \/ s.heap.objs.size <= b) /\ (∀ B : Around, B.handled = none -> Walks P w B h1.objs.size fp [h1.objs.size] os.length (PvS os) St) /\ St 0 (h1.push (itO first 0 a es.size ep))) ->
   wpAny (model P w) A.in1 (setEpoch a >>= fun e => newFields "set_iterator" [first, rawInt 0, .ref a, rawInt es.size, rawInt e] >>= fun v => ret v) (fun f s' => ∃ r, f = .done (.ret r) /\ ∃ T' r', s'.TypeIs r T' /\ typeLookup (.type T') "__next__" = pure (some r') /\ Q r s') E { s with heap := h1, drawn := d } := by
  intro first h1 d hk hz ⟨os, fp, St, p1, p2, p3, p6, p4, p5⟩
  refine wpAny_bind (wpAny_setEpoch_of (hk a o ho) hd hf ?_)
  unfold newFields
  refine wpAny_bind (wpAny_newObj_type ?_ (by size_fits))
  have g : (h1.push (itO first 0 a es.size ep)).get? h1.objs.size = some (itO first 0 a es.size ep) := Heap.get?_push_size _ rfl
  refine wpAny_pure ⟨_, rfl, "set_iterator", _, ⟨_, g, rfl⟩, slot_sn.lookup, h _ _ ⟨⟨os, fp, St, p1, p2, fun b hb => ?_, p6, p4, p5⟩, fun b ob e => Heap.get?_push_of_some _ (hk b ob e), ⟨_, g, rfl⟩, hz, rfl, rfl⟩⟩
  rw [Heap.size_push]; exact p3 b hb
 cases hdr : (!byT w && decide (es.size > 1)) with
 | true =>
  rw [if_pos rfl]
  refine wpAny_bind (zgy es.size (List.range es.size) _ _ (by simp) fun ps d hps => wpAny_bind (wpAny_newTuple ?_ ?_))
  ·have hsz1 : (s.heap.push { cls := .type "tuple", data := .seq (ps.map fun (j : Nat) => rawInt (j : Int)).toArray }).objs.size = s.heap.objs.size + 1 := Heap.size_push ..
   refine fin (.ref s.heap.objs.size) _ d (fun b ob e => Heap.get?_push_of_some _ e) (by rw [hsz1]; exact Nat.le_succ _) ?_
   refine ⟨(ps.filterMap fun j => es[j]?).map z4t, [(s.heap.push { cls := .type "tuple", data := .seq (ps.map fun (j : Nat) => rawInt (j : Int)).toArray }).objs.size, a, s.heap.objs.size], (fun i h => h.get? (s.heap.push { cls := .type "tuple", data := .seq (ps.map fun (j : Nat) => rawInt (j : Int)).toArray }).objs.size = some (itO (.ref s.heap.objs.size) i a es.size ep) /\ h.get? a = some o /\ h.get? s.heap.objs.size = some { cls := .type "tuple", data := .seq (ps.map fun (j : Nat) => rawInt (j : Int)).toArray }), ?_, by simp, ?_, ?_, fun B hB => ?_, Heap.get?_push_size _ rfl, Heap.get?_push_of_some _ (Heap.get?_push_of_some _ ho), Heap.get?_push_of_some _ (Heap.get?_push_size _ rfl)⟩
   ·refine (List.Perm.map z4t ?_).trans hp
    have e1 : (List.range es.size).filterMap (fun j => es[j]?) = es.toList := by
     apply List.ext_getElem?
     intro i
     have hfm : ∀ n, n <= es.size -> (List.range n).filterMap (fun j => es[j]?) = es.toList.take n := by
      intro n
      induction n with
      | zero => intro _; simp
      | succ n ih =>
       intro hn'
       rw [List.range_succ, List.filterMap_append, ih (by omega), List.filterMap_cons, List.filterMap_nil, Array.getElem?_eq_getElem (by omega), List.take_succ, Array.getElem?_toList, Array.getElem?_eq_getElem (by omega)]
       rfl
     rw [hfm es.size (Nat.le_refl _), List.take_of_length_le (by simp)]
    rw [<- e1]
    exact hps.filterMap _
   ·intro b hb
    rw [hsz1] at hb ⊢
    simp only [List.mem_cons, List.not_mem_nil, or_false] at hb
    rcases hb with rfl | rfl | rfl
    ·exact Nat.lt_succ_self _
    ·exact Nat.lt_succ_of_lt (Nat.lt_succ_of_lt halt)
    ·exact Nat.lt_succ_of_lt (Nat.lt_succ_self _)
   ·intro b hb
    rw [hsz1] at hb
    simp only [List.mem_cons, List.not_mem_nil, or_false] at hb
    rcases hb with rfl | rfl | rfl
    ·exact .inr (Nat.le_succ _)
    ·exact .inl rfl
    ·exact .inr (Nat.le_refl _)
   ·have hlen : ((ps.filterMap fun j => es[j]?).map z4t).length = es.size := by
     have e0 := zdJ es ps fun j hj => List.mem_range.mp (hps.mem_iff.mp hj)
     rw [List.length_map, e0, hps.length_eq]; simp
    rw [hlen]
    exact zfl hd hf hel hB (by rw [hsz1]; exact Nat.ne_of_lt (Nat.lt_succ_of_lt halt)) (by rw [hsz1]; exact Nat.ne_of_lt (Nat.lt_succ_self _)) hps
  ·rw [List.length_map, hps.length_eq, List.length_range]; exact fits_of_scanBound hb
 | false =>
  rw [if_neg (by simp)]
  have this := fin (rawInt 0) s.heap s.drawn (fun b ob e => e) (Nat.le_refl _)
  have e0 : ({ s with heap := s.heap, drawn := s.drawn } : Shared) = s := by cases s; rfl
  rw [e0] at this
  refine this ?_
  by_cases hbt : byT w = true
  ·refine ⟨(pickOrder (w.params.setOrder a ep) es).toList.map z4t, [s.heap.objs.size, a], (fun i h => (∃ sl : Nat, h.get? s.heap.objs.size = some (itO (rawInt sl) i a es.size ep)) /\ h.get? a = some o), ((z1t _ es).map z4t).trans hp, by simp, ?_, ?_, fun B hB => ?_, ⟨0, Heap.get?_push_size _ rfl⟩, Heap.get?_push_of_some _ ho⟩
   ·intro b hb
    simp only [List.mem_cons, List.not_mem_nil, or_false] at hb
    rcases hb with rfl | rfl
    ·exact Nat.lt_succ_self _
    ·exact Nat.lt_succ_of_lt halt
   ·intro b hb
    simp only [List.mem_cons, List.not_mem_nil, or_false] at hb
    rcases hb with rfl | rfl
    ·exact .inr (Nat.le_refl _)
    ·exact .inl rfl
   ·have hlen : ((pickOrder (w.params.setOrder a ep) es).toList.map z4t).length = es.size := by rw [List.length_map, (z1t _ es).length_eq]; simp
    rw [hlen]
    exact zeP hd hf hel hbt hB (Nat.ne_of_lt halt)
  ·have hbt : byT w = false := by simpa using hbt
   have h1 : es.size <= 1 := by
    rw [hbt] at hdr
    simp at hdr; exact hdr
   have hpz : t.place.size = es.size := by simp only [SetTable.fits, Bool.and_eq_true, beq_iff_eq] at hf; exact hf.1
   refine ⟨es.toList.map z4t, [s.heap.objs.size, a], (fun i h => (∃ sl : Nat, h.get? s.heap.objs.size = some (itO (rawInt sl) i a es.size ep) /\ SetTable.below t.place sl = i) /\ h.get? a = some o), hp, by simp, ?_, ?_, fun B hB => ?_, ⟨0, Heap.get?_push_size _ rfl, zdO _ (by omega)⟩, Heap.get?_push_of_some _ ho⟩
   ·intro b hb
    simp only [List.mem_cons, List.not_mem_nil, or_false] at hb
    rcases hb with rfl | rfl
    ·exact Nat.lt_succ_self _
    ·exact Nat.lt_succ_of_lt halt
   ·intro b hb
    simp only [List.mem_cons, List.not_mem_nil, or_false] at hb
    rcases hb with rfl | rfl
    ·exact .inr (Nat.le_refl _)
    ·exact .inl rfl
   ·have hlen : (es.toList.map z4t).length = es.size := by simp
    rw [hlen]
    exact zbZ hd hf hel hbt h1 (hl hbt) hB (Nat.ne_of_lt halt)
end
section
variable {P : Program} {w : World} {A : Around} {E : Value -> Shared -> Prop} {s : Shared} {a : Addr} {ks : List Str}
theorem zix {Q : Bool -> Shared -> Prop} (hT : s.TypeIs (.ref a) "set") (h : Q false s) : wpAny (model P w) A (Builtin.List.listLengthHint (.ref a)) Q E s := by
 unfold Builtin.List.listLengthHint
 refine wpAny_bind (wpAny_specialOf hT F.slot_set_len.lookup ?_)
 have hsp : splitId "set.__len__" = some ("set", "__len__") := by kernel_rfl
 have hss := sub_set_self
 obtain ⟨hp, g, d, tk, os⟩ := s
 dsimp only
 rw [hsp]
 dsimp only
 refine wpAny_bind (wpAny_isInstance hT hss ?_)
 rw [if_neg (by simp), if_pos (by kernel_rfl)]
 exact wpAny_bind (wpAny_typeOf hT (wpAny_pure h))
theorem z3l : ∀ (os : List Str) (vs : List Value), vs.length = os.length -> (∀ j v, vs[j]? = some v -> PvS os j v) -> PyProof.Rows.StrsAre vs os
 | [], [], _, _ => .nil
 | [], _ :: _, h, _ => by simp at h
 | _ :: _, [], h, _ => by simp at h
 | x :: os, v :: vs, h, q => by
  obtain ⟨tk, e⟩ := q 0 v rfl
  have e : v = .str x tk := e
  subst e
  exact .cons x tk (z3l os vs (by simpa using h) fun j u z => by
   obtain ⟨t', e'⟩ := q (j + 1) u (by simpa using z)
   exact ⟨t', by simpa [List.getD] using e'⟩)
theorem zd5 {Q : List Value -> Shared -> Prop} (hh : A.handled = none) (hS : SetX P w a ks s.heap) (hn : ks.length <= 1000)
  (h : ∀ (vs : List Value) (os : List Str) s1, os.Perm ks -> PyProof.Rows.StrsAre vs os -> s.heap.objs.size <= s1.heap.objs.size -> (∀ b o, s.heap.get? b = some o -> s1.heap.get? b = some o) -> s1.gens = s.gens -> s1.os = s.os -> Q vs s1) :
  wpAny (model P w) A (collect (.ref a)) Q E s := by
 obtain ⟨o, es, ep, t, ho, hx, r⟩ := id hS
 have hT : s.TypeIs (.ref a) "set" := ⟨o, ho, hx.1⟩
 have halt : a < s.heap.objs.size := Heap.lt_size ho
 unfold collect
 refine wpAny_bind (wpAny_runValue (codeAny_builtin F.entry_proto_collect ?_))
 rw [Around.under_plainId F.plain_proto_collect _]
 show wpAny _ A.in1 (newList [] >>= fun l => again (.builtin "list.__iadd__" ⟨[l, .ref a], []⟩)) _ _ s
 refine wpAny_bind (wpAny_newObj_type (wpAny_pure ⟨plainId_quiet F.plain_list_iadd _, codeAny_builtin F.entry_list_iadd ?_⟩))
 rw [Around.under_plainId F.plain_list_iadd _]
 have g0 : (s.heap.push { cls := .type "list", data := .seq ([] : List Value).toArray }).get? s.heap.objs.size = some { cls := .type "list", data := .seq ([] : List Value).toArray } := Heap.get?_push_size _ rfl
 have S0 : SetX P w a ks (s.heap.push { cls := .type "list", data := .seq ([] : List Value).toArray }) := hS.keep fun o e => Heap.get?_push_of_some _ e
 have T0 : Shared.TypeIs { s with heap := s.heap.push { cls := .type "list", data := .seq ([] : List Value).toArray } } (.ref a) "set" := ⟨o, Heap.get?_push_of_some _ ho, hx.1⟩
 show wpAny _ A.in1 (Builtin.List.listExtendWith (.ref s.heap.objs.size) (.ref a) (.ref s.heap.objs.size)) _ _ _
 unfold Builtin.List.listExtendWith
 refine wpAny_bind (wpAny_typeOf T0 ?_)
 have h1 : Builtin.List.listSameRef (.ref s.heap.objs.size) (.ref a) = false := by simp [Builtin.List.listSameRef, Nat.ne_of_gt halt]
 rw [if_neg (by rw [h1]; decide)]
 refine wpAny_bind (zil (s := { s with heap := s.heap.push { cls := .type "list", data := .seq ([] : List Value).toArray } }) S0 fun I s1 X => ?_)
 obtain ⟨⟨os, fp, St, p1, p2, p3, p6, p4, p5⟩, kp, ty, nw, gn, oo⟩ := X
 refine wpAny_bind (wpAny_holding (zix ⟨o, kp a o (Heap.get?_push_of_some _ ho), hx.1⟩ ?_))
 rw [if_pos (by kernel_rfl)]
 refine wpAny_bind (wpAny_rule ?_)
 refine wpAny_bind ?_
 obtain ⟨hp, g, d, tk, oss⟩ := s1
 have gS : hp.get? s.heap.objs.size = some { cls := .type "list", data := .seq ([] : List Value).toArray } := kp _ _ g0
 show wpAny _ A.in1 (updateSeq s.heap.objs.size (·.push .none) >>= fun _ => updateSeq s.heap.objs.size (·.pop)) _ _ _
 refine wpAny_bind (wpAny_updateSeq gS rfl ?_)
 have g2 := Heap.get?_update_self (Obj.mapSeq (·.push Value.none)) gS rfl
 refine wpAny_updateSeq g2 rfl ?_
 have g3 := Heap.get?_update_self (Obj.mapSeq (·.pop)) g2 rfl
 have hz1 : (Shared.heap { s with heap := s.heap.push { cls := .type "list", data := .seq ([] : List Value).toArray } }).objs.size = s.heap.objs.size + 1 := Heap.size_push ..
 have hSf : s.heap.objs.size ∉ fp := fun m => by
  rcases p6 _ m with e | e
  ·exact Nat.lt_irrefl _ (e ▸ halt)
  ·rw [hz1] at e; exact Nat.not_succ_le_self _ e
 have W := (p4 A.in1 (by simpa using hh)).toS
 have oth : ∀ b ob, b ≠ s.heap.objs.size -> hp.get? b = some ob -> ((hp.update s.heap.objs.size (Obj.mapSeq (·.push Value.none))).update s.heap.objs.size (Obj.mapSeq (·.pop))).get? b = some ob :=
  fun b ob hb e => (Heap.get?_update_other _ _ (Ne.symm hb)).trans ((Heap.get?_update_other _ _ (Ne.symm hb)).trans e)
 refine wpAny_pure ⟨plainId_quiet F.plain_extend_loop _, codeAny_extend_loopS W (Nat.le_trans (by rw [p1.length_eq]; exact hn) (by decide)) _ hSf _ os.length 0 _ _ _ rfl (Nat.zero_le _) ((p4 A.in1 (by simpa using hh)).frame 0 hp _ p5 fun b hb ob e => oth b ob (fun q => hSf (q ▸ hb)) e) g3 (ItemsOf.nil _) fun s' acc c' hm hS' hacc => ?_⟩
 show wpAny _ A (load s.heap.objs.size >>= _) _ _ s'
 refine wpAny_bind (wpAny_load hS' (wpAny_pure ?_))
 have hst : PyProof.Rows.StrsAre acc.toList os := z3l os acc.toList (by simpa using hacc.1) fun j v e => hacc.2 j v (by rw [<- Array.getElem?_toList]; exact e)
 refine h acc.toList os s' p1 hst (Nat.le_of_lt (Heap.lt_size hS')) (fun b ob e => hm.heap b ob ?_ (oth b ob ?_ (kp b ob (Heap.get?_push_of_some _ e)))) (hm.gens.trans gn) (hm.os.trans oo)
 ·simp only [List.mem_cons, List.not_mem_nil, or_false, not_or]
  refine ⟨fun q => absurd (Heap.lt_size e) (by rw [q]; exact Nat.lt_irrefl _), fun q => ?_⟩
  have hb := Heap.lt_size e
  rw [hz1] at nw
  exact absurd (Nat.lt_of_lt_of_le hb (Nat.le_of_succ_le nw)) (by rw [q]; exact Nat.lt_irrefl _)
 ·exact fun q => absurd (Heap.lt_size e) (by rw [q]; exact Nat.lt_irrefl _)
end
end DL
namespace DL
open PySem PyProof.Rows
section
variable {P : Program} {w : World} {A : Around} {E : Value -> Shared -> Prop} {s : Shared} {a : Addr} {ks : List Str}
theorem zf8 {Q : Value -> Shared -> Prop} (hh : A.handled = none) (hS : SetX P w a ks s.heap) (hn : ks.length < 64)
  (h : ∀ (out : Array Value) (os : List Str) l s1 c, os.Perm ks -> sortedS os = true -> StrsAre out.toList os -> s.heap.objs.size <= l -> s1.heap.get? l = some { cls := .type "list", data := .seq out c } -> (∀ b o, s.heap.get? b = some o -> s1.heap.get? b = some o) -> s1.gens = s.gens -> s1.os = s.os -> Q (.ref l) s1) :
  wpAny (model P w) A (call (.builtin "sorted") [.ref a]) Q E s := by
 refine Calls.call_function_entry kind_sorted plain_sorted entry_sorted (args_sorted1 _) ?_
 unfold Builtin.«sorted»
 refine wpAny_bind (m := checkCount "sorted" 1 1 _) (wpAny_pure ?_)
 refine wpAny_bind (zd5 (by simpa using hh) hS (by omega) fun vs os s1 hp hst hsz kp gn oo => ?_)
 have hlen : vs.length = os.length := hst.length
 have h64 : vs.length < 64 := by rw [hlen, hp.length_eq]; exact hn
 refine wpAny_bind (wpAny_newList ?_)
 have gl : (s1.heap.push (seqObj "list" vs.toArray 0)).get? s1.heap.objs.size = some (seqObj "list" vs.toArray 0) := Heap.get?_push_size _ rfl
 refine wpAny_bind (wpAny_holding (wpAny_call_entry slot_list_sort ⟨_, gl, rfl⟩ entry_list_sort (list_sort_treeK strKind_oneLt gl hst.keysOf (fun v1 v2 z2X e => keyKind_strs (by rw [<- e]; exact hst)) h64 fun st' a1 a2 => ⟨_, rfl, ?_⟩) (args_list_sort _)))
 obtain ⟨os', q1, q2, q3⟩ := sorted_out_str hst a1 a2
 refine wpAny_pure ⟨_, rfl, ?_⟩
 have g1 := Heap.get?_update_self (Obj.mapSeq fun _ => #[]) gl rfl
 have g2 := Heap.get?_push_of_some (seqObj "list" #[] 0) (Heap.get?_push_of_some (seqObj "tuple" vs.toArray 0) g1)
 have g3 := Heap.get?_update_self (Obj.mapSeq fun _ => (arrOf st').map (·.2)) g2 rfl
 refine h _ os' _ _ _ (q2.trans hp) q3 q1 ?_ g3 (fun b o e => ?_) gn oo
 ·exact hsz
 ·have e1 := kp b o e
  have ne : s1.heap.objs.size ≠ b := fun q => absurd (Heap.lt_size e1) (by rw [<- q]; exact Nat.lt_irrefl _)
  exact (Heap.get?_update_other _ _ ne).trans (Heap.get?_push_of_some _ (Heap.get?_push_of_some _ ((Heap.get?_update_other _ _ ne).trans (Heap.get?_push_of_some _ e1))))
end
end DL
namespace DL
open PySem L2 PyProof.Rows
def z7C (x : List Nat) : List (List Nat) -> List (List Nat)
 | [] => [x]
 | y :: r => if x < y then x :: y :: r else if x = y then y :: r else y :: z7C x r
def z1p (ss : List (List Nat)) : List (List Nat) := ss.foldl (fun l x => z7C x l) []
theorem mem_insD {x y : List Nat} : ∀ {l : List (List Nat)}, y ∈ z7C x l ↔ y = x \/ y ∈ l
 | [] => by simp [z7C]
 | z :: r => by
  unfold z7C
  split
  ·simp
  ·split
   ·rename_i h; subst h; simp
   ·rw [List.mem_cons, mem_insD, List.mem_cons]; exact ⟨fun h => by rcases h with h | h | h <;> simp [h], fun h => by rcases h with h | h | h <;> simp [h]⟩
theorem z8t {x : List Nat} : ∀ {l : List (List Nat)}, l.Pairwise (· < ·) -> (z7C x l).Pairwise (· < ·)
 | [], _ => by simp [z7C]
 | z :: r, h => by
  obtain ⟨h1, h2⟩ := List.pairwise_cons.mp h
  unfold z7C
  split
  ·rename_i hxz
   exact List.pairwise_cons.mpr ⟨fun y hy => by
    rcases List.mem_cons.mp hy with rfl | hy
    ·exact hxz
    ·exact List.lt_trans hxz (h1 y hy), h⟩
  ·rename_i hxz
   split
   ·exact h
   ·rename_i hne
    refine List.pairwise_cons.mpr ⟨fun y hy => ?_, z8t h2⟩
    rcases mem_insD.mp hy with rfl | hy
    ·exact Classical.byContradiction fun q => hne (List.le_antisymm (List.not_lt.mp q) (List.not_lt.mp hxz))
    ·exact h1 y hy
theorem z0M {y : List Nat} (ss : List (List Nat)) : y ∈ z1p ss ↔ y ∈ ss := by
 have : ∀ (ss l : List (List Nat)), y ∈ ss.foldl (fun l x => z7C x l) l ↔ y ∈ l \/ y ∈ ss := by
  intro ss
  induction ss with
  | nil => intro l; simp
  | cons x ss ih => intro l; rw [List.foldl_cons, ih, mem_insD, List.mem_cons]; exact ⟨fun h => by rcases h with (h | h) | h <;> simp [h], fun h => by rcases h with h | h | h <;> simp [h]⟩
 rw [z1p, this]; simp
theorem z1D (ss : List (List Nat)) : (z1p ss).Pairwise (· < ·) := by
 have : ∀ (ss l : List (List Nat)), l.Pairwise (· < ·) -> (ss.foldl (fun l x => z7C x l) l).Pairwise (· < ·) := by
  intro ss
  induction ss with
  | nil => intro l h; exact h
  | cons x ss ih => intro l h; exact ih _ (z8t h)
 exact this ss [] List.Pairwise.nil
theorem z2K : ∀ {l m : List (List Nat)}, l.Pairwise (· < ·) -> m.Pairwise (· < ·) -> (∀ x, x ∈ l ↔ x ∈ m) -> l = m
 | [], [], _, _, _ => rfl
 | [], y :: m, _, _, h => absurd ((h y).mpr List.mem_cons_self) (by simp)
 | x :: l, [], _, _, h => absurd ((h x).mp List.mem_cons_self) (by simp)
 | x :: l, y :: m, hl, hm, h => by
  obtain ⟨l1, l2⟩ := List.pairwise_cons.mp hl
  obtain ⟨m1, m2⟩ := List.pairwise_cons.mp hm
  have exy : x = y := by
   rcases List.mem_cons.mp ((h x).mp List.mem_cons_self) with e | e
   ·exact e
   ·rcases List.mem_cons.mp ((h y).mpr List.mem_cons_self) with e' | e'
    ·exact e'.symm
    ·exact absurd (List.lt_trans (m1 x e) (l1 y e')) (List.lt_irrefl _)
  subst exy
  rw [z2K l2 m2 fun z => ⟨fun hz => by
    rcases List.mem_cons.mp ((h z).mp (List.mem_cons_of_mem _ hz)) with e | e
    ·subst e; exact absurd (l1 z hz) (List.lt_irrefl _)
    ·exact e, fun hz => by
    rcases List.mem_cons.mp ((h z).mpr (List.mem_cons_of_mem _ hz)) with e | e
    ·subst e; exact absurd (m1 z hz) (List.lt_irrefl _)
    ·exact e⟩]
abbrev toS (cs : List Nat) : Str := ⟨cs.toArray⟩
theorem z4C : ∀ (p : Str) (l : List Str), risingS p l = true -> (p :: l).Nodup -> ((p :: l).map (·.cps.toList)).Pairwise (· < ·)
 | p, [], _, _ => by simp
 | p, x :: r, h, nd => by
  unfold risingS at h
  rw [Bool.and_eq_true, Bool.not_eq_true', ltCps_eq, decide_eq_false_iff_not] at h
  obtain ⟨n1, n2⟩ := List.nodup_cons.mp nd
  have ih := z4C x r h.2 n2
  have hpx : p.cps.toList < x.cps.toList := Classical.byContradiction fun q => n1 (by
   have := List.le_antisymm (List.not_lt.mp h.1) (List.not_lt.mp q)
   have e : p = x := by
    obtain ⟨pc⟩ := p; obtain ⟨xc⟩ := x
    have this : pc.toList = xc.toList := this
    rw [show pc = xc from Array.toList_inj.mp this]
   rw [e]; exact List.mem_cons_self)
  rw [List.map_cons]
  refine List.pairwise_cons.mpr ⟨fun y hy => ?_, ih⟩
  rw [List.map_cons] at hy ih
  rcases List.mem_cons.mp hy with rfl | hy
  ·exact hpx
  ·exact List.lt_trans hpx ((List.pairwise_cons.mp ih).1 y hy)
theorem zdz {ss : List (List Nat)} {os : List Str} (hp : os.Perm (ded (ss.map toS))) (hn : (ded (ss.map toS)).Nodup) (hs : sortedS os = true) : os = (z1p ss).map toS := by
 have h1 : (os.map (·.cps.toList)).Pairwise (· < ·) := by
  cases os with
  | nil => exact List.Pairwise.nil
  | cons p l => exact z4C p l hs (hp.nodup_iff.mpr hn)
 have h2 : os.map (·.cps.toList) = z1p ss := z2K h1 (z1D ss) fun x => by
  rw [z0M, List.mem_map]
  constructor
  ·rintro ⟨o, ho, rfl⟩
   have := (z89 _).mp (hp.mem_iff.mp ho)
   obtain ⟨cs, hcs, rfl⟩ := List.mem_map.mp this
   exact hcs
  ·intro hx
   exact ⟨toS x, hp.mem_iff.mpr ((z89 _).mpr (List.mem_map.mpr ⟨x, hx, rfl⟩)), rfl⟩
 rw [<- h2, List.map_map]
 refine (List.map_id os).symm.trans (List.map_congr_left fun o _ => ?_)
 obtain ⟨c⟩ := o
 rfl
theorem SetX.nd {P : Program} {w : World} {a : Addr} {ks : List Str} {h : Heap} (x : SetX P w a ks h) : ks.Nodup := by
 obtain ⟨_, _, _, _, _, _, _, _, _, hn, _⟩ := x
 exact hn
section
variable {X : Cx} {p : Pos} {e : Expr} {t : DA}
def ziV (K : PySem.W.Frag) (P : Program) (w : World) : List V -> Hp -> VK -> Prop := fun xs H Q => ∃ (p : Addr) (ss : List (List Nat)), xs = [.ref p] /\ (SqL K H p (ss.map fun cs => V.str (toS cs)) \/ SqT K H p (ss.map fun cs => V.str (toS cs))) /\ ss.length <= 1000 /\ ∀ l, H l = none -> Q (.ref l) (upd H l (.ext (SetX P w l (ded (ss.map toS)))))
theorem zcK {ss : List (List Nat)} {its : List Value} (r : Vals (ss.map fun cs => V.str (toS cs)) its) {i : Nat} {v : Value} (h : its[i]? = some v) : ∃ t : Tok, v = Value.str ((ss.map toS).getD i ⟨#[]⟩) t := by
 obtain ⟨x, hx, rv⟩ := z4Y r h
 rw [List.getElem?_map] at hx
 cases hs : ss[i]? with
 | none => rw [hs] at hx; cases hx
 | some cs =>
  rw [hs] at hx; cases hx
  obtain ⟨t, rfl⟩ := rv
  exact ⟨t, by rw [List.getD_eq_getElem?_getD, List.getElem?_map, hs]; rfl⟩
theorem zaM (hc : X.calm = true) : CallR X (.type "set") (ziV X.K X.prog X.w) := by
 intro pins s σ H xs us Q I r h
 obtain ⟨p, ss, rfl, sq, hl, q⟩ := h
 obtain ⟨u, rfl, ru⟩ := z3c r
 cases ru
 have main : ∀ (z : ZK) (its : List Value), z.val = .ref p -> z.pre s.heap -> (∀ x t, z ≠ .str x t) -> z.vals = its.toArray -> Vals (ss.map fun cs => V.str (toS cs)) its -> wpAny (model X.prog X.w) X.A (call (.type "set") [.ref p]) (EP X pins σ Q) X.xe s := by
  intro z its hv hp hn hi rv
  have hlen : its.length = ss.length := by rw [<- rv.length]; simp
  rw [<- hv]
  refine zaS z (I.ok.hd hc) hp hn (ss.map toS) (by rw [hi]; simp [hlen]) (fun i v e => zcK rv (by rw [hi] at e; simpa using e)) (by rw [List.length_map]; unfold scanBound; omega) fun h' tk S' hk => ?_
  refine ⟨.ref s.heap.objs.size, _, I.laid (t' := tk) (o := .ext (SetX X.prog X.w s.heap.objs.size (ded (ss.map toS)))) (fun b ob z => hk b ob (Heap.lt_size z) z) (Nat.le_refl _) ?_, rfl, q _ (I.hok.fresh (Nat.le_refl _))⟩
  exact ⟨S', let ⟨o, _, _, _, ho, _⟩ := S'; ⟨o, ho⟩, fun h1 h2 x k => x.keep k⟩
 rcases sq with sq | sq
 ·obtain ⟨its, rv, pl, _⟩ := I.list sq
  exact main (.lst p its.toArray) its rfl pl.isList (fun _ _ e => by cases e) rfl rv
 ·obtain ⟨its, rv, pl, _⟩ := I.tuple sq
  exact main (.tup p its.toArray) its rfl pl (fun _ _ e => by cases e) rfl rv
theorem z4A : ∀ {vs : List Value} {os : List Str}, StrsAre vs os -> Vals (os.map V.str) vs
 | _, _, .nil => .nil
 | _, _, .cons y t h => .cons ⟨t, rfl⟩ (z4A h)
theorem z7e (hc : X.calm = true) : CallR X (.builtin "sorted") (fun xs H Q => ∃ a ks, xs = [.ref a] /\ H a = some (.ext (SetX X.prog X.w a ks)) /\ ks.length < 64 /\ ∀ l os, os.Perm ks -> ks.Nodup -> sortedS os = true -> H l = none -> Q (.ref l) (upd H l (.lst (os.map V.str)))) := by
 intro pins s σ H xs us Q I r h
 obtain ⟨a, ks, rfl, hH, hn, q⟩ := h
 obtain ⟨u, rfl, ru⟩ := z3c r
 cases ru
 have hS : SetX X.prog X.w a ks s.heap := (I.hok a _ hH).1
 refine zf8 (I.ok.hd hc) hS hn fun out os l s1 c hp hs hst hl gl kp gn oo => ?_
 have fr : H l = none := I.hok.fresh hl
 have hlen : os.length <= sizeLine := Nat.le_trans (Nat.le_of_lt (by rw [hp.length_eq]; exact hn)) (by decide)
 have new : ObjOk X.prog X.w (upd H l (.lst (os.map V.str))) s1.heap l (.lst (os.map V.str)) := ⟨by rw [List.length_map]; exact hlen, out.toList, c, z4A hst, by rw [gl]⟩
 have hok := I.hok.laid kp hl new
 refine ⟨.ref l, _, ?_, rfl, q l os hp hS.nd hs fr⟩
 exact I.call' oo (Un.laid kp hl fr) hok (by rw [gn]; exact I.bare) (fun b (hb : b ∈ ([] : List Addr)) => absurd hb (List.not_mem_nil))
end
def emS (te : DE) : Em := fun σ O acc => (te σ O).bnd fun v O1 => match v with
 | .str cs => if acc.length < 1000 then .ok (acc ++ [.str cs]) O1 else .bad
 | _ => .bad
def z9Y (elt : Expr) : z8C where
 ex := fun gens scope pos => .SetComp elt gens scope pos
 emit := fun acc env => do let v <- eval elt env; standAt elt.pos; let _ <- call (.builtin "set.add") [acc, v]
 new := newSet (.type "set")
 ho := fun P w a => .ext (SetX P w a [])
 G := fun _ P w A _ H _ acc => ∃ ss : List (List Nat), acc = ss.map D.str /\ H A = some (.ext (SetX P w A (ded (ss.map toS))))
theorem zjl {P : Program} {w : World} {H : Hp} {h : Heap} {a : Addr} {ks : List Str} (S : SetX P w a ks h) : ObjOk P w H h a (.ext (SetX P w a ks)) :=
 ⟨S, let ⟨o, _, _, _, ho, _⟩ := S; ⟨o, ho⟩, fun h1 h2 x k => x.keep k⟩
theorem zc5 (elt : Expr) : z51 (z9Y elt) where
 cl := fun _ _ _ => rfl
 turn := fun gens scope pos k it acc env tg iter ifs hk hn => by
  show compTurn (.SetComp elt gens scope pos) k it acc env = _
  unfold compTurn z4X
  rcases hn with hn | ⟨tg', iter', ifs', hn⟩
  ·simp only [hk, hn]
   rfl
  ·simp only [hk, hn, bne_self_eq_false, Bool.false_eq_true, if_false, bind_assoc, pure_bind]
   first | rfl | congr 1
 keep := fun ⟨ss, e, hA⟩ nA x => ⟨ss, e, x.keep _ _ hA nA⟩
 new := fun {P w A E Q s} h => by
  unfold z9Y newSet setsByText
  refine wpAny_bind (wpAny_bind (wpAny_askSetting (wpAny_pure ?_)))
  dsimp only
  simp only [newObj]
  refine wpAny_bind (wpAny_alloc (wpAny_pure (h (z1A w) rfl fun H h a _ e => zjl ?_)))
  exact ⟨_, #[], 0, _, e, ⟨rfl, rfl, rfl⟩, rfl, fun e he => by simp at he, by simp, by simp, by decide, by rfl, fun e => by show (!byT w) = true; rw [e]; rfl, fun e => absurd rfl e⟩
 g0 := ⟨[], rfl, z0g⟩
 q1 := fun _ _ _ _ _ _ _ => rfl
 u1 := fun _ _ _ _ _ _ _ _ => rfl
 d1 := fun _ _ _ _ _ _ _ _ _ => rfl
 u2 := fun _ _ _ _ _ _ _ _ => rfl
 d2 := fun _ _ _ _ _ _ _ _ _ => rfl
theorem zga {P : Program} {w : World} {H : Hp} {A : Addr} {ks : List Str} {h : Heap} {o : HO} (hA : H A = some (.ext (SetX P w A ks))) (S : SetX P w A ks h) : ∀ P2, Tidy H P2 -> Tidy (upd H A o) P2 := by
 rintro P2 ⟨ps, h1, h2, h3⟩
 have n1 : P2 ≠ A := by rintro rfl; rw [hA] at h1; cases h1
 refine ⟨ps, by rw [z09 n1]; exact h1, h2, fun pos cv e => ?_⟩
 obtain ⟨c, φ, rfl, hc, hf⟩ := h3 pos cv e
 have n2 : c ≠ A := by
  rintro rfl
  rw [hA] at hc
  cases hc
  obtain ⟨q, c', o', vs, t, e1, e2, e3, _⟩ := hf h S
  cases e1
  obtain ⟨o2, es, ep, t', ho, _, hd, _⟩ := S
  rw [ho] at e2; cases e2
  rw [hd] at e3; cases e3
 exact ⟨c, φ, rfl, by rw [z09 n2]; exact hc, hf⟩
section
variable {X : Cx} {A : Addr} {hid : List Addr} {elt : Expr} {gens : List Comprehension} {te : DE}
theorem zar {k : Nat} {e : Expr} (hx : X.xe = fun _ _ => False) (he : PD X Ex0 elt te) (hk : gens[k]? = none) : z3Z X (z9Y elt) A hid e gens (emS te) k [] := by
 intro pins s σv H μ σ O acc Q E B q
 unfold z4X
 rw [hk]
 show wpAny _ _ (do let v <- eval elt X.env; standAt elt.pos; let _ <- call (.builtin "set.add") [.ref A, v]) _ _ s
 obtain ⟨ss, rfl, hA⟩ := B.grown
 cases hte : te σ O with
 | ok d O1 =>
  have q1 := q
  unfold z21 emS at q1
  rw [hte] at q1
  cases d with
  | str cs =>
   have q2 : z3D X (z9Y elt) A hid pins σv H μ (z07 []) (if (ss.map D.str).length < 1000 then .ok (ss.map D.str ++ [.str cs]) O1 else .bad) Q := q1
   by_cases hl : (ss.map D.str).length < 1000
   ·rw [if_pos hl] at q2
    refine wpAny_bind (z1q hx (he.out pins s σv H (fun v H1 => ∃ μ1, Ext H μ H1 μ1 /\ Cells X.K H1 (A :: hid) μ1 O1 /\ Dat X.K H1 (A :: hid) μ1 (.str cs) v) B.inv ⟨A :: hid, μ, σ, O, B.env, B.cells, by rw [hte]; exact fun v H' μ' x c r => ⟨μ', x, c, r⟩⟩)
     fun u s1 ⟨v, H1, I1, ru, μ1, x, c, r⟩ => ?_)
    have nA : A ∉ μ := fun m => B.cells.nh A m (by simp)
    have hA1 := x.keep A _ hA nA
    unfold Dat at r
    subst r
    obtain ⟨t, rfl⟩ := ru
    have S : SetX X.prog X.w A (ded (ss.map toS)) s1.heap := (I1.hok A _ hA1).1
    have hr : (ded (ss.map toS)).length + 1 < scanBound := by
     have h1 := z8g (ss.map toS)
     rw [List.length_map] at h1 hl
     unfold scanBound
     omega
    refine wpAny_bind (wpAny_standAt (wpAny_bind (zdU S hr fun h' sb S' => wpAny_pure ?_)))
    rw [<- z8r] at S'
    have S' : SetX X.prog X.w A (ded ((ss ++ [cs]).map toS)) h' := by rw [List.map_append]; exact S'
    have heo : ∃ u, h'.get? A = some u := let ⟨o, _, _, _, ho, _⟩ := S'; ⟨o, ho⟩
    exact q2 _ σv _ μ1 (I1.write (x := A) (e := A) (by rw [hA1]; exact trivial) (.inl rfl) (fun b u hb hu => (sb.2 b hb).trans hu) heo (zjl S')) (x.ea.trans (.putX (zga hA1 S))) (c.putX (zga hA1 S)) ⟨ss ++ [cs], by simp, z0g⟩ rfl fun _ _ => rfl
   ·rw [if_neg hl] at q2; exact q2.elim
  | _ => exact False.elim q1
 | exc c O1 =>
  unfold z21 emS at q; rw [hte] at q; exact q.elim
 | bad =>
  unfold z21 emS at q; rw [hte] at q; exact q.elim
end
section
variable {X : Cx} {Ex : Nat -> Hp -> Prop}
theorem z91 {elt tg iter : Expr} {ifs : List Expr} {gs : List Comprehension} {scope : Scope} {pos : Pos} (ext : List Str) {it0 : DI} {g : Tg} {ts : List DT} {cs : List Cl} {te : DE} (hcalm : X.calm = true) (hi : PDI X Ex tg iter it0) (hb : BOk X.env.scope scope (X.N ++ ext) (z07 (⟨it0, g, ts⟩ :: cs)))
  (blk : ∀ cells C s H fp, PG (cxB X (X.N ++ ext) scope cells C s H fp) tg (g.rd X.K) /\ PySem.Paired (fun e t => PDT (cxB X (X.N ++ ext) scope cells C s H fp) Ex0 e t) ifs ts /\ ClsOk (cxB X (X.N ++ ext) scope cells C s H fp) gs cs /\ PD (cxB X (X.N ++ ext) scope cells C s H fp) Ex0 elt te)
  (hs : ∀ x, foldedSetIterable iter X.env x = pure x := by intro _; rfl) : PE X (.SetComp elt (⟨tg, iter, ifs, 0⟩ :: gs) scope pos) (fun σv H Q => ∃ hid μ σ O, EnvOk X.K H hid μ σ σv /\ Cells X.K H hid μ O /\ zam (z9Y elt) Ex X.K X.prog X.w H hid μ (z1C ext.length it0 g ts cs (emS te) σ O) fun L H' => Q (.ref L) H') := by
 rintro pins s σv H Q I ⟨hid, μ, σ, O, e1, c1, q⟩
 show wpAny _ _ (comprehension (.SetComp elt (⟨tg, iter, ifs, 0⟩ :: gs) scope pos) scope X.env _ (newSet (.type "set")) false (eval iter X.env)) _ _ s
 refine z62 (zc5 elt) (use := none) hcalm hi hb (fun cells Cn s H fp => let ⟨h1, h2, h3, h4⟩ := blk cells Cn s H fp; ⟨h1, h2, h3, fun _ _ _ hk => zar rfl h4 hk⟩) hs I e1 c1 ?_
 cases hr : z1C ext.length it0 g ts cs (emS te) σ O with
 | bad => rw [hr] at q; exact q
 | exc c' O' => rw [hr] at q; exact q
 | ok acc O' =>
  rw [hr] at q
  intro L H' μ' nL x c gv s' C I' ns nC l1 y1 ce pn
  obtain ⟨m, hn⟩ := ns
  exact ⟨m, hn, fun h' hs' => ⟨.ref L, H', Inv.bare I' hs' nC l1 y1 ce pn, rfl, q L H' μ' nL x c gv⟩⟩
theorem z28 {K : PySem.W.Frag} {H : Hp} {hid μ : List Addr} : ∀ ss : List (List Nat), Dats K H hid μ (ss.map D.str) (ss.map fun cs => V.str (toS cs))
 | [] => .nil
 | cs :: r => .cons z8a (z28 r)
def zj0 (o : Bool) (r : R (List D)) : R D := r.bnd fun acc O1 => match z8Y acc with
 | some ss => if ss.length < 64 then (if o = true then .ok (.own O1.length) (O1 ++ [(z1p ss).map .str]) else .ok (.lst ((z1p ss).map .str)) O1) else .bad
 | none => .bad
theorem strL_map : ∀ ss : List (List Nat), z8Y (ss.map D.str) = some ss
 | [] => rfl
 | cs :: r => by show (z8Y (r.map D.str)).map _ = _; rw [strL_map r]; rfl
theorem zea {P : Program} {w : World} {H H' : Hp} {hid μ μ' : List Addr} {O' : Ow} {L : Addr} {Q : VK} {o : Bool} {ss : List (List Nat)} {K : PySem.W.Frag} (x : Ext H μ H' μ') (c : Cells K H' hid μ' O') (hA : H' L = some (.ext (SetX P w L (ded (ss.map toS))))) (hl : ss.length < 64)
  (q : z0Y Ex K H hid μ (if o = true then .ok (.own O'.length) (O' ++ [(z1p ss).map .str]) else .ok (.lst ((z1p ss).map .str)) O') Q) :
  ∃ a ks, [V.ref L] = [V.ref a] /\ H' a = some (.ext (SetX P w a ks)) /\ ks.length < 64 /\ ∀ l os, os.Perm ks -> ks.Nodup -> sortedS os = true -> H' l = none -> Q (.ref l) (upd H' l (.lst (os.map V.str))) := by
 refine ⟨L, _, rfl, hA, Nat.lt_of_le_of_lt (z8g _) (by rw [List.length_map]; exact hl), fun l os hp hn hs hf => ?_⟩
 have e := zdz hp hn hs
 subst e
 rw [List.map_map]
 cases o with
 | true => exact post.ok (show z0Y Ex K H hid μ (.ok (.own O'.length) (O' ++ [(z1p ss).map .str])) Q from q) (x.trans (.cell hf)) (c.cell hf (z28 _)) (z1a c.len)
 | false => exact post.ok (show z0Y Ex K H hid μ (.ok (.lst ((z1p ss).map .str)) O') Q from q) (x.trans (.laid hf)) (c.laid hf) (Dat.newL c hf (z28 _))
end
section
variable {X : Cx} {Ex : Nat -> Hp -> Prop} {pos pos2 p p2 : Pos} {e : Expr} {es : List Expr} {t : DA}
def z9m (o : Bool) (t : DA) : DE := fun σ O => (t σ O).bnd fun xs O1 => match xs with
 | [x] => match (match lsV O1 x with | some ds => some ds | none => tpV x) with
  | some ds => zj0 o (.ok ds O1)
  | none => .bad
 | _ => .bad
theorem ze3 (o : Bool) (hc : X.calm = true) {x y : Str} (hg : Gl X x) (hm : X.mg x = none) (hv : bootBuiltins x = some (.builtin "sorted")) (hg2 : Gl X y) (hm2 : X.mg y = none) (hv2 : bootBuiltins y = some (.type "set")) (ha : PDA X Ex (e :: es) t)
  (hn : x ≠ "__name__" := by decide) (hdb : (x == ("__debug__" : Str)) = false := by decide) (hn2 : y ≠ "__name__" := by decide) (hdb2 : (y == ("__debug__" : Str)) = false := by decide) (he : starEach (e :: es) X.env = (false, eval e X.env) :: starEach es X.env := by rfl) (hpl : (backTo pos2 (starEach es X.env)).any (·.1) = false := by rfl)
  (he' : starEach [.Call (.Name y p2) (e :: es) [] pos2] X.env = (false, eval (.Call (.Name y p2) (e :: es) [] pos2) X.env) :: starEach [] X.env := by rfl) :
  PD X Ex (.Call (.Name x p) [.Call (.Name y p2) (e :: es) [] pos2] [] pos) (z9m o t) :=
 z10 (z3A (z7e hc) hg hm hv (z2a (z6R (zaM hc) hg2 hm2 hv2 ha.out hn2 hdb2 he hpl) z5b he') hn hdb he' (by rfl)) fun hid μ σ O σv H Q e1 c1 q =>
  rdA.go e1 c1 q fun xs O1 vs H1 μ1 e2 x2 c d p => by
   split at p
   ·rename_i x
    obtain ⟨v, rfl, dx⟩ := z2m d
    split at p
    ·rename_i ds eds
     have h : ∃ pa ws, v = .ref pa /\ (SqL X.K H1 pa ws \/ SqT X.K H1 pa ws) /\ Dats X.K H1 hid μ1 ds ws := by
      cases e1 : lsV O1 x with
      | some es =>
       rw [e1] at eds; cases eds
       obtain ⟨p, ws, h1, sq, dd⟩ := z1O c dx e1
       exact ⟨p, ws, h1, .inl sq, dd⟩
      | none =>
       rw [e1] at eds
       obtain ⟨p, ws, h1, sq, dd⟩ := z58 dx eds
       exact ⟨p, ws, h1, .inr sq, dd⟩
     obtain ⟨pa, ws, rfl, sq, dd⟩ := h
     have p : z0Y Ex X.K H1 hid μ1 (match z8Y ds with | some ss => if ss.length < 64 then (if o = true then .ok (.own O1.length) (O1 ++ [(z1p ss).map .str]) else .ok (.lst ((z1p ss).map .str)) O1) else .bad | none => .bad) Q := p
     split at p
     ·rename_i ss ens
      obtain ⟨hl, p⟩ := post.ite p
      have ev := z88 dd ens
      subst ev
      exact ⟨pa, ss, rfl, sq, by omega, fun l hl' => zea (.laid hl') (c.laid hl') z0g hl p⟩
     ·exact False.elim p
    ·exact False.elim p
   ·exact False.elim p
end
end DL
namespace DL
open PySem L2
structure Nx (l : List Str) : Prop
section
variable {X : Cx} {Ex : Nat -> Hp -> Prop} {elt tg iter : Expr} {ifs : List Expr} {gs : List Comprehension} {scope : Scope} {pos spos py : Pos} {x y : Str} {i k : Nat} {ext : List Str} {it0 : DI} {g : Tg} {ts : List DT} {cs : List Cl} {te : DE}
abbrev zfb (X : Cx) (ext : List Str) (scope : Scope) (tg : Expr) (g : Tg) (ifs : List Expr) (ts : List DT) (gs : List Comprehension) (cs : List Cl) (elt : Expr) (te : DE) : Prop := ∀ cells C s H fp, PG (cxB X (X.N ++ ext) scope cells C s H fp) tg (g.rd X.K) /\ PySem.Paired (fun e t => PDT (cxB X (X.N ++ ext) scope cells C s H fp) Ex0 e t) ifs ts /\ ClsOk (cxB X (X.N ++ ext) scope cells C s H fp) gs cs /\ PD (cxB X (X.N ++ ext) scope cells C s H fp) Ex0 elt te
theorem z5K (_ : Nx ext) (o : Bool) (hc : X.calm = true) (hb : BOk X.env.scope scope (X.N ++ ext) (z07 (⟨it0, g, ts⟩ :: cs))) (hi : PDI X Ex tg iter it0) (blk : zfb X ext scope tg g ifs ts gs cs elt te) (hk : ext.length = k := by rfl) (hs : ∀ x, foldedSetIterable iter X.env x = pure x := by intro _; rfl) :
  PD X Ex (.ListComp elt (⟨tg, iter, ifs, 0⟩ :: gs) scope pos) (z0n o k it0 g ts cs te) := hk ▸ zfE o ext hc hi hb blk hs
theorem z2r (_ : Nx ext) (o : Bool) (hc : X.calm = true) (hN : X.N.Nodup) (hiy : X.N[i]? = some y) (hy : X.env.scope.names.lookup y = some .local) (hb : BOk X.env.scope scope (X.N ++ ext) (z07 (⟨it0, g, ts⟩ :: cs))) (hi : PDI X Ex tg iter it0) (blk : zfb X ext scope tg g ifs ts gs cs elt te)
  (hsw : swapsWith (.ListComp elt (⟨tg, iter, ifs, 0⟩ :: gs) scope pos) (some (.Name y py)) spos.line X.env = pure true) (hk : ext.length = k := by rfl) (hs : ∀ x, foldedSetIterable iter X.env x = pure x := by intro _; rfl) :
  PDS X Ex (.Assign [.Name y py] (.ListComp elt (⟨tg, iter, ifs, 0⟩ :: gs) scope pos) spos) (z0W i (z0n o k it0 g ts cs te)) := hk ▸ z7N o ext hc hN hiy hy hi hb blk hsw hs
end
def z22 (c : DT) (b : DS) : Nat -> Sg -> Ow -> RS
 | 0, _, _ => .bad
 | f + 1, σ, O => (c σ O).bnS fun k O1 => if k = true then (match b σ O1 with
   | .nx σ' O' => z22 c b f σ' O'
   | .ct σ' O' => z22 c b f σ' O'
   | .bk σ' O' => .nx σ' O'
   | r => r) else .nx σ O1
def z9R (f : Nat) (c : DT) (b : DS) : DS := z22 c b f
section
variable {X : Cx} {Ex : Nat -> Hp -> Prop} {pos : Pos}
theorem za7 {c : Expr} {body : List Stmt} {tc : DT} {tb : DS} (f : Nat) (hp : PassesOwn (model X.prog X.w) X.A X.env X.xe) (hc : PDT X Ex c tc) (hb : z7t X Ex body tb) : PDS X Ex (.While c body [] pos) (z9R f tc tb) :=
 z44 (zcS hp hc.out hb.out) fun hid μ σ O E σv H e1 c1 q => by
  refine ⟨fun m σv H => ∃ hid μ σ O, EnvOk X.K H hid μ σ σv /\ Cells X.K H hid μ O /\ postS Ex X.K H hid μ (z22 tc tb m σ O) E, ⟨f, hid, μ, σ, O, e1, c1, q⟩, ?_⟩
  rintro m σv H ⟨hid, μ, σ, O, e1, c1, q⟩
  cases m with
  | zero => exact False.elim q
  | succ f =>
   refine rdT.goS e1 c1 q fun k O1 H1 μ1 e2 x2 c2 p => ?_
   cases k with
   | false => exact p σv H1 μ1 .refl e2 c2
   | true =>
    rw [if_pos rfl]
    refine ⟨fun σv H => ∃ hid μ σ O, EnvOk X.K H hid μ σ σv /\ Cells X.K H hid μ O /\ postS Ex X.K H hid μ (z22 tc tb f σ O) E, fun _ _ z => ⟨f, Nat.lt_succ_self _, z⟩, hid, μ1, σ, O1, e2, c2, ?_⟩
    have p : postS Ex X.K H1 hid μ1 (match tb σ O1 with | .nx σ' O' => z22 tc tb f σ' O' | .ct σ' O' => z22 tc tb f σ' O' | .bk σ' O' => .nx σ' O' | r => r) E := p
    cases hr : tb σ O1 with
    | nx σ' O' => rw [hr] at p; exact fun σw H' μ' x e c => ⟨hid, μ', σ', O', e, c, postS.ext p x⟩
    | ct σ' O' => rw [hr] at p; exact fun σw H' μ' x e c => ⟨hid, μ', σ', O', e, c, postS.ext p x⟩
    | bk σ' O' => rw [hr] at p; exact p
    | rt d O' => rw [hr] at p; exact p
    | exc c' O' => rw [hr] at p; exact p
    | bad => rw [hr] at p; exact p
end
def z6Z (to : DE) (t : DA) : DE := fun σ O => (to σ O).bnd fun x O1 => match x with
 | .own k => (t σ O1).bnd fun ys O2 => match ys, O2[k]? with
  | [.int i], some ds => if 0 <= i /\ i < 100000 then (match ds[i.toNat]? with
   | some d => .ok d (O2.set k (ds.eraseIdx i.toNat))
   | none => .bad) else .bad
  | _, _ => .bad
 | _ => .bad
theorem Dats.erase {K : PySem.W.Frag} {H : Hp} {hid μ : List Addr} : ∀ {ds : List D} {vs : List V} (i : Nat), Dats K H hid μ ds vs -> Dats K H hid μ (ds.eraseIdx i) (vs.eraseIdx i)
 | [], vs, i, h => by
  unfold Dats at h
  subst h
  simpa using (Dats.nil : Dats K H hid μ [] [])
 | d :: ds, vs, i, h => by
  unfold Dats at h
  obtain ⟨v, r, rfl, h1, h2⟩ := h
  cases i with
  | zero => exact h2
  | succ i => exact .cons h1 (Dats.erase i h2)
theorem zib {i : Int} {n : Nat} (h : 0 <= i) (hn : i.toNat < n) : seqIndex? i n = some i.toNat := by
 unfold seqIndex?
 split <;> simp_all <;> omega
section
variable {X : Cx} {Ex : Nat -> Hp -> Prop} {e : Expr}
theorem zca {o : Expr} {to : DE} {t : DA} {es : List Expr} {apos cpos : Pos} (ho : PD X Ex o to) (ha : PDA X Ex (e :: es) t) (hbase : attributeBase o "pop" X.env (eval o X.env) = eval o X.env := by rfl)
  (hfew : ((backTo cpos (starEach (e :: es) X.env)).all (fun x => !x.1) && (backToKw cpos (keywordEach [] X.env)).all (fun x => x.1.isSome) && decide ((e :: es).length + ([] : List Keyword).length + (if ([] : List Keyword).isEmpty then 0 else 1) < 30)) = true := by rfl)
  (hline : (apos.endLine == cpos.line) = true := by rfl) (hs : starEach (e :: es) X.env = (false, eval e X.env) :: starEach es X.env := by rfl) (hplain : (backTo cpos (starEach es X.env)).any (·.1) = false := by rfl) :
  PD X Ex (.Call (.Attribute o "pop" apos) (e :: es) [] cpos) (z6Z to t) :=
 z10 (zcs PySem.F.plainAttrs_list PySem.F.slot_list_pop PySem.F.type_list_pop zcy ho.out ha.out hbase hfew hline hs hplain) fun hid μ σ O σv H Q e1 c1 q => rd.go e1 c1 q fun d O1 v H1 μ1 e2 x cl r p => by
  cases d with
  | own k =>
   have hr := r
   unfold Dat at r
   obtain ⟨A, rfl, hk⟩ := r
   obtain ⟨ds, vs, h1, h2, h3⟩ := cl.at_ k A hk
   refine ⟨.inl ⟨rfl, vs, .of h2⟩, rdA.go e2 cl p fun ys O2 ws H2 μ2 e3 x3 c3 d3 p3 => ?_⟩
   split at p3
   ·rename_i i es' hds
    obtain ⟨⟨hi0, hi1⟩, p3⟩ := post.ite p3
    obtain ⟨w, rfl, dw⟩ := z2m d3
    unfold Dat at dw
    subst dw
    have hk2 : μ2[k]? = some A := by
     have := hr.ext x3
     unfold Dat at this
     obtain ⟨A', e', hk'⟩ := this
     cases e'; exact hk'
    obtain ⟨ds2, vs2, g1, g2, g3⟩ := c3.at_ k A hk2
    rw [hds] at g1; cases g1
    split at p3
    ·rename_i d hd
     obtain ⟨y, hy, dy⟩ := g3.get hd
     have hlt := (List.getElem?_eq_some_iff.mp hy).1
     refine ⟨A, vs2, i, i.toNat, y, rfl, rfl, g2, by omega, by omega, zib hi0 hlt, hy, ?_⟩
     exact post.ok p3 (.put (List.mem_of_getElem? hk2) ⟨_, g2⟩) (c3.put hk2 (g3.erase _)) (dy.ext (.put (List.mem_of_getElem? hk2) ⟨_, g2⟩))
    ·exact False.elim p3
   ·exact False.elim p3
  | _ => exact False.elim p
end
end DL
namespace DL
open PySem L2 PyProof.Rows
def z7E : Ow -> List D -> R D := fun O xs => match xs with
 | [x] => match lsV O x with
  | some ds => match z8Y ds with
   | some ss => if ss.Nodup /\ ss.length < 64 then .ok (.lst ((z1p ss).map .str)) O else .bad
   | none => .bad
  | none => .bad
 | _ => .bad
theorem zfT {ss : List (List Nat)} {os : List Str} (hp : os.Perm (ss.map toS)) (hn : ss.Nodup) (hs : sortedS os = true) : os = (z1p ss).map toS := by
 have hn' : (ss.map toS).Nodup := by
  rw [List.nodup_iff_pairwise_ne] at hn ⊢
  rw [List.pairwise_map]
  refine hn.imp fun h e => h ?_
  have e : (toS _).cps = (toS _).cps := congrArg Str.cps e
  simpa using e
 have h1 : (os.map (·.cps.toList)).Pairwise (· < ·) := by
  cases os with
  | nil => exact List.Pairwise.nil
  | cons p l => exact z4C p l hs (hp.nodup_iff.mpr hn')
 have h2 : os.map (·.cps.toList) = z1p ss := z2K h1 (z1D ss) fun x => by
  rw [z0M, List.mem_map]
  constructor
  ·rintro ⟨o, ho, rfl⟩
   obtain ⟨cs, hcs, rfl⟩ := List.mem_map.mp (hp.mem_iff.mp ho)
   exact hcs
  ·intro hx
   exact ⟨toS x, hp.mem_iff.mpr (List.mem_map.mpr ⟨x, hx, rfl⟩), rfl⟩
 rw [<- h2, List.map_map]
 refine (List.map_id os).symm.trans (List.map_congr_left fun o _ => ?_)
 obtain ⟨c⟩ := o
 rfl
section
variable {X : Cx} {Ex : Nat -> Hp -> Prop} {H : Hp} {hid μ : List Addr}
def zgW (K : PySem.W.Frag) : List V -> Hp -> VK -> Prop := fun xs H Q => ∃ p ss, xs = [.ref p] /\ SqL K H p (ss.map fun cs => V.str ⟨cs.toArray⟩) /\ ss.Nodup /\ ss.length < 64 /\ ∀ l, H l = none -> Q (.ref l) (upd H l (.lst ((z1p ss).map fun cs => V.str ⟨cs.toArray⟩)))
theorem zbs : CallR X (.builtin "sorted") (zgW X.K) := by
 intro pins s σ H xs us Q I r h
 obtain ⟨p, ss, rfl, sq, ho, hl, q⟩ := h
 obtain ⟨u, rfl, ru⟩ := z3c r
 cases ru
 obtain ⟨its, rv, pl, hz⟩ := I.list sq
 have hm : (ss.map fun cs => V.str ⟨cs.toArray⟩) = (ss.map toS).map V.str := by rw [List.map_map]; rfl
 have hS : StrsAre its (ss.map toS) := z3T (by rw [<- hm]; exact rv)
 have hlen : its.length = ss.length := by have := rv.length; simpa using this.symm
 refine sorted_strs pl.isList hS (by rw [hlen]; exact hl) fun out os a1 a2 a3 => ?_
 have e := zfT a2 ho a3
 subst e
 obtain ⟨e, he⟩ := sortedAll_at s.heap its out
 have hn : H (s.heap.objs.size + 1) = none := I.hok.fresh (Nat.le_succ _)
 refine ⟨.ref _, _, I.laid (t' := s.toks) (o := .lst ((z1p ss).map fun cs => V.str ⟨cs.toArray⟩)) (fun _ _ z => sortedAll_old z) (Nat.le_succ _) ?_, rfl, q _ hn⟩
 have hv := z4A a1
 rw [List.map_map] at hv
 refine ⟨?_, out.toList, e, hv, by rw [he]⟩
 have h1 : (z1p ss).length = ss.length := by have := a2.length_eq; simpa using this
 rw [List.length_map, h1]
 exact Nat.le_trans (Nat.le_of_lt hl) (by decide)
theorem zfU : z3j X Ex (zgW X.K) z7E := by
 intro H hid μ O xs vs Q c d q
 unfold z7E at q
 split at q
 ·rename_i x
  obtain ⟨v, rfl, dx⟩ := z2m d
  split at q
  ·rename_i ds e
   obtain ⟨p, ws, rfl, sq, dd⟩ := z1O c dx e
   split at q
   ·rename_i ss es
    obtain ⟨⟨h1, h2⟩, q⟩ := post.ite q
    have ev := z88 dd es
    subst ev
    exact ⟨p, ss, rfl, sq, h1, h2, fun l hl => post.ok q (.laid hl) (c.laid hl) (Dat.newL c hl (z28 _))⟩
   ·exact False.elim q
  ·exact False.elim q
 ·exact False.elim q
end
theorem zfM {a b : List Nat} (h : toS a = toS b) : a = b := by
 have e : (toS a).cps = (toS b).cps := congrArg Str.cps h
 simpa using e
theorem zfk (ss : List (List Nat)) (hn : (ded (ss.map toS)).Nodup) : (ded (ss.map toS)).length = (z1p ss).length := by
 have h2 : ((z1p ss).map toS).Nodup := by
  have := z1D ss
  rw [List.nodup_iff_pairwise_ne, List.pairwise_map]
  refine this.imp fun h e => ?_
  rw [zfM e] at h
  exact absurd h (List.lt_irrefl _)
 have hp : (ded (ss.map toS)).Perm ((z1p ss).map toS) := (List.perm_ext_iff_of_nodup hn h2).mpr fun a => by
  rw [z89, List.mem_map, List.mem_map]
  exact ⟨fun ⟨x, hx, e⟩ => ⟨x, (z0M ss).mpr hx, e⟩, fun ⟨x, hx, e⟩ => ⟨x, (z0M ss).mp hx, e⟩⟩
 rw [hp.length_eq, List.length_map]
def zji (o : Bool) (r : R (List D)) : R D := r.bnd fun acc O1 => match z8Y acc with
 | some ss => if (z1p ss).length < 64 then (if o = true then .ok (.own O1.length) (O1 ++ [(z1p ss).map .str]) else .ok (.lst ((z1p ss).map .str)) O1) else .bad
 | none => .bad
def z7n (o : Bool) (ext : Nat) (it0 : DI) (g : Tg) (ts : List DT) (cs : List Cl) (te : DE) : DE := fun σ O => zji o (z1C ext it0 g ts cs (emS te) σ O)
section
variable {X : Cx} {Ex : Nat -> Hp -> Prop}
theorem zal (hc : X.calm = true) : CallR X (.builtin "sorted") (fun xs H Q => ∃ a ks, xs = [.ref a] /\ H a = some (.ext (SetX X.prog X.w a ks)) /\ (ks.Nodup -> ks.length < 64) /\ ∀ l os, os.Perm ks -> ks.Nodup -> sortedS os = true -> H l = none -> Q (.ref l) (upd H l (.lst (os.map V.str)))) := by
 intro pins s σ H xs us Q I r h
 obtain ⟨a, ks, rfl, hH, hn, q⟩ := h
 have hS : SetX X.prog X.w a ks s.heap := (I.hok a _ hH).1
 exact z7e hc pins s σ H _ us Q I r ⟨a, ks, rfl, hH, hn hS.nd, q⟩
theorem zfH {elt tg iter : Expr} {ifs : List Expr} {gs : List Comprehension} {scope : Scope} {pos pos2 p : Pos} {x : Str} (o : Bool) (ext : List Str) {it0 : DI} {g : Tg} {ts : List DT} {cs : List Cl} {te : DE} (hcalm : X.calm = true) (hg : Gl X x) (hm : X.mg x = none) (hv : bootBuiltins x = some (.builtin "sorted")) (hi : PDI X Ex tg iter it0) (hb : BOk X.env.scope scope (X.N ++ ext) (z07 (⟨it0, g, ts⟩ :: cs)))
  (blk : ∀ cells C s H fp, PG (cxB X (X.N ++ ext) scope cells C s H fp) tg (g.rd X.K) /\ PySem.Paired (fun e t => PDT (cxB X (X.N ++ ext) scope cells C s H fp) Ex0 e t) ifs ts /\ ClsOk (cxB X (X.N ++ ext) scope cells C s H fp) gs cs /\ PD (cxB X (X.N ++ ext) scope cells C s H fp) Ex0 elt te)
  (hs : ∀ x, foldedSetIterable iter X.env x = pure x := by intro _; rfl) (hn : x ≠ "__name__" := by decide) (hdb : (x == ("__debug__" : Str)) = false := by decide) :
  PD X Ex (.Call (.Name x p) [.SetComp elt (⟨tg, iter, ifs, 0⟩ :: gs) scope pos] [] pos2) (z7n o ext.length it0 g ts cs te) :=
 z10 (z3A (zal hcalm) hg hm hv (z2a (z91 ext hcalm hi hb blk hs) z5b (by rfl)) hn hdb (by rfl) (by rfl)) fun hid μ σ O σv H Q e1 c1 q => by
  refine ⟨hid, μ, σ, O, e1, c1, ?_⟩
  unfold z7n at q
  cases hr : z1C ext.length it0 g ts cs (emS te) σ O with
  | bad => rw [hr] at q; exact q
  | exc c' O' => rw [hr] at q; exact q
  | ok acc O' =>
   rw [hr] at q
   rintro L H' μ' nL x c ⟨ss, rfl, hA⟩
   have q : z0Y Ex X.K H hid μ (match z8Y (ss.map D.str) with | some ss => if (z1p ss).length < 64 then (if o = true then .ok (.own O'.length) (O' ++ [(z1p ss).map .str]) else .ok (.lst ((z1p ss).map .str)) O') else .bad | none => .bad) Q := q
   rw [strL_map] at q
   obtain ⟨hl, q⟩ := post.ite q
   have c := c.unhide
   refine ⟨L, _, rfl, hA, fun hn => by rw [zfk ss hn]; exact hl, fun l os hp hn hs hf => ?_⟩
   have e := zdz hp hn hs
   subst e
   rw [List.map_map]
   cases o with
   | true => exact post.ok (show z0Y Ex X.K H hid μ (.ok (.own O'.length) (O' ++ [(z1p ss).map .str])) Q from q) (x.trans (.cell hf)) (c.cell hf (z28 _)) (z1a c.len)
   | false => exact post.ok (show z0Y Ex X.K H hid μ (.ok (.lst ((z1p ss).map .str)) O') Q from q) (x.trans (.laid hf)) (c.laid hf) (Dat.newL c hf (z28 _))
theorem z5Y {elt tg iter : Expr} {ifs : List Expr} {gs : List Comprehension} {scope : Scope} {pos pos2 p : Pos} {x : Str} {k : Nat} {ext : List Str} {it0 : DI} {g : Tg} {ts : List DT} {cs : List Cl} {te : DE} (_ : Nx ext) (o : Bool) (hc : X.calm = true) (hg : Gl X x) (hm : X.mg x = none) (hv : bootBuiltins x = some (.builtin "sorted")) (hb : BOk X.env.scope scope (X.N ++ ext) (z07 (⟨it0, g, ts⟩ :: cs))) (hi : PDI X Ex tg iter it0) (blk : zfb X ext scope tg g ifs ts gs cs elt te) (hk : ext.length = k := by rfl) (hs : ∀ x, foldedSetIterable iter X.env x = pure x := by intro _; rfl)
  (hn : x ≠ "__name__" := by decide) (hdb : (x == ("__debug__" : Str)) = false := by decide) : PD X Ex (.Call (.Name x p) [.SetComp elt (⟨tg, iter, ifs, 0⟩ :: gs) scope pos] [] pos2) (z7n o k it0 g ts cs te) := hk ▸ zfH o ext hc hg hm hv hi hb blk hs hn hdb
end
end DL
namespace DL
open PySem L2
def zi0 : List Str -> Bool
 | [] => true
 | x :: l => !(l.contains x) && zi0 l
theorem z29 : ∀ {l : List Str}, zi0 l = true -> l.Nodup
 | [], _ => List.nodup_nil
 | x :: l, h => by
  unfold zi0 at h
  rw [Bool.and_eq_true, Bool.not_eq_true'] at h
  refine List.nodup_cons.mpr ⟨fun m => ?_, z29 h.2⟩
  rw [List.contains_iff_mem.mpr m] at h
  exact Bool.noConfusion h.1
def zi7 : Option NameKind -> Bool
 | some .local => true
 | some .cell => true
 | _ => false
theorem zeH {o : Option NameKind} (h : zi7 o = true) : o = some .local \/ o = some .cell := by
 unfold zi7 at h
 split at h
 ·exact .inl rfl
 ·exact .inr rfl
 ·cases h
def kNf : NameKind -> Bool
 | .free => false
 | _ => true
def fnB (N P : List Str) (sc : Scope) : Bool := zi0 N && (N.take P.length == P) && P.all (fun x => zi7 (sc.names.lookup x)) && sc.names.all (fun y => kNf y.2)
theorem fnS {N P : List Str} {sc : Scope} (h1 : sc.kind = .function) (h2 : sc.isCoroutine = false) (h3 : sc.isGenerator = false) (h : fnB N P sc = true) : z0a N P sc := by
 unfold fnB at h
 simp only [Bool.and_eq_true] at h
 obtain ⟨⟨⟨a, b⟩, c⟩, d⟩ := h
 refine ⟨h1, h2, h3, z29 a, eq_of_beq b, fun x hx => zeH (List.all_eq_true.mp c x hx), fun y hy e => ?_⟩
 have := List.all_eq_true.mp d y hy
 rw [e] at this
 cases this
end DL
namespace DL
theorem z4i {α β γ : Type} {x : Option α} {f : α -> β} {g : α -> γ} {b : β} {c : γ} (h1 : x.map f = some b) (h2 : x.map g = some c) : x.map (fun s => (f s, g s)) = some (b, c) := by
 cases x with
 | none => cases h1
 | some s =>
  have e1 : f s = b := Option.some.inj h1
  have e2 : g s = c := Option.some.inj h2
  show some (f s, g s) = _
  rw [e1, e2]
end DL
namespace DL
open PySem
def pl : Nat -> D -> Bool
 | n, .non => true
 | n, .int _ => true
 | n, .str cs => cs.all (· < 1114112)
 | n + 1, .lst ds => ds.all (pl n)
 | n + 1, .tup ds => ds.all (pl n)
 | _, _ => false
theorem z3x {α β : Type} {f : α -> Option β} : ∀ {l : List α}, (∀ x ∈ l, ∃ y, f x = some y) -> ∃ m, z1j f l = some m
 | [], _ => ⟨[], rfl⟩
 | x :: l, h => by
  obtain ⟨y, hy⟩ := h x List.mem_cons_self
  obtain ⟨m, hm⟩ := z3x (l := l) fun z hz => h z (List.mem_cons_of_mem _ hz)
  exact ⟨y :: m, by unfold z1j; rw [hy, hm]⟩
theorem z7P (O : Ow) : ∀ (n : Nat) (d : D), pl n d = true -> ∃ p, z2k O n d = some p := by
 intro n
 induction n with
 | zero =>
  intro d h
  cases d with
  | non => exact ⟨_, rfl⟩
  | int i => exact ⟨_, rfl⟩
  | str cs =>
   refine ⟨.str ⟨cs.toArray⟩, ?_⟩
   show z9u cs = _
   unfold z9u; rw [if_pos (by simpa [pl] using h)]
  | _ => simp [pl] at h
 | succ n ih =>
  intro d h
  cases d with
  | non => exact ⟨_, rfl⟩
  | int i => exact ⟨_, rfl⟩
  | str cs =>
   refine ⟨.str ⟨cs.toArray⟩, ?_⟩
   show z9u cs = _
   unfold z9u; rw [if_pos (by simpa [pl] using h)]
  | lst ds =>
   have h : ds.all (pl n) = true := h
   obtain ⟨m, hm⟩ := z3x (f := z2k O n) (l := ds) fun x hx => ih x (List.all_eq_true.mp h x hx)
   exact ⟨.list m, by show (z1j (z2k O n) ds).map PyData.list = _; rw [hm]; rfl⟩
  | tup ds =>
   have h : ds.all (pl n) = true := h
   obtain ⟨m, hm⟩ := z3x (f := z2k O n) (l := ds) fun x hx => ih x (List.all_eq_true.mp h x hx)
   exact ⟨.tuple m, by show (z1j (z2k O n) ds).map PyData.tuple = _; rw [hm]; rfl⟩
  | _ => simp [pl] at h
theorem z5o {f : D -> Option PyData} (R : ∀ x y p q, f x = some p -> f y = some q -> pl 0 x = pl 0 x -> True) {P : D -> Prop} (hf : ∀ x y p q, P x -> P y -> f x = some p -> f y = some q -> (PyData.eqv p q = true ↔ x = y)) :
  ∀ (xs ys : List D) (ps qs : List PyData), (∀ x ∈ xs, P x) -> (∀ y ∈ ys, P y) -> z1j f xs = some ps -> z1j f ys = some qs -> (PyData.eqvAll ps qs = true ↔ xs = ys)
 | [], [], ps, qs, _, _, e1, e2 => by cases e1; cases e2; simp [PyData.eqvAll]
 | [], y :: ys, ps, qs, _, _, e1, e2 => by
  cases e1
  unfold z1j at e2
  split at e2
  ·cases e2; simp [PyData.eqvAll]
  ·cases e2
 | x :: xs, [], ps, qs, _, _, e1, e2 => by
  cases e2
  unfold z1j at e1
  split at e1
  ·cases e1; simp [PyData.eqvAll]
  ·cases e1
 | x :: xs, y :: ys, ps, qs, h1, h2, e1, e2 => by
  unfold z1j at e1 e2
  split at e1
  ·rename_i p ps' a1 a2
   cases e1
   split at e2
   ·rename_i q qs' b1 b2
    cases e2
    have r1 := hf x y p q (h1 x List.mem_cons_self) (h2 y List.mem_cons_self) a1 b1
    have r2 := z5o R hf xs ys ps' qs' (fun z hz => h1 z (List.mem_cons_of_mem _ hz)) (fun z hz => h2 z (List.mem_cons_of_mem _ hz)) a2 b2
    show (PyData.eqv p q && PyData.eqvAll ps' qs') = true ↔ _
    rw [Bool.and_eq_true, r1, r2, List.cons.injEq]
   ·cases e2
  ·cases e1
theorem z0K {cs : List Nat} {p : PyData} (h : z9u cs = some p) : p = .str ⟨cs.toArray⟩ := by
 unfold z9u at h
 split at h
 ·cases h; rfl
 ·cases h
theorem z9E (a b : List Nat) : PyData.eqv (.str ⟨a.toArray⟩) (.str ⟨b.toArray⟩) = true ↔ D.str a = D.str b := by
 show ((⟨a.toArray⟩ : Str) == ⟨b.toArray⟩) = true ↔ _
 rw [beq_iff_eq]
 constructor
 ·intro h
  have h : a.toArray = b.toArray := by injection h
  rw [show a = b by simpa using congrArg Array.toList h]
 ·intro h
  injection h with h
  rw [h]
theorem zhE (O : Ow) : ∀ (n : Nat) (x y : D) (p q : PyData), pl n x = true -> pl n y = true -> z2k O n x = some p -> z2k O n y = some q -> (PyData.eqv p q = true ↔ x = y) := by
 intro n
 induction n with
 | zero =>
  intro x y p q hx hy e1 e2
  cases x with
  | non => cases e1; cases y with
   | non => cases e2; simp [PyData.eqv]
   | int j => cases e2; simp [PyData.eqv]
   | str b => have := z0K e2; subst this; simp [PyData.eqv]
   | _ => simp [pl] at hy
  | int i => cases e1; cases y with
   | non => cases e2; simp [PyData.eqv]
   | int j => cases e2; simp [PyData.eqv]
   | str b => have := z0K e2; subst this; simp [PyData.eqv]
   | _ => simp [pl] at hy
  | str a => have := z0K e1; subst this; cases y with
   | non => cases e2; simp [PyData.eqv]
   | int j => cases e2; simp [PyData.eqv]
   | str b => have := z0K e2; subst this; exact z9E a b
   | _ => simp [pl] at hy
  | _ => simp [pl] at hx
 | succ n ih =>
  have big : ∀ xs ys ps qs, (xs.all (pl n)) = true -> (ys.all (pl n)) = true -> z1j (z2k O n) xs = some ps -> z1j (z2k O n) ys = some qs -> (PyData.eqvAll ps qs = true ↔ xs = ys) := fun xs ys ps qs h1 h2 e1 e2 =>
   z5o (fun _ _ _ _ _ _ _ => trivial) (P := fun d => pl n d = true) (fun x y p q a b c d => ih x y p q a b c d) xs ys ps qs (List.all_eq_true.mp h1) (List.all_eq_true.mp h2) e1 e2
  have shL : ∀ {ds : List D} {p}, z2k O (n + 1) (.lst ds) = some p -> ∃ ps, z1j (z2k O n) ds = some ps /\ p = .list ps := fun {ds p} e => by
   have e : (z1j (z2k O n) ds).map PyData.list = some p := e
   cases h : z1j (z2k O n) ds with
   | none => rw [h] at e; cases e
   | some ps => rw [h] at e; cases e; exact ⟨ps, rfl, rfl⟩
  have shT : ∀ {ds : List D} {p}, z2k O (n + 1) (.tup ds) = some p -> ∃ ps, z1j (z2k O n) ds = some ps /\ p = .tuple ps := fun {ds p} e => by
   have e : (z1j (z2k O n) ds).map PyData.tuple = some p := e
   cases h : z1j (z2k O n) ds with
   | none => rw [h] at e; cases e
   | some ps => rw [h] at e; cases e; exact ⟨ps, rfl, rfl⟩
  intro x y p q hx hy e1 e2
  cases x with
  | non => cases e1; cases y with
   | non => cases e2; simp [PyData.eqv]
   | int j => cases e2; simp [PyData.eqv]
   | str b => have := z0K e2; subst this; simp [PyData.eqv]
   | lst ys => obtain ⟨_, _, rfl⟩ := shL e2; simp [PyData.eqv]
   | tup ys => obtain ⟨_, _, rfl⟩ := shT e2; simp [PyData.eqv]
   | _ => simp [pl] at hy
  | int i => cases e1; cases y with
   | non => cases e2; simp [PyData.eqv]
   | int j => cases e2; simp [PyData.eqv]
   | str b => have := z0K e2; subst this; simp [PyData.eqv]
   | lst ys => obtain ⟨_, _, rfl⟩ := shL e2; simp [PyData.eqv]
   | tup ys => obtain ⟨_, _, rfl⟩ := shT e2; simp [PyData.eqv]
   | _ => simp [pl] at hy
  | str a => have := z0K e1; subst this; cases y with
   | non => cases e2; simp [PyData.eqv]
   | int j => cases e2; simp [PyData.eqv]
   | str b => have := z0K e2; subst this; exact z9E a b
   | lst ys => obtain ⟨_, _, rfl⟩ := shL e2; simp [PyData.eqv]
   | tup ys => obtain ⟨_, _, rfl⟩ := shT e2; simp [PyData.eqv]
   | _ => simp [pl] at hy
  | lst xs => obtain ⟨ps, h1, rfl⟩ := shL e1; cases y with
   | non => cases e2; simp [PyData.eqv]
   | int j => cases e2; simp [PyData.eqv]
   | str b => have := z0K e2; subst this; simp [PyData.eqv]
   | lst ys =>
    obtain ⟨qs, h2, rfl⟩ := shL e2
    show PyData.eqvAll ps qs = true ↔ _
    rw [big xs ys ps qs hx hy h1 h2, D.lst.injEq]
   | tup ys => obtain ⟨_, _, rfl⟩ := shT e2; simp [PyData.eqv]
   | _ => simp [pl] at hy
  | tup xs => obtain ⟨ps, h1, rfl⟩ := shT e1; cases y with
   | non => cases e2; simp [PyData.eqv]
   | int j => cases e2; simp [PyData.eqv]
   | str b => have := z0K e2; subst this; simp [PyData.eqv]
   | lst ys => obtain ⟨_, _, rfl⟩ := shL e2; simp [PyData.eqv]
   | tup ys =>
    obtain ⟨qs, h2, rfl⟩ := shT e2
    show PyData.eqvAll ps qs = true ↔ _
    rw [big xs ys ps qs hx hy h1 h2, D.tup.injEq]
   | _ => simp [pl] at hy
  | _ => simp [pl] at hx
theorem zh4 (O : Ow) {x y : D} (hx : pl 8 x = true) (hy : pl 8 y = true) {b : Bool} (hb : b = true ↔ x = y) : fPy eqF O x y = .ok (.bl b) O /\ fPy neF O x y = .ok (.bl !b) O := by
 obtain ⟨p, hp⟩ := z7P O 8 x hx
 obtain ⟨q, hq⟩ := z7P O 8 y hy
 have h := zhE O 8 x y p q hx hy hp hq
 have : PyData.eqv p q = b := Bool.eq_iff_iff.mpr (h.trans hb.symm)
 unfold fPy py
 rw [hp, hq]
 subst this
 exact ⟨rfl, rfl⟩
theorem zdS {t u : DE} {σ : Sg} {O : Ow} {a b : Bool} (h1 : t σ O = .ok (.bl a) O) (h2 : a = true -> u σ O = .ok (.bl b) O) : z8B t u σ O = .ok (.bl (a && b)) O := by
 show ((t σ O).bnd _) = _
 rw [h1]
 cases a with
 | true => exact h2 rfl
 | false => rfl
theorem z2O {t u : DT} {σ : Sg} {O : Ow} {a b : Bool} (h1 : t σ O = .ok a O) (h2 : a = true -> u σ O = .ok b O) : z1y t u σ O = .ok (a && b) O := by
 show ((t σ O).bnd _) = _
 rw [h1]
 cases a with
 | true => exact h2 rfl
 | false => rfl
theorem zfZ {t u : DT} {σ : Sg} {O : Ow} {a b : Bool} (h1 : t σ O = .ok a O) (h2 : a = false -> u σ O = .ok b O) : zeO t u σ O = .ok (a || b) O := by
 show ((t σ O).bnd _) = _
 rw [h1]
 cases a with
 | false => exact h2 rfl
 | true => rfl
theorem z6V (O : Ow) {x y : List D} (hx : x.all (pl 7) = true) (hy : y.all (pl 7) = true) {b : Bool} (hb : b = true ↔ x = y) : fPy eqF O (.lst x) (.lst y) = .ok (.bl b) O /\ fPy neF O (.lst x) (.lst y) = .ok (.bl !b) O :=
 zh4 O (x := .lst x) (y := .lst y) hx hy (hb.trans (by rw [D.lst.injEq]))
theorem zaP (n : Nat) (l : List Nat) : (l.map fun (p : Nat) => D.int (p : Int)).all (pl n) = true := List.all_eq_true.mpr fun d hd => by
 obtain ⟨p, _, rfl⟩ := List.mem_map.mp hd
 cases n <;> rfl
section
variable {σ : Sg} {O O1 O2 : Ow} {t u : DE} {d a : DS} {x y : D} {r : RS} {i : Nat} {c : DT} {tA : DA} {ds : List D}
theorem z0X (h : t σ O = .ok x O1) (h2 : d (σ.set i (some x)) O1 = r) : z0i (z0W i t) d σ O = r := by rw [z0j (z34 h)]; exact h2
theorem z45 {σ' : Sg} (h : a σ O = .nx σ' O1) (h2 : d σ' O1 = r) : z0i a d σ O = r := by rw [z0j h]; exact h2
theorem zeN (h : t σ O = .ok x O1) (h2 : d σ O1 = r) : z0i (z1e t) d σ O = r := by rw [z0j (z4m h)]; exact h2
theorem z42 {a' : DS} (h : c σ O = .ok false O1) (h2 : d σ O1 = r) : z0i (sIf c a' z1l) d σ O = r := by rw [z0j (σ' := σ) (O1 := O1) (by rw [z1f h]; rfl)]; exact h2
theorem z1X (h : d σ O = .rt x O1) : fin (d σ O) = .ok x O1 := by rw [h]; rfl
theorem z6r (h : t σ O = .ok x O1) : fin (z0B t σ O) = .ok x O1 := by rw [z0u h]; rfl
theorem z0F {f : Ow -> D -> D -> R D} {z : R D} (h1 : t σ O = .ok x O1) (h2 : u σ O1 = .ok y O2) (h3 : f O2 x y = z) : dOp f t u σ O = z := by rw [z0f h1 h2]; exact h3
theorem z17 {f : Ow -> List D -> R D} {z : R D} (h1 : tA σ O = .ok ds O1) (h2 : f O1 ds = z) : z0c f tA σ O = z := by rw [z13 h1]; exact h2
theorem z0l {n : Nat} {F : List D -> Ow -> R D} {z : R D} (h1 : tA σ O = .ok ds O1) (h2 : F ds O1 = z) (h3 : ds.length = n := by rfl) : dFn n F tA σ O = z := by rw [z7m h1 h3]; exact h2
end
end DL
set_option maxHeartbeats 400000
namespace K53
open PySem L2 DL
def top (i : Nat) : Stmt := PySem.Challenge.pw_leastterms_k53_products_multiplied_out.main.body.getD i (.Pass ⟨0, 0, 0, 0⟩)
structure Txt (K : PySem.W.Frag) (mg : Str -> Option Value) : Prop where
 d_is_whole : z0H K mg "is_whole" (top 6)
 d_is_whole_within : z0H K mg "is_whole_within" (top 7)
 d_need_whole_within : z0H K mg "need_whole_within" (top 8)
 d_need_switches : z0H K mg "need_switches" (top 9)
 d_is_rising : z0H K mg "is_rising" (top 10)
 d_has_term_signs : z0H K mg "has_term_signs" (top 13)
 d_has_rising_terms : z0H K mg "has_rising_terms" (top 14)
 d_lies_in : z0H K mg "lies_in" (top 15)
 d_meet : z0H K mg "meet" (top 16)
 d_with_sign : z0H K mg "with_sign" (top 17)
 d_exchanged : z0H K mg "exchanged" (top 18)
 d_need_rising_terms : z0H K mg "need_rising_terms" (top 20)
 d_picks_of : z0H K mg "picks_of" (top 21)
 d_widest_of : z0H K mg "widest_of" (top 22)
 d_multiplied : z0H K mg "multiplied" (top 23)
 d__law_terms : z0H K mg "_law_terms" (top 25)
 d__law_lies_in : z0H K mg "_law_lies_in" (top 26)
 d__law_cell_at : z0H K mg "_law_cell_at" (top 27)
 d__law_state : z0H K mg "_law_state" (top 28)
 d__law_take : z0H K mg "_law_take" (top 29)
 d__law_function : z0H K mg "_law_function" (top 30)
 d__law_switches : z0H K mg "_law_switches" (top 31)
 d__law_holds : z0H K mg "_law_holds" (top 32)
 d__law_good : z0H K mg "_law_good" (top 33)
 d__law_ones : z0H K mg "_law_ones" (top 34)
 d__law_greatest : z0H K mg "_law_greatest" (top 35)
 d__law_is_term : z0H K mg "_law_is_term" (top 36)
 d__law_are_terms : z0H K mg "_law_are_terms" (top 37)
 d__law_is_form : z0H K mg "_law_is_form" (top 38)
 d__law_some_form : z0H K mg "_law_some_form" (top 39)
 d__law_opposite : z0H K mg "_law_opposite" (top 40)
 d__law_some_terms : z0H K mg "_law_some_terms" (top 41)
 d__law_same : z0H K mg "_law_same" (top 42)
 d__law_meets : z0H K mg "_law_meets" (top 43)
 d__law_out : z0H K mg "_law_out" (top 44)
 d_law : z0H K mg "law" (top 45)
 b_all : mg "all" = none
 b_any : mg "any" = none
 b_bool : mg "bool" = none
 b_enumerate : mg "enumerate" = none
 b_int : mg "int" = none
 b_isinstance : mg "isinstance" = none
 b_len : mg "len" = none
 b_list : mg "list" = none
 b_max : mg "max" = none
 b_min : mg "min" = none
 b_range : mg "range" = none
 b_set : mg "set" = none
 b_sorted : mg "sorted" = none
 b_str : mg "str" = none
 b_tuple : mg "tuple" = none
 b_zip : mg "zip" = none
 c_SIGNS : ziG mg "SIGNS" [45, 48, 49]
 i_MOST_SWITCHES : ziH mg "MOST_SWITCHES" 4
section
variable {P : Program} {w : World} {K : PySem.W.Frag} {mg : Str -> Option Value} {base : Heap}
set_option hygiene false in
local macro_rules | `(tactic| walk_at "v") => `(tactic| first | exact .inl rfl | exact .inr (.inl rfl) | exact .inr (.inr rfl))
set_option hygiene false in
local macro_rules | `(tactic| walk_at "l") => `(tactic| first | exact .inl rfl | exact .inr rfl)
set_option hygiene false in
local macro_rules | `(tactic| walk_at "le") => `(tactic| first | decide | exact Nat.le_refl _)
set_option hygiene false in
local macro_rules | `(tactic| walk_at "fx") => `(tactic| first | refine zhH h hr (by walk_at "le") rfl ?_<;>walk_at "a")
set_option hygiene false in
local macro_rules | `(tactic| walk_at "f") => `(tactic| first | ((with_reducible show PD _ _ _ (dFn _ z3L _)); have h := @z7J P w K mg base T; walk_at "fx") | ((with_reducible show PD _ _ _ (dFn _ z2b _)); have h := @z6s P w K mg base T; walk_at "fx") | ((with_reducible show PD _ _ _ (dFn _ z0p _)); have h := @z3X P w K mg base T; walk_at "fx") | ((with_reducible show PD _ _ _ (dFn _ z3u _)); have h := @z9g P w K mg base T; walk_at "fx") | ((with_reducible show PD _ _ _ (dFn _ z6a _)); have h := @zfO P w K mg base T; walk_at "fx") | ((with_reducible show PD _ _ _ (dFn _ z1I _)); have h := @z6U P w K mg base T; walk_at "fx") | ((with_reducible show PD _ _ _ (dFn _ z2c _)); have h := @z6i P w K mg base T; walk_at "fx") | ((with_reducible show PD _ _ _ (dFn _ z1b _)); have h := @z5E P w K mg base T; walk_at "fx") | ((with_reducible show PD _ _ _ (dFn _ z0J _)); have h := @z4q P w K mg base T; walk_at "fx") | ((with_reducible show PD _ _ _ (dFn _ z0Z _)); have h := @z4D P w K mg base T; walk_at "fx") | ((with_reducible show PD _ _ _ (dFn _ z06 _)); have h := @z6D P w K mg base T; walk_at "fx") | ((with_reducible show PD _ _ _ (dFn _ z0A _)); have h := @z4j P w K mg base T; walk_at "fx") | ((with_reducible show PD _ _ _ (dFn _ z0s _)); have h := @z5s P w K mg base T; walk_at "fx") | ((with_reducible show PD _ _ _ (dFn _ z18 _)); have h := @z6x P w K mg base T; walk_at "fx") | ((with_reducible show PD _ _ _ (dFn _ z11 _)); have h := @z52 P w K mg base T; walk_at "fx") | ((with_reducible show PD _ _ _ (dFn _ z0Q _)); have h := @z4c P w K mg base T; walk_at "fx") | ((with_reducible show PD _ _ _ (dFn _ z14 _)); have h := @z73 P w K mg base T; walk_at "fx") | ((with_reducible show PD _ _ _ (dFn _ z1R _)); have h := @z5R P w K mg base T; walk_at "fx") | ((with_reducible show PD _ _ _ (dFn _ z1m _)); have h := @z3n P w K mg base T; walk_at "fx") | ((with_reducible show PD _ _ _ (dFn _ z0N _)); have h := @z30 P w K mg base T; walk_at "fx") | ((with_reducible show PD _ _ _ (dFn _ z26 _)); have h := @z8f P w K mg base T; walk_at "fx") | ((with_reducible show PD _ _ _ (dFn _ z1H _)); have h := @z71 P w K mg base T; walk_at "fx") | ((with_reducible show PD _ _ _ (dFn _ z1x _)); have h := @z67 P w K mg base T; walk_at "fx") | ((with_reducible show PD _ _ _ (dFn _ z0T _)); have h := @z4a P w K mg base T; walk_at "fx") | ((with_reducible show PD _ _ _ (dFn _ z1k _)); have h := @z6p P w K mg base T; walk_at "fx") | ((with_reducible show PD _ _ _ (dFn _ z0G _)); have h := @z3S P w K mg base T; walk_at "fx") | ((with_reducible show PD _ _ _ (dFn _ z0h _)); have h := @z3g P w K mg base T; walk_at "fx") | ((with_reducible show PD _ _ _ (dFn _ z20 _)); have h := @z7I P w K mg base T; walk_at "fx") | ((with_reducible show PD _ _ _ (dFn _ z16 _)); have h := @z2R P w K mg base T; walk_at "fx") | ((with_reducible show PD _ _ _ (dFn _ z0x _)); have h := @z49 P w K mg base T; walk_at "fx") | ((with_reducible show PD _ _ _ (dFn _ z0t _)); have h := @z4L P w K mg base T; walk_at "fx") | ((with_reducible show PD _ _ _ (dFn _ z1h _)); have h := @z4e P w K mg base T; walk_at "fx") | ((with_reducible show PD _ _ _ (dFn _ z0I _)); have h := @z3N P w K mg base T; walk_at "fx") | ((with_reducible show PD _ _ _ (dFn _ z0C _)); have h := @z2U P w K mg base T; walk_at "fx") | ((with_reducible show PD _ _ _ (dFn _ z0P _)); have h := @z64 P w K mg base T; walk_at "fx") | ((with_reducible show PD _ _ _ (dFn _ _ _)); have h := c_self; walk_at "fx"))
set_option hygiene false in
local macro_rules | `(tactic| walk_at "k") => `(tactic| first | exact zg6 | exact zhc _ rfl | exact zhz | exact zig)
set_option hygiene false in
local macro_rules | `(tactic| walk_at "n") => `(tactic| first | exact zeA T.c_SIGNS | exact ze0 T.i_MOST_SWITCHES)
set_option hygiene false in
local macro_rules | `(tactic| walk_at "o") => `(tactic| first | ((with_reducible show PD _ _ _ (dOp z2W _ _)); refine zhb ?_ ?_<;>walk_at "e") | ((with_reducible show PD _ _ _ (dOp fIx _ _)); exact ziU (by walk_at "e") (by walk_at "e") (fun _ _ => rfl)) | ((with_reducible show PD _ _ _ (dOp (fI zbF) _ _)); refine z54 zha ze9 ?_ ?_<;>walk_at "e") | ((with_reducible show PD _ _ _ (dOp (fI z69) _ _)); refine z54 zgJ zes ?_ ?_<;>walk_at "e") | ((with_reducible show PD _ _ _ (dOp (fI z9s) _ _)); refine z54 zeg zeF ?_ ?_<;>walk_at "e") | ((with_reducible show PD _ _ _ (dOp (fI z5g) _ _)); refine z54 zg5 zfC ?_ ?_<;>walk_at "e") | ((with_reducible show PD _ _ _ (dOp (fI zbl) _ _)); refine z54 zg8 zfu ?_ ?_<;>walk_at "e") | ((with_reducible show PD _ _ _ (dOp (fI zg1) _ _)); refine z54 zgz zek ?_ ?_<;>walk_at "e") | ((with_reducible show PD _ _ _ (dOp (fI zhY) _ _)); refine z54 zh9 zfq ?_ ?_<;>walk_at "e") | ((with_reducible show PD _ _ _ (dOp (fI ziW) _ _)); refine z54 zgo zfL ?_ ?_<;>walk_at "e") | ((with_reducible show PD _ _ _ (dOp z7c _ _)); refine z54 zex zbK ?_ ?_<;>walk_at "e") | ((with_reducible show PD _ _ _ (dOp fLt _ _)); exact z3d zeU zau (by walk_at "e") (by walk_at "e") (z1Z _)) | ((with_reducible show PD _ _ _ (dOp fGe _ _)); exact z3d zhl zdp (by walk_at "e") (by walk_at "e") (z1Z _)) | ((with_reducible show PD _ _ _ (dOp (fPy eqF) _ _)); exact z3d (zaD hr.units) z5d (by walk_at "e") (by walk_at "e") (z1Z _)) | ((with_reducible show PD _ _ _ (dOp (fPy neF) _ _)); exact z3d (z9z hr.units) z5d (by walk_at "e") (by walk_at "e") (z1Z _)) | ((with_reducible show PD _ _ _ (dOp fIn _ _)); exact z3d (zhL hr.units) zho (by walk_at "e") (by walk_at "e") rfl) | ((with_reducible show PD _ _ _ (dOp zey _ _)); exact z3d (zaI hr.units) zaQ (by walk_at "e") (by walk_at "e") rfl) | ((with_reducible show PD _ _ _ (dOp zhZ _ _)); exact z3d zdG zbt (by walk_at "e") (by walk_at "e") (z1Z _)) | ((with_reducible show PD _ _ _ (dOp z9k _ _)); exact z3d zaR z8F (by walk_at "e") (by walk_at "e") (z1Z _)) | ((with_reducible show PD _ _ _ (dOp zhq _ _)); exact z3d zhn zfr (by walk_at "e") (by walk_at "e") (z1Z _)) | ((with_reducible show PD _ _ _ (z9I fLe fLe _ _ _)); refine zcb zgU zdu zgU zdu ?_ ?_ ?_<;>walk_at "e"))
set_option hygiene false in
local macro_rules | `(tactic| walk_at "c") => `(tactic| first | ((with_reducible show PD _ _ _ (z0c z2p _)); refine z2H zck zhe rfl T.b_len zgc ?_<;>walk_at "a") | ((with_reducible show PD _ _ _ (z0c zaB _)); refine z2H (z9C rfl) zgR rfl T.b_all zgD ?_<;>walk_at "a") | ((with_reducible show PD _ _ _ (z0c zgd _)); refine z2H (zbr rfl) zh7 rfl T.b_any zgA ?_<;>walk_at "a") | ((with_reducible show PD _ _ _ (z0c z8h _)); refine z2H (zaC rfl) zeu rfl T.b_max zh5 ?_<;>walk_at "a") | ((with_reducible show PD _ _ _ (z0c z7Q _)); refine z2H (zac rfl) ze2 rfl T.b_min zhd ?_<;>walk_at "a") | ((with_reducible show PD _ _ _ (z0c z7E _)); refine z2H zbs zfU rfl T.b_sorted z2C ?_<;>walk_at "a") | ((with_reducible show PD _ _ _ (z0c z6C _)); refine z3i zbg zeV rfl T.b_int zdE ?_<;>walk_at "a") | ((with_reducible show PD _ _ _ (z0c z3s _)); refine z3i z60 zbN rfl T.b_tuple z5w ?_<;>walk_at "a") | ((with_reducible show PD _ _ _ (z0c zd2 _)); refine z3i z6L zdP rfl T.b_str zdF ?_<;>walk_at "a") | ((with_reducible show PD _ _ _ (z0c (zcu _) _)); refine z3i z6k (zeI _) rfl T.b_list z8e ?_<;>walk_at "a") | ((with_reducible show PD _ _ _ (z2P "bool" _)); exact z6o (by walk_at "e") (by decide) rfl T.b_isinstance z0U rfl T.b_bool zeZ) | ((with_reducible show PD _ _ _ (z2P "int" _)); exact z6o (by walk_at "e") (by decide) rfl T.b_isinstance z0U rfl T.b_int zdE) | ((with_reducible show PD _ _ _ (z2P "list" _)); exact z6o (by walk_at "e") (by decide) rfl T.b_isinstance z0U rfl T.b_list z8e) | ((with_reducible show PD _ _ _ (z2P "str" _)); exact z6o (by walk_at "e") (by decide) rfl T.b_isinstance z0U rfl T.b_str zdF) | ((with_reducible show PD _ _ _ (z2P "tuple" _)); exact z6o (by walk_at "e") (by decide) rfl T.b_isinstance z0U rfl T.b_tuple z5w) | ((with_reducible show PD _ _ _ (z9i "tuple" "list" _)); exact zf9 (by walk_at "e") (by decide) (by decide) rfl T.b_isinstance z0U rfl T.b_tuple z5w rfl T.b_list z8e) | ((with_reducible show PD _ _ _ (z9m _ _)); refine ze3 _ rfl rfl T.b_sorted z2C rfl T.b_set zhu ?_<;>walk_at "a") | ((with_reducible show PD _ _ _ (z7n _ _ _ _ _ _ _)); first | exact z5Y x0 _ rfl rfl T.b_sorted z2C (z3t (by kernel_rfl)) (by walk_at "i") (fun _ _ _ _ _ => ⟨by walk_at "g", by walk_at "fs", by walk_at "cs", by walk_at "e"⟩) | exact z5Y x1 _ rfl rfl T.b_sorted z2C (z3t (by kernel_rfl)) (by walk_at "i") (fun _ _ _ _ _ => ⟨by walk_at "g", by walk_at "fs", by walk_at "cs", by walk_at "e"⟩) | exact z5Y x2 _ rfl rfl T.b_sorted z2C (z3t (by kernel_rfl)) (by walk_at "i") (fun _ _ _ _ _ => ⟨by walk_at "g", by walk_at "fs", by walk_at "cs", by walk_at "e"⟩)))
set_option hygiene false in
local macro_rules | `(tactic| walk_at "pk") => `(tactic| first | exact zda | exact zde | exact zdi)
set_option hygiene false in
local macro_rules | `(tactic| walk_at "pp") => `(tactic| first | exact zcm (by walk_at "pk") (by walk_at "pk") (by walk_at "pp") | exact zeW)
set_option hygiene false in
local macro_rules | `(tactic| walk_at "so") => `(tactic| first | ((with_reducible show PDO _ _ _ z7d); exact zcN) | refine zbO ?_<;>walk_at "e")
set_option hygiene false in
local macro_rules | `(tactic| walk_at "m") => `(tactic| first | ((with_reducible show PD _ _ _ (z7r _ _)); exact zai (by walk_at "e") (by walk_at "a")) | ((with_reducible show PD _ _ _ (zev _ _)); exact zae (by walk_at "e") (by walk_at "a")) | ((with_reducible show PD _ _ _ (z6Z _ _)); exact zca (by walk_at "e") (by walk_at "a")) | ((with_reducible show PD _ _ _ (z86 _ _)); exact ze4 (by walk_at "e") (by walk_at "a")) | ((with_reducible show PD _ _ _ (dSl _ _ _)); exact ziA (by walk_at "e") (by walk_at "so") (by walk_at "so")) | ((with_reducible show PD _ _ _ (zg0 _ _ _)); exact zgX (by walk_at "e") (by walk_at "so") (by walk_at "so")) | ((with_reducible show PD _ _ _ (zge _ _)); exact zgQ _ (by walk_at "pp") rfl rfl rfl (List.cons_ne_nil _ _) (Nat.le_of_ble_eq_true rfl) (Nat.le_of_ble_eq_true rfl) (ziB hr) (by walk_at "e") (fun _ _ => rfl)))
set_option hygiene false in
local macro_rules | `(tactic| walk_at "e1") => `(tactic| first | ((with_reducible show PD _ _ _ (z01 _)); refine zgI rfl ?_<;>walk_at "v") | ((with_reducible show PD _ _ _ (dC _)); first | walk_at "k" | walk_at "n") | ((with_reducible show PD _ _ _ (dOp _ _ _)); walk_at "o") | ((with_reducible show PD _ _ _ (dFn _ _ _)); walk_at "f") | ((with_reducible show PD _ _ _ (z41 _)); refine zh8 ?_<;>walk_at "a") | ((with_reducible show PD _ _ _ (zfA _)); refine zhr ?_<;>walk_at "a") | ((with_reducible show PD _ _ _ (z0n _ _ _ _ _ _ _)); first | exact z5K x0 _ rfl (z3t (by kernel_rfl)) (by walk_at "i") (fun _ _ _ _ _ => ⟨by walk_at "g", by walk_at "fs", by walk_at "cs", by walk_at "e"⟩) | exact z5K x1 _ rfl (z3t (by kernel_rfl)) (by walk_at "i") (fun _ _ _ _ _ => ⟨by walk_at "g", by walk_at "fs", by walk_at "cs", by walk_at "e"⟩) | exact z5K x2 _ rfl (z3t (by kernel_rfl)) (by walk_at "i") (fun _ _ _ _ _ => ⟨by walk_at "g", by walk_at "fs", by walk_at "cs", by walk_at "e"⟩)) | ((with_reducible show PD _ _ _ (z0c _ _)); walk_at "c") | ((with_reducible show PD _ _ _ (z33 _)); refine zfS ?_<;>walk_at "a") | ((with_reducible show PD _ _ _ (z8B _ _)); refine zgt ?_ ?_<;>walk_at "e") | ((with_reducible show PD _ _ _ (dOr _ _)); refine ziL ?_ ?_<;>walk_at "e") | ((with_reducible show PD _ _ _ (ziD _)); refine zhC ?_<;>walk_at "e") | ((with_reducible show PD _ _ _ (dIf _ _ _)); exact zcw (by walk_at "t") (by walk_at "e") (by walk_at "e")) | walk_at "c" | walk_at "m" | walk_at "o")
set_option hygiene false in
local macro_rules | `(tactic| walk_at "e") => `(tactic| first | (show PD _ _ (.BoolOp _ [_] _) _; refine zhI ?_<;>walk_at "e1") | walk_at "e1")
set_option hygiene false in
local macro_rules | `(tactic| walk_at "a") => `(tactic| first | ((with_reducible show PDA _ _ _ z03); exact zf3) | exact zco (by walk_at "e") (by walk_at "a"))
set_option hygiene false in
local macro_rules | `(tactic| walk_at "t") => `(tactic| first | ((with_reducible show PDT _ _ _ (z0z (dOp fLt _ _))); exact z2Y zeU zau (by walk_at "e") (by walk_at "e") (z1Z _)) | ((with_reducible show PDT _ _ _ (z0z (dOp fGe _ _))); exact z2Y zhl zdp (by walk_at "e") (by walk_at "e") (z1Z _)) | ((with_reducible show PDT _ _ _ (z0z (dOp (fPy eqF) _ _))); exact z2Y (zaD hr.units) z5d (by walk_at "e") (by walk_at "e") (z1Z _)) | ((with_reducible show PDT _ _ _ (z0z (dOp (fPy neF) _ _))); exact z2Y (z9z hr.units) z5d (by walk_at "e") (by walk_at "e") (z1Z _)) | ((with_reducible show PDT _ _ _ (z0z (dOp zey _ _))); exact z2Y (zaI hr.units) zaQ (by walk_at "e") (by walk_at "e") rfl) | ((with_reducible show PDT _ _ _ (z0z (dOp zhZ _ _))); exact z2Y zdG zbt (by walk_at "e") (by walk_at "e") (z1Z _)) | ((with_reducible show PDT _ _ _ (z0z (dOp z9k _ _))); exact z2Y zaR z8F (by walk_at "e") (by walk_at "e") (z1Z _)) | (show PDT _ _ (.BoolOp _ _ _) _; refine PDW.pt ?_<;>walk_at "w") | ((with_reducible show PDT _ _ _ (z1o _)); refine zfx ?_<;>walk_at "t") | ((with_reducible show PDT _ _ _ (z1s _)); exact zfW (by walk_at "e") (fun _ => rfl)))
set_option hygiene false in
local macro_rules | `(tactic| walk_at "w") => `(tactic| first | (show PDW _ _ (.BoolOp .And [_] _) _; refine zcZ ?_<;>walk_at "t") | (show PDW _ _ (.BoolOp .Or [_] _) _; refine zfa ?_<;>walk_at "t") | ((with_reducible show PDW _ _ _ (z1y _ _)); exact zdZ (by walk_at "t") (by walk_at "w")) | ((with_reducible show PDW _ _ _ (zeO _ _)); exact zgF (by walk_at "t") (by walk_at "w")))
set_option hygiene false in
local macro_rules | `(tactic| walk_at "i") => `(tactic| first | ((with_reducible show PDI _ _ _ _ (z24 _)); refine z9q rfl T.b_range ?_<;>walk_at "a") | ((with_reducible show PDI _ _ _ _ (zhR _)); refine zfF rfl T.b_zip ?_<;>walk_at "a") | ((with_reducible show PDI _ _ _ _ (z5Z _)); refine zcO rfl T.b_zip ?_<;>walk_at "a") | ((with_reducible show PDI _ _ _ _ (zaG _)); refine zaq rfl T.b_enumerate ?_<;>walk_at "a") | refine zeS ?_<;>walk_at "e")
set_option hygiene false in
local macro_rules | `(tactic| walk_at "g") => `(tactic| first | (show PG _ (.Name _ _) _; refine zh1 (z29 (by kernel_rfl)) rfl ?_ ?_<;>walk_at "l") | (show PG _ (.Tuple [_, _] _ _) _; refine zgx rfl (z29 (by kernel_rfl)) rfl rfl ?_ ?_ ?_ ?_<;>walk_at "l"))
set_option hygiene false in
local macro_rules | `(tactic| walk_at "fs") => `(tactic| first | exact .nil | exact .cons (by walk_at "t") (by walk_at "fs"))
set_option hygiene false in
local macro_rules | `(tactic| walk_at "cs") => `(tactic| first | exact .nil | (refine ClsOk.cons ?_ (fun _ => rfl) ?_ ?_ ?_; (dsimp only; walk_at "i"); (dsimp only; walk_at "g"); (dsimp only; walk_at "fs"); walk_at "cs"))
set_option hygiene false in
local macro_rules | `(tactic| walk_at "s") => `(tactic| first | ((with_reducible show PDS _ _ _ (z0B _)); refine zdM ?_<;>walk_at "e") | ((with_reducible show PDS _ _ _ (sIf _ _ _)); exact zgf (by walk_at "t") (by walk_at "ss") (by walk_at "ss")) | (show PDS _ _ (.Assign [.Name _ _] (.ListComp _ _ _ _) _) _; first | exact z2r x0 _ rfl (z29 (by kernel_rfl)) rfl rfl (z3t (by kernel_rfl)) (by walk_at "i") (fun _ _ _ _ _ => ⟨by walk_at "g", by walk_at "fs", by walk_at "cs", by walk_at "e"⟩) rfl | exact z2r x1 _ rfl (z29 (by kernel_rfl)) rfl rfl (z3t (by kernel_rfl)) (by walk_at "i") (fun _ _ _ _ _ => ⟨by walk_at "g", by walk_at "fs", by walk_at "cs", by walk_at "e"⟩) rfl | exact z2r x2 _ rfl (z29 (by kernel_rfl)) rfl rfl (z3t (by kernel_rfl)) (by walk_at "i") (fun _ _ _ _ _ => ⟨by walk_at "g", by walk_at "fs", by walk_at "cs", by walk_at "e"⟩) rfl | exact z9w (z29 (by kernel_rfl)) rfl (by walk_at "l") (by walk_at "e")) | ((with_reducible show PDS _ _ _ (z0W _ _)); exact z9w (z29 (by kernel_rfl)) rfl (by walk_at "l") (by walk_at "e")) | ((with_reducible show PDS _ _ _ (z4T _ _ _)); exact ze8 PassesOwn.never rfl (by walk_at "i") (by walk_at "g") (by walk_at "ss")) | ((with_reducible show PDS _ _ _ (z1e _)); refine zcR ?_<;>walk_at "e") | ((with_reducible show PDS _ _ _ (zcg _ _ _)); refine zec ?_ ?_ ?_<;>walk_at "e") | ((with_reducible show PDS _ _ _ (z9R _ _ _)); exact za7 _ PassesOwn.never (by walk_at "t") (by walk_at "ss")) | ((with_reducible show PDS _ _ _ z1l); exact zc7))
set_option hygiene false in
local macro_rules | `(tactic| walk_at "ss") => `(tactic| first | ((with_reducible show z7t _ _ _ z1l); exact zcz) | ((with_reducible show z7t _ _ _ zgY); exact z8P) | ((with_reducible show z7t _ _ _ (z0i _ _)); exact z04 (by walk_at "s") (by walk_at "ss")) | refine z08 ?_<;>walk_at "s")
def z5m : DS :=
 (z0B (z8B (z2P "int" (z01 0)) (ziD (z2P "bool" (z01 0)))))
def z3L : List D -> Ow -> R D := (z27 1 z5m)
theorem z8c : z0a ["thing"] ["thing"] (z02 (top 6)) := fnS rfl rfl rfl (by kernel_rfl)
theorem z7J (T : Txt K mg) : Callee P w K mg base "is_whole" 1 1 z3L :=
 Callee.self (fnC (k := 0) T.d_is_whole z8c (fun _ _ _ _ _ _ us hl => match us, hl with | [_], _ => rfl) fun f cdv A outer s H E hr =>
  ((z08 (by delta z5m; walk_at "s"))))
def z4S : DS :=
 (z0B (z0c zaB (z00 (z0n false 2 (z5Z (z00 (z01 0) (z00 (zg0 (z01 0) (z7w (dC (.int 1))) z7d) z03))) (.two 1 2) [] [] (dOp zhq (z01 1) (z01 2))) z03)))
def z2b : List D -> Ow -> R D := (z27 1 z4S)
theorem z7o : z0a ["things"] ["things"] (z02 (top 10)) := fnS rfl rfl rfl (by kernel_rfl)
theorem z6s (T : Txt K mg) : Callee P w K mg base "is_rising" 1 1 z2b :=
 Callee.self (fnC (k := 0) T.d_is_rising z7o (fun _ _ _ _ _ _ us hl => match us, hl with | [_], _ => rfl) fun f cdv A outer s H E hr =>
  (have x0 : Nx ["one", "other"] := ⟨⟩; (z08 (by delta z4S; walk_at "s"))))
def z4g : DS :=
 (z0i (sIf (zeO (z1o (z1s (z2P "str" (z01 1)))) (z0z (dOp (fPy neF) (z0c z2p (z00 (z01 1) z03)) (z01 0)))) (z0B (dC (.bl false))) z1l) (z0B (z0c zaB (z00 (z0n false 1 (dIt (z01 1)) (.one 2) [] [] (dOp fIn (z01 2) (dC (.str [45, 48, 49])))) z03))))
def z0p : List D -> Ow -> R D := (z27 2 z4g)
theorem z3H : z0a ["n", "thing"] ["n", "thing"] (z02 (top 13)) := fnS rfl rfl rfl (by kernel_rfl)
theorem z3X (T : Txt K mg) : Callee P w K mg base "has_term_signs" 1 2 z0p :=
 Callee.self (fnC (k := 0) T.d_has_term_signs z3H (fun _ _ _ _ _ _ us hl => match us, hl with | [_, _], _ => rfl) fun f cdv A outer s H E hr =>
  (have x0 : Nx ["sign"] := ⟨⟩; (z04 (by walk_at "s") (z08 (by walk_at "s")))))
def z3a : DS :=
 (z0B (z0c zaB (z00 (z0n false 2 (z5Z (z00 (z01 0) (z00 (z01 1) z03))) (.two 2 3) [] [] (dOr (dOp (fPy eqF) (z01 3) (dC (.str [45]))) (dOp (fPy eqF) (z01 3) (z01 2)))) z03)))
def z3u : List D -> Ow -> R D := (z27 2 z3a)
theorem z9b : z0a ["one", "other"] ["one", "other"] (z02 (top 15)) := fnS rfl rfl rfl (by kernel_rfl)
theorem z9g (T : Txt K mg) : Callee P w K mg base "lies_in" 1 2 z3u :=
 Callee.self (fnC (k := 0) T.d_lies_in z9b (fun _ _ _ _ _ _ us hl => match us, hl with | [_, _], _ => rfl) fun f cdv A outer s H E hr =>
  (have x0 : Nx ["sign", "wide"] := ⟨⟩; (z08 (by delta z3a; walk_at "s"))))
def zhA : DS :=
 (z0i (z0W 2 (z33 z03)) (z0i (z4T (z5Z (z00 (z01 0) (z00 (z01 1) z03))) (.two 3 4) (z0i (sIf (z1y (z0z (dOp (fPy neF) (z01 3) (dC (.str [45])))) (z1y (z0z (dOp (fPy neF) (z01 4) (dC (.str [45])))) (z0z (dOp (fPy neF) (z01 3) (z01 4))))) (z0B (dC .non)) z1l) (z1e (z7r (z01 2) (z00 (dIf (z0z (dOp (fPy eqF) (z01 3) (dC (.str [45])))) (z01 4) (z01 3)) z03))))) (z0B (z86 (dC (.str [])) (z00 (z01 2) z03)))))
def z6a : List D -> Ow -> R D := zgn (z27 5 zhA)
theorem zfX : z0a ["one", "other", "signs", "left", "right"] ["one", "other"] (z02 (top 16)) := fnS rfl rfl rfl (by kernel_rfl)
theorem zfO (T : Txt K mg) : Callee P w K mg base "meet" 1 2 z6a :=
 Callee.frz (fnC (k := 0) T.d_meet zfX (fun _ _ _ _ _ _ us hl => match us, hl with | [_, _], _ => rfl) fun f cdv A outer s H E hr =>
  ((z04 (by walk_at "s") (z04 (by walk_at "s") (z08 (by walk_at "s"))))))
def z50 : DS :=
 (z0B (dOp z2W (dOp z2W (dSl (z01 0) z7d (z7w (z01 1))) (z01 2)) (dSl (z01 0) (z7w (dOp z2W (z01 1) (dC (.int 1)))) z7d)))
def z1I : List D -> Ow -> R D := (z27 3 z50)
theorem z6v : z0a ["term", "switch", "sign"] ["term", "switch", "sign"] (z02 (top 17)) := fnS rfl rfl rfl (by kernel_rfl)
theorem z6U (T : Txt K mg) : Callee P w K mg base "with_sign" 1 3 z1I :=
 Callee.self (fnC (k := 0) T.d_with_sign z6v (fun _ _ _ _ _ _ us hl => match us, hl with | [_, _, _], _ => rfl) fun f cdv A outer s H E hr =>
  ((z08 (by delta z50; walk_at "s"))))
def z4u : DS :=
 (z0B (dIf (z0z (dOp (fPy eqF) (z01 0) (dC (.str [48])))) (dC (.str [49])) (dC (.str [48]))))
def z2c : List D -> Ow -> R D := (z27 1 z4u)
theorem z74 : z0a ["sign"] ["sign"] (z02 (top 18)) := fnS rfl rfl rfl (by kernel_rfl)
theorem z6i (T : Txt K mg) : Callee P w K mg base "exchanged" 1 1 z2c :=
 Callee.self (fnC (k := 0) T.d_exchanged z74 (fun _ _ _ _ _ _ us hl => match us, hl with | [_], _ => rfl) fun f cdv A outer s H E hr =>
  ((z08 (by delta z4u; walk_at "s"))))
def z2G : DS :=
 (z0i (z0W 1 (z41 (z00 (dC (.str [])) z03))) (z0i (z4T (z24 (z00 (z01 0) z03)) (.one 2) (z0i (z0W 3 (z33 z03)) (z0i (z4T (dIt (z01 1)) (.one 4) (z1e (zev (z01 3) (z00 (z41 (z00 (dOp z2W (z01 4) (dC (.str [45]))) (z00 (dOp z2W (z01 4) (dC (.str [48]))) (z00 (dOp z2W (z01 4) (dC (.str [49]))) z03)))) z03)))) (z0W 1 (z01 3))))) (z0B (z01 1))))
def z1b : List D -> Ow -> R D := zgn (z27 5 z2G)
theorem z63 : z0a ["_law_n", "_law_found", "_law_turn", "_law_longer", "_law_term"] ["_law_n"] (z02 (top 25)) := fnS rfl rfl rfl (by kernel_rfl)
theorem z5E (T : Txt K mg) : Callee P w K mg base "_law_terms" 1 1 z1b :=
 Callee.frz (fnC (k := 0) T.d__law_terms z63 (fun _ _ _ _ _ _ us hl => match us, hl with | [_], _ => rfl) fun f cdv A outer s H E hr =>
  ((z04 (by walk_at "s") (z04 (by walk_at "s") (z08 (by walk_at "s"))))))
def z1r : DS :=
 (z0B (dOp (fPy eqF) (z0n false 1 (z24 (z00 (z0c z2p (z00 (z01 0) z03)) z03)) (.one 2) [(z1y (z0z (dOp (fPy neF) (dOp fIx (z01 1) (z01 2)) (dC (.str [45])))) (z0z (dOp (fPy neF) (dOp fIx (z01 1) (z01 2)) (dOp fIx (z01 0) (z01 2)))))] [] (z01 2)) (z41 z03)))
def z0J : List D -> Ow -> R D := (z27 2 z1r)
theorem z4U : z0a ["_law_one", "_law_other"] ["_law_one", "_law_other"] (z02 (top 26)) := fnS rfl rfl rfl (by kernel_rfl)
theorem z4q (T : Txt K mg) : Callee P w K mg base "_law_lies_in" 1 2 z0J :=
 Callee.self (fnC (k := 0) T.d__law_lies_in z4U (fun _ _ _ _ _ _ us hl => match us, hl with | [_, _], _ => rfl) fun f cdv A outer s H E hr =>
  (have x0 : Nx ["_law_k"] := ⟨⟩; (z08 (by delta z1r; walk_at "s"))))
def z57 : DS :=
 (z0i (sIf (z0z (dOp fLt (z01 1) (z0c z2p (z00 (z01 0) z03)))) (z0B (dOp fIx (z01 0) (z01 1))) z1l) (z0B (dC (.int 0))))
def z0Z : List D -> Ow -> R D := (z27 2 z57)
theorem z4Z : z0a ["_law_script", "_law_k"] ["_law_script", "_law_k"] (z02 (top 27)) := fnS rfl rfl rfl (by kernel_rfl)
theorem z4D (T : Txt K mg) : Callee P w K mg base "_law_cell_at" 1 2 z0Z :=
 Callee.self (fnC (k := 0) T.d__law_cell_at z4Z (fun _ _ _ _ _ _ us hl => match us, hl with | [_, _], _ => rfl) fun f cdv A outer s H E hr =>
  ((z04 (by walk_at "s") (z08 (by walk_at "s")))))
def z7V : DS :=
 (z0i (sIf (z1s (dOp fIx (z01 0) (dC (.int 1)))) (z0i (z0W 2 (dOp (fI z5g) (dOp fIx (z01 0) (dC (.int 0))) (z01 1))) (z0i (zcg (dOp (fI z9s) (dOp fIx (z01 0) (dC (.int 0))) (z01 1)) (z01 0) (dC (.int 0))) (z0B (z01 2)))) z1l) (z0i (zcg (dOp (fI z5g) (dOp z2W (dOp (fI z69) (dOp fIx (z01 0) (dC (.int 0))) (dC (.int 48271))) (dC (.int 29))) (dC (.int 2147483647))) (z01 0) (dC (.int 0))) (z0i (z0W 3 (dOp (fI z5g) (dOp z2W (dOp z2W (dOp (fI z69) (dOp fIx (z01 0) (dC (.int 0))) (dOp fIx (z01 0) (dC (.int 0)))) (dOp (fI z69) (dC (.int 39373)) (dOp fIx (z01 0) (dC (.int 0))))) (dC (.int 7))) (dC (.int 2147483629)))) (z0i (z0W 3 (dOp (fI z5g) (dOp z2W (dOp (fI z69) (z01 3) (z01 3)) (dOp (fI z69) (dC (.int 16807)) (z01 3))) (dC (.int 2147483587)))) (z0B (dOp (fI z5g) (dOp (fI z9s) (z01 3) (dC (.int 8))) (z01 1)))))))
def z06 : List D -> Ow -> R D := (z27 4 z7V)
theorem z6e : z0a ["_law_state_here", "_law_many", "_law_found", "_law_stirred"] ["_law_state_here", "_law_many"] (z02 (top 29)) := fnS rfl rfl rfl (by kernel_rfl)
theorem z6D (T : Txt K mg) : Callee P w K mg base "_law_take" 1 2 z06 :=
 Callee.self (fnC (k := 0) T.d__law_take z6e (fun _ _ _ _ _ _ us hl => match us, hl with | [_, _], _ => rfl) fun f cdv A outer s H E hr =>
  ((z04 (by walk_at "s") (z04 (by walk_at "s") (z04 (by walk_at "s") (z04 (by walk_at "s") (z08 (by walk_at "s"))))))))
def z2z : DS :=
 (z0B (zge [(2, 1), (4, 2), (8, 3), (16, 4)] (z0c z2p (z00 (z01 0) z03))))
def z0A : List D -> Ow -> R D := (z27 1 z2z)
theorem z47 : z0a ["_law_function_here"] ["_law_function_here"] (z02 (top 31)) := fnS rfl rfl rfl (by kernel_rfl)
theorem z4j (T : Txt K mg) : Callee P w K mg base "_law_switches" 1 1 z0A :=
 Callee.self (fnC (k := 0) T.d__law_switches z47 (fun _ _ _ _ _ _ us hl => match us, hl with | [_], _ => rfl) fun f cdv A outer s H E hr =>
  ((z08 (by delta z2z; walk_at "s"))))
def z6O : DS :=
 (z0i (z0W 2 (z0c z2p (z00 (z01 0) z03))) (z0i (z4T (z24 (z00 (z01 2) z03)) (.one 3) (sIf (z1y (z0z (dOp (fPy neF) (dOp fIx (z01 0) (z01 3)) (dC (.str [45])))) (z0z (dOp (fPy neF) (dOp fIx (z01 0) (z01 3)) (z0c zd2 (z00 (dOp (fI ziW) (dOp (fI zhY) (z01 1) (dOp (fI zbF) (dOp (fI zbF) (z01 2) (dC (.int 1))) (z01 3))) (dC (.int 1))) z03))))) (z0B (dC (.bl false))) z1l)) (z0B (dC (.bl true)))))
def z0s : List D -> Ow -> R D := (z27 4 z6O)
theorem z5T : z0a ["_law_term", "_law_point", "_law_n", "_law_k"] ["_law_term", "_law_point"] (z02 (top 32)) := fnS rfl rfl rfl (by kernel_rfl)
theorem z5s (T : Txt K mg) : Callee P w K mg base "_law_holds" 1 2 z0s :=
 Callee.self (fnC (k := 0) T.d__law_holds z5T (fun _ _ _ _ _ _ us hl => match us, hl with | [_, _], _ => rfl) fun f cdv A outer s H E hr =>
  ((z04 (by walk_at "s") (z04 (by walk_at "s") (z08 (by walk_at "s"))))))
def z2e : DS :=
 (z0B (z0n false 1 (z24 (z00 (z0c z2p (z00 (z01 0) z03)) z03)) (.one 1) [(z0z (dOp (fPy eqF) (dOp fIx (z01 0) (z01 1)) (dC (.int 1))))] [] (z01 1)))
def z18 : List D -> Ow -> R D := (z27 1 z2e)
theorem z70 : z0a ["_law_function_here"] ["_law_function_here"] (z02 (top 34)) := fnS rfl rfl rfl (by kernel_rfl)
theorem z6x (T : Txt K mg) : Callee P w K mg base "_law_ones" 1 1 z18 :=
 Callee.self (fnC (k := 0) T.d__law_ones z70 (fun _ _ _ _ _ _ us hl => match us, hl with | [_], _ => rfl) fun f cdv A outer s H E hr =>
  (have x0 : Nx ["_law_point"] := ⟨⟩; (z08 (by delta z2e; walk_at "s"))))
def z2V : DS :=
 (z0B (z8B (z2P "str" (z01 1)) (z8B (dOp (fPy eqF) (z0c z2p (z00 (z01 1) z03)) (z01 0)) (dOp (fPy eqF) (z0n false 1 (dIt (z01 1)) (.one 2) [(z0z (dOp zey (z01 2) (dC (.str [48, 49, 45]))))] [] (z01 2)) (z41 z03)))))
def z11 : List D -> Ow -> R D := (z27 2 z2V)
theorem z4R : z0a ["_law_n", "_law_thing"] ["_law_n", "_law_thing"] (z02 (top 36)) := fnS rfl rfl rfl (by kernel_rfl)
theorem z52 (T : Txt K mg) : Callee P w K mg base "_law_is_term" 1 2 z11 :=
 Callee.self (fnC (k := 0) T.d__law_is_term z4R (fun _ _ _ _ _ _ us hl => match us, hl with | [_, _], _ => rfl) fun f cdv A outer s H E hr =>
  (have x0 : Nx ["_law_sign"] := ⟨⟩; (z08 (by delta z2V; walk_at "s"))))
def z1d : DS :=
 (z0B (z0c z3s (z00 (z0n false 1 (dIt (z01 0)) (.one 1) [] [] (dIf (z0z (dOp zhZ (z01 1) (dC .non))) (dC .non) (dOp (fI zbF) (dC (.int 1)) (z01 1)))) z03)))
def z0Q : List D -> Ow -> R D := (z27 1 z1d)
theorem z46 : z0a ["_law_function_here"] ["_law_function_here"] (z02 (top 40)) := fnS rfl rfl rfl (by kernel_rfl)
theorem z4c (T : Txt K mg) : Callee P w K mg base "_law_opposite" 1 1 z0Q :=
 Callee.self (fnC (k := 0) T.d__law_opposite z46 (fun _ _ _ _ _ _ us hl => match us, hl with | [_], _ => rfl) fun f cdv A outer s H E hr =>
  (have x0 : Nx ["_law_answer"] := ⟨⟩; (z08 (by delta z1d; walk_at "s"))))
def z7W (F : List D -> Ow -> R D) : DS :=
 (z0i (sIf (z1s (z9i "tuple" "list" (z01 1))) (z0i (sIf (zeO (z0z (dOp (fPy neF) (z2P "tuple" (z01 0)) (z2P "tuple" (z01 1)))) (z0z (dOp (fPy neF) (z2P "list" (z01 0)) (z2P "list" (z01 1))))) (z0B (dC (.bl false))) z1l) (z0i (sIf (z0z (dOp (fPy neF) (z0c z2p (z00 (z01 0) z03)) (z0c z2p (z00 (z01 1) z03)))) (z0B (dC (.bl false))) z1l) (z0B (z0c zaB (z00 (z0n false 2 (zhR (z00 (z01 0) (z00 (z01 1) z03))) (.two 2 3) [] [] (dFn 2 F (z00 (z01 2) (z00 (z01 3) z03)))) z03))))) z1l) (z0B (z8B (dOp (fPy eqF) (z01 0) (z01 1)) (dOp (fPy eqF) (z2P "bool" (z01 0)) (z2P "bool" (z01 1))))))
def z0S : Nat -> List D -> Ow -> R D
 | 0 => fun _ _ => .bad
 | k + 1 => (z27 2 (z7W (z0S k)))
theorem z40 : z0a ["_law_found", "_law_due"] ["_law_found", "_law_due"] (z02 (top 42)) := fnS rfl rfl rfl (by kernel_rfl)
theorem z3e (T : Txt K mg) : ∀ k, Callee P w K mg base "_law_same" (1 + k) 2 (z0S k)
 | 0 => Callee.bad (F := z27 2 zgY) (fnC T.d__law_same z40 (fun _ _ _ _ _ _ us hl => match us, hl with | [_, _], _ => rfl) fun f cdv A outer s H E hr => z8P)
 | k + 1 => Callee.self (fnC (k := 1 + k) T.d__law_same z40 (fun _ _ _ _ _ _ us hl => match us, hl with | [_, _], _ => rfl) fun f cdv A outer s H E hr =>
  have c_self := z3e T k
  (have x0 : Nx ["_law_one", "_law_other"] := ⟨⟩; (z04 (by walk_at "s") (z08 (by walk_at "s")))))
def z14 : List D -> Ow -> R D := z0S 3
theorem z73 (T : Txt K mg) : Callee P w K mg base "_law_same" 4 2 z14 := z3e T 3
def z1T : DS :=
 (z0B (dOp (fPy neF) (z0n false 1 (z24 (z00 (z0c z2p (z00 (z01 0) z03)) z03)) (.one 2) [(z1y (z0z (dOp zey (dC (.str [45])) (zfA (z00 (dOp fIx (z01 0) (z01 2)) (z00 (dOp fIx (z01 1) (z01 2)) z03))))) (z0z (dOp (fPy neF) (dOp fIx (z01 0) (z01 2)) (dOp fIx (z01 1) (z01 2)))))] [] (z01 2)) (z41 z03)))
def z1R : List D -> Ow -> R D := (z27 2 z1T)
theorem z5Q : z0a ["_law_term", "_law_clause"] ["_law_term", "_law_clause"] (z02 (top 43)) := fnS rfl rfl rfl (by kernel_rfl)
theorem z5R (T : Txt K mg) : Callee P w K mg base "_law_meets" 1 2 z1R :=
 Callee.self (fnC (k := 0) T.d__law_meets z5Q (fun _ _ _ _ _ _ us hl => match us, hl with | [_, _], _ => rfl) fun f cdv A outer s H E hr =>
  (have x0 : Nx ["_law_k"] := ⟨⟩; (z08 (by delta z1T; walk_at "s"))))
def z25 : DS :=
 (z0B (z8B (dFn 1 z3L (z00 (z01 0) z03)) (z9I fLe fLe (z01 1) (z01 0) (z01 2))))
def z1m : List D -> Ow -> R D := (z27 3 z25)
theorem z3h : z0a ["thing", "least", "most"] ["thing", "least", "most"] (z02 (top 7)) := fnS rfl rfl rfl (by kernel_rfl)
theorem z3n (T : Txt K mg) : Callee P w K mg base "is_whole_within" 2 3 z1m :=
 Callee.self (fnC (k := 1) T.d_is_whole_within z3h (fun _ _ _ _ _ _ us hl => match us, hl with | [_, _, _], _ => rfl) fun f cdv A outer s H E hr =>
  ((z08 (by delta z25; walk_at "s"))))
def z3v : DS :=
 (z0i (sIf (z1o (z1s (z2P "tuple" (z01 1)))) (z0B (dC (.bl false))) z1l) (z0B (z8B (z0c zaB (z00 (z0n false 1 (dIt (z01 1)) (.one 2) [] [] (dFn 2 z0p (z00 (z01 0) (z00 (z01 2) z03)))) z03)) (dFn 1 z2b (z00 (z01 1) z03)))))
def z0N : List D -> Ow -> R D := (z27 2 z3v)
theorem z35 : z0a ["n", "thing"] ["n", "thing"] (z02 (top 14)) := fnS rfl rfl rfl (by kernel_rfl)
theorem z30 (T : Txt K mg) : Callee P w K mg base "has_rising_terms" 2 2 z0N :=
 Callee.self (fnC (k := 1) T.d_has_rising_terms z35 (fun _ _ _ _ _ _ us hl => match us, hl with | [_, _], _ => rfl) fun f cdv A outer s H E hr =>
  (have x0 : Nx ["term"] := ⟨⟩; (z04 (by walk_at "s") (z08 (by walk_at "s")))))
def z3K : DS :=
 (z0i (z0W 1 (dOp z7c (dC (.str [45])) (z0c z2p (z00 (z01 0) z03)))) (z0B (z0n false 2 (zaG (z00 (z01 0) z03)) (.two 2 3) [(z0z (dOp (fPy neF) (z01 3) (dC (.str [45]))))] [] (dFn 3 z1I (z00 (z01 1) (z00 (z01 2) (z00 (dFn 1 z2c (z00 (z01 3) z03)) z03)))))))
def z26 : List D -> Ow -> R D := (z27 2 z3K)
theorem z7y : z0a ["clause", "blank"] ["clause"] (z02 (top 21)) := fnS rfl rfl rfl (by kernel_rfl)
theorem z8f (T : Txt K mg) : Callee P w K mg base "picks_of" 2 1 z26 :=
 Callee.self (fnC (k := 1) T.d_picks_of z7y (fun _ _ _ _ _ _ us hl => match us, hl with | [_], _ => rfl) fun f cdv A outer s H E hr =>
  (have x0 : Nx ["switch", "sign"] := ⟨⟩; (z04 (by walk_at "s") (z08 (by walk_at "s")))))
def z2h : DS :=
 (z0B (z0n true 1 (dIt (z01 0)) (.one 1) [(z1o (z1s (z0c zgd (z00 (z0n false 1 (dIt (z01 0)) (.one 2) [] [] (z8B (dOp (fPy neF) (z01 1) (z01 2)) (dFn 2 z3u (z00 (z01 1) (z00 (z01 2) z03))))) z03))))] [] (z01 1)))
def z1H : List D -> Ow -> R D := (z27 1 z2h)
theorem z6S : z0a ["terms"] ["terms"] (z02 (top 22)) := fnS rfl rfl rfl (by kernel_rfl)
theorem z71 (T : Txt K mg) : Callee P w K mg base "widest_of" 2 1 z1H :=
 Callee.self (fnC (k := 1) T.d_widest_of z6S (fun _ _ _ _ _ _ us hl => match us, hl with | [_], _ => rfl) fun f cdv A outer s H E hr =>
  (have x0 : Nx ["other"] := ⟨⟩; have x1 : Nx ["term"] := ⟨⟩; (z08 (by delta z2h; walk_at "s"))))
def z6u : DS :=
 (z0i (z0W 2 (dFn 2 z0Z (z00 (z01 0) (z00 (z01 1) z03)))) (z0i (sIf (z0z (dOp fGe (z01 2) (dOp (fI zbl) (dC (.int 10)) (dC (.int 18))))) (z0B (z33 (z00 (dOp (fI zbF) (z01 2) (dOp (fI zbl) (dC (.int 10)) (dC (.int 18)))) (z00 (dC (.bl true)) z03)))) z1l) (z0B (z33 (z00 (dOp (fI z5g) (z01 2) (dC (.int 2147483647))) (z00 (dC (.bl false)) z03))))))
def z1x : List D -> Ow -> R D := (z27 3 z6u)
theorem z5G : z0a ["_law_script", "_law_k", "_law_cell"] ["_law_script", "_law_k"] (z02 (top 28)) := fnS rfl rfl rfl (by kernel_rfl)
theorem z67 (T : Txt K mg) : Callee P w K mg base "_law_state" 2 2 z1x :=
 Callee.self (fnC (k := 1) T.d__law_state z5G (fun _ _ _ _ _ _ us hl => match us, hl with | [_, _], _ => rfl) fun f cdv A outer s H E hr =>
  ((z04 (by walk_at "s") (z04 (by walk_at "s") (z08 (by walk_at "s"))))))
def z1i : DS :=
 (z0i (z0W 3 (dOp fIx (z41 (z00 (dC (.int 2)) (z00 (dC (.int 4)) (z00 (dC (.int 6)) z03)))) (dFn 2 z06 (z00 (z01 0) (z00 (dC (.int 3)) z03))))) (z0i (z0W 4 (dOp (fI z69) (dFn 2 z06 (z00 (z01 0) (z00 (dC (.int 3)) z03))) (z0c z6C (z00 (z01 2) z03)))) (z0i (z0W 5 (z33 z03)) (z0i (z4T (z24 (z00 (dOp (fI zg1) (dC (.int 1)) (z01 1)) z03)) (.one 6) (z0i (z0W 7 (z0c z6C (z00 (dOp fLt (dFn 2 z06 (z00 (z01 0) (z00 (dC (.int 8)) z03))) (z01 3)) z03))) (z0i (sIf (z0z (dOp fLt (dFn 2 z06 (z00 (z01 0) (z00 (dC (.int 5)) z03))) (z01 4))) (z0W 7 (dC .non)) z1l) (z1e (z7r (z01 5) (z00 (z01 7) z03)))))) (z0B (z0c z3s (z00 (z01 5) z03)))))))
def z0T : List D -> Ow -> R D := zgn (z27 8 z1i)
theorem z48 : z0a ["_law_state_here", "_law_n", "_law_free", "_law_often", "_law_rest", "_law_found", "_law_point", "_law_answer"] ["_law_state_here", "_law_n", "_law_free"] (z02 (top 30)) := fnS rfl rfl rfl (by kernel_rfl)
theorem z4a (T : Txt K mg) : Callee P w K mg base "_law_function" 2 3 z0T :=
 Callee.frz (fnC (k := 1) T.d__law_function z48 (fun _ _ _ _ _ _ us hl => match us, hl with | [_, _, _], _ => rfl) fun f cdv A outer s H E hr =>
  ((z04 (by walk_at "s") (z04 (by walk_at "s") (z04 (by walk_at "s") (z04 (by walk_at "s") (z08 (by walk_at "s"))))))))
def z2d : DS :=
 (z0B (dOp (fPy eqF) (z0n false 1 (z24 (z00 (z0c z2p (z00 (z01 0) z03)) z03)) (.one 2) [(z1y (z0z (dOp (fPy eqF) (dOp fIx (z01 0) (z01 2)) (dC (.int 0)))) (z1s (dFn 2 z0s (z00 (z01 1) (z00 (z01 2) z03)))))] [] (z01 2)) (z41 z03)))
def z1k : List D -> Ow -> R D := (z27 2 z2d)
theorem z6E : z0a ["_law_function_here", "_law_term"] ["_law_function_here", "_law_term"] (z02 (top 33)) := fnS rfl rfl rfl (by kernel_rfl)
theorem z6p (T : Txt K mg) : Callee P w K mg base "_law_good" 2 2 z1k :=
 Callee.self (fnC (k := 1) T.d__law_good z6E (fun _ _ _ _ _ _ us hl => match us, hl with | [_, _], _ => rfl) fun f cdv A outer s H E hr =>
  (have x0 : Nx ["_law_point"] := ⟨⟩; (z08 (by delta z2d; walk_at "s"))))
def z1z : DS :=
 (z0i (sIf (zeO (z1o (z1s (z2P "tuple" (z01 1)))) (z1o (z1s (z0c zaB (z00 (z0n false 1 (dIt (z01 1)) (.one 2) [] [] (dFn 2 z11 (z00 (z01 0) (z00 (z01 2) z03)))) z03))))) (z0B (dC (.bl false))) z1l) (z0B (dOp (fPy eqF) (z0c (zcu false) (z00 (z01 1) z03)) (z9m false (z00 (z01 1) z03)))))
def z0G : List D -> Ow -> R D := (z27 2 z1z)
theorem z3J : z0a ["_law_n", "_law_thing"] ["_law_n", "_law_thing"] (z02 (top 37)) := fnS rfl rfl rfl (by kernel_rfl)
theorem z3S (T : Txt K mg) : Callee P w K mg base "_law_are_terms" 2 2 z0G :=
 Callee.self (fnC (k := 1) T.d__law_are_terms z3J (fun _ _ _ _ _ _ us hl => match us, hl with | [_, _], _ => rfl) fun f cdv A outer s H E hr =>
  (have x0 : Nx ["_law_term"] := ⟨⟩; (z04 (by walk_at "s") (z08 (by walk_at "s")))))
def z1n : DS :=
 (z0i (z0W 3 (dFn 1 z1b (z00 (z01 1) z03))) (z0i (z0W 4 (z0n false 1 (z24 (z00 (dFn 2 z06 (z00 (z01 0) (z00 (dOp z2W (z01 2) (dC (.int 1))) z03))) z03)) (.one 5) [] [] (dOp fIx (z01 3) (dFn 2 z06 (z00 (z01 0) (z00 (z0c z2p (z00 (z01 3) z03)) z03)))))) (z0B (z0c z3s (z00 (z9m false (z00 (z01 4) z03)) z03)))))
def z0h : List D -> Ow -> R D := (z27 5 z1n)
theorem z3p : z0a ["_law_state_here", "_law_n", "_law_most", "_law_some", "_law_found"] ["_law_state_here", "_law_n", "_law_most"] (z02 (top 41)) := fnS rfl rfl rfl (by kernel_rfl)
theorem z3g (T : Txt K mg) : Callee P w K mg base "_law_some_terms" 2 3 z0h :=
 Callee.self (fnC (k := 1) T.d__law_some_terms z3p (fun _ _ _ _ _ _ us hl => match us, hl with | [_, _, _], _ => rfl) fun f cdv A outer s H E hr =>
  (have x0 : Nx ["_law_turn"] := ⟨⟩; (z04 (by walk_at "s") (z04 (by walk_at "s") (z08 (by walk_at "s"))))))
def z3R : DS :=
 (z0i (z0W 2 (z0n false 1 (dIt (dFn 1 z1b (z00 (z01 0) z03))) (.one 3) [(z0z (dOp (fPy eqF) (z0n false 1 (dIt (z01 1)) (.one 4) [(z1o (z1s (dFn 2 z1R (z00 (z01 3) (z00 (z01 4) z03)))))] [] (z01 4)) (z41 z03)))] [] (z01 3))) (z0B (z0n false 1 (dIt (z01 2)) (.one 3) [(z0z (dOp (fPy eqF) (z0n false 1 (dIt (z01 2)) (.one 4) [(z1y (z0z (dOp (fPy neF) (z01 4) (z01 3))) (z1s (dFn 2 z0J (z00 (z01 3) (z00 (z01 4) z03)))))] [] (z01 4)) (z41 z03)))] [] (z01 3))))
def z20 : List D -> Ow -> R D := (z27 3 z3R)
theorem z7H : z0a ["_law_n", "_law_clauses", "_law_some"] ["_law_n", "_law_clauses"] (z02 (top 44)) := fnS rfl rfl rfl (by kernel_rfl)
theorem z7I (T : Txt K mg) : Callee P w K mg base "_law_out" 2 2 z20 :=
 Callee.self (fnC (k := 1) T.d__law_out z7H (fun _ _ _ _ _ _ us hl => match us, hl with | [_, _], _ => rfl) fun f cdv A outer s H E hr =>
  (have x0 : Nx ["_law_one"] := ⟨⟩; have x1 : Nx ["_law_term"] := ⟨⟩; (z04 (by walk_at "s") (z08 (by walk_at "s")))))
def z1P : DS :=
 (sIf (z1o (z1s (dFn 3 z1m (z00 (z01 0) (z00 (z01 1) (z00 (z01 2) z03)))))) zgY z1l)
def z16 : List D -> Ow -> R D := (z27 3 z1P)
theorem z2S : z0a ["thing", "least", "most"] ["thing", "least", "most"] (z02 (top 8)) := fnS rfl rfl rfl (by kernel_rfl)
theorem z2R (T : Txt K mg) : Callee P w K mg base "need_whole_within" 3 3 z16 :=
 Callee.self (fnC (k := 2) T.d_need_whole_within z2S (fun _ _ _ _ _ _ us hl => match us, hl with | [_, _, _], _ => rfl) fun f cdv A outer s H E hr =>
  ((z08 (by delta z1P; walk_at "s"))))
def z1M : DS :=
 (z0i (z0W 1 (z0n false 0 (dIt (dFn 1 z1b (z00 (dFn 1 z0A (z00 (z01 0) z03)) z03))) (.one 3) [(z1s (dFn 2 z1k (z00 (z01 0) (z00 (z01 3) z03))))] [] (z01 3))) (z0i (z0W 2 (z33 z03)) (z0i (z4T (dIt (z01 1)) (.one 3) (z0i (z0W 4 (z0n false 1 (dIt (z01 1)) (.one 6) [(z1y (z0z (dOp (fPy neF) (z01 6) (z01 3))) (z1s (dFn 2 z0J (z00 (z01 3) (z00 (z01 6) z03)))))] [] (z01 6))) (z0i (z0W 5 (z0n false 1 (dIt (dFn 1 z18 (z00 (z01 0) z03))) (.one 6) [(z1s (dFn 2 z0s (z00 (z01 3) (z00 (z01 6) z03))))] [] (z01 6))) (sIf (z1y (z0z (dOp (fPy eqF) (z01 4) (z41 z03))) (z0z (dOp (fPy neF) (z01 5) (z41 z03)))) (z1e (z7r (z01 2) (z00 (z01 3) z03))) z1l)))) (z0B (z01 2)))))
def z0x : List D -> Ow -> R D := (z27 6 z1M)
theorem z4f : z0a ["_law_function_here", "_law_some", "_law_found", "_law_term", "_law_wider", "_law_held"] ["_law_function_here"] (z02 (top 35)) := fnS rfl rfl rfl (by kernel_rfl)
theorem z49 (T : Txt K mg) : Callee P w K mg base "_law_greatest" 3 1 z0x :=
 Callee.self (fnC (k := 2) T.d__law_greatest z4f (fun _ _ _ _ _ _ us hl => match us, hl with | [_], _ => rfl) fun f cdv A outer s H E hr =>
  (have x0 : Nx [] := ⟨⟩; have x1 : Nx ["_law_other"] := ⟨⟩; have x2 : Nx ["_law_point"] := ⟨⟩; (z04 (by walk_at "s") (z04 (by walk_at "s") (z04 (by walk_at "s") (z08 (by walk_at "s")))))))
def z1V : DS :=
 (z0i (sIf (z1o (z1s (dFn 2 z0G (z00 (dFn 1 z0A (z00 (z01 0) z03)) (z00 (z01 1) z03))))) (z0B (dC (.bl false))) z1l) (z0i (sIf (z0z (dOp (fPy neF) (z0n false 1 (dIt (z01 1)) (.one 3) [(z1o (z1s (dFn 2 z1k (z00 (z01 0) (z00 (z01 3) z03)))))] [] (z01 3)) (z41 z03))) (z0B (dC (.bl false))) z1l) (z0i (z4T (dIt (dFn 1 z18 (z00 (z01 0) z03))) (.one 2) (sIf (z0z (dOp (fPy eqF) (z0n false 1 (dIt (z01 1)) (.one 3) [(z1s (dFn 2 z0s (z00 (z01 3) (z00 (z01 2) z03))))] [] (z01 3)) (z41 z03))) (z0B (dC (.bl false))) z1l)) (z0B (dC (.bl true))))))
def z0t : List D -> Ow -> R D := (z27 3 z1V)
theorem z4N : z0a ["_law_function_here", "_law_thing", "_law_point"] ["_law_function_here", "_law_thing"] (z02 (top 38)) := fnS rfl rfl rfl (by kernel_rfl)
theorem z4L (T : Txt K mg) : Callee P w K mg base "_law_is_form" 3 2 z0t :=
 Callee.self (fnC (k := 2) T.d__law_is_form z4N (fun _ _ _ _ _ _ us hl => match us, hl with | [_, _], _ => rfl) fun f cdv A outer s H E hr =>
  (have x0 : Nx ["_law_term"] := ⟨⟩; (z04 (by walk_at "s") (z04 (by walk_at "s") (z04 (by walk_at "s") (z08 (by walk_at "s")))))))
def z2D : DS :=
 (z1e (dFn 3 z16 (z00 (z01 0) (z00 (dC (.int 1)) (z00 (dC (.int 4)) z03)))))
def z1h : List D -> Ow -> R D := (z27 1 z2D)
theorem z4h : z0a ["n"] ["n"] (z02 (top 9)) := fnS rfl rfl rfl (by kernel_rfl)
theorem z4e (T : Txt K mg) : Callee P w K mg base "need_switches" 4 1 z1h :=
 Callee.self (fnC (k := 3) T.d_need_switches z4h (fun _ _ _ _ _ _ us hl => match us, hl with | [_], _ => rfl) fun f cdv A outer s H E hr =>
  ((z08 (by delta z2D; walk_at "s"))))
def z12 : DS :=
 (z0i (z0W 2 (dFn 1 z0x (z00 (z01 1) z03))) (z0i (z0W 3 (z33 z03)) (z0i (z0W 4 (dC (.bl true))) (z0i (z9R 100 (z1y (z0z (dOp (fPy neF) (z01 2) (z41 z03))) (z1s (z01 4))) (z0i (sIf (z1s (dFn 2 z0t (z00 (z01 1) (z00 (z0c z3s (z00 (z0c z7E (z00 (z01 3) z03)) z03)) z03)))) (z0W 4 (dOp (fPy eqF) (dFn 2 z06 (z00 (z01 0) (z00 (dC (.int 4)) z03))) (dC (.int 0)))) z1l) (sIf (z1s (z01 4)) (z1e (z7r (z01 3) (z00 (z6Z (z01 2) (z00 (dFn 2 z06 (z00 (z01 0) (z00 (z0c z2p (z00 (z01 2) z03)) z03))) z03)) z03))) z1l))) (z0B (z0c z3s (z00 (z0c z7E (z00 (z01 3) z03)) z03)))))))
def z0I : List D -> Ow -> R D := zgn (z27 5 z12)
theorem z3Q : z0a ["_law_state_here", "_law_function_here", "_law_left", "_law_found", "_law_more"] ["_law_state_here", "_law_function_here"] (z02 (top 39)) := fnS rfl rfl rfl (by kernel_rfl)
theorem z3N (T : Txt K mg) : Callee P w K mg base "_law_some_form" 4 2 z0I :=
 Callee.frz (fnC (k := 3) T.d__law_some_form z3Q (fun _ _ _ _ _ _ us hl => match us, hl with | [_, _], _ => rfl) fun f cdv A outer s H E hr =>
  ((z04 (by walk_at "s") (z04 (by walk_at "s") (z04 (by walk_at "s") (z04 (by walk_at "s") (z08 (by walk_at "s"))))))))
def z15 : DS :=
 (z0i (z1e (dFn 1 z1h (z00 (z01 0) z03))) (sIf (z1o (z1s (dFn 2 z0N (z00 (z01 0) (z00 (z01 1) z03))))) zgY z1l))
def z0C : List D -> Ow -> R D := (z27 2 z15)
theorem z2T : z0a ["n", "thing"] ["n", "thing"] (z02 (top 20)) := fnS rfl rfl rfl (by kernel_rfl)
theorem z2U (T : Txt K mg) : Callee P w K mg base "need_rising_terms" 5 2 z0C :=
 Callee.self (fnC (k := 4) T.d_need_rising_terms z2T (fun _ _ _ _ _ _ us hl => match us, hl with | [_, _], _ => rfl) fun f cdv A outer s H E hr =>
  ((z04 (by walk_at "s") (z08 (by walk_at "s")))))
def z2s : DS :=
 (z0i (z1e (dFn 2 z0C (z00 (z01 0) (z00 (z01 1) z03)))) (z0i (z0W 2 (z33 (z00 (dOp z7c (dC (.str [45])) (z01 0)) z03))) (z0i (z4T (dIt (z01 1)) (.one 3) (z0i (z0W 4 (z0n false 2 (dIt (z01 2)) (.one 5) [] (⟨(dIt (dFn 1 z26 (z00 (z01 3) z03))), (.one 6), []⟩ :: []) (dFn 2 z6a (z00 (z01 5) (z00 (z01 6) z03))))) (z0W 2 (dFn 1 z1H (z00 (z7n false 1 (dIt (z01 4)) (.one 5) [(z0z (dOp z9k (z01 5) (dC .non)))] [] (z01 5)) z03))))) (z0B (z01 2)))))
def z0P : List D -> Ow -> R D := (z27 5 z2s)
theorem z5A : z0a ["n", "terms", "wide", "clause", "met"] ["n", "terms"] (z02 (top 23)) := fnS rfl rfl rfl (by kernel_rfl)
theorem z64 (T : Txt K mg) : Callee P w K mg base "multiplied" 6 2 z0P :=
 Callee.self (fnC (k := 5) T.d_multiplied z5A (fun _ _ _ _ _ _ us hl => match us, hl with | [_, _], _ => rfl) fun f cdv A outer s H E hr =>
  (have x0 : Nx ["term", "pick"] := ⟨⟩; have x1 : Nx ["term"] := ⟨⟩; (z04 (by walk_at "s") (z04 (by walk_at "s") (z04 (by walk_at "s") (z08 (by walk_at "s")))))))
def zie : DS :=
 (z0i (z4T (z24 (z00 (z0c z8h (z00 (dC (.int 1)) (z00 (z0c z7Q (z00 (z0c z2p (z00 (z01 0) z03)) (z00 (dC (.int 6)) z03))) z03))) z03)) (.one 1) (z0i (z0W 2 (dFn 2 z1x (z00 (z01 0) (z00 (z01 1) z03)))) (z0i (z0W 3 (dOp z2W (dC (.int 1)) (dFn 2 z06 (z00 (z01 2) (z00 (dC (.int 4)) z03))))) (z0i (z0W 4 (dFn 3 z0T (z00 (z01 2) (z00 (z01 3) (z00 (dC (.bl false)) z03))))) (z0i (z0W 5 (dFn 2 z0I (z00 (z01 2) (z00 (dFn 1 z0Q (z00 (z01 4) z03)) z03)))) (z0i (z4T (dIt (z41 (z00 (dFn 3 z0h (z00 (z01 2) (z00 (z01 3) (z00 (dC (.int 6)) z03)))) (z00 (dFn 3 z0h (z00 (z01 2) (z00 (z01 3) (z00 (dC (.int 2)) z03)))) (z00 (zfA z03) (z00 (zfA (z00 (dOp z7c (dC (.str [45])) (z01 3)) z03)) z03)))))) (.one 6) (z4T (z24 (z00 (dC (.int 2)) z03)) (.one 7) (z0i (z0W 8 (dFn 2 z0P (z00 (z01 3) (z00 (z01 6) z03)))) (z0i (sIf (z1o (z1s (dFn 2 z14 (z00 (z01 8) (z00 (dFn 2 z20 (z00 (z01 3) (z00 (z01 6) z03))) z03))))) (z0B (dC (.bl false))) z1l) (z1e (z7r (z01 8) (z00 (dC (.int 0)) z03))))))) (sIf (z1o (z1s (dFn 2 z14 (z00 (dFn 2 z0P (z00 (z01 3) (z00 (z01 5) z03))) (z00 (dFn 1 z0x (z00 (z01 4) z03)) z03))))) (z0B (dC (.bl false))) z1l))))))) (z0B (dC (.bl true))))
def F_law : List D -> Ow -> R D := (z27 9 zie)
theorem zgC : z0a ["_law_script", "_law_k", "_law_state_here", "_law_n", "_law_function_here", "_law_product", "_law_clauses", "_law_turn", "_law_found"] ["_law_script"] (z02 (top 45)) := fnS rfl rfl rfl (by kernel_rfl)
theorem zh2 {f : Addr} {fd : FuncData} (hF : L2.Fun K "law" "law" (top 45) f fd) (T : Txt K mg) : FnOk P w K mg base CX0 7 f fd ["_law_script"] (DSp K Ec0 1 F_law) :=
 fnD (k := 6) hF zgC fun cdv A outer s H E hr =>
  ((z04 (by walk_at "s") (z08 (by walk_at "s"))))
theorem zhB {f : Addr} {fd : FuncData} (hF : L2.Fun K "law" "law" (top 45) f fd) (T : Txt K mg) : FnOk P w K mg base CX0 7 f fd ["_law_script"] (DSp K Ec0 1 F_law) :=
 zh2 hF T
end
theorem fa_mk {K : PySem.W.Frag} {h : Heap} {mg : Str -> Option Value} (X : K.In h) (G : h.Ns mainGlobals mg) {n : Str} {st : Stmt} {f : Addr} {od an : Option Addr} {sl : Array (Option Value)} {oc kV dc pm ct cd : Value} (a : PySem.W.nsIn K mainGlobals n = some (some (.ref f)))
  (l : K.lookup f = some ⟨oc, od, .func (PySem.W.fnOf n n (z2v st) (z1G st) (z02 st) .none kV dc pm an cd ct), sl⟩) (q : PySem.W.codeIn K cd n = true) (k : PySem.W.keepIn K (.ref f) = true) : z0H K mg n st := ⟨f, _, PySem.W.mg_of X G a, zdb l q k⟩
theorem gs_mk {K : PySem.W.Frag} {h : Heap} {mg : Str -> Option Value} (X : K.In h) (G : h.Ns mainGlobals mg) {n : Str} {cs : List Nat} {t : Tok} (s : PySem.W.nsIn K mainGlobals n = some (some (.str ⟨cs.toArray⟩ t))) : ziG mg n cs := ⟨_, PySem.W.mg_of X G s⟩
theorem gi_mk {K : PySem.W.Frag} {h : Heap} {mg : Str -> Option Value} (X : K.In h) (G : h.Ns mainGlobals mg) {n : Str} {i : Int} {t : Tok} (s : PySem.W.nsIn K mainGlobals n = some (some (.int i t))) : ziH mg n i := ⟨_, PySem.W.mg_of X G s⟩
theorem all_mk {P : Program} {w : World} {K : PySem.W.Frag} {h : Heap} {mg : Str -> Option Value} {fa : Addr} (X : K.In h) (G : h.Ns mainGlobals mg) (hfa : mg "law" = some (.ref fa)) (T : Txt K mg)
  {f : Addr} {od an : Option Addr} {sl : Array (Option Value)} {oc kV dc pm ct : Value} {cd : Value} (a : PySem.W.nsIn K mainGlobals "law" = some (some (.ref f)))
  (l : K.lookup f = some ⟨oc, od, .func (PySem.W.fnOf "law" "law" (z2v (top 45)) (z1G (top 45)) (z02 (top 45)) .none kV dc pm an cd ct), sl⟩) (q : PySem.W.codeIn K cd "law" = true) (k : PySem.W.keepIn K (.ref f) = true)
  : ∃ fd : FuncData, (∀ (s : Shared) (u : Value), BindsTo s fd ⟨[u], []⟩ [("_law_script", u)]) /\ ∀ base : Heap, K.In base -> base.Ns mainGlobals mg -> FnOk P w K mg base CX0 7 fa fd ["_law_script"] (DSp K Ec0 1 F_law) := by
 have hF : L2.Fun K "law" "law" (top 45) f (PySem.W.fnOf "law" "law" (z2v (top 45)) (z1G (top 45)) (z02 (top 45)) .none kV dc pm an cd ct) := zdb l q k
 have e := hfa.symm.trans (PySem.W.mg_of X G a)
 cases e
 exact ⟨_, fun s u => .of_eq rfl, fun base _ _ => zhB hF T⟩
end K53
-- DEPTH 7
namespace K53
open PySem DL
def terms : Nat -> List (List Nat)
 | 0 => [[]]
 | n + 1 => (terms n).flatMap fun t => [t ++ [45], t ++ [48], t ++ [49]]
def zhs : Nat -> List Nat
 | 45 => [0, 1]
 | 49 => [1]
 | _ => [0]
def pts (cs : List Nat) : List Nat := cs.foldl (fun ps c => ps.flatMap fun p => (zhs c).map (2 * p + ·)) [0]
def zbv (l : List Nat) : List D := l.map fun (p : Nat) => D.int (p : Int)
def allT : List (List Nat) := terms 1 ++ terms 2 ++ terms 3 ++ terms 4
def z4W : Nat -> Nat -> List Nat
 | 0, _ => []
 | n + 1, p => z4W n (p / 2) ++ [48 + p % 2]
def allP : List (List Nat × Nat) := allT.flatMap fun cs => (List.range (2 ^ cs.length)).map fun p => (cs, p)
def allN : List (Nat × Nat) := [1, 2, 3, 4].flatMap fun n => (List.range (2 ^ n)).map fun p => (n, p)
theorem zcQ {n p : Nat} (h1 : 1 <= n) (h4 : n <= 4) (hp : p < 2 ^ n) : (n, p) ∈ allN := by
 unfold allN
 rw [List.mem_flatMap]
 refine ⟨n, ?_, List.mem_map.mpr ⟨p, List.mem_range.mpr hp, rfl⟩⟩
 have : n = 1 \/ n = 2 \/ n = 3 \/ n = 4 := by omega
 rcases this with rfl | rfl | rfl | rfl <;> simp
def z6f (cs bs : List Nat) : Bool := (List.range cs.length).all fun i => cs.getD i 0 == 45 || cs.getD i 0 == bs.getD i 1
def sgn (c : Nat) : Bool := c == 45 || c == 48 || c == 49
def bit (c : Nat) : Bool := c == 48 || c == 49
theorem z78 : (allP.all fun q => z6f q.1 (z4W q.1.length q.2) == (pts q.1).contains q.2 && (z4W q.1.length q.2).length == q.1.length && (z4W q.1.length q.2).all bit && q.1.all sgn) = true := by decide +kernel
theorem zbx : (allT.all fun cs => decide ((List.range (2 ^ cs.length)).filter (fun p => (pts cs).contains p) = pts cs)) = true := by decide +kernel
theorem z5M {cs : List Nat} {p : Nat} (h : cs ∈ allT) (hp : p < 2 ^ cs.length) : (cs, p) ∈ allP := by
 unfold allP
 rw [List.mem_flatMap]
 exact ⟨cs, h, List.mem_map.mpr ⟨p, List.mem_range.mpr hp, rfl⟩⟩
def Ans (d : D) : Prop := d = .int 0 \/ d = .int 1 \/ d = .non
def isZ : D -> Bool
 | .int i => i == 0
 | _ => false
structure Fn (n : Nat) (f : List D) : Prop where
 n1 : 1 <= n
 n4 : n <= 4
 len : f.length = 2 ^ n
 ans : ∀ d ∈ f, Ans d
def z4b (f : List D) (cs : List Nat) : Bool := (pts cs).all fun p => !isZ (f.getD p .non)
theorem eq0 (O : Ow) {d : D} (h : Ans d) : fPy eqF O d (.int 0) = .ok (.bl (isZ d)) O := by rcases h with rfl | rfl | rfl <;> kernel_rfl
theorem zd4 {n : Nat} (h1 : 1 <= n) (h4 : n <= 4) : n = 1 \/ n = 2 \/ n = 3 \/ n = 4 := by omega
theorem z0O {n : Nat} (h1 : 1 <= n) (h4 : n <= 4) {cs : List Nat} (h : cs ∈ terms n) : cs ∈ allT := by
 unfold allT
 rcases zd4 h1 h4 with rfl | rfl | rfl | rfl <;> simp [h]
theorem z5y : ([1, 2, 3, 4].all fun n => (terms n).all fun cs => cs.length == n) = true := by decide +kernel
theorem z05 {n : Nat} (h1 : 1 <= n) (h4 : n <= 4) {cs : List Nat} (h : cs ∈ terms n) : cs.length = n := by
 have := List.all_eq_true.mp z5y n (by rcases zd4 h1 h4 with rfl | rfl | rfl | rfl <;> simp)
 simpa using List.all_eq_true.mp this cs h
theorem z99 : (allT.all fun cs => (pts cs).all fun p => decide (p < 2 ^ cs.length)) = true := by decide +kernel
theorem zdh {cs : List Nat} (h : cs ∈ allT) {p : Nat} (hp : p ∈ pts cs) : p < 2 ^ cs.length := by
 have := List.all_eq_true.mp z99 cs h
 simpa using List.all_eq_true.mp this p hp
theorem za1 : ∀ l : List Bool, bls (l.map D.bl) = some l
 | [] => rfl
 | b :: l => by
  show (bls (l.map D.bl)).map (b :: ·) = _
  rw [za1 l]; rfl
theorem zcJ (O : Ow) (l : List Bool) : zaB O [.lst (l.map D.bl)] = .ok (.bl (l.all id)) O := by
 show (match bls (l.map D.bl) with | some bs => R.ok (D.bl (bs.all id)) O | none => R.bad) = _
 rw [za1]
theorem z31 {f : List D} {p : Nat} (h : p < f.length) : f.getD p .non = f[p] := by
 rw [List.getD_eq_getElem?_getD, List.getElem?_eq_getElem h]; rfl
theorem z7M {α : Type} (l : List α) : l.filter (fun _ => true) = l := by simp
theorem z2A {n : Nat} (h4 : n <= 4) : 2 ^ n <= 16 := Nat.le_trans (Nat.pow_le_pow_right (by decide) h4) (by decide)
theorem zbP (O : Ow) (f : List D) : z2p O [.tup f] = .ok (.int f.length) O := rfl
theorem z2B {n : Nat} {f : List D} (hf : Fn n f) (O : Ow) : z0A [.tup f] O = .ok (.int n) O := by
 show fin (z0B (zge [(2, 1), (4, 2), (8, 3), (16, 4)] (z0c z2p (z00 (z01 0) z03))) [some (.tup f)] O) = _
 have : zge [(2, 1), (4, 2), (8, 3), (16, 4)] (z0c z2p (z00 (z01 0) z03)) [some (.tup f)] O = .ok (.int n) O := by
  show (match zgh [(2, 1), (4, 2), (8, 3), (16, 4)] (f.length : Nat) with | some v => R.ok (D.int v) O | none => R.bad) = _
  rw [hf.len]
  rcases zd4 hf.n1 hf.n4 with rfl | rfl | rfl | rfl <;> rfl
 rw [z0u this]; rfl
theorem z2y {n : Nat} (h1 : 1 <= n) (h4 : n <= 4) : (terms n).length <= 81 := by
 rcases zd4 h1 h4 with rfl | rfl | rfl | rfl <;> decide
def z1v (n : Nat) (f : List D) : List (List Nat) := (terms n).filter (z4b f)
structure StAt (O : Ow) (m : Nat) (s : Int) (b : Bool) : Prop where
 at_ : O[m]? = some [.int s, .bl b]
 nn : 0 <= s
 lt : b = false -> s < 2147483647
theorem StAt.len {O : Ow} {m : Nat} {s : Int} {b : Bool} (h : StAt O m s b) : m < O.length := (List.getElem?_eq_some_iff.mp h.at_).1
theorem z4n {O : Ow} {m : Nat} {x y : D} (h : O[m]? = some [x, y]) : fIx O (.own m) (.int 0) = .ok x O := by
 show (match O[m]? with | some ds => (match L2.atI ds 0 with | some d => R.ok d O | none => R.bad) | none => _) = _
 rw [h]; rfl
theorem z8q {O : Ow} {m : Nat} {x y : D} (h : O[m]? = some [x, y]) : fIx O (.own m) (.int 1) = .ok y O := by
 show (match O[m]? with | some ds => (match L2.atI ds 1 with | some d => R.ok d O | none => R.bad) | none => _) = _
 rw [h]; rfl
theorem za2 {te to ti : DE} {σ : Sg} {O O1 O2 O3 : Ow} {y : D} {k : Nat} {i : Int} {ds : List D} {j : Nat} (h1 : te σ O = .ok y O1) (h2 : to σ O1 = .ok (.own k) O2) (h3 : ti σ O2 = .ok (.int i) O3) (h4 : O3[k]? = some ds) (h5 : L2.ixN ds.length i = some j) :
  zcg te to ti σ O = .nx σ (O3.set k (ds.set j y)) := by
 show ((te σ O).bnS _) = _
 rw [h1]
 show ((to σ O1).bnS _) = _
 rw [h2]
 show ((ti σ O2).bnS _) = _
 rw [h3]
 show (match O3[k]? with | some ds => (match L2.ixN ds.length i with | some j => RS.nx σ (O3.set k (ds.set j y)) | none => RS.bad) | none => RS.bad) = _
 rw [h4]
 show (match L2.ixN ds.length i with | some j => RS.nx σ (O3.set k (ds.set j y)) | none => RS.bad) = _
 rw [h5]
theorem z5p {O : Ow} {i j : Int} (h : 0 < j) : fI z5g O (.int i) (.int j) = .ok (.int (i % j)) O := by
 show (match z5g i j with | some d => R.ok d O | none => R.bad) = _
 unfold z5g; rw [if_pos h]
theorem zdx {O : Ow} {i j : Int} (h : 0 < j) (h2 : j < 1073741824) : fI z9s O (.int i) (.int j) = .ok (.int (i / j)) O := by
 show (match z9s i j with | some d => R.ok d O | none => R.bad) = _
 unfold z9s; rw [if_pos ⟨h, h2⟩]
theorem z3O {O : Ow} {i j : Int} (h : -1000000000000000 < i) (h2 : i < 1000000000000000) : fI z69 O (.int i) (.int j) = .ok (.int (i * j)) O := by
 show (match z69 i j with | some d => R.ok d O | none => R.bad) = _
 unfold z69; rw [if_pos (.inl ⟨h, h2⟩)]
theorem z2J {O : Ow} {i j : Int} : z2W O (.int i) (.int j) = .ok (.int (i + j)) O := rfl
theorem z3P {O : Ow} {m : Nat} {s : Int} {b : Bool} (h : StAt O m s b) {k : Nat} (k1 : 1 <= k) (k2 : k <= 1000) :
  ∃ (r : Nat) (s' : Int), r < k /\ z06 [.own m, .int k] O = .ok (.int r) (O.set m [.int s', .bl b]) /\ StAt (O.set m [.int s', .bl b]) m s' b := by
 have kk : (0 : Int) < (k : Int) := by omega
 have hset : ∀ s', (O.set m [.int s', .bl b])[m]? = some [D.int s', D.bl b] := fun s' => by rw [List.getElem?_set_self h.len]
 have hres : ∀ x : Int, ∃ r : Nat, r < k /\ x % (k : Int) = (r : Int) := fun x => by
  have a1 := Int.emod_nonneg x (show (k : Int) ≠ 0 by omega)
  have a2 := Int.emod_lt_of_pos x kk
  exact ⟨(x % (k : Int)).toNat, by omega, by omega⟩
 cases b with
 | true =>
  obtain ⟨r, r1, r2⟩ := hres s
  refine ⟨r, s / k, r1, ?_, hset _, Int.ediv_nonneg h.nn (by omega), fun z => by cases z⟩
  have hc : z1s (dOp fIx (z01 0) (dC (.int 1))) [some (.own m), some (.int k), none, none] O = .ok true O := z0E ((z0f rfl rfl).trans (z8q h.at_))
  have e1 : z0W 2 (dOp (fI z5g) (dOp fIx (z01 0) (dC (.int 0))) (z01 1)) [some (.own m), some (.int k), none, none] O = .nx [some (.own m), some (.int k), some (.int r), none] O := by
   rw [z34 ((z0f ((z0f rfl rfl).trans (z4n h.at_)) rfl).trans (z5p kk)), r2]; rfl
  have e2 : zcg (dOp (fI z9s) (dOp fIx (z01 0) (dC (.int 0))) (z01 1)) (z01 0) (dC (.int 0)) [some (.own m), some (.int k), some (.int r), none] O = .nx [some (.own m), some (.int k), some (.int r), none] (O.set m [.int (s / k), .bl true]) :=
   za2 (ds := [.int s, .bl true]) (j := 0) ((z0f ((z0f rfl rfl).trans (z4n h.at_)) rfl).trans (zdx kk (by omega))) rfl rfl h.at_ rfl
  show fin (z0i (sIf _ _ _) _ [some (.own m), some (.int k), none, none] O) = _
  have e3 : sIf (z1s (dOp fIx (z01 0) (dC (.int 1)))) (z0i (z0W 2 (dOp (fI z5g) (dOp fIx (z01 0) (dC (.int 0))) (z01 1))) (z0i (zcg (dOp (fI z9s) (dOp fIx (z01 0) (dC (.int 0))) (z01 1)) (z01 0) (dC (.int 0))) (z0B (z01 2)))) z1l [some (.own m), some (.int k), none, none] O = .rt (.int r) (O.set m [.int (s / k), .bl true]) := by
   rw [z1f hc, if_pos rfl, z0j e1, z0j e2]; rfl
  rw [z3V e3]; rfl
 | false =>
  have hs := h.lt rfl
  let s1 : Int := (s * 48271 + 29) % 2147483647
  have s1n : 0 <= s1 := Int.emod_nonneg _ (by decide)
  have s1l : s1 < 2147483647 := Int.emod_lt_of_pos _ (by decide)
  let O1 := O.set m [.int s1, .bl false]
  have hO1 : O1[m]? = some [D.int s1, D.bl false] := hset s1
  let t1 : Int := (s1 * s1 + 39373 * s1 + 7) % 2147483629
  have t1n : 0 <= t1 := Int.emod_nonneg _ (by decide)
  have t1l : t1 < 2147483629 := Int.emod_lt_of_pos _ (by decide)
  let t2 : Int := (t1 * t1 + 16807 * t1) % 2147483587
  have hc : z1s (dOp fIx (z01 0) (dC (.int 1))) [some (.own m), some (.int k), none, none] O = .ok false O := z0E ((z0f rfl rfl).trans (z8q h.at_))
  have e0 : sIf (z1s (dOp fIx (z01 0) (dC (.int 1)))) (z0i (z0W 2 (dOp (fI z5g) (dOp fIx (z01 0) (dC (.int 0))) (z01 1))) (z0i (zcg (dOp (fI z9s) (dOp fIx (z01 0) (dC (.int 0))) (z01 1)) (z01 0) (dC (.int 0))) (z0B (z01 2)))) z1l [some (.own m), some (.int k), none, none] O = .nx [some (.own m), some (.int k), none, none] O := by
   rw [z1f hc]; rfl
  have e1 : zcg (dOp (fI z5g) (dOp z2W (dOp (fI z69) (dOp fIx (z01 0) (dC (.int 0))) (dC (.int 48271))) (dC (.int 29))) (dC (.int 2147483647))) (z01 0) (dC (.int 0)) [some (.own m), some (.int k), none, none] O = .nx [some (.own m), some (.int k), none, none] O1 :=
   za2 (ds := [.int s, .bl false]) (j := 0) ((z0f ((z0f ((z0f ((z0f rfl rfl).trans (z4n h.at_)) rfl).trans (z3O (by have := h.nn; omega) (by omega))) rfl).trans z2J) rfl).trans (z5p (by decide))) rfl rfl h.at_ rfl
  have ix0 : ∀ z w, dOp fIx (z01 0) (dC (.int 0)) [some (.own m), some (.int k), z, w] O1 = .ok (.int s1) O1 := fun z w => (z0f rfl rfl).trans (z4n hO1)
  have e2 : z0W 3 (dOp (fI z5g) (dOp z2W (dOp z2W (dOp (fI z69) (dOp fIx (z01 0) (dC (.int 0))) (dOp fIx (z01 0) (dC (.int 0)))) (dOp (fI z69) (dC (.int 39373)) (dOp fIx (z01 0) (dC (.int 0))))) (dC (.int 7))) (dC (.int 2147483629))) [some (.own m), some (.int k), none, none] O1 = .nx [some (.own m), some (.int k), none, some (.int t1)] O1 :=
   z34 ((z0f ((z0f ((z0f ((z0f (ix0 none none) (ix0 none none)).trans (z3O (by omega) (by omega))) ((z0f rfl (ix0 none none)).trans (z3O (by decide) (by decide)))).trans z2J) rfl).trans z2J) rfl).trans (z5p (by decide)))
  have e3 : z0W 3 (dOp (fI z5g) (dOp z2W (dOp (fI z69) (z01 3) (z01 3)) (dOp (fI z69) (dC (.int 16807)) (z01 3))) (dC (.int 2147483587))) [some (.own m), some (.int k), none, some (.int t1)] O1 = .nx [some (.own m), some (.int k), none, some (.int t2)] O1 :=
   z34 ((z0f ((z0f ((z0f rfl rfl).trans (z3O (by omega) (by omega))) ((z0f rfl rfl).trans (z3O (by decide) (by decide)))).trans z2J) rfl).trans (z5p (by decide)))
  obtain ⟨r, r1, r2⟩ := hres (t2 / 8)
  refine ⟨r, s1, r1, ?_, hset _, s1n, fun _ => s1l⟩
  have e4 : z0B (dOp (fI z5g) (dOp (fI z9s) (z01 3) (dC (.int 8))) (z01 1)) [some (.own m), some (.int k), none, some (.int t2)] O1 = .rt (.int r) O1 := by
   rw [z0u ((z0f ((z0f rfl rfl).trans (zdx (by decide) (by decide))) rfl).trans (z5p kk)), r2]
  show fin (z0i _ _ [some (.own m), some (.int k), none, none] O) = _
  rw [z0j e0, z0j e1, z0j e2, z0j e3, e4]; rfl
theorem zd8 {ns : List Int} {k : Nat} (O : Ow) : ∃ s b, z1x [.lst (ns.map .int), .int k] O = .ok (.own O.length) (O ++ [[.int s, .bl b]]) /\ StAt (O ++ [[.int s, .bl b]]) O.length s b := by
 have hat : ∀ s b, (O ++ [[D.int s, D.bl b]])[O.length]? = some [D.int s, D.bl b] := fun s b => by simp
 obtain ⟨c, hc⟩ : ∃ c : Int, z0Z [.lst (ns.map .int), .int k] O = .ok (.int c) O := by
  have ht : z0z (dOp fLt (z01 1) (z0c z2p (z00 (z01 0) z03))) [some (.lst (ns.map .int)), some (.int k)] O = .ok (decide ((k : Int) < (ns.map D.int).length)) O := z0k ((z0f rfl ((z13 (z0b rfl)).trans rfl)).trans rfl)
  by_cases hk : (k : Int) < (ns.map D.int).length
  ·have hk' : k < (ns.map D.int).length := by omega
   have hx : dOp fIx (z01 0) (z01 1) [some (.lst (ns.map .int)), some (.int k)] O = .ok (ns.map D.int)[k] O := (z0f rfl rfl).trans (zas hk')
   refine ⟨ns[k]'(by simpa using hk'), ?_⟩
   show fin (z0i _ _ [some (.lst (ns.map .int)), some (.int k)] O) = _
   have e1 : sIf (z0z (dOp fLt (z01 1) (z0c z2p (z00 (z01 0) z03)))) (z0B (dOp fIx (z01 0) (z01 1))) z1l [some (.lst (ns.map .int)), some (.int k)] O = .rt (.int (ns[k]'(by simpa using hk'))) O := by
    rw [z1f ht, if_pos (decide_eq_true hk), z0u hx]; simp
   rw [z3V e1]; rfl
  ·refine ⟨0, ?_⟩
   show fin (z0i _ _ [some (.lst (ns.map .int)), some (.int k)] O) = _
   have e1 : sIf (z0z (dOp fLt (z01 1) (z0c z2p (z00 (z01 0) z03)))) (z0B (dOp fIx (z01 0) (z01 1))) z1l [some (.lst (ns.map .int)), some (.int k)] O = .nx [some (.lst (ns.map .int)), some (.int k)] O := by
    rw [z1f ht, if_neg (by simpa using hk)]; rfl
   rw [z0j e1]; rfl
 have e0 : z0W 2 (dFn 2 z0Z (z00 (z01 0) (z00 (z01 1) z03))) [some (.lst (ns.map .int)), some (.int k), none] O = .nx [some (.lst (ns.map .int)), some (.int k), some (.int c)] O := z34 ((z7m (z0e rfl rfl) rfl).trans hc)
 have hp : ∀ σ, dOp (fI zbl) (dC (.int 10)) (dC (.int 18)) σ O = .ok (.int 1000000000000000000) O := fun σ => by
  refine (z0f (σ := σ) (O := O) rfl rfl).trans ?_
  kernel_rfl
 have ht : z0z (dOp fGe (z01 2) (dOp (fI zbl) (dC (.int 10)) (dC (.int 18)))) [some (.lst (ns.map .int)), some (.int k), some (.int c)] O = .ok (decide ((1000000000000000000 : Int) <= c)) O := z0k ((z0f rfl (hp _)).trans rfl)
 by_cases hcc : (1000000000000000000 : Int) <= c
 ·refine ⟨c - 1000000000000000000, true, ?_, hat _ _, by omega, fun z => by cases z⟩
  have e1 : sIf (z0z (dOp fGe (z01 2) (dOp (fI zbl) (dC (.int 10)) (dC (.int 18))))) (z0B (z33 (z00 (dOp (fI zbF) (z01 2) (dOp (fI zbl) (dC (.int 10)) (dC (.int 18)))) (z00 (dC (.bl true)) z03)))) z1l [some (.lst (ns.map .int)), some (.int k), some (.int c)] O = .rt (.own O.length) (O ++ [[.int (c - 1000000000000000000), .bl true]]) := by
   rw [z1f ht, if_pos (decide_eq_true hcc)]
   refine z0u ?_
   show ((z00 _ _ _ O).bnd _) = _
   rw [z0e ((z0f rfl (hp _)).trans rfl) rfl]
   rfl
  show fin (z0i _ _ [some (.lst (ns.map .int)), some (.int k), none] O) = _
  rw [z0j e0, z3V e1]; rfl
 ·refine ⟨c % 2147483647, false, ?_, hat _ _, Int.emod_nonneg _ (by decide), fun _ => Int.emod_lt_of_pos _ (by decide)⟩
  have e1 : sIf (z0z (dOp fGe (z01 2) (dOp (fI zbl) (dC (.int 10)) (dC (.int 18))))) (z0B (z33 (z00 (dOp (fI zbF) (z01 2) (dOp (fI zbl) (dC (.int 10)) (dC (.int 18)))) (z00 (dC (.bl true)) z03)))) z1l [some (.lst (ns.map .int)), some (.int k), some (.int c)] O = .nx [some (.lst (ns.map .int)), some (.int k), some (.int c)] O := by
   rw [z1f ht, if_neg (by simpa using hcc)]; rfl
  show fin (z0i _ _ [some (.lst (ns.map .int)), some (.int k), none] O) = _
  rw [z0j e0, z0j e1]
  have e2 : z33 (z00 (dOp (fI z5g) (z01 2) (dC (.int 2147483647))) (z00 (dC (.bl false)) z03)) [some (.lst (ns.map .int)), some (.int k), some (.int c)] O = .ok (.own O.length) (O ++ [[.int (c % 2147483647), .bl false]]) := by
   show ((z00 _ _ _ O).bnd _) = _
   rw [z0e ((z0f rfl rfl).trans (z5p (by decide))) rfl]
   rfl
  rw [z0u e2]; rfl
theorem z5r {O : Ow} {m : Nat} {x : List D} (h : O[m]? = some x) : O.set m x = O := by
 obtain ⟨h1, rfl⟩ := List.getElem?_eq_some_iff.mp h
 exact List.set_getElem_self h1
theorem z2g {O : Ow} (h : z2o O) (m : Nat) (s : Int) (b : Bool) : z2o (O.set m [.int s, .bl b]) := by
 intro c hc d hd
 rw [List.length_set]
 rcases List.mem_or_eq_of_mem_set hc with h1 | rfl
 ·exact h c h1 d hd
 ·simp only [List.mem_cons, List.not_mem_nil, or_false] at hd
  rcases hd with rfl | rfl <;> rfl
theorem z4k {O' : Ow} (hO : z2o O') (X : Ow) {d d' : D} (h : frz (O' ++ X) O'.length 8 d = some d') : za4 O'.length (.ok d (O' ++ X)) = .ok d' O' := by
 unfold za4
 dsimp only
 rw [h]
 have : (O' ++ X).take O'.length = O' := by simp
 rw [this, z2F fun c hc => z2F fun d hd => z3k (hO c hc d hd)]
theorem z3o : ∀ (n : Nat) (cs : List Nat), cs.length = n -> (∀ c ∈ cs, sgn c = true) -> cs ∈ terms n
 | 0, cs, h, _ => by
  have : cs = [] := List.length_eq_zero_iff.mp h
  subst this; simp [terms]
 | n + 1, cs, h, hs => by
  have hne : cs ≠ [] := by intro e; subst e; simp at h
  obtain ⟨t, c, rfl⟩ : ∃ t c, cs = t ++ [c] := ⟨_, _, (List.dropLast_concat_getLast hne).symm⟩
  have ht := z3o n t (by simpa using h) fun c hc => hs c (List.mem_append_left _ hc)
  unfold terms
  rw [List.mem_flatMap]
  refine ⟨t, ht, ?_⟩
  have hl := hs c (by simp)
  unfold sgn at hl
  simp only [Bool.or_eq_true, beq_iff_eq] at hl
  rcases hl with (z | z) | z <;> rw [z] <;> simp
theorem zeM {σ : Sg} {O O' : Ow} {tA : DA} : ∀ (cs : List Nat), 1 <= cs.length -> cs.length <= 4 -> tA σ O = .ok [.lst (cs.map fun c => .str [c])] O' -> z86 (dC (.str [])) tA σ O = .ok (.str cs) O'
 | [], h, _, _ => by simp at h
 | [a], _, _, h => by show ((tA σ O).bnd _) = _; rw [h]; rfl
 | [a, b], _, _, h => by show ((tA σ O).bnd _) = _; rw [h]; rfl
 | [a, b, c], _, _, h => by show ((tA σ O).bnd _) = _; rw [h]; rfl
 | [a, b, c, d], _, _, h => by show ((tA σ O).bnd _) = _; rw [h]; rfl
 | _ :: _ :: _ :: _ :: _ :: _, _, h, _ => by simp at h
theorem zgH {σ : Sg} {O : Ow} {t : DE} {n : Nat} (n4 : n <= 4) (h : t σ O = .ok (.int n) O) : dOp (fI zg1) (dC (.int 1)) t σ O = .ok (.int ((2 ^ n : Nat) : Int)) O := by
 refine (z0f rfl h).trans ?_
 have : n = 0 \/ n = 1 \/ n = 2 \/ n = 3 \/ n = 4 := by omega
 rcases this with rfl | rfl | rfl | rfl | rfl <;> rfl
theorem z9T {O : Ow} {n f : Nat} {ds : List D} (h : ∀ d ∈ ds, z5V n d = true) : frz O n (f + 1) (.tup ds) = some (.tup ds) := by
 show (z1j (frz O n f) ds).map D.tup = _
 rw [z2F fun d hd => z3k (h d hd)]; rfl
theorem zd1 {d : D} (h : Ans d) (n : Nat) : z5V n d = true := by rcases h with rfl | rfl | rfl <;> rfl
theorem z6t {src : Src} {step : D -> Ow -> List D -> R (List D)} {O : Ow} {g : D -> List D} {all : List D} (hg : ∀ i, src.get O i = all[i]?) : ∀ (ds pre acc : List D) (f : Nat), all = pre ++ ds -> ds.length <= f -> (∀ d ∈ ds, ∀ acc : List D, acc.length < 100000 -> step d O acc = .ok (acc ++ g d) O) -> acc.length + (ds.flatMap g).length + ds.length < 100000 ->
  z0m src step f pre.length O acc = .ok (acc ++ ds.flatMap g) O
 | [], pre, acc, f, ha, _, _, _ => by
  have e : src.get O pre.length = none := by rw [hg, ha]; simp
  cases f <;> (unfold z0m; rw [e]; simp)
 | d :: ds, pre, acc, 0, _, h, _, _ => by simp at h
 | d :: ds, pre, acc, f + 1, ha, h, hs, hl => by
  unfold z0m
  have e : src.get O pre.length = some d := by rw [hg, ha]; simp
  rw [e]
  simp only [List.flatMap_cons, List.length_append, List.length_cons] at hl
  show ((step d O acc).bnd fun acc' O' => z0m src step f (pre.length + 1) O' acc') = _
  rw [hs d List.mem_cons_self acc (by omega)]
  show z0m src step f (pre.length + 1) O (acc ++ g d) = _
  have := z6t hg ds (pre ++ [d]) (acc ++ g d) f (by rw [ha]; simp) (by simpa using h) (fun d' h' => hs d' (List.mem_cons_of_mem _ h')) (by rw [List.length_append]; omega)
  rw [List.length_append, List.length_singleton] at this
  rw [this]; simp
theorem zbq {ext : Nat} {it0 : DI} {g : Tg} {ts : List DT} {te : DE} {σ : Sg} {O : Ow} {src : Src} {ds : List D} {p : D -> Bool} {e : D -> D} {τ : D -> Sg} (hi : it0 σ O = .ok src O) (hg : ∀ i, src.get O i = ds[i]?) (hsz : src.size O = ds.length) (hl : ds.length < 50000)
  (hput : ∀ d ∈ ds, g.put d (clr (clr (σ ++ List.replicate ext none) (g.slots ++ [])) (g.slots ++ [])) = some (τ d)) (hp : ∀ d ∈ ds, z55 ts (τ d) O = .ok (p d) O) (he : ∀ d ∈ ds, p d = true -> te (τ d) O = .ok (e d) O) (o : Bool) :
  z0n o ext it0 g ts [] te σ O = z7q o (.ok ((ds.filter p).map e) O) := by
 unfold z0n z2f
 rw [hi]
 show z7q o (noX (z0m src _ (src.size O) 0 O [])) = _
 have step : ∀ d ∈ ds, ∀ acc : List D, acc.length < 100000 -> z4J ⟨it0, g, ts⟩ [] te (clr (σ ++ List.replicate ext none) (z07 [⟨it0, g, ts⟩])) d O acc = .ok (acc ++ (if p d = true then [e d] else [])) O := by
  intro d hd acc ha
  show (match g.put d (clr (clr (σ ++ List.replicate ext none) (g.slots ++ [])) (g.slots ++ [])) with | some σ1 => (z55 ts σ1 O).bnd fun b O3 => if b = true then z1Y [] te σ1 O3 acc else .ok acc O3 | none => .bad) = _
  rw [hput d hd]
  show (z55 ts (τ d) O).bnd _ = _
  rw [hp d hd]
  show (if p d = true then z1Y [] te _ O acc else .ok acc O) = _
  by_cases hpd : p d = true
  ·rw [if_pos hpd, if_pos hpd]
   unfold z1Y
   rw [he d hd hpd]
   show (if acc.length < 100000 then _ else _) = _
   rw [if_pos ha]
  ·rw [if_neg hpd, if_neg hpd]; simp
 have hb : ∀ l : List D, (l.flatMap fun d => if p d = true then [e d] else []) = (l.filter p).map e := by
  intro l
  induction l with
  | nil => rfl
  | cons x l ih =>
   rw [List.flatMap_cons, ih, List.filter_cons]
   by_cases hx : p x = true
   ·rw [if_pos hx, if_pos hx]; rfl
   ·rw [if_neg hx, if_neg hx]; rfl
 have hlen : ((ds.filter p).map e).length <= ds.length := by rw [List.length_map]; exact List.length_filter_le _ _
 have w := z6t (O := O) (g := fun d => if p d = true then [e d] else []) hg ds [] [] ds.length rfl (Nat.le_refl _) step (by rw [hb]; simp at hlen ⊢; omega)
 rw [hb, List.nil_append] at w
 have w' : z0m src (z4J ⟨it0, g, ts⟩ [] te (clr (σ ++ List.replicate ext none) (z07 [⟨it0, g, ts⟩]))) (src.size O) 0 O [] = .ok ((ds.filter p).map e) O := by rw [hsz]; exact w
 rw [w']; rfl
theorem z2E {O : Ow} {x : D} {xs : List D} (h : lsV O x = some xs) : ∃ src, z5L x = some src /\ (∀ i, src.get O i = xs[i]?) /\ src.size O = xs.length := by
 cases x with
 | lst ds => cases h; exact ⟨.val xs, rfl, fun _ => rfl, rfl⟩
 | own k =>
  have h : O[k]? = some xs := h
  refine ⟨.own k, rfl, fun i => ?_, ?_⟩
  ·show (match O[k]? with | some ds => ds[i]? | none => none) = _
   rw [h]
  ·show (match O[k]? with | some ds => ds.length | none => 0) = _
   rw [h]
 | _ => cases h
theorem z9X {O : Ow} {x : D} {xs : List D} (h : lsV O x = some xs) : z2n x = "list" := by cases x <;> first | rfl | cases h
theorem z5O {O : Ow} {x : D} {xs : List D} (h : lsV O x = some xs) : z2p O [x] = .ok (.int xs.length) O := by
 show (match lsV O x with | some ds => R.ok (D.int ds.length) O | none => _) = _
 rw [h]
theorem z7l (O : Ow) : (allT.map fun cs => z0S 2 [.str cs, .str cs] O) = allT.map fun _ => R.ok (.bl true) O := by kernel_rfl
theorem ze7 {α : Type} {it : DI} {g : Tg} {body : DS} {σ : Sg} {O0 O : Ow} {src : Src} {l : List α} {inj : α -> D} (hi : it σ O0 = .ok src O) (hsz : src.size O = l.length) (I : Nat -> Sg -> Ow -> Prop)
  (h : ∀ (k : Nat) a σ O, l[k]? = some a -> I k σ O -> src.get O k = some (inj a) /\ ∃ σ1 σ' O', g.put (inj a) σ = some σ1 /\ body σ1 O = .nx σ' O' /\ I (k + 1) σ' O') (hend : ∀ σ O, I l.length σ O -> src.get O l.length = none) (h0 : I 0 σ O) :
  ∃ σ' O', z4T it g body σ O0 = .nx σ' O' /\ I l.length σ' O' := by
 have main : ∀ (f i : Nat) (σ : Sg) (O : Ow), I i σ O -> l.length <= i + f -> i <= l.length -> ∃ σ' O', z0L src (fun d σ O => match g.put d σ with | some σ' => body σ' O | none => .bad) f i σ O = .nx σ' O' /\ I l.length σ' O' := by
  intro f
  induction f with
  | zero =>
   intro i σ O hI h1 h2
   have : i = l.length := by omega
   subst this
   unfold z0L
   rw [hend σ O hI]
   exact ⟨σ, O, rfl, hI⟩
  | succ f ih =>
   intro i σ O hI h1 h2
   by_cases hil : i = l.length
   ·subst hil
    unfold z0L
    rw [hend σ O hI]
    exact ⟨σ, O, rfl, hI⟩
   ·have hlt : i < l.length := by omega
    obtain ⟨e1, σ1, σ', O', e2, e3, e4⟩ := h i l[i] σ O (List.getElem?_eq_getElem hlt) hI
    unfold z0L
    rw [e1]
    dsimp only
    rw [e2]
    dsimp only
    rw [e3]
    exact ih (i + 1) σ' O' e4 (by omega) (by omega)
 obtain ⟨σ', O', l1, l2⟩ := main (src.size O) 0 σ O h0 (by omega) (Nat.zero_le _)
 exact ⟨σ', O', (z65 hi).trans l1, l2⟩
theorem zcF {σ : Sg} {O O1 : Ow} {i k : Nat} {t : DE} {y : D} {ds es : List D} (hi : σ[i]? = some (some (.own k))) (ht : t σ O = .ok y O1) (hy : lsV O1 y = some es) (hk : O1[k]? = some ds) (hl : ds.length + es.length <= 100000) :
  z1e (zev (z01 i) (z00 t z03)) σ O = .nx σ (O1.set k (ds ++ es)) := by
 refine z4m (x := .non) ?_
 unfold zev z01
 rw [hi]
 show ((z00 t z03 σ O).bnd _) = _
 rw [z0b ht]
 show (match [y], O1[k]? with | [y], some ds => (match lsV O1 y with | some es => if ds.length + es.length <= 100000 then R.ok D.non (O1.set k (ds ++ es)) else R.bad | none => R.bad) | _, _ => R.bad) = _
 rw [hk]
 dsimp only
 rw [hy]
 dsimp only
 rw [if_pos hl]
theorem z4o {σ : Sg} {O O1 : Ow} {i k : Nat} {t : DE} {y : D} {ds : List D} (hi : σ[i]? = some (some (.own k))) (ht : t σ O = .ok y O1) (hk : O1[k]? = some ds) (hl : ds.length < 100000) :
  z1e (z7r (z01 i) (z00 t z03)) σ O = .nx σ (O1.set k (ds ++ [y])) := by
 refine z4m (x := .non) ?_
 unfold z7r z01
 rw [hi]
 show ((z00 t z03 σ O).bnd _) = _
 rw [z0b ht]
 show (match [y], O1[k]? with | [y], some ds => if ds.length < 100000 then R.ok D.non (O1.set k (ds ++ [y])) else R.bad | _, _ => R.bad) = _
 rw [hk]
 dsimp only
 rw [if_pos hl]
theorem z4p {O : Ow} {x y : List D} : (O ++ [x]).set O.length y = O ++ [y] := by
 rw [List.set_append_right _ _ (Nat.le_refl _), Nat.sub_self]; rfl
theorem z1B {O : Ow} {x : List D} : (O ++ [x])[O.length]? = some x := by simp
theorem zgV {σ : Sg} {O O1 : Ow} {t : DE} {x : D} {src : Src} (h : t σ O = .ok x O1) (hs : z5L x = some src) : dIt t σ O = .ok src O1 := by
 unfold dIt
 rw [h]
 cases x with
 | lst ds => cases hs; rfl
 | own k => cases hs; rfl
 | _ => cases hs
theorem z5J {O X : Ow} {x : D} {xs : List D} (h : lsV O x = some xs) : lsV (O ++ X) x = some xs := by
 cases x with
 | lst ds => exact h
 | own k =>
  have h : O[k]? = some xs := h
  show (O ++ X)[k]? = some xs
  rw [List.getElem?_append_left (List.getElem?_eq_some_iff.mp h).1]; exact h
 | _ => cases h
theorem z8s {O X : Ow} (h : z2o O) (hX : ∀ c ∈ X, ∀ d ∈ c, z5V (O.length + X.length) d = true) : z2o (O ++ X) := by
 intro c hc d hd
 rw [List.length_append]
 rcases List.mem_append.mp hc with hc | hc
 ·have := h c hc d hd
  cases d with
  | own k => simp only [z5V, decide_eq_true_eq] at this ⊢; omega
  | _ => exact this
 ·exact hX c hc d hd
theorem z5C {O : Ow} (h : z2o O) {c : List D} (hc : ∀ d ∈ c, z5V (O.length + 1) d = true) : z2o (O ++ [c]) := z8s h fun x hx d hd => by
 have : x = c := by simpa using hx
 subst this; exact hc d hd
theorem StAt.more {O X : Ow} {m : Nat} {s : Int} {b : Bool} (h : StAt O m s b) : StAt (O ++ X) m s b := ⟨by rw [List.getElem?_append_left h.len]; exact h.at_, h.nn, h.lt⟩
theorem StAt.flat {O : Ow} {s : Int} {b : Bool} (h : z2o O) : z2o (O ++ [[.int s, .bl b]]) := z5C h fun d hd => by
 simp only [List.mem_cons, List.not_mem_nil, or_false] at hd
 rcases hd with rfl | rfl <;> rfl
theorem ziM {k : Nat} {c : Int} (hc : c = (k : Nat)) (hk : k < 1000) (σ : Sg) (O : Ow) : z24 (z00 (dC (.int c)) z03) σ O = .ok (.val ((List.range k).map fun (i : Nat) => D.int (i : Int))) O := by
 subst hc
 exact z1S (z0b rfl) (by omega)
def z5t (t : List Nat) : List (List Nat) := [t ++ [45], t ++ [48], t ++ [49]]
theorem z2q {n : Nat} (h4 : n <= 4) {O : Ow} (hO : z2o O) : z1b [.int n] O = .ok (.lst ((terms n).map .str)) O := by
 have few : ∀ i, i <= 4 -> (terms i).length <= 81 := fun i hi => by
  have : i = 0 \/ i = 1 \/ i = 2 \/ i = 3 \/ i = 4 := by omega
  rcases this with rfl | rfl | rfl | rfl | rfl <;> decide
 have lens : ∀ i, i <= 4 -> ∀ t ∈ terms i, t.length <= 4 := fun i hi t ht => by
  have : i = 0 \/ i = 1 \/ i = 2 \/ i = 3 \/ i = 4 := by omega
  rcases this with rfl | rfl | rfl | rfl | rfl
  ·simp [terms] at ht; simp [ht]
  ·rw [z05 (by decide) (by decide) ht]; decide
  ·rw [z05 (by decide) (by decide) ht]; decide
  ·rw [z05 (by decide) (by decide) ht]; decide
  ·rw [z05 (by decide) (by decide) ht]; decide
 let N : Option D := some (.int n)
 let In : Ow -> D -> List D -> Prop := fun X d xs => d = .lst xs \/ ∃ k, d = .own (O.length + k) /\ X[k]? = some xs
 have InV : ∀ {X d xs}, In X d xs -> lsV (O ++ X) d = some xs := fun {X d xs} h => by
  rcases h with rfl | ⟨k, rfl, h⟩
  ·rfl
  ·show (O ++ X)[O.length + k]? = _
   rw [List.getElem?_append_right (by omega), Nat.add_sub_cancel_left]; exact h
 show za4 O.length (fin (z2G [N, none, none, none, none] O)) = _
 unfold z2G
 rw [z0j (σ' := [N, some (.lst [.str []]), none, none, none]) (O1 := O) (by rfl)]
 obtain ⟨σ', O', l1, d, y2, y3, y4, X, rfl, rfl, hd⟩ := z4r (i := 2) (O := O) (l := List.range n) (body := (z0i (z0W 3 (z33 z03)) (z0i (z4T (dIt (z01 1)) (.one 4) (z1e (zev (z01 3) (z00 (z41 (z00 (dOp z2W (z01 4) (dC (.str [45]))) (z00 (dOp z2W (z01 4) (dC (.str [48]))) (z00 (dOp z2W (z01 4) (dC (.str [49]))) z03)))) z03)))) (z0W 1 (z01 3)))))
  (z1S (σ := [N, some (.lst [.str []]), none, none, none]) (O := O) (z0b (t := z01 0) rfl) (by omega)) (fun i σ O' => ∃ d y2 y3 y4 X, σ = [N, some d, y2, y3, y4] /\ O' = O ++ X /\ In X d ((terms i).map .str)) (fun i a σ O' ha hI => by
   obtain ⟨d, y2, y3, y4, X, rfl, rfl, hd⟩ := hI
   have hin : i < n := by
    have := (List.getElem?_eq_some_iff.mp ha).1
    simpa using this
   have hi4 : i <= 4 := by omega
   show ∃ σ' O', z0i _ _ [N, some d, some (.int a), y3, y4] (O ++ X) = _ /\ _
   rw [z0j (σ' := [N, some d, some (.int a), some (.own (O ++ X).length), y4]) (O1 := O ++ X ++ [[]]) (by rfl)]
   obtain ⟨src, s1, s2, s3⟩ := z2E (z5J (X := [[]]) (InV hd))
   obtain ⟨σ', O', l1, y4', rfl, rfl⟩ := ze7 (α := List Nat) (g := .one 4) (l := terms i) (inj := .str) (body := (z1e (zev (z01 3) (z00 (z41 (z00 (dOp z2W (z01 4) (dC (.str [45]))) (z00 (dOp z2W (z01 4) (dC (.str [48]))) (z00 (dOp z2W (z01 4) (dC (.str [49]))) z03)))) z03))))
    (zgV (σ := [N, some d, some (.int a), some (.own (O ++ X).length), y4]) (O := O ++ X ++ [[]]) (t := z01 1) rfl s1) (by rw [s3]; simp)
    (fun j σ O' => ∃ y4, σ = [N, some d, some (.int a), some (.own (O ++ X).length), y4] /\ O' = O ++ X ++ [(((terms i).take j).flatMap z5t).map .str]) (fun j t σ O' ht hI => by
     obtain ⟨y4, rfl, rfl⟩ := hI
     have hj := (List.getElem?_eq_some_iff.mp ht).1
     obtain ⟨src', s1', s2', s3'⟩ := z2E (z5J (X := [(((terms i).take j).flatMap z5t).map .str]) (InV hd))
     rw [s1] at s1'; cases s1'
     refine ⟨by rw [s2', List.getElem?_map, ht]; rfl, [N, some d, some (.int a), some (.own (O ++ X).length), some (.str t)], _, _, rfl, zcF (y := .lst ((z5t t).map .str)) (ds := (((terms i).take j).flatMap z5t).map .str) (es := (z5t t).map .str) rfl ?_ rfl z1B ?_, _, rfl, ?_⟩
     ·have hl := lens i hi4 t (List.mem_of_getElem? ht)
      have fa : ∀ c OO, z2W OO (.str t) (.str [c]) = .ok (.str (t ++ [c])) OO := fun c OO => by
       match t, hl with
       | [], _ => rfl
       | [_], _ => rfl
       | [_, _], _ => rfl
       | [_, _, _], _ => rfl
       | [_, _, _, _], _ => rfl
      simp only [z0i, z0W, sIf, z0B, z1e, z1l, z01, dC, z00, z03, dFn, z0c, dOp, z0z, z1s, z1o, zdm, R.bnd, R.bnS, fin, List.getElem?_cons_zero, List.getElem?_cons_succ, List.set_cons_zero, List.set_cons_succ, List.length_cons, List.length_nil, Nat.zero_add, Nat.reduceAdd, Nat.reduceLeDiff, Nat.reduceLT, if_true, if_false, Bool.not_true, Bool.not_false, Bool.false_eq_true, ite_true, ite_false, z41, fa, z5t, List.map_cons, List.map_nil]
     ·have h1 := few i hi4
      have h2 : ∀ l : List (List Nat), (l.flatMap z5t).length = 3 * l.length := fun l => by
       induction l with
       | nil => rfl
       | cons x l ih => rw [List.flatMap_cons, List.length_append, ih, List.length_cons]; show 3 + _ = _; omega
      rw [List.length_map, h2, List.length_map]
      have h3 := List.length_take_le j (terms i)
      show 3 * ((terms i).take j).length + 3 <= _
      omega
     ·rw [z4p, <- List.map_append]
      have : (terms i).take (j + 1) = (terms i).take j ++ [t] := by
       rw [List.take_succ, ht]; rfl
      rw [this, List.flatMap_append]
      simp) (fun σ O' hI => by
     obtain ⟨y4, rfl, rfl⟩ := hI
     obtain ⟨src', s1', s2', s3'⟩ := z2E (z5J (X := [(((terms i).take (terms i).length).flatMap z5t).map .str]) (InV hd))
     rw [s1] at s1'; cases s1'
     rw [s2']; simp) ⟨y4, rfl, by simp⟩
   rw [z0j l1]
   refine ⟨_, _, rfl, .own (O ++ X).length, _, _, _, X ++ [(((terms i).take (terms i).length).flatMap z5t).map .str], rfl, by simp, .inr ⟨X.length, by simp, ?_⟩⟩
   rw [z1B, List.take_length]; rfl) ⟨_, _, _, _, [], rfl, by simp, .inl rfl⟩
 rw [z0j l1, z0u (x := d) rfl]
 rw [List.length_range] at hd
 show za4 O.length (.ok d (O ++ X)) = _
 refine zak hO X ?_
 rcases hd with rfl | ⟨k, rfl, h⟩
 ·show (z1j (frz (O ++ X) O.length 7) ((terms n).map D.str)).map D.lst = _
  rw [z2F fun d hd => by obtain ⟨q, _, rfl⟩ := List.mem_map.mp hd; exact z3k rfl]; rfl
 ·unfold frz
  dsimp only
  rw [if_neg (by omega), List.getElem?_append_right (by omega), Nat.add_sub_cancel_left, h]
  dsimp only
  rw [z2F fun d hd => by obtain ⟨q, _, rfl⟩ := List.mem_map.mp hd; exact z3k rfl]; rfl
theorem z5X (O : Ow) : (allP.map fun q => z0s [.str q.1, .int (q.2 : Nat)] O) = allP.map fun q => R.ok (.bl ((pts q.1).contains q.2)) O := by kernel_rfl
theorem z2x {cs : List Nat} {p : Nat} (h : cs ∈ allT) (hp : p < 2 ^ cs.length) (O : Ow) : z0s [.str cs, .int (p : Nat)] O = .ok (.bl ((pts cs).contains p)) O := List.map_inj_left.mp (z5X O) _ (z5M h hp)
theorem z5W {c d : DT} {σ : Sg} {O : Ow} {a b : Bool} (h1 : c σ O = .ok a O) (h2 : a = true -> d σ O = .ok b O) : z1y c d σ O = .ok (a && b) O := by
 show ((c σ O).bnd _) = _
 rw [h1]
 cases a with
 | true => exact h2 rfl
 | false => rfl
theorem z4Q {n : Nat} {f : List D} (hf : Fn n f) {cs : List Nat} (h : cs ∈ terms n) (O : Ow) : z1k [.tup f, .str cs] O = .ok (.bl (z4b f cs)) O := by
 have hA := z0O hf.n1 hf.n4 h
 have hl := z05 hf.n1 hf.n4 h
 have h16 := z2A hf.n4
 have hfl := hf.len
 show fin (z2d [some (.tup f), some (.str cs)] O) = _
 unfold z2d
 rw [z0u ((z0f (z39 (l := List.range f.length) (p := fun p => isZ (f.getD p .non) && (pts cs).contains p) (e := fun (p : Nat) => D.int (p : Int)) (τ := fun (p : Nat) => [some (.tup f), some (.str cs), some (.int (p : Int))]) (z1S (z0b ((z13 (z0b (t := z01 0) rfl)).trans rfl)) (by omega)) (by simp; omega) (fun _ => rfl) (fun q hq => by
   have hq := List.mem_range.mp hq
   refine z5W (z0k ((z0f ((z0f rfl rfl).trans (zb9 (i := q) hq)) rfl).trans ((eq0 O (hf.ans _ (List.getElem_mem hq))).trans (by rw [z31 hq])))) fun _ => z0E ((z7m (z0e rfl rfl) rfl).trans (z2x hA (by rw [hl, <- hfl]; exact hq) O))) (fun _ _ _ => rfl)) rfl).trans (by
  have := zgj O (((List.range f.length).filter fun p => isZ (f.getD p .non) && (pts cs).contains p).map fun (p : Nat) => (p : Int))
  rw [List.map_map] at this
  exact this))]
 show R.ok (D.bl _) O = _
 congr 2
 unfold z4b
 rw [Bool.eq_iff_iff, List.isEmpty_iff, List.map_eq_nil_iff, List.filter_eq_nil_iff, List.all_eq_true]
 constructor
 ·intro h p hp
  have hlt : p < f.length := by rw [hfl, <- hl]; exact zdh hA hp
  have := h p (List.mem_range.mpr hlt)
  simp only [Bool.and_eq_true, List.contains_iff_mem, not_and] at this
  cases hz : isZ (f.getD p .non) with
  | true => exact absurd hp (this hz)
  | false => rfl
 ·intro h p hp hq
  simp only [Bool.and_eq_true, List.contains_iff_mem] at hq
  have := h p hq.2
  rw [hq.1] at this
  cases this
theorem zcr (fs : List D) : z53 fs = (List.range fs.length).map fun k => D.tup [.int (k : Nat), fs.getD k .non] := by
 apply List.ext_getElem?
 intro i
 rw [z6y, List.getElem?_map]
 by_cases hi : i < fs.length
 ·rw [List.getElem?_range hi, List.getElem?_eq_getElem hi, Option.map_some, Option.map_some, z31 hi]
 ·rw [List.getElem?_eq_none_iff.mpr (by omega), List.getElem?_eq_none_iff.mpr (by simp; omega)]; rfl
theorem z66 : (allT.all fun cs => cs.all sgn) = true := by decide +kernel
theorem zaA {n : Nat} (h1 : 1 <= n) (h4 : n <= 4) {cs : List Nat} (h : cs ∈ terms n) : ∀ c ∈ cs, sgn c = true := List.all_eq_true.mp (List.all_eq_true.mp z66 cs (z0O h1 h4 h))
theorem zaF (O : Ow) {c : Nat} (h : sgn c = true) : fPy neF O (.str [c]) (.str [45]) = .ok (.bl (c != 45)) O := by
 unfold sgn at h
 simp only [Bool.or_eq_true, beq_iff_eq] at h
 rcases h with (rfl | rfl) | rfl <;> kernel_rfl
theorem z2Q {cs : List Nat} {k : Nat} (h : k < cs.length) : cs.getD k 0 = cs[k] := by rw [List.getD_eq_getElem?_getD, List.getElem?_eq_getElem h]; rfl
theorem z9F (O : Ow) (l : List Nat) : fPy neF O (.lst (zbv l)) (.lst []) = .ok (.bl (!l.isEmpty)) O :=
 (z6V O (b := l.isEmpty) (zaP 7 l) (y := []) rfl (by cases l <;> simp)).2
theorem zfK (O : Ow) (l : List Nat) : fPy eqF O (.lst (zbv l)) (.lst []) = .ok (.bl l.isEmpty) O :=
 (z6V O (b := l.isEmpty) (zaP 7 l) (y := []) rfl (by cases l <;> simp)).1
theorem z9Q : (allT.all fun cs => cs.all fun c => decide (c < 128)) = true := by decide +kernel
theorem z9O : (allT.all fun cs => cs.all fun c => decide (c < 1114112)) = true := by decide +kernel
theorem z8b {n k : Nat} (h1 : 1 <= n) (h4 : n <= 4) {cs : List Nat} (h : cs ∈ terms n) : pl k (.str cs) = true := by
 have := List.all_eq_true.mp z9O cs (z0O h1 h4 h)
 cases k <;> exact this
theorem z3w {n k : Nat} (h1 : 1 <= n) (h4 : n <= 4) {l : List (List Nat)} (h : ∀ cs ∈ l, cs ∈ terms n) : (l.map D.str).all (pl k) = true := List.all_eq_true.mpr fun d hd => by
 obtain ⟨cs, hc, rfl⟩ := List.mem_map.mp hd
 exact z8b h1 h4 (h cs hc)
theorem z7B (O : Ow) {n : Nat} (h1 : 1 <= n) (h4 : n <= 4) {a b : List Nat} (ha : a ∈ terms n) (hb : b ∈ terms n) : fPy neF O (.str a) (.str b) = .ok (.bl (decide (a ≠ b))) O := by
 have := (zh4 O (b := decide (a = b)) (z8b (k := 8) h1 h4 ha) (z8b h1 h4 hb) (by simp)).2
 rw [this]
 congr 2
 by_cases h : a = b <;> simp [h]
theorem z8i {α : Type} (p : α -> Bool) {l : List α} {j : Nat} {x : α} (h : l[j]? = some x) : (l.take (j + 1)).filter p = (l.take j).filter p ++ (if p x = true then [x] else []) := by
 rw [List.take_succ, h, List.filter_append]
 congr 1
 show List.filter p [x] = _
 rw [List.filter_cons]; split <;> rfl
theorem z3m {O : Ow} {m : Nat} {s : Int} {b : Bool} (h : StAt (O.set m [.int s, .bl b]) m s b) (X : Ow) {k : Nat} (k1 : 1 <= k) (k2 : k <= 1000) :
  ∃ (r : Nat) (s' : Int), r < k /\ z06 [.own m, .int k] (O.set m [.int s, .bl b] ++ X) = .ok (.int r) (O.set m [.int s', .bl b] ++ X) /\ StAt (O.set m [.int s', .bl b]) m s' b := by
 obtain ⟨r, s', r1, r2, r3⟩ := z3P (h.more (X := X)) k1 k2
 rw [List.set_append_left _ _ h.len, List.set_set] at r2 r3
 refine ⟨r, s', r1, r2, ?_, r3.nn, r3.lt⟩
 have hl : m < (O.set m [.int s', .bl b]).length := by have := h.len; rw [List.length_set] at this ⊢; exact this
 have := r3.at_
 rwa [List.getElem?_append_left hl] at this
theorem zdl (O : Ow) (i j : Int) : fLt O (.int i) (.int j) = .ok (.bl (decide (i < j))) O := rfl
theorem zav (O : Ow) (q : Bool) : z6C O [.bl q] = .ok (.int (if q = true then 1 else 0)) O := by cases q <;> rfl
theorem zbI (O : Ow) {r : Nat} (h : r < 3) : ∃ i : Int, fIx O (.lst [.int 2, .int 4, .int 6]) (.int r) = .ok (.int i) O := by
 have : r = 0 \/ r = 1 \/ r = 2 := by omega
 rcases this with rfl | rfl | rfl
 ·exact ⟨2, rfl⟩
 ·exact ⟨4, rfl⟩
 ·exact ⟨6, rfl⟩
theorem zeG {ext : Nat} {it0 : DI} {i : Nat} {te : DE} {σ : Sg} {O O0 : Ow} {ds : List D} {m : Nat} {s : Int} {b : Bool} {P : D -> Prop} {o : Bool} (hst : StAt O m s b) (hi : it0 σ O0 = .ok (.val ds) O) (hl : ds.length < 50000)
  (he : ∀ d ∈ ds, ∀ s', StAt (O.set m [.int s', .bl b]) m s' b -> ∃ v s'', te ((clr (clr (σ ++ List.replicate ext none) [i]) [i]).set i (some d)) (O.set m [.int s', .bl b]) = .ok v (O.set m [.int s'', .bl b]) /\ StAt (O.set m [.int s'', .bl b]) m s'' b /\ P v) :
  ∃ vs s', z0n o ext it0 (.one i) [] [] te σ O0 = z7q o (.ok vs (O.set m [.int s', .bl b])) /\ StAt (O.set m [.int s', .bl b]) m s' b /\ vs.length = ds.length /\ ∀ v ∈ vs, P v := by
 obtain ⟨acc, O', e, s', rfl, h1, h2, h3⟩ := z6P (ds := ds) (step := z4J ⟨it0, .one i, []⟩ [] te (clr (σ ++ List.replicate ext none) (z07 [⟨it0, .one i, []⟩])))
  (fun j O' acc => ∃ s', O' = O.set m [.int s', .bl b] /\ StAt O' m s' b /\ acc.length = j /\ ∀ v ∈ acc, P v) (fun j O' acc d hI hd => by
   obtain ⟨s', rfl, h1, h2, h3⟩ := hI
   have hj := (List.getElem?_eq_some_iff.mp hd).1
   obtain ⟨v, s'', q1, q2, q3⟩ := he d (List.mem_of_getElem? hd) s' h1
   refine ⟨acc ++ [v], _, ?_, s'', rfl, q2, by simp [h2], fun w hw => ?_⟩
   ·show z1Y [] te ((clr (clr (σ ++ List.replicate ext none) [i]) [i]).set i (some d)) (O.set m [.int s', .bl b]) acc = _
    unfold z1Y
    rw [q1]
    show (if acc.length < 100000 then _ else _) = _
    rw [if_pos (by omega)]
   ·rcases List.mem_append.mp hw with hw | hw
    ·exact h3 w hw
    ·have : w = v := by simpa using hw
     rw [this]; exact q3) ds.length 0 O [] ⟨s, (z5r hst.at_).symm, hst, rfl, by simp⟩ (by omega) (Nat.zero_le _)
 refine ⟨acc, s', ?_, h1, h2, h3⟩
 unfold z0n z2f
 rw [hi]
 show z7q o (noX (z0m (.val ds) _ ds.length 0 O [])) = _
 rw [e]; rfl
theorem zc9 {ns : List Int} (hn : ns.length <= 63) (σ : Sg) (c : Nat) (hc : c < 1000) (h0 : z01 0 σ [] = .ok (.lst (ns.map .int)) []) : ∃ m : Nat, m < 100000 /\ z0c z8h (z00 (dC (.int 1)) (z00 (z0c z7Q (z00 (z0c z2p (z00 (z01 0) z03)) (z00 (dC (.int (c : Nat))) z03))) z03)) σ [] = .ok (.int (m : Nat)) [] := by
 have h1 : z0c z7Q (z00 (z0c z2p (z00 (z01 0) z03)) (z00 (dC (.int (c : Nat))) z03)) σ [] = .ok (.int (if (c : Int) < ((ns.map D.int).length : Nat) then (c : Int) else ((ns.map D.int).length : Nat))) [] := (z13 (z0e ((z13 (z0b h0)).trans rfl) rfl)).trans rfl
 have h2 := (z13 (f := z8h) (z0e (t := dC (.int 1)) rfl h1))
 refine ⟨(if (if (c : Int) < ((ns.map D.int).length : Nat) then (c : Int) else ((ns.map D.int).length : Nat)) > 1 then (if (c : Int) < ((ns.map D.int).length : Nat) then (c : Int) else ((ns.map D.int).length : Nat)) else 1).toNat, ?_, h2.trans ?_⟩
 ·rw [List.length_map]; split <;> split <;> omega
 ·show R.ok (D.int (if (if (c : Int) < ((ns.map D.int).length : Nat) then (c : Int) else ((ns.map D.int).length : Nat)) > 1 then (if (c : Int) < ((ns.map D.int).length : Nat) then (c : Int) else ((ns.map D.int).length : Nat)) else 1)) [] = _
  congr 2
  rw [List.length_map]; split <;> split <;> omega
def z0w (n : Nat) (a b : List Nat) : Bool := (List.range n).all fun i => b.getD i 0 == 45 || b.getD i 0 == a.getD i 0
theorem z2Z {n : Nat} (h1 : 1 <= n) (h4 : n <= 4) {cs : List Nat} (h : cs ∈ terms n) {p : Nat} (hp : p < 2 ^ n) : p ∈ pts cs ↔ z6f cs (z4W n p) = true := by
 have hl := z05 h1 h4 h
 have := List.all_eq_true.mp z78 _ (z5M (z0O h1 h4 h) (by rw [hl]; exact hp))
 simp only [Bool.and_eq_true, beq_iff_eq] at this
 rw [hl] at this
 rw [this.1.1.1]; simp
theorem z4v {n : Nat} (h1 : 1 <= n) (h4 : n <= 4) {cs : List Nat} (h : cs ∈ terms n) {p : Nat} (hp : p ∈ pts cs) : p < 2 ^ n := by
 have := zdh (z0O h1 h4 h) hp
 rw [z05 h1 h4 h] at this
 exact this
theorem zbM {n : Nat} (h1 : 1 <= n) (h4 : n <= 4) {a b : List Nat} (ha : a ∈ terms n) (hb : b ∈ terms n) (h : z0w n a b = true) {p : Nat} (hp : p ∈ pts a) : p ∈ pts b := by
 have hlt := z4v h1 h4 ha hp
 have m := (z2Z h1 h4 ha hlt).mp hp
 refine (z2Z h1 h4 hb hlt).mpr ?_
 unfold z6f at m ⊢
 unfold z0w at h
 rw [z05 h1 h4 ha] at m
 rw [z05 h1 h4 hb]
 rw [List.all_eq_true] at h m ⊢
 intro i hi
 have e1 := h i hi
 have e2 := m i hi
 simp only [Bool.or_eq_true, beq_iff_eq] at e1 e2 ⊢
 rcases e1 with e1 | e1
 ·exact .inl e1
 ·rcases e2 with e2 | e2
  ·exact .inl (e1.trans e2)
  ·exact .inr (e1.trans e2)
theorem z6Q (n : Nat) (a : List Nat) : z0w n a a = true := by
 unfold z0w
 rw [List.all_eq_true]; intro i _; simp
theorem z4P {n : Nat} (h1 : 1 <= n) (h4 : n <= 4) {cs : List Nat} (h : cs ∈ terms n) : zkD (.str cs) = some (.val (cs.map fun c => .str [c])) := by
 show (if cs.all (· < 128) = true then _ else none) = _
 rw [if_pos (List.all_eq_true.mp z9Q cs (z0O h1 h4 h))]
theorem z82 (O : Ow) {c d : Nat} (h : sgn c = true) (h' : sgn d = true) : fPy eqF O (.str [c]) (.str [d]) = .ok (.bl (c == d)) O := by
 unfold sgn at h h'
 simp only [Bool.or_eq_true, beq_iff_eq] at h h'
 rcases h with (rfl | rfl) | rfl <;> rcases h' with (rfl | rfl) | rfl <;> kernel_rfl
theorem z1E {α : Type} {n i : Nat} (f : Nat -> α) : ((List.range n).map f)[i]? = if i < n then some (f i) else none := by
 rw [List.getElem?_map]
 by_cases h : i < n
 ·rw [List.getElem?_range h, if_pos h]; rfl
 ·rw [List.getElem?_eq_none_iff.mpr (by simpa using h), if_neg h]; rfl
theorem z1Q {cs : List Nat} {i : Nat} (h : i < cs.length) (g : Nat -> D) : (cs.map g)[i]? = some (g (cs.getD i 0)) := by
 rw [List.getElem?_map, List.getElem?_eq_getElem h, z2Q h]; rfl
theorem z0q {n : Nat} (h1 : 1 <= n) (h4 : n <= 4) {cs : List Nat} (h : cs ∈ terms n) {i : Nat} (hi : i < n) : sgn (cs.getD i 0) = true := by
 have hl := z05 h1 h4 h
 rw [z2Q (by omega)]
 exact zaA h1 h4 h _ (List.getElem_mem _)
theorem z6W {α β : Type} (l : List α) (e : α -> β) : (l.filter fun _ => true).map e = l.map e := by rw [List.filter_eq_self.mpr (fun _ _ => rfl)]
theorem zfn {n : Nat} (h1 : 1 <= n) (h4 : n <= 4) {a b : List Nat} (ha : a ∈ terms n) (hb : b ∈ terms n) (O : Ow) : z3u [.str a, .str b] O = .ok (.bl (z0w n a b)) O := by
 have la := z05 h1 h4 ha
 have lb := z05 h1 h4 hb
 have hi : z5Z (z00 (z01 0) (z00 (z01 1) z03)) [some (.str a), some (.str b)] O = .ok (.zip (.val (a.map fun c => .str [c])) (.val (b.map fun c => .str [c]))) O := by
  show (match zkD (.str a), zkD (.str b) with | some p, some q => R.ok (Src.zip p q) O | _, _ => R.bad) = _
  rw [z4P h1 h4 ha, z4P h1 h4 hb]
 have hc := z37 (o := false) (ext := 2) (g := .two 2 3) (ts := []) (te := dOr (dOp (fPy eqF) (z01 3) (dC (.str [45]))) (dOp (fPy eqF) (z01 3) (z01 2))) (l := List.range n) (inj := fun k => D.tup [.str [a.getD k 0], .str [b.getD k 0]]) (p := fun _ => true) (e := fun k => D.bl (b.getD k 0 == 45 || b.getD k 0 == a.getD k 0))
  (τ := fun k => [some (.str a), some (.str b), some (.str [a.getD k 0]), some (.str [b.getD k 0])]) hi (fun i => by
   rw [z1E]
   show (match (a.map fun c => D.str [c])[i]?, (b.map fun c => D.str [c])[i]? with | some x, some y => some (D.tup [x, y]) | _, _ => none) = _
   by_cases hi : i < n
   ·rw [if_pos hi, z1Q (by omega) fun c => D.str [c], z1Q (by omega) fun c => D.str [c]]
   ·rw [if_neg hi, List.getElem?_eq_none_iff.mpr (by simp; omega)]) (by
   show min (a.map fun c => D.str [c]).length (b.map fun c => D.str [c]).length = _
   simp [la, lb]) (by rw [List.length_range]; omega) (fun k _ => rfl) (fun k _ => rfl) (fun k hk _ => by
   have hk := List.mem_range.mp hk
   have s1 := z0q h1 h4 ha hk
   have s2 := z0q h1 h4 hb hk
   simp only [z0i, z0W, sIf, z0B, z1e, z1l, z01, dC, z00, z03, dFn, z0c, dOp, z0z, z1s, z1o, zdm, R.bnd, R.bnS, fin, List.getElem?_cons_zero, List.getElem?_cons_succ, List.set_cons_zero, List.set_cons_succ, List.length_cons, List.length_nil, Nat.zero_add, Nat.reduceAdd, Nat.reduceLeDiff, Nat.reduceLT, if_true, if_false, Bool.not_true, Bool.not_false, Bool.false_eq_true, ite_true, ite_false, dOr, z82 O s2 (show sgn 45 = true from rfl), z82 O s2 s1]
   cases (b.getD k 0 == 45) <;> rfl)
 rw [z6W] at hc
 show fin (z3a [some (.str a), some (.str b)] O) = _
 unfold z3a
 rw [z0u ((z13 (z0b hc)).trans (z3y O _ _))]; rfl
theorem zah {O : Ow} {c n : Nat} (h : n <= 16) : z7c O (.str [c]) (.int (n : Nat)) = .ok (.str (List.replicate n c)) O := by
 show (if 0 <= ((n : Nat) : Int) /\ ((n : Nat) : Int) <= 16 then R.ok (D.str (List.replicate ((n : Nat) : Int).toNat c)) O else R.bad) = _
 rw [if_pos (by omega)]
 have : ((n : Nat) : Int).toNat = n := by omega
 rw [this]
theorem z6d {n k a : Nat} (h : (List.range n)[k]? = some a) : a = k /\ k < n := by
 obtain ⟨h1, h2⟩ := List.getElem?_eq_some_iff.mp h
 have : k < n := by simpa using h1
 rw [List.getElem_range] at h2
 exact ⟨h2.symm, this⟩
theorem z83 {α : Type} {src : Src} {step : D -> Sg -> Ow -> RS} {l : List α} {inj : α -> D} {stop : Nat} (hg : ∀ O i, src.get O i = (l.map inj)[i]?) (hs : stop <= l.length) (I : Nat -> Sg -> Ow -> Prop) (h : ∀ k a σ O, k < stop -> l[k]? = some a -> I k σ O -> ∃ σ' O', step (inj a) σ O = .nx σ' O' /\ I (k + 1) σ' O') :
  ∀ (d i f : Nat) (σ : Sg) (O : Ow), i + d = stop -> l.length <= i + f -> I i σ O -> ∃ σ' O' f', I stop σ' O' /\ l.length <= stop + f' /\ z0L src step f i σ O = z0L src step f' stop σ' O'
 | 0, i, f, σ, O, hd, hl, hI => by
  have : i = stop := by omega
  subst this
  exact ⟨σ, O, f, hI, hl, rfl⟩
 | d + 1, i, f, σ, O, hd, hl, hI => by
  have hi : i < l.length := by omega
  cases f with
  | zero => omega
  | succ f =>
   have e : l[i]? = some l[i] := List.getElem?_eq_getElem hi
   obtain ⟨σ1, O1, e1, I1⟩ := h i l[i] σ O (by omega) e hI
   obtain ⟨σ', O', f', q1, q2, q3⟩ := z83 hg hs I h d (i + 1) f σ1 O1 (by omega) (by omega) I1
   refine ⟨σ', O', f', q1, q2, ?_⟩
   rw [<- q3]
   show (match src.get O i with | none => RS.nx σ O | some d => match step d σ O with | .nx σ' O' => z0L src step f (i + 1) σ' O' | .ct σ' O' => z0L src step f (i + 1) σ' O' | .bk σ' O' => .nx σ' O' | r => r) = _
   rw [hg, List.getElem?_map, e]
   show (match step (inj l[i]) σ O with | .nx σ' O' => z0L src step f (i + 1) σ' O' | .ct σ' O' => z0L src step f (i + 1) σ' O' | .bk σ' O' => .nx σ' O' | r => r) = _
   rw [e1]
theorem zbX {α : Type} {src : Src} {step : D -> Sg -> Ow -> RS} {l : List α} {inj : α -> D} (hg : ∀ O i, src.get O i = (l.map inj)[i]?) (f : Nat) (σ : Sg) (O : Ow) : z0L src step f l.length σ O = .nx σ O := by
 have e : src.get O l.length = none := by rw [hg]; simp
 cases f <;> (unfold z0L; rw [e])
theorem zft {α : Type} {src : Src} {step : D -> Sg -> Ow -> RS} {l : List α} {inj : α -> D} (hg : ∀ O i, src.get O i = (l.map inj)[i]?) {i f : Nat} {σ : Sg} {O O' : Ow} {a : α} {d : D} (e : l[i]? = some a) (hf : l.length <= i + f) (hs : step (inj a) σ O = .rt d O') : z0L src step f i σ O = .rt d O' := by
 have hi := (List.getElem?_eq_some_iff.mp e).1
 cases f with
 | zero => omega
 | succ f =>
  show (match src.get O i with | none => RS.nx σ O | some d => match step d σ O with | .nx σ' O' => z0L src step f (i + 1) σ' O' | .ct σ' O' => z0L src step f (i + 1) σ' O' | .bk σ' O' => .nx σ' O' | r => r) = _
  rw [hg, List.getElem?_map, e]
  show (match step (inj a) σ O with | .nx σ' O' => z0L src step f (i + 1) σ' O' | .ct σ' O' => z0L src step f (i + 1) σ' O' | .bk σ' O' => .nx σ' O' | r => r) = _
  rw [hs]
def z1g (a b : List Nat) (k : Nat) : Bool := a.getD k 0 != 45 && (b.getD k 0 != 45 && a.getD k 0 != b.getD k 0)
def z4i (a b : List Nat) (k : Nat) : Nat := if a.getD k 0 == 45 then b.getD k 0 else a.getD k 0
def met (n : Nat) (a b : List Nat) : List Nat := (List.range n).map (z4i a b)
theorem z36 {n : Nat} (h1 : 1 <= n) (h4 : n <= 4) {a b : List Nat} (ha : a ∈ terms n) (hb : b ∈ terms n) : met n a b ∈ terms n := by
 refine z3o n _ (by unfold met; simp) fun c hc => ?_
 obtain ⟨k, hk, rfl⟩ := List.mem_map.mp hc
 unfold z4i
 split
 ·exact z0q h1 h4 hb (List.mem_range.mp hk)
 ·exact z0q h1 h4 ha (List.mem_range.mp hk)
theorem z3E {n : Nat} {a b : List Nat} {k : Nat} (hk : k < n) : (met n a b).getD k 0 = z4i a b k := by
 unfold met
 rw [List.getD_eq_getElem?_getD, z1E, if_pos hk]; rfl
theorem z3z (O : Ow) {c d : Nat} (h : sgn c = true) (h' : sgn d = true) : fPy neF O (.str [c]) (.str [d]) = .ok (.bl (c != d)) O := by
 unfold sgn at h h'
 simp only [Bool.or_eq_true, beq_iff_eq] at h h'
 rcases h with (rfl | rfl) | rfl <;> rcases h' with (rfl | rfl) | rfl <;> kernel_rfl
def zab : DS := z0i (sIf (z1y (z0z (dOp (fPy neF) (z01 3) (dC (.str [45])))) (z1y (z0z (dOp (fPy neF) (z01 4) (dC (.str [45])))) (z0z (dOp (fPy neF) (z01 3) (z01 4))))) (z0B (dC .non)) z1l) (z1e (z7r (z01 2) (z00 (dIf (z0z (dOp (fPy eqF) (z01 3) (dC (.str [45])))) (z01 4) (z01 3)) z03)))
theorem zcC {x y : Nat} (hx : sgn x = true) (hy : sgn y = true) {O : Ow} {k : Nat} {c : List D} (hk : O[k]? = some c) (hc : c.length < 100000) (p q : Option D) :
  zab [p, q, some (.own k), some (.str [x]), some (.str [y])] O = if (x != 45 && (y != 45 && x != y)) = true then .rt .non O else .nx [p, q, some (.own k), some (.str [x]), some (.str [y])] (O.set k (c ++ [.str [if x == 45 then y else x]])) := by
 let σ : Sg := [p, q, some (.own k), some (.str [x]), some (.str [y])]
 have t1 : z1y (z0z (dOp (fPy neF) (z01 3) (dC (.str [45])))) (z1y (z0z (dOp (fPy neF) (z01 4) (dC (.str [45])))) (z0z (dOp (fPy neF) (z01 3) (z01 4)))) σ O = .ok (x != 45 && (y != 45 && x != y)) O :=
  z5W (z0k ((z0f rfl rfl).trans (z3z O hx (show sgn 45 = true from rfl)))) fun _ => z5W (z0k ((z0f rfl rfl).trans (z3z O hy (show sgn 45 = true from rfl)))) fun _ => z0k ((z0f rfl rfl).trans (z3z O hx hy))
 unfold zab
 cases h : (x != 45 && (y != 45 && x != y)) with
 | true =>
  rw [h] at t1
  have e1 : sIf (z1y (z0z (dOp (fPy neF) (z01 3) (dC (.str [45])))) (z1y (z0z (dOp (fPy neF) (z01 4) (dC (.str [45])))) (z0z (dOp (fPy neF) (z01 3) (z01 4))))) (z0B (dC .non)) z1l σ O = .rt .non O := by rw [z1f t1]; rfl
  rw [if_pos rfl]
  exact z3V e1
 | false =>
  rw [h] at t1
  have e1 : sIf (z1y (z0z (dOp (fPy neF) (z01 3) (dC (.str [45])))) (z1y (z0z (dOp (fPy neF) (z01 4) (dC (.str [45])))) (z0z (dOp (fPy neF) (z01 3) (z01 4))))) (z0B (dC .non)) z1l σ O = .nx σ O := by rw [z1f t1]; rfl
  rw [if_neg (by decide)]
  refine (z0j e1).trans ?_
  simp only [z0i, z0W, sIf, z0B, z1e, z1l, z01, dC, z00, z03, dFn, z0c, dOp, z0z, z1s, z1o, zdm, R.bnd, R.bnS, fin, List.getElem?_cons_zero, List.getElem?_cons_succ, List.set_cons_zero, List.set_cons_succ, List.length_cons, List.length_nil, Nat.zero_add, Nat.reduceAdd, Nat.reduceLeDiff, Nat.reduceLT, if_true, if_false, Bool.not_true, Bool.not_false, Bool.false_eq_true, ite_true, ite_false, σ, z7r, dIf, z82 O hx (show sgn 45 = true from rfl)]
  cases hx45 : (x == 45) with
  | true => simp only [z0i, z0W, sIf, z0B, z1e, z1l, z01, dC, z00, z03, dFn, z0c, dOp, z0z, z1s, z1o, zdm, R.bnd, R.bnS, fin, List.getElem?_cons_zero, List.getElem?_cons_succ, List.set_cons_zero, List.set_cons_succ, List.length_cons, List.length_nil, Nat.zero_add, Nat.reduceAdd, Nat.reduceLeDiff, Nat.reduceLT, if_true, if_false, Bool.not_true, Bool.not_false, Bool.false_eq_true, ite_true, ite_false, hk, hc]
  | false => simp only [z0i, z0W, sIf, z0B, z1e, z1l, z01, dC, z00, z03, dFn, z0c, dOp, z0z, z1s, z1o, zdm, R.bnd, R.bnS, fin, List.getElem?_cons_zero, List.getElem?_cons_succ, List.set_cons_zero, List.set_cons_succ, List.length_cons, List.length_nil, Nat.zero_add, Nat.reduceAdd, Nat.reduceLeDiff, Nat.reduceLT, if_true, if_false, Bool.not_true, Bool.not_false, Bool.false_eq_true, ite_true, ite_false, hk, hc]
theorem zfm {n : Nat} (h1 : 1 <= n) (h4 : n <= 4) {a b : List Nat} (ha : a ∈ terms n) (hb : b ∈ terms n) (σ : Sg) (O : Ow) (i j : Nat) (e1 : z01 i σ O = .ok (.str a) O) (e2 : z01 j σ O = .ok (.str b) O) : z5Z (z00 (z01 i) (z00 (z01 j) z03)) σ O = .ok (.zip (.val (a.map fun c => .str [c])) (.val (b.map fun c => .str [c]))) O := by
 show ((z00 (z01 i) (z00 (z01 j) z03) σ O).bnd _) = _
 rw [z0e e1 e2]
 show (match zkD (.str a), zkD (.str b) with | some p, some q => R.ok (Src.zip p q) O | _, _ => R.bad) = _
 rw [z4P h1 h4 ha, z4P h1 h4 hb]
theorem zf0 {n : Nat} (h1 : 1 <= n) (h4 : n <= 4) {a b : List Nat} (ha : a ∈ terms n) (hb : b ∈ terms n) (O : Ow) (i : Nat) : (Src.zip (.val (a.map fun c => D.str [c])) (.val (b.map fun c => D.str [c]))).get O i = ((List.range n).map fun k => D.tup [.str [a.getD k 0], .str [b.getD k 0]])[i]? := by
 have la := z05 h1 h4 ha
 have lb := z05 h1 h4 hb
 rw [z1E]
 show (match (a.map fun c => D.str [c])[i]?, (b.map fun c => D.str [c])[i]? with | some x, some y => some (D.tup [x, y]) | _, _ => none) = _
 by_cases hi : i < n
 ·rw [if_pos hi, z1Q (by omega) fun c => D.str [c], z1Q (by omega) fun c => D.str [c]]
 ·rw [if_neg hi, List.getElem?_eq_none_iff.mpr (by simp; omega)]
def z2t (n : Nat) (a b : List Nat) : D := if (List.range n).any (z1g a b) = true then .non else .str (met n a b)
theorem zf4 {n : Nat} (h1 : 1 <= n) (h4 : n <= 4) {a b : List Nat} (ha : a ∈ terms n) (hb : b ∈ terms n) {O : Ow} (hO : z2o O) : z6a [.str a, .str b] O = .ok (z2t n a b) O := by
 have la := z05 h1 h4 ha
 have lb := z05 h1 h4 hb
 have e0 : z0W 2 (z33 z03) [some (.str a), some (.str b), none, none, none] O = .nx [some (.str a), some (.str b), some (.own O.length), none, none] (O ++ [[]]) := rfl
 have hi := zfm h1 h4 ha hb [some (.str a), some (.str b), some (.own O.length), none, none] (O ++ [[]]) 0 1 rfl rfl
 let src : Src := .zip (.val (a.map fun c => D.str [c])) (.val (b.map fun c => D.str [c]))
 let step : D -> Sg -> Ow -> RS := fun d σ O => match Tg.put (.two 3 4) d σ with | some σ' => zab σ' O | none => .bad
 have hg : ∀ O i, src.get O i = ((List.range n).map fun k => D.tup [.str [a.getD k 0], .str [b.getD k 0]])[i]? := fun O i => zf0 h1 h4 ha hb O i
 have hsz : src.size (O ++ [[]]) = n := by
  show min (a.map fun c => D.str [c]).length (b.map fun c => D.str [c]).length = n
  simp [la, lb]
 let I : Nat -> Sg -> Ow -> Prop := fun k σ O' => ∃ y3 y4, σ = [some (.str a), some (.str b), some (.own O.length), y3, y4] /\ O' = O ++ [(List.range k).map fun j => D.str [z4i a b j]]
 have cell : ∀ l : List D, (O ++ [l])[O.length]? = some l := fun l => by simp
 have stp : ∀ k σ O', k < n -> I k σ O' -> step (D.tup [.str [a.getD k 0], .str [b.getD k 0]]) σ O' = (if z1g a b k = true then RS.rt .non O' else RS.nx [some (.str a), some (.str b), some (.own O.length), some (.str [a.getD k 0]), some (.str [b.getD k 0])] (O ++ [(List.range (k + 1)).map fun j => D.str [z4i a b j]])) := by
  rintro k σ O' hk ⟨y3, y4, rfl, rfl⟩
  have := zcC (z0q h1 h4 ha hk) (z0q h1 h4 hb hk) (cell ((List.range k).map fun j => D.str [z4i a b j])) (by simp; omega) (some (.str a)) (some (.str b))
  refine this.trans ?_
  have hs : (O ++ [(List.range k).map fun j => D.str [z4i a b j]]).set O.length ((List.range k).map (fun j => D.str [z4i a b j]) ++ [.str [if a.getD k 0 == 45 then b.getD k 0 else a.getD k 0]]) = O ++ [(List.range (k + 1)).map fun j => D.str [z4i a b j]] := by
   rw [List.set_append_right _ _ (Nat.le_refl _), Nat.sub_self, List.range_succ, List.map_append]; rfl
  rw [hs]; rfl
 show za4 O.length (fin (z0i _ (z0i (z4T _ (.two 3 4) zab) (z0B (z86 (dC (.str [])) (z00 (z01 2) z03)))) [some (.str a), some (.str b), none, none, none] O)) = _
 rw [z0j e0]
 have hfor : z4T (z5Z (z00 (z01 0) (z00 (z01 1) z03))) (.two 3 4) zab [some (.str a), some (.str b), some (.own O.length), none, none] (O ++ [[]]) = z0L src step n 0 [some (.str a), some (.str b), some (.own O.length), none, none] (O ++ [[]]) := by
  refine (z65 hi).trans ?_
  show z0L src step (src.size (O ++ [[]])) 0 _ _ = _
  rw [hsz]
 unfold z2t
 by_cases hcl : (List.range n).any (z1g a b) = true
 ·rw [if_pos hcl]
  -- the first place where they z1g
  obtain ⟨j, hj, hcj, hmin⟩ : ∃ j, j < n /\ z1g a b j = true /\ ∀ k, k < j -> z1g a b k = false := by
   obtain ⟨k, hk, hc⟩ := List.any_eq_true.mp hcl
   have : ∃ j, j < n /\ z1g a b j = true := ⟨k, List.mem_range.mp hk, hc⟩
   have key : ∀ m, (∃ j, j < m /\ z1g a b j = true) -> ∃ j, j < m /\ z1g a b j = true /\ ∀ k, k < j -> z1g a b k = false := by
    intro m
    induction m with
    | zero => rintro ⟨j, hj, _⟩; omega
    | succ m ih =>
     rintro ⟨j, hj, hc⟩
     by_cases h : ∃ j, j < m /\ z1g a b j = true
     ·obtain ⟨j', q1, q2, q3⟩ := ih h
      exact ⟨j', by omega, q2, q3⟩
     ·refine ⟨j, hj, hc, fun k hk => ?_⟩
      cases e : z1g a b k with
      | false => rfl
      | true => exact absurd ⟨k, by omega, e⟩ h
   exact key n this
  obtain ⟨σ', O', f', q1, q2, q3⟩ := z83 (l := List.range n) (stop := j) (step := step) hg (by simp; omega) I (fun k x σ O' hk e hI => by
   obtain ⟨rfl, hkn⟩ := z6d e
   refine ⟨_, _, (stp x σ O' hkn hI).trans (if_neg (by rw [hmin x hk]; decide)), _, _, rfl, rfl⟩) j 0 n [some (.str a), some (.str b), some (.own O.length), none, none] (O ++ [[]]) (by omega) (by simp) ⟨none, none, rfl, rfl⟩
  have hr : z0L src step n 0 [some (.str a), some (.str b), some (.own O.length), none, none] (O ++ [[]]) = .rt .non O' := by
   rw [q3]
   refine zft (l := List.range n) hg (a := j) (List.getElem?_range hj) q2 ?_
   exact (stp j σ' O' hj q1).trans (if_pos hcj)
  obtain ⟨y3, y4, rfl, rfl⟩ := q1
  rw [z3V (hfor.trans hr)]
  exact z4k hO [(List.range j).map fun k => D.str [z4i a b k]] rfl
 ·rw [if_neg hcl]
  have hno : ∀ k, k < n -> z1g a b k = false := fun k hk => by
   cases e : z1g a b k with
   | false => rfl
   | true => exact absurd (List.any_eq_true.mpr ⟨k, List.mem_range.mpr hk, e⟩) hcl
  obtain ⟨σ', O', f', q1, q2, q3⟩ := z83 (l := List.range n) (stop := n) (step := step) hg (by simp) I (fun k x σ O' hk e hI => by
   obtain ⟨rfl, hkn⟩ := z6d e
   refine ⟨_, _, (stp x σ O' hkn hI).trans (if_neg (by rw [hno x hkn]; decide)), _, _, rfl, rfl⟩) n 0 n [some (.str a), some (.str b), some (.own O.length), none, none] (O ++ [[]]) (by omega) (by simp) ⟨none, none, rfl, rfl⟩
  obtain ⟨y3, y4, rfl, rfl⟩ := q1
  have hend := zbX (l := List.range n) (step := step) hg f' [some (.str a), some (.str b), some (.own O.length), y3, y4] (O ++ [(List.range n).map fun k => D.str [z4i a b k]])
  rw [List.length_range] at hend
  rw [hend] at q3
  rw [z0j (hfor.trans q3)]
  have hjn : z86 (dC (.str [])) (z00 (z01 2) z03) [some (.str a), some (.str b), some (.own O.length), y3, y4] (O ++ [(List.range n).map fun k => D.str [z4i a b k]]) = .ok (.str (met n a b)) (O ++ [(List.range n).map fun k => D.str [z4i a b k]]) := by
   have hm : (List.range n).map (fun k => D.str [z4i a b k]) = (met n a b).map fun c => D.str [c] := by unfold met; rw [List.map_map]; rfl
   have h2 := zeM (σ := []) (O := O ++ [(List.range n).map fun k => D.str [z4i a b k]]) (O' := O ++ [(List.range n).map fun k => D.str [z4i a b k]]) (tA := fun _ O => .ok [.lst ((met n a b).map fun c => .str [c])] O) (met n a b) (by unfold met; simp; omega) (by unfold met; simp; omega) rfl
   have h3 : lsV (O ++ [(List.range n).map fun k => D.str [z4i a b k]]) (.own O.length) = some ((met n a b).map fun c => D.str [c]) := by rw [<- hm]; exact cell _
   have h4 : lsV (O ++ [(List.range n).map fun k => D.str [z4i a b k]]) (.lst ((met n a b).map fun c => .str [c])) = some ((met n a b).map fun c => D.str [c]) := rfl
   unfold z86 at h2 ⊢
   simp only [dC, z00, z03, z01, R.bnd, List.getElem?_cons_zero, List.getElem?_cons_succ] at h2 ⊢
   simp only [h3]
   simp only [h4] at h2
   exact h2
  rw [z0u hjn]
  exact z4k hO [(List.range n).map fun k => D.str [z4i a b k]] rfl
def z9D (a b : List Nat) : List Nat := (pts a).filter fun p => (pts b).contains p
theorem z72 {n : Nat} (h1 : 1 <= n) (h4 : n <= 4) {a : List Nat} (ha : a ∈ terms n) : pts a = (List.range (2 ^ n)).filter fun p => (pts a).contains p := by
 have := List.all_eq_true.mp zbx a (z0O h1 h4 ha)
 rw [z05 h1 h4 ha] at this
 have := of_decide_eq_true this
 exact this.symm
theorem z9h {n : Nat} (h1 : 1 <= n) (h4 : n <= 4) {a b : List Nat} (ha : a ∈ terms n) (hb : b ∈ terms n) (h : (List.range n).any (z1g a b) = true) : z9D a b = [] := by
 obtain ⟨k, hk, hc⟩ := List.any_eq_true.mp h
 unfold z1g at hc
 simp only [Bool.and_eq_true, bne_iff_ne, ne_eq] at hc
 unfold z9D
 rw [List.filter_eq_nil_iff]
 intro p hp hpb
 have hlt := z4v h1 h4 ha hp
 have m1 := (z2Z h1 h4 ha hlt).mp hp
 have m2 := (z2Z h1 h4 hb hlt).mp (by simpa using hpb)
 unfold z6f at m1 m2
 rw [z05 h1 h4 ha, List.all_eq_true] at m1
 rw [z05 h1 h4 hb, List.all_eq_true] at m2
 have e1 := m1 k hk
 have e2 := m2 k hk
 simp only [Bool.or_eq_true, beq_iff_eq] at e1 e2
 rcases e1 with e1 | e1
 ·exact hc.1 e1
 ·rcases e2 with e2 | e2
  ·exact hc.2.1 e2
  ·refine hc.2.2 ?_
   have hbits : k < (z4W n p).length := by
    have := List.all_eq_true.mp z78 _ (z5M (z0O h1 h4 ha) (p := p) (by rw [z05 h1 h4 ha]; exact hlt))
    simp only [Bool.and_eq_true, beq_iff_eq] at this
    rw [z05 h1 h4 ha] at this
    rw [this.1.1.2]; exact List.mem_range.mp hk
   rw [e1, e2]
theorem zep {n : Nat} (h1 : 1 <= n) (h4 : n <= 4) {a b : List Nat} (ha : a ∈ terms n) (hb : b ∈ terms n) (h : (List.range n).any (z1g a b) ≠ true) : z9D a b = pts (met n a b) := by
 have hm := z36 h1 h4 ha hb
 rw [z72 h1 h4 hm]
 unfold z9D
 rw [z72 h1 h4 ha, List.filter_filter]
 refine List.filter_congr fun p hp => ?_
 have hlt := List.mem_range.mp hp
 rw [Bool.eq_iff_iff, Bool.and_eq_true, List.contains_iff_mem, List.contains_iff_mem, List.contains_iff_mem, z2Z h1 h4 ha hlt, z2Z h1 h4 hb hlt, z2Z h1 h4 hm hlt]
 unfold z6f
 rw [z05 h1 h4 ha, z05 h1 h4 hb, z05 h1 h4 hm, List.all_eq_true, List.all_eq_true, List.all_eq_true]
 constructor
 ·rintro ⟨q1, q2⟩ i hi
  have e1 := q1 i hi
  have e2 := q2 i hi
  rw [z3E (List.mem_range.mp hi)]
  unfold z4i
  split
  ·exact q1 i hi
  ·exact q2 i hi
 ·intro q
  have key : ∀ i, i ∈ List.range n -> (a.getD i 0 == 45 || a.getD i 0 == (z4W n p).getD i 1) = true /\ (b.getD i 0 == 45 || b.getD i 0 == (z4W n p).getD i 1) = true := fun i hi => by
   have e := q i hi
   rw [z3E (List.mem_range.mp hi)] at e
   have hnc : z1g a b i = false := by
    cases hc : z1g a b i with
    | false => rfl
    | true => exact absurd (List.any_eq_true.mpr ⟨i, hi, hc⟩) h
   unfold z1g at hnc
   unfold z4i at e
   by_cases ea : a.getD i 0 = 45
   ·rw [if_pos (by simpa using ea)] at e
    exact ⟨by rw [ea]; rfl, e⟩
   ·rw [if_neg (by simpa using ea)] at e
    refine ⟨e, ?_⟩
    simp only [Bool.or_eq_true, beq_iff_eq] at e ⊢
    by_cases eb : b.getD i 0 = 45
    ·exact .inl eb
    ·right
     have hab : a.getD i 0 = b.getD i 0 := by
      simp only [Bool.and_eq_false_iff, bne_eq_false_iff_eq] at hnc
      rcases hnc with z | z | z
      ·exact absurd z ea
      ·exact absurd z eb
      ·exact z
     rcases e with z | z
     ·exact absurd z ea
     ·rw [<- hab]; exact z
  exact ⟨fun i hi => (key i hi).2, fun i hi => (key i hi).1⟩
theorem z79 : (allT.all fun cs => !(pts cs).isEmpty) = true := by decide +kernel
theorem z8R {n : Nat} (h1 : 1 <= n) (h4 : n <= 4) {a : List Nat} (ha : a ∈ terms n) : (pts a).isEmpty = false := by
 have := List.all_eq_true.mp z79 a (z0O h1 h4 ha)
 simpa using this
theorem zd3 {n : Nat} (h1 : 1 <= n) (h4 : n <= 4) {a : List Nat} : List.replicate n 45 ∈ terms n /\ z0w n a (List.replicate n 45) = true := by
 refine ⟨z3o n _ (by simp) fun c hc => ?_, ?_⟩
 ·rw [List.eq_of_mem_replicate hc]; rfl
 ·unfold z0w
  rw [List.all_eq_true]
  intro i hi
  have hi := List.mem_range.mp hi
  have : (List.replicate n 45).getD i 0 = 45 := by
   rw [List.getD_eq_getElem?_getD, List.getElem?_replicate, if_pos hi]; rfl
  rw [this]; rfl
def z0r (n : Nat) (a b : List Nat) : Bool := (List.range n).any (z1g a b)
def z2j (n : Nat) (l : List (List Nat)) : List (List Nat) := l.filter fun t => !(l.any fun o => decide (t ≠ o) && z0w n t o)
theorem z1J {n : Nat} {a b : List Nat} (h : z0w n a b = true) {k : Nat} (hk : k < n) : b.getD k 0 = 45 \/ b.getD k 0 = a.getD k 0 := by
 unfold z0w at h
 have := List.all_eq_true.mp h k (List.mem_range.mpr hk)
 simpa using this
theorem z3F {n : Nat} {a b : List Nat} (h : ∀ k, k < n -> b.getD k 0 = 45 \/ b.getD k 0 = a.getD k 0) : z0w n a b = true := by
 unfold z0w
 rw [List.all_eq_true]
 intro k hk
 have := h k (List.mem_range.mp hk)
 simpa using this
theorem z5n {n : Nat} {a b c : List Nat} (h1 : z0w n a b = true) (h2 : z0w n b c = true) : z0w n a c = true := z3F fun k hk => by
 rcases z1J h2 hk with z | z
 ·exact .inl z
 ·rcases z1J h1 hk with y | y
  ·exact .inl (z.trans y)
  ·exact .inr (z.trans y)
theorem z8A {n : Nat} {a b : List Nat} (la : a.length = n) (lb : b.length = n) (h : ∀ k, k < n -> a.getD k 0 = b.getD k 0) : a = b := by
 refine List.ext_getElem (by omega) fun i h1 h2 => ?_
 have := h i (by omega)
 rw [z2Q h1, z2Q h2] at this
 exact this
theorem zb3 {n : Nat} {a b : List Nat} (la : a.length = n) (lb : b.length = n) (h1 : z0w n a b = true) (h2 : z0w n b a = true) : a = b := z8A la lb fun k hk => by
 rcases z1J h1 hk with z | z
 ·rcases z1J h2 hk with y | y
  ·rw [y, z]
  ·exact y
 ·exact z.symm
theorem mem_tops {n : Nat} {l : List (List Nat)} {t : List Nat} : t ∈ z2j n l ↔ t ∈ l /\ ∀ o ∈ l, z0w n t o = true -> t = o := by
 unfold z2j
 rw [List.mem_filter]
 refine and_congr_right fun _ => ?_
 rw [Bool.not_eq_true', List.any_eq_false]
 constructor
 ·intro h o ho hl
  have := h o ho
  simp only [Bool.and_eq_true, decide_eq_true_eq, not_and] at this
  exact Classical.byContradiction fun ne => this ne hl
 ·intro h o ho hc
  simp only [Bool.and_eq_true, decide_eq_true_eq] at hc
  exact hc.1 (h o ho hc.2)
def zi2 (n : Nat) (a : List Nat) : Nat := (List.range n).countP fun k => a.getD k 0 == 45
theorem z6z {α : Type} {p q : α -> Bool} : ∀ (l : List α), (∀ x ∈ l, p x = true -> q x = true) -> (∃ x ∈ l, q x = true /\ p x = false) -> l.countP p < l.countP q
 | [], _, h => by obtain ⟨_, h, _⟩ := h; cases h
 | x :: l, h, he => by
  have hm : l.countP p <= l.countP q := List.countP_mono_left fun y hy => h y (List.mem_cons_of_mem _ hy)
  rw [List.countP_cons, List.countP_cons]
  obtain ⟨y, hy, hq, hp⟩ := he
  rcases List.mem_cons.mp hy with rfl | hy
  ·rw [hq, hp]; simp; omega
  ·have ih := z6z l (fun y hy => h y (List.mem_cons_of_mem _ hy)) ⟨y, hy, hq, hp⟩
   have hx := h x List.mem_cons_self
   by_cases hpx : p x = true
   ·rw [if_pos hpx, if_pos (hx hpx)]; omega
   ·rw [if_neg hpx]; omega
theorem zaO {n : Nat} {a b : List Nat} (la : a.length = n) (lb : b.length = n) (h : z0w n a b = true) (ne : a ≠ b) : zi2 n a < zi2 n b := by
 refine z6z _ (fun k hk ha => ?_) ?_
 ·have ha : a.getD k 0 = 45 := by simpa using ha
  rcases z1J h (List.mem_range.mp hk) with z | z
  ·simpa using z
  ·rw [z, ha]; rfl
 ·refine Classical.byContradiction fun hn => ne (z8A la lb fun k hk => ?_)
  rcases z1J h hk with z | z
  ·refine Classical.byContradiction fun hne => hn ⟨k, List.mem_range.mpr hk, by simpa using z, ?_⟩
   rw [z] at hne
   simpa using hne
  ·exact z.symm
theorem zfi (n : Nat) (a : List Nat) : zi2 n a <= n := by
 have := List.countP_le_length (p := fun k => a.getD k 0 == 45) (l := List.range n)
 rw [List.length_range] at this
 exact this
theorem z8p {n : Nat} {l : List (List Nat)} (hl : ∀ t ∈ l, t.length = n) : ∀ (f : Nat) (s : List Nat), s ∈ l -> n <= zi2 n s + f -> ∃ t ∈ z2j n l, z0w n s t = true
 | 0, s, hs, hd => ⟨s, mem_tops.mpr ⟨hs, fun o ho h => Classical.byContradiction fun ne => by
   have := zaO (hl s hs) (hl o ho) h ne
   have := zfi n o
   omega⟩, z6Q n s⟩
 | f + 1, s, hs, hd => by
  by_cases ht : s ∈ z2j n l
  ·exact ⟨s, ht, z6Q n s⟩
  ·rw [mem_tops] at ht
   have : ∃ o ∈ l, z0w n s o = true /\ s ≠ o := Classical.byContradiction fun hn => ht ⟨hs, fun o ho h => Classical.byContradiction fun ne => hn ⟨o, ho, h, ne⟩⟩
   obtain ⟨o, ho, h, ne⟩ := this
   have hlt := zaO (hl s hs) (hl o ho) h ne
   obtain ⟨t, h1, h2⟩ := z8p hl f o ho (by omega)
   exact ⟨t, h1, z5n h h2⟩
theorem zja {n : Nat} {l : List (List Nat)} (hl : ∀ t ∈ l, t.length = n) {s : List Nat} (hs : s ∈ l) : ∃ t ∈ z2j n l, z0w n s t = true := z8p hl n s hs (by omega)
theorem zbd {n : Nat} {M S : List (List Nat)} (hM : ∀ m ∈ M, m ∈ S) (hS : ∀ t ∈ S, t.length = n) (ho : ∀ s ∈ S, ∃ m ∈ M, z0w n s m = true) (t : List Nat) : t ∈ z2j n M ↔ t ∈ z2j n S := by
 rw [mem_tops, mem_tops]
 constructor
 ·rintro ⟨h1, h2⟩
  refine ⟨hM t h1, fun o hoS hl => ?_⟩
  obtain ⟨m, hm, hom⟩ := ho o hoS
  have e := h2 m hm (z5n hl hom)
  subst e
  exact zb3 (hS t (hM t h1)) (hS o hoS) hl hom
 ·rintro ⟨h1, h2⟩
  obtain ⟨m, hm, hl⟩ := ho t h1
  have e := h2 m (hM m hm) hl
  subst e
  exact ⟨hm, fun o hoM hlo => h2 o (hM o hoM) hlo⟩
def ex (c : Nat) : Nat := if c == 48 then 49 else 48
def pick (n : Nat) (c : List Nat) (k : Nat) : List Nat := (List.replicate n 45).set k (ex (c.getD k 0))
def z4E (n : Nat) (c : List Nat) : List (List Nat) := ((List.range n).filter fun k => c.getD k 0 != 45).map (pick n c)
def Sof (n : Nat) (cl : List (List Nat)) : List (List Nat) := (terms n).filter fun t => cl.all fun c => z0r n t c
def z7x (n : Nat) (wide : List (List Nat)) (c : List Nat) : List (List Nat) := wide.flatMap fun w => ((z4E n c).filter fun p => !z0r n w p).map (met n w)
theorem zh0 (c : Nat) : sgn (ex c) = true := by unfold ex; split <;> rfl
theorem ziw (c : Nat) : ex c ≠ 45 := by unfold ex; split <;> decide
theorem z6Y {n : Nat} {c : List Nat} {k j : Nat} (hj : j < n) : (pick n c k).getD j 0 = if k = j then ex (c.getD k 0) else 45 := by
 unfold pick
 rw [List.getD_eq_getElem?_getD, List.getElem?_set]
 by_cases h : k = j
 ·rw [if_pos h, if_pos h, if_pos (by rw [List.length_replicate]; omega)]; rfl
 ·rw [if_neg h, if_neg h, List.getElem?_replicate, if_pos hj]; rfl
theorem z3M {n : Nat} {c : List Nat} {k : Nat} : pick n c k ∈ terms n := by
 refine z3o n _ (by unfold pick; simp) fun x hx => ?_
 unfold pick at hx
 rcases List.mem_or_eq_of_mem_set hx with hx | rfl
 ·rw [List.eq_of_mem_replicate hx]; rfl
 ·exact zh0 _
theorem z5f {n : Nat} {a b c : List Nat} (h : z0w n a b = true) (hm : z0r n b c = true) : z0r n a c = true := by
 unfold z0r at hm ⊢
 obtain ⟨k, hk, hc⟩ := List.any_eq_true.mp hm
 refine List.any_eq_true.mpr ⟨k, hk, ?_⟩
 unfold z1g at hc ⊢
 simp only [Bool.and_eq_true, bne_iff_ne, ne_eq] at hc ⊢
 rcases z1J h (List.mem_range.mp hk) with z | z
 ·exact absurd z hc.1
 ·rw [<- z]; exact hc
theorem zbL {n : Nat} {a b : List Nat} : z0w n (met n a b) a = true := z3F fun k hk => by
 rw [z3E hk]
 unfold z4i
 split
 ·rename_i h; left; simpa using h
 ·right; rfl
theorem za9 {n : Nat} {a b : List Nat} (h : z0r n a b = false) : z0w n (met n a b) b = true := z3F fun k hk => by
 rw [z3E hk]
 unfold z4i
 have hc : z1g a b k = false := by
  unfold z0r at h
  rw [List.any_eq_false] at h
  simpa using h k (List.mem_range.mpr hk)
 unfold z1g at hc
 simp only [Bool.and_eq_false_iff, bne_eq_false_iff_eq] at hc
 split
 ·right; rfl
 ·rename_i hn
  rcases hc with z | z | z
  ·rw [z] at hn; exact absurd rfl hn
  ·exact .inl z
  ·exact .inr z.symm
theorem z9j {n : Nat} {c : List Nat} {k : Nat} (hk : k < n) (hs : c.getD k 0 ≠ 45) : z0r n (pick n c k) c = true := by
 refine List.any_eq_true.mpr ⟨k, List.mem_range.mpr hk, ?_⟩
 unfold z1g
 rw [z6Y hk, if_pos rfl]
 simp only [Bool.and_eq_true, bne_iff_ne, ne_eq]
 refine ⟨ziw _, hs, ?_⟩
 unfold ex
 split
 ·rename_i h
  have : c.getD k 0 = 48 := by simpa using h
  rw [this]; decide
 ·rename_i h
  intro e
  rw [<- e] at h
  exact h rfl
theorem mem_Sof {n : Nat} {cl : List (List Nat)} {t : List Nat} : t ∈ Sof n cl ↔ t ∈ terms n /\ ∀ c ∈ cl, z0r n t c = true := by
 unfold Sof
 rw [List.mem_filter, List.all_eq_true]
theorem mem_mets {n : Nat} {wide : List (List Nat)} {c t : List Nat} : t ∈ z7x n wide c ↔ ∃ w ∈ wide, ∃ k, k < n /\ c.getD k 0 ≠ 45 /\ z0r n w (pick n c k) = false /\ t = met n w (pick n c k) := by
 unfold z7x z4E
 rw [List.mem_flatMap]
 refine exists_congr fun w => and_congr_right fun _ => ?_
 rw [List.mem_map]
 constructor
 ·rintro ⟨p, hp, rfl⟩
  rw [List.mem_filter, List.mem_map] at hp
  obtain ⟨⟨k, hk, rfl⟩, hm⟩ := hp
  rw [List.mem_filter, List.mem_range] at hk
  exact ⟨k, hk.1, by simpa using hk.2, by simpa using hm, rfl⟩
 ·rintro ⟨k, hk, hs, hm, rfl⟩
  exact ⟨pick n c k, List.mem_filter.mpr ⟨List.mem_map.mpr ⟨k, List.mem_filter.mpr ⟨List.mem_range.mpr hk, by simpa using hs⟩, rfl⟩, by simpa using hm⟩, rfl⟩
section
variable {n : Nat} (h1 : 1 <= n) (h4 : n <= 4)
include h1 h4
theorem zbA {cl : List (List Nat)} {c : List Nat} {t : List Nat} (h : t ∈ z7x n (z2j n (Sof n cl)) c) : t ∈ Sof n (cl ++ [c]) := by
 obtain ⟨w, hw, k, hk, hs, hm, rfl⟩ := mem_mets.mp h
 obtain ⟨hwt, hwc⟩ := mem_Sof.mp (mem_tops.mp hw).1
 refine mem_Sof.mpr ⟨z36 h1 h4 hwt z3M, fun c' hc' => ?_⟩
 rcases List.mem_append.mp hc' with hc' | hc'
 ·exact z5f zbL (hwc c' hc')
 ·have : c' = c := by simpa using hc'
  subst this
  exact z5f (za9 hm) (z9j hk hs)
theorem zaU {cl : List (List Nat)} {c : List Nat} (hc : c ∈ terms n) {s : List Nat} (h : s ∈ Sof n (cl ++ [c])) : ∃ m ∈ z7x n (z2j n (Sof n cl)) c, z0w n s m = true := by
 obtain ⟨hst, hsc⟩ := mem_Sof.mp h
 have hs0 : s ∈ Sof n cl := mem_Sof.mpr ⟨hst, fun c' hc' => hsc c' (List.mem_append_left _ hc')⟩
 obtain ⟨w, hw, hsw⟩ := zja (fun t ht => z05 h1 h4 (mem_Sof.mp ht).1) hs0
 have hsm := hsc c (by simp)
 unfold z0r at hsm
 obtain ⟨k, hk, hcl⟩ := List.any_eq_true.mp hsm
 have hk := List.mem_range.mp hk
 unfold z1g at hcl
 simp only [Bool.and_eq_true, bne_iff_ne, ne_eq] at hcl
 obtain ⟨a1, a2, a3⟩ := hcl
 have sk : s.getD k 0 = ex (c.getD k 0) := by
  have s1 := z0q h1 h4 hst hk
  have s2 := z0q h1 h4 hc hk
  unfold sgn at s1 s2
  simp only [Bool.or_eq_true, beq_iff_eq] at s1 s2
  unfold ex
  rcases s2 with (s2 | s2) | s2
  ·exact absurd s2 a2
  ·rw [s2] at a3 ⊢
   rcases s1 with (s1 | s1) | s1
   ·exact absurd s1 a1
   ·exact absurd s1 a3
   ·rw [s1]; rfl
  ·rw [s2] at a3 ⊢
   rcases s1 with (s1 | s1) | s1
   ·exact absurd s1 a1
   ·rw [s1]; rfl
   ·exact absurd s1 a3
 have hsp : z0w n s (pick n c k) = true := z3F fun j hj => by
  rw [z6Y hj]
  by_cases e : k = j
  ·rw [if_pos e]; subst e; right; exact sk.symm
  ·rw [if_neg e]; left; rfl
 have hnm : z0r n w (pick n c k) = false := by
  unfold z0r
  rw [List.any_eq_false]
  intro j hj hcj
  have hj := List.mem_range.mp hj
  unfold z1g at hcj
  simp only [Bool.and_eq_true, bne_iff_ne, ne_eq] at hcj
  obtain ⟨b1, b2, b3⟩ := hcj
  rcases z1J hsw hj with z | z
  ·exact b1 z
  ·rcases z1J hsp hj with y | y
   ·exact b2 y
   ·exact b3 (z.trans y.symm)
 refine ⟨_, mem_mets.mpr ⟨w, hw, k, hk, a2, hnm, rfl⟩, z3F fun j hj => ?_⟩
 rw [z3E hj]
 unfold z4i
 split
 ·exact z1J hsp hj
 ·exact z1J hsw hj
theorem z5H : (terms n).Pairwise (· < ·) := by
 rcases zd4 h1 h4 with rfl | rfl | rfl | rfl <;> decide +kernel
theorem z9P {cl : List (List Nat)} {c : List Nat} (hc : c ∈ terms n) : z2j n (z1p (z7x n (z2j n (Sof n cl)) c)) = z2j n (Sof n (cl ++ [c])) := by
 refine z2K ((z1D _).filter _) (((z5H h1 h4).filter _).filter _) ?_
 refine zbd (fun m hm => zbA h1 h4 ((z0M _).mp hm)) (fun t ht => z05 h1 h4 (mem_Sof.mp ht).1) fun s hs => ?_
 obtain ⟨m, hm, hl⟩ := zaU h1 h4 hc hs
 exact ⟨m, (z0M _).mpr hm, hl⟩
theorem z7F {M : List (List Nat)} {q : List Nat -> Bool} (h : ∀ x ∈ M, x ∈ terms n /\ q x = true) : (z1p M).length <= ((terms n).filter q).length := by
 have e : z1p M = (terms n).filter fun t => M.contains t := z2K (z1D _) ((z5H h1 h4).filter _) fun x => by
  rw [z0M, List.mem_filter, List.contains_iff_mem]
  exact ⟨fun hx => ⟨(h x hx).1, hx⟩, fun hx => hx.2⟩
 rw [e, <- List.countP_eq_length_filter, <- List.countP_eq_length_filter]
 exact List.countP_mono_left fun x _ hx => (h x (List.contains_iff_mem.mp hx)).2
end
theorem zdT : ((terms 4).all fun c => decide (((terms 4).filter fun t => z0r 4 t c).length < 64) || (terms 4).all fun c' => c' == c || decide (((terms 4).filter fun t => z0r 4 t c' && z0r 4 t c).length < 64)) = true := by decide +kernel
theorem zeb : ([1, 2, 3, 4].all fun n => decide (z2j n (terms n) = [List.replicate n 45])) = true := by decide +kernel
theorem z8L (x : List Nat) : ∀ l : List (List Nat), (z7C x l).length <= l.length + 1
 | [] => by simp [z7C]
 | y :: r => by
  unfold z7C
  split
  ·simp
  ·split
   ·simp
   ·have := z8L x r; simp; omega
theorem z4l (ss : List (List Nat)) : (z1p ss).length <= ss.length := by
 have : ∀ (l acc : List (List Nat)), (l.foldl (fun l x => z7C x l) acc).length <= acc.length + l.length := fun l => by
  induction l with
  | nil => intro acc; simp
  | cons a l ih =>
   intro acc
   rw [List.foldl_cons]
   have h1 := ih (z7C a acc)
   have h2 := z8L a acc
   rw [List.length_cons]; omega
 have h := this ss []
 simpa [z1p] using h
theorem z8N {n : Nat} (h1 : 1 <= n) (h4 : n <= 4) : z2j n (Sof n []) = [List.replicate n 45] := by
 have e : Sof n [] = terms n := by unfold Sof; simp
 rw [e]
 have := List.all_eq_true.mp zeb n (by rcases zd4 h1 h4 with rfl | rfl | rfl | rfl <;> simp)
 simpa using this
theorem z6N (n : Nat) (c : List Nat) : (z4E n c).length <= n := by
 unfold z4E
 rw [List.length_map]
 have := List.length_filter_le (fun k => c.getD k 0 != 45) (List.range n)
 rwa [List.length_range] at this
theorem zcv {n : Nat} (h1 : 1 <= n) (h4 : n <= 4) {cl : List (List Nat)} {c : List Nat} (hc : c ∈ terms n) (hcl : ∀ c' ∈ cl, c' ∈ terms n) (hp : (cl ++ [c]).Pairwise (· < ·)) : (z1p (z7x n (z2j n (Sof n cl)) c)).length < 64 := by
 have hin : ∀ t ∈ z7x n (z2j n (Sof n cl)) c, t ∈ terms n /\ ∀ c' ∈ cl ++ [c], z0r n t c' = true := fun t ht => mem_Sof.mp (zbA h1 h4 ht)
 by_cases hn : n <= 3
 ·have h := z7F h1 h4 (q := fun _ => true) fun x hx => ⟨(hin x hx).1, rfl⟩
  have hl : ((terms n).filter fun _ => true).length < 64 := by
   have : n = 1 \/ n = 2 \/ n = 3 := by omega
   rcases this with rfl | rfl | rfl <;> decide
  omega
 ·have : n = 4 := by omega
  subst this
  have hq := List.all_eq_true.mp zdT c hc
  rw [Bool.or_eq_true, decide_eq_true_eq] at hq
  rcases hq with hq | hq
  ·exact Nat.lt_of_le_of_lt (z7F h1 h4 (q := fun t => z0r 4 t c) fun x hx => ⟨(hin x hx).1, (hin x hx).2 c (by simp)⟩) hq
  ·rcases List.eq_nil_or_concat cl with rfl | ⟨l, c', rfl⟩
   ·have hl : (z7x 4 (z2j 4 (Sof 4 [])) c).length <= 4 := by
     rw [z8N h1 h4]
     unfold z7x
     rw [List.flatMap_cons, List.flatMap_nil, List.append_nil, List.length_map]
     exact Nat.le_trans (List.length_filter_le _ _) (z6N 4 c)
    have := z4l (z7x 4 (z2j 4 (Sof 4 [])) c)
    omega
   ·have hne : c' < c := by
     rw [List.pairwise_append] at hp
     exact hp.2.2 c' (by simp) c (by simp)
    have := List.all_eq_true.mp hq c' (hcl c' (by simp))
    rw [Bool.or_eq_true, decide_eq_true_eq, beq_iff_eq] at this
    rcases this with e | e
    ·subst e; exact absurd hne (List.lt_irrefl _)
    ·refine Nat.lt_of_le_of_lt (z7F h1 h4 (q := fun t => z0r 4 t c' && z0r 4 t c) fun x hx => ⟨(hin x hx).1, ?_⟩) e
     rw [(hin x hx).2 c (by simp), (hin x hx).2 c' (by simp)]; rfl
theorem z3r {α : Type} {src : Src} {step : D -> Ow -> List D -> R (List D)} {O : Ow} {inj : α -> D} {g : α -> List D} {l : List α} {acc : List D} (hg : ∀ i, src.get O i = (l.map inj)[i]?) (hs : ∀ (i : Nat) a, l[i]? = some a -> step (inj a) O (acc ++ (l.take i).flatMap g) = .ok (acc ++ (l.take (i + 1)).flatMap g) O) :
  ∀ (f i : Nat), i <= l.length -> l.length <= i + f -> z0m src step f i O (acc ++ (l.take i).flatMap g) = .ok (acc ++ l.flatMap g) O
 | 0, i, h1, h2 => by
  have : i = l.length := by omega
  subst this
  have e : src.get O l.length = none := by rw [hg]; simp
  unfold z0m
  rw [e, List.take_length]
 | f + 1, i, h1, h2 => by
  by_cases hi : i = l.length
  ·subst hi
   have e : src.get O l.length = none := by rw [hg]; simp
   unfold z0m
   rw [e, List.take_length]
  ·have hlt : i < l.length := by omega
   have e : src.get O i = some (inj l[i]) := by rw [hg, List.getElem?_map, List.getElem?_eq_getElem hlt]; rfl
   unfold z0m
   rw [e]
   show ((step (inj l[i]) O (acc ++ (l.take i).flatMap g)).bnd _) = _
   rw [hs i l[i] (List.getElem?_eq_getElem hlt)]
   exact z3r hg hs f (i + 1) (by omega) (by omega)
theorem z4y {α β : Type} {g : α -> List β} {l : List α} {i : Nat} {a : α} (h : l[i]? = some a) : (l.take (i + 1)).flatMap g = (l.take i).flatMap g ++ g a := by
 rw [List.take_succ, h, List.flatMap_append]; simp
theorem z6c {α β : Type} {g : α -> List β} (l : List α) (i : Nat) : ((l.take i).flatMap g).length <= (l.flatMap g).length := by
 conv => rhs; rw [<- List.take_append_drop i l]
 rw [List.flatMap_append, List.length_append]; omega
theorem z32 {α β : Type} (f : α -> β) : ∀ l : List α, (l.flatMap fun b => [f b]) = l.map f
 | [] => rfl
 | x :: l => by rw [List.flatMap_cons, z32 f l]; rfl
theorem zid {α β : Type} {ext : Nat} {it0 it1 : DI} {i j : Nat} {te : DE} {σ : Sg} {O O0 : Ow} {src : Src} {l : List α} {inj : α -> D} {m : α -> List β} {inj2 : β -> D} {e : α -> β -> D} {τ : α -> Sg} {τ2 : α -> β -> Sg} {o : Bool}
  (hi : it0 σ O0 = .ok src O) (hg : ∀ i, src.get O i = (l.map inj)[i]?) (hsz : src.size O = l.length) (hlen : (l.flatMap fun a => (m a).map (e a)).length < 50000)
  (hτ : ∀ a, (clr (clr (σ ++ List.replicate ext none) [i, j]) [i, j]).set i (some (inj a)) = τ a) (hτ2 : ∀ a b, (clr (τ a) [j]).set j (some (inj2 b)) = τ2 a b)
  (h1 : ∀ a ∈ l, it1 (τ a) O = .ok (.val ((m a).map inj2)) O) (he : ∀ a ∈ l, ∀ b ∈ m a, te (τ2 a b) O = .ok (e a b) O) :
  z0n o ext it0 (.one i) [] [⟨it1, .one j, []⟩] te σ O0 = z7q o (.ok (l.flatMap fun a => (m a).map (e a)) O) := by
 unfold z0n z2f
 rw [hi]
 show z7q o (noX (z0m src _ (src.size O) 0 O [])) = _
 have w := z3r (O := O) (src := src) (step := z4J ⟨it0, .one i, []⟩ [⟨it1, .one j, []⟩] te (clr (σ ++ List.replicate ext none) (z07 [⟨it0, .one i, []⟩, ⟨it1, .one j, []⟩]))) (g := fun a => (m a).map (e a)) (acc := []) hg (fun k a ha => by
  have hm := List.mem_of_getElem? ha
  show z1Y [⟨it1, .one j, []⟩] te ((clr (clr (σ ++ List.replicate ext none) [i, j]) [i, j]).set i (some (inj a))) O _ = _
  rw [hτ]
  unfold z1Y
  show ((it1 (τ a) O).bnd _) = _
  rw [h1 a hm]
  show z0m (.val ((m a).map inj2)) _ ((m a).map inj2).length 0 O _ = _
  have hle := z6c (g := fun a => (m a).map (e a)) l (k + 1)
  rw [z4y ha] at hle ⊢
  rw [List.length_append] at hle
  have w2 := z3r (O := O) (src := .val ((m a).map inj2)) (step := fun d O2 acc => match Tg.put (.one j) d (clr (τ a) (z07 [⟨it1, .one j, []⟩])) with | some σ1 => (z55 [] σ1 O2).bnd fun b O3 => if b = true then z1Y [] te σ1 O3 acc else .ok acc O3 | none => .bad) (g := fun b => [e a b]) (l := m a) (inj := inj2) (acc := [] ++ (l.take k).flatMap fun a => (m a).map (e a)) (fun _ => rfl) (fun q b hb => by
   have hbm := List.mem_of_getElem? hb
   show z1Y [] te ((clr (τ a) [j]).set j (some (inj2 b))) O _ = _
   rw [hτ2]
   unfold z1Y
   rw [he a hm b hbm]
   show (if _ < 100000 then _ else _) = _
   have hq : ((m a).take q).length <= ((m a).map (e a)).length := by rw [List.length_map]; exact List.length_take_le' q (m a)
   have hq2 : (((m a).take q).flatMap fun b => [e a b]).length = ((m a).take q).length := by
    rw [z32, List.length_map]
   rw [if_pos (by rw [List.nil_append, List.length_append, hq2]; omega), z4y hb]
   simp) ((m a).map inj2).length 0 (Nat.zero_le _) (by simp)
  rw [List.take_zero, List.flatMap_nil, List.append_nil, z32] at w2
  refine Eq.trans (show _ = _ from w2) ?_
  rw [List.nil_append]; rfl) l.length 0 (Nat.zero_le _) (by simp)
 rw [List.take_zero, List.flatMap_nil, List.append_nil, List.nil_append] at w
 rw [hsz, w]; rfl
theorem zfG {α : Type} {ext : Nat} {it0 : DI} {i : Nat} {t : DT} {te : DE} {σ : Sg} {O O0 : Ow} {src : Src} {l : List α} {inj : α -> D} {p : α -> Bool} {e : α -> List Nat} {τ : α -> Sg} (hi : it0 σ O0 = .ok src O) (hg : ∀ i, src.get O i = (l.map inj)[i]?) (hsz : src.size O = l.length) (hl : l.length < 1000)
  (hτ : ∀ a, (clr (clr (σ ++ List.replicate ext none) [i]) [i]).set i (some (inj a)) = τ a) (hp : ∀ a ∈ l, t (τ a) O = .ok (p a) O) (he : ∀ a ∈ l, p a = true -> te (τ a) O = .ok (.str (e a)) O) (hf : (z1p ((l.filter p).map e)).length < 64) :
  z7n false ext it0 (.one i) [t] [] te σ O0 = .ok (.lst ((z1p ((l.filter p).map e)).map .str)) O := by
 unfold z7n z1C
 rw [hi]
 show zji false (noX (z0m src _ (src.size O) 0 O [])) = _
 have w := z3r (O := O) (src := src) (step := z2l ⟨it0, .one i, [t]⟩ [] (emS te) (clr (σ ++ List.replicate ext none) (z07 [⟨it0, .one i, [t]⟩]))) (g := fun a => if p a = true then [D.str (e a)] else []) (acc := []) hg (fun k a ha => by
  have hm := List.mem_of_getElem? ha
  show ((z55 [t] ((clr (clr (σ ++ List.replicate ext none) [i]) [i]).set i (some (inj a))) O).bnd fun b O3 => if b = true then z21 [] (emS te) ((clr (clr (σ ++ List.replicate ext none) [i]) [i]).set i (some (inj a))) O3 ([] ++ (l.take k).flatMap fun a => if p a = true then [D.str (e a)] else []) else R.ok ([] ++ (l.take k).flatMap fun a => if p a = true then [D.str (e a)] else []) O3) = _
  rw [hτ, z5F (hp a hm), z4y ha]
  show (if p a = true then z21 [] (emS te) (τ a) O _ else R.ok _ O) = _
  by_cases hpa : p a = true
  ·rw [if_pos hpa, if_pos hpa]
   show ((te (τ a) O).bnd _) = _
   rw [he a hm hpa]
   show (if _ < 1000 then _ else _) = _
   have hle := List.length_take_le' k l
   rw [z1L, List.nil_append, List.length_map, if_pos (Nat.lt_of_le_of_lt (Nat.le_trans (List.length_filter_le _ _) hle) hl), List.nil_append]
  ·rw [if_neg hpa, if_neg hpa, List.append_nil]) l.length 0 (Nat.zero_le _) (by simp)
 rw [List.take_zero, List.flatMap_nil, List.append_nil, List.nil_append, z1L] at w
 rw [hsz, w]
 show (match z8Y ((l.filter p).map fun a => D.str (e a)) with | some ss => if (z1p ss).length < 64 then _ else _ | none => _) = _
 have e1 : ((l.filter p).map fun a => D.str (e a)) = ((l.filter p).map e).map D.str := by rw [List.map_map]; rfl
 rw [e1, DL.strL_map]
 show (if (z1p ((l.filter p).map e)).length < 64 then _ else _) = _
 rw [if_pos hf]; rfl
theorem zgu (O : Ow) (ds : List D) (σ : Sg) (hl : ds.length < 100000) (h0 : z01 0 σ O = .ok (.tup ds) O) : zg0 (z01 0) (z7w (dC (.int 1))) z7d σ O = .ok (.tup (ds.drop 1)) O := by
 show ((z01 0 σ O).bnd _) = _
 rw [h0]
 show (if HT.sIx ds.length 0 (some 1) = 0 /\ HT.sIx ds.length ds.length none = ds.length then R.ok (D.tup ds) O else R.ok (D.tup (zbE ds (some 1) none)) O) = _
 have e1 : HT.sIx ds.length 0 (some 1) = min 1 ds.length := HT.sIx_nat ds.length 0 1
 cases ds with
 | nil => rfl
 | cons d r =>
  have : ¬ (HT.sIx (d :: r).length 0 (some 1) = 0 /\ HT.sIx (d :: r).length (d :: r).length none = (d :: r).length) := by
   rw [e1]; simp
  rw [if_neg this]
  unfold zbE
  rw [e1, HT.sIx_none]
  simp
theorem zat {l : List (List Nat)} (hl : l.length < 10000) (hp : l.Pairwise (· < ·)) (O : Ow) : z2b [.tup (l.map D.str)] O = .ok (.bl true) O := by
 have hi : z5Z (z00 (z01 0) (z00 (zg0 (z01 0) (z7w (dC (.int 1))) z7d) z03)) [some (.tup (l.map D.str))] O = .ok (.zip (.val (l.map D.str)) (.val ((l.map D.str).drop 1))) O := by
  show ((z00 (z01 0) (z00 (zg0 (z01 0) (z7w (dC (.int 1))) z7d) z03) _ O).bnd _) = _
  rw [z0e rfl (zgu O (l.map D.str) [some (.tup (l.map D.str))] (by simp; omega) rfl)]
  rfl
 have hc := z37 (o := false) (ext := 2) (g := .two 1 2) (ts := []) (te := dOp zhq (z01 1) (z01 2)) (l := List.range (l.length - 1)) (inj := fun k => D.tup [.str (l.getD k []), .str (l.getD (k + 1) [])]) (p := fun _ => true) (e := fun k => D.bl (decide (l.getD k [] < l.getD (k + 1) [])))
  (τ := fun k => [some (.tup (l.map D.str)), some (.str (l.getD k [])), some (.str (l.getD (k + 1) []))]) hi (fun i => by
   rw [z1E]
   show (match (l.map D.str)[i]?, ((l.map D.str).drop 1)[i]? with | some x, some y => some (D.tup [x, y]) | _, _ => none) = _
   rw [List.getElem?_drop, List.getElem?_map, List.getElem?_map]
   by_cases hi : i < l.length - 1
   ·rw [if_pos hi, List.getElem?_eq_getElem (by omega), show 1 + i = i + 1 from by omega, List.getElem?_eq_getElem (by omega)]
    show some (D.tup [.str l[i], .str l[i + 1]]) = _
    rw [List.getD_eq_getElem?_getD, List.getD_eq_getElem?_getD, List.getElem?_eq_getElem (by omega), List.getElem?_eq_getElem (by omega)]; rfl
   ·rw [if_neg hi, show l[1 + i]? = none from List.getElem?_eq_none_iff.mpr (by omega)]
    cases l[i]? <;> rfl) (by
   show min (l.map D.str).length ((l.map D.str).drop 1).length = _
   simp) (by rw [List.length_range]; omega) (fun k _ => rfl) (fun k _ => rfl) (fun k hk _ => rfl)
 rw [z6W] at hc
 show fin (z0B _ [some (.tup (l.map D.str))] O) = _
 rw [z0u ((z13 (z0b hc)).trans (z3y O _ _))]
 show R.ok (D.bl _) O = _
 congr 2
 rw [List.all_eq_true]
 intro k hk
 have hk := List.mem_range.mp hk
 have := List.pairwise_iff_getElem.mp hp k (k + 1) (by omega) (by omega) (by omega)
 rw [List.getD_eq_getElem?_getD, List.getD_eq_getElem?_getD, List.getElem?_eq_getElem (by omega), List.getElem?_eq_getElem (by omega)]
 exact decide_eq_true this
theorem z9v (O : Ow) : (allT.map fun cs => z0p [.int (cs.length : Nat), .str cs] O) = allT.map fun _ => R.ok (.bl true) O := by kernel_rfl
theorem zcD {n : Nat} (h1 : 1 <= n) (h4 : n <= 4) {cs : List Nat} (h : cs ∈ terms n) (O : Ow) : z0p [.int n, .str cs] O = .ok (.bl true) O := by
 have := List.map_inj_left.mp (z9v O) cs (z0O h1 h4 h)
 rw [z05 h1 h4 h] at this
 exact this
theorem z9x {n : Nat} (h1 : 1 <= n) (h4 : n <= 4) {l : List (List Nat)} (hl : l.length < 10000) (hp : l.Pairwise (· < ·)) (ht : ∀ cs ∈ l, cs ∈ terms n) (O : Ow) : z0N [.int n, .tup (l.map D.str)] O = .ok (.bl true) O := by
 have hc := zcx (o := false) (ext := 1) (i := 2) (it0 := dIt (z01 1)) (σ := [some (.int n), some (.tup (l.map D.str))]) (O0 := O) (O := O) (l := l) (inj := D.str) (te := dFn 2 z0p (z00 (z01 0) (z00 (z01 2) z03))) (e := fun _ => D.bl true) (τ := fun cs => [some (.int n), some (.tup (l.map D.str)), some (.str cs)]) rfl (by omega) (fun _ => rfl) (fun cs hcs => (z7m (z0e rfl rfl) rfl).trans (zcD h1 h4 (ht cs hcs) O))
 have ha := (z13 (z0b hc)).trans (z3y O l fun _ => true)
 have e1 : sIf (z1o (z1s (z2P "tuple" (z01 1)))) (z0B (dC (.bl false))) z1l [some (.int n), some (.tup (l.map D.str))] O = .nx [some (.int n), some (.tup (l.map D.str))] O := rfl
 show fin (z0i (sIf (z1o (z1s (z2P "tuple" (z01 1)))) (z0B (dC (.bl false))) z1l) (z0B (z8B _ _)) [some (.int n), some (.tup (l.map D.str))] O) = _
 rw [z0j e1]
 unfold z0B z8B
 rw [ha]
 have hall : (l.all fun _ => true) = true := List.all_eq_true.mpr fun _ _ => rfl
 rw [hall]
 simp only [z0i, z0W, sIf, z0B, z1e, z1l, z01, dC, z00, z03, dFn, z0c, dOp, z0z, z1s, z1o, zdm, R.bnd, R.bnS, fin, List.getElem?_cons_zero, List.getElem?_cons_succ, List.set_cons_zero, List.set_cons_succ, List.length_cons, List.length_nil, Nat.zero_add, Nat.reduceAdd, Nat.reduceLeDiff, Nat.reduceLT, if_true, if_false, Bool.not_true, Bool.not_false, Bool.false_eq_true, ite_true, ite_false, zat hl hp O]
def allW : List (Nat × Nat × Nat) := [1, 2, 3, 4].flatMap fun n => (List.range n).flatMap fun k => [48, 49].map fun s => (n, k, s)
theorem zc1 (O : Ow) : (allW.map fun q => z1I [.str (List.replicate q.1 45), .int (q.2.1 : Nat), .str [q.2.2]] O) = allW.map fun q => R.ok (.str ((List.replicate q.1 45).set q.2.1 q.2.2)) O := by kernel_rfl
theorem zf2 {n k s : Nat} (h1 : 1 <= n) (h4 : n <= 4) (hk : k < n) (hs : s = 48 \/ s = 49) (O : Ow) : z1I [.str (List.replicate n 45), .int (k : Nat), .str [s]] O = .ok (.str ((List.replicate n 45).set k s)) O := by
 have hm : (n, k, s) ∈ allW := by
  unfold allW
  rw [List.mem_flatMap]
  refine ⟨n, by rcases zd4 h1 h4 with rfl | rfl | rfl | rfl <;> simp, ?_⟩
  rw [List.mem_flatMap]
  refine ⟨k, List.mem_range.mpr hk, ?_⟩
  rcases hs with rfl | rfl <;> simp
 exact List.map_inj_left.mp (zc1 O) (n, k, s) hm
theorem ziQ (O : Ow) {c : Nat} (h : c = 48 \/ c = 49) : z2c [.str [c]] O = .ok (.str [ex c]) O := by rcases h with rfl | rfl <;> kernel_rfl
theorem ziJ (c : Nat) : ex c = 48 \/ ex c = 49 := by unfold ex; split <;> simp
theorem z5j (cs : List Nat) : z53 (cs.map fun c => D.str [c]) = (List.range cs.length).map fun k => D.tup [.int (k : Nat), .str [cs.getD k 0]] := by
 rw [zcr, List.length_map]
 refine List.map_congr_left fun k hk => ?_
 have hk := List.mem_range.mp hk
 rw [z31 (by simpa using hk), List.getElem_map, z2Q hk]
theorem zbS {n : Nat} (h1 : 1 <= n) (h4 : n <= 4) {c : List Nat} (hc : c ∈ terms n) (O : Ow) : z26 [.str c] O = .ok (.lst ((z4E n c).map .str)) O := by
 have hl := z05 h1 h4 hc
 have hz := z4P h1 h4 hc
 show fin (z3K [some (.str c), none] O) = _
 unfold z3K
 refine z1X (z0X (x := .str (List.replicate n 45)) (O1 := O) (z0F (y := .int (n : Nat)) rfl (z17 (z0b rfl) ((z8x (by omega)).trans (by rw [hl]))) (zah (by omega))) (z0u ?_))
 refine (z37 (O := O) (g := .two 2 3) (src := .val (z53 (c.map fun c => D.str [c]))) (l := List.range n) (inj := fun k => D.tup [.int (k : Nat), .str [c.getD k 0]]) (p := fun k => c.getD k 0 != 45) (e := fun (k : Nat) => D.str (pick n c k)) (τ := fun (k : Nat) => [some (.str c), some (.str (List.replicate n 45)), some (.int (k : Int)), some (.str [c.getD k 0])]) ?_ ?_ ?_ ?_ ?_ ?_ ?_).trans ?_
 ·show (match zkD (.str c) with | some (.val ds) => R.ok (Src.val (z53 ds)) O | _ => R.bad) = _
  rw [hz]
 ·intro i; rw [z5j, hl]; rfl
 ·rw [z5j, hl]; simp [Src.size]
 ·simp; omega
 ·intro _ _; rfl
 ·intro k hk
  have hk := List.mem_range.mp hk
  exact z5F (z0k (z0F rfl rfl (zaF O (z0q h1 h4 hc hk))))
 ·intro k hk hs
  have hk := List.mem_range.mp hk
  have hs : c.getD k 0 ≠ 45 := by simpa using hs
  have s1 := z0q h1 h4 hc hk
  unfold sgn at s1
  simp only [Bool.or_eq_true, beq_iff_eq] at s1
  have s2 : c.getD k 0 = 48 \/ c.getD k 0 = 49 := by
   rcases s1 with (s1 | s1) | s1
   ·exact absurd s1 hs
   ·exact .inl s1
   ·exact .inr s1
  exact z0l (z2I rfl (z0e rfl (z0l (z0b rfl) (ziQ O s2)))) (zf2 h1 h4 hk (ziJ _) O)
 ·show R.ok (D.lst _) O = _
  unfold z4E
  rw [List.map_map]; rfl
theorem zax {n : Nat} (h1 : 1 <= n) (h4 : n <= 4) {l : List (List Nat)} (hl : ∀ t ∈ l, t ∈ terms n) (hlen : l.length <= 81) (O : Ow) : z1H [.lst (l.map .str)] O = .ok (.own O.length) (O ++ [(z2j n l).map .str]) := by
 show fin (z2h [some (.lst (l.map .str))] O) = _
 unfold z2h
 refine z6r ((z39 (o := true) (l := l) (inj := D.str) (p := fun t => !(l.any fun o => decide (t ≠ o) && z0w n t o)) (e := D.str) (τ := fun t => [some (.lst (l.map .str)), some (.str t)]) (z1N rfl) (by omega) (fun _ => rfl) (fun t ht => z1F (z0E (z17 (z0b ((zcx (l := l) (inj := D.str) (e := fun o => D.bl (decide (t ≠ o) && z0w n t o)) (τ := fun o => [some (.lst (l.map .str)), some (.str t), some (.str o)]) (z1N rfl) (by omega) (fun _ => rfl) (fun o ho => zdS (z0F rfl rfl (z7B O h1 h4 (hl t ht) (hl o ho))) fun _ => z0l (z0e rfl rfl) (zfn h1 h4 (hl t ht) (hl o ho) O))).trans rfl)) (zbU O l fun o => decide (t ≠ o) && z0w n t o)))) (fun _ _ _ => rfl)).trans rfl)
theorem zeD {n : Nat} (h1 : 1 <= n) (h4 : n <= 4) {cl : List (List Nat)} (hcl : ∀ c ∈ cl, c ∈ terms n) (hp : cl.Pairwise (· < ·)) (hlen : cl.length < 1000) (O : Ow) : z0C [.int n, .tup (cl.map .str)] O = .ok .non O := by
 have e1 : z1h [.int n] O = .ok .non O := by rcases zd4 h1 h4 with rfl | rfl | rfl | rfl <;> kernel_rfl
 show fin (z15 [some (.int n), some (.tup (cl.map .str))] O) = _
 unfold z15
 rw [z0j (z4m (z0l (z0b rfl) e1)), z1f (z1F (b := true) (z0E (z0l (z0e rfl rfl) (z9x h1 h4 (by omega) hp hcl O))))]
 rfl
def Strs (X : Ow) : Prop := ∀ c ∈ X, ∃ l : List (List Nat), c = l.map D.str
theorem Strs.flat {O X : Ow} (h : z2o O) (hX : Strs X) : z2o (O ++ X) := z8s h fun c hc d hd => by
 obtain ⟨l, rfl⟩ := hX c hc
 obtain ⟨x, _, rfl⟩ := List.mem_map.mp hd
 rfl
theorem Strs.one {X : Ow} (hX : Strs X) (l : List (List Nat)) : Strs (X ++ [l.map D.str]) := fun c hc => by
 rcases List.mem_append.mp hc with hc | hc
 ·exact hX c hc
 ·exact ⟨l, by simpa using hc⟩
theorem z8u {n : Nat} {l : List (List Nat)} {k : Nat} (h : l.length <= k) : (z2j n l).length <= k := Nat.le_trans (List.length_filter_le _ _) h
theorem z87 {n : Nat} (h1 : 1 <= n) (h4 : n <= 4) (cl : List (List Nat)) : (Sof n cl).length <= 81 := Nat.le_trans (List.length_filter_le _ _) (z2y h1 h4)
theorem z8y {α β : Type} {g : α -> List β} {k : Nat} (hg : ∀ a, (g a).length <= k) : ∀ l : List α, (l.flatMap g).length <= l.length * k
 | [] => by simp
 | x :: l => by
  rw [List.flatMap_cons, List.length_append, List.length_cons, Nat.succ_mul]
  have := z8y hg l
  have := hg x
  omega
def z3U (n : Nat) (wide : List (List Nat)) (c : List Nat) : List (List Nat × List Nat) := wide.flatMap fun w => (z4E n c).map fun p => (w, p)
theorem z5k (n : Nat) (wide : List (List Nat)) (c : List Nat) : (((z3U n wide c).filter fun q => !z0r n q.1 q.2).map fun q => met n q.1 q.2) = z7x n wide c := by
 unfold z3U z7x
 induction wide with
 | nil => rfl
 | cons w r ih =>
  rw [List.flatMap_cons, List.flatMap_cons, List.filter_append, List.map_append, ih]
  congr 1
  rw [List.filter_map, List.map_map]; rfl
def zbV : DS := (z0i (z0W 4 (z0n false 2 (dIt (z01 2)) (.one 5) [] (⟨(dIt (dFn 1 z26 (z00 (z01 3) z03))), (.one 6), []⟩ :: []) (dFn 2 z6a (z00 (z01 5) (z00 (z01 6) z03))))) (z0W 2 (dFn 1 z1H (z00 (z7n false 1 (dIt (z01 4)) (.one 5) [(z0z (dOp z9k (z01 5) (dC .non)))] [] (z01 5)) z03))))
theorem zbQ {n : Nat} (h1 : 1 <= n) (h4 : n <= 4) {wide : List (List Nat)} (hw : ∀ w ∈ wide, w ∈ terms n) (hwl : wide.length <= 81) {c : List Nat} (hc : c ∈ terms n) (hf : (z1p (z7x n wide c)).length < 64) {O : Ow} (hO : z2o O) {k : Nat} (hk : O[k]? = some (wide.map .str)) {a b y4 : Option D} :
  zbV [a, b, some (.own k), some (.str c), y4] O = .nx [a, b, some (.own O.length), some (.str c), some (.lst ((z3U n wide c).map fun q => z2t n q.1 q.2))] (O ++ [(z2j n (z1p (z7x n wide c))).map .str]) := by
 have hpl : ∀ w : List Nat, ((z4E n c).map fun p => (w, p)).length <= 4 := fun w => by rw [List.length_map]; have := z6N n c; omega
 have hll : (z3U n wide c).length <= 324 := by
  have := z8y hpl wide
  unfold z3U; omega
 have em : (wide.flatMap fun w => (z4E n c).map (z2t n w)) = (z3U n wide c).map fun q => z2t n q.1 q.2 := by
  unfold z3U
  rw [List.map_flatMap]
  congr 1
  funext w
  rw [List.map_map]; rfl
 have hpt : ∀ p ∈ z4E n c, p ∈ terms n := fun p hp => by
  obtain ⟨k, _, rfl⟩ := List.mem_map.mp hp
  exact z3M
 unfold zbV
 refine z0X (x := .lst ((z3U n wide c).map fun q => z2t n q.1 q.2)) (O1 := O) ?_ ?_
 ·rw [<- em]
  refine (zid (O := O) (src := .own k) (l := wide) (inj := D.str) (m := fun _ => z4E n c) (inj2 := D.str) (e := fun w p => z2t n w p) (τ := fun w => [a, b, some (.own k), some (.str c), y4, some (.str w), none]) (τ2 := fun w p => [a, b, some (.own k), some (.str c), y4, some (.str w), some (.str p)]) rfl ?_ ?_ ?_ (fun _ => rfl) (fun _ _ => rfl) (fun w hw => z1N (z0l (z0b rfl) (zbS h1 h4 hc O))) fun w hw' p hp => z0l (z0e rfl rfl) (zf4 h1 h4 (hw w hw') (hpt p hp) hO)).trans rfl
  ·intro i
   show (match O[k]? with | some ds => ds[i]? | none => none) = _
   rw [hk]
  ·show (match O[k]? with | some ds => ds.length | none => 0) = _
   rw [hk]; simp
  ·rw [em, List.length_map]; omega
 ·refine z34 (x := .own O.length) (z0l (ds := [.lst ((z1p (z7x n wide c)).map .str)]) (z0b ?_) (zax h1 h4 (fun t ht => ?_) (by omega) O))
  ·have := zfG (O := O) (ext := 1) (i := 5) (it0 := dIt (z01 4)) (t := z0z (dOp z9k (z01 5) (dC .non))) (te := z01 5) (σ := [a, b, some (.own k), some (.str c), some (.lst ((z3U n wide c).map fun q => z2t n q.1 q.2))]) (O0 := O) (src := .val ((z3U n wide c).map fun q => z2t n q.1 q.2)) (l := z3U n wide c) (inj := fun q => z2t n q.1 q.2) (p := fun q => !z0r n q.1 q.2) (e := fun q => met n q.1 q.2) (τ := fun q => [a, b, some (.own k), some (.str c), some (.lst ((z3U n wide c).map fun q => z2t n q.1 q.2)), some (z2t n q.1 q.2)]) rfl (fun _ => rfl) (by simp [Src.size]) (by omega) (fun _ => rfl) (fun q hq => z0k (z0F rfl rfl (by
     show R.ok (D.bl (!z97 (z2t n q.1 q.2))) O = _
     unfold z2t z0r
     split
     ·rename_i h; rw [h]; rfl
     ·rename_i h; rw [Bool.not_eq_true] at h; rw [h]; rfl))) (fun q hq hp => by
     show R.ok (z2t n q.1 q.2) O = _
     unfold z2t
     have hp : ¬ (List.range n).any (z1g q.1 q.2) = true := by
      unfold z0r at hp
      simpa using hp
     rw [if_neg hp]) (by rw [z5k]; exact hf)
   rw [z5k] at this
   exact this
  ·have ht := (z0M _).mp ht
   obtain ⟨w, hw', j, _, _, _, rfl⟩ := mem_mets.mp ht
   exact z36 h1 h4 (hw w hw') z3M
theorem z3B {n : Nat} (h1 : 1 <= n) (h4 : n <= 4) {cl : List (List Nat)} (hcl : ∀ c ∈ cl, c ∈ terms n) (hp : cl.Pairwise (· < ·)) (hlen : cl.length < 1000) {O : Ow} (hO : z2o O) :
  ∃ X, Strs X /\ z0P [.int n, .tup (cl.map .str)] O = .ok (.own (O ++ X).length) (O ++ X ++ [(z2j n (Sof n cl)).map .str]) := by
 let N : Option D := some (.int n)
 let T : Option D := some (.tup (cl.map .str))
 obtain ⟨σ', O', l1, X, y3, y4, rfl, rfl, hX⟩ := z4r (i := 3) (it := dIt (z01 1)) (body := zbV) (σ := [N, T, some (.own O.length), none, none]) (O0 := O ++ [[.str (List.replicate n 45)]]) (O := O ++ [[.str (List.replicate n 45)]]) (l := cl) (inj := D.str) rfl
  (fun j σ O' => ∃ X y3 y4, σ = [N, T, some (.own (O ++ X).length), y3, y4] /\ O' = O ++ X ++ [(z2j n (Sof n (cl.take j))).map .str] /\ Strs X) (fun j c σ O' hc hI => by
   obtain ⟨X, y3, y4, rfl, rfl, hX⟩ := hI
   have hcm := List.mem_of_getElem? hc
   have etake : cl.take (j + 1) = cl.take j ++ [c] := by rw [List.take_succ, hc]; rfl
   have hfew := zcv h1 h4 (cl := cl.take j) (hcl c hcm) (fun c' hc' => hcl c' (List.mem_of_mem_take hc')) (by rw [<- etake]; exact hp.sublist (List.take_sublist _ _))
   have hflat : z2o (O ++ X ++ [(z2j n (Sof n (cl.take j))).map .str]) := by
    rw [List.append_assoc]; exact Strs.flat hO (hX.one _)
   refine ⟨_, _, zbQ h1 h4 (wide := z2j n (Sof n (cl.take j))) (fun w hw => (mem_Sof.mp (mem_tops.mp hw).1).1) (z8u (z87 h1 h4 _)) (hcl c hcm) hfew hflat z1B, X ++ [(z2j n (Sof n (cl.take j))).map .str], some (.str c), some (.lst ((z3U n (z2j n (Sof n (cl.take j))) c).map fun q => z2t n q.1 q.2)), ?_, ?_, hX.one _⟩
   ·rw [List.append_assoc]
   ·rw [z9P h1 h4 (hcl c hcm), etake, <- List.append_assoc O X]) ⟨[], none, none, by rw [List.append_nil], by rw [List.append_nil, List.take_zero, z8N h1 h4]; rfl, fun c hc => by cases hc⟩
 rw [List.take_length] at l1
 refine ⟨X, hX, ?_⟩
 show fin (z2s [N, T, none, none, none] O) = _
 unfold z2s
 unfold zbV at l1
 refine z1X (zeN (x := .non) (O1 := O) (z0l (z0e rfl rfl) (zeD h1 h4 hcl hp hlen O)) (z0X (x := .own O.length) (O1 := O ++ [[.str (List.replicate n 45)]]) ?_ (z45 (σ' := [N, T, some (.own (O ++ X).length), y3, y4]) (O1 := O ++ X ++ [(z2j n (Sof n cl)).map .str]) ?_ (z0u rfl))))
 rotate_left
 ·exact l1
 show ((z00 _ _ _ O).bnd _) = _
 rw [z0b (z0F rfl rfl (zah (by omega)))]; rfl
theorem zbG {k : Nat} {O : Ow} {x y : D} {xs ys : List D} (hx : lsV O x = some xs) (hy : lsV O y = some ys) (hl : xs.length = ys.length) (h5 : ys.length < 10000) (hs : ∀ (i : Nat) (x y : D), xs[i]? = some x -> ys[i]? = some y -> z0S k [x, y] O = .ok (.bl true) O) : z0S (k + 1) [x, y] O = .ok (.bl true) O := by
 obtain ⟨src, s1, s2, s3⟩ := z2E hx
 obtain ⟨src', t1, t2, t3⟩ := z2E hy
 have hk := z9X hx
 have hk' := z9X hy
 have hi : zhR (z00 (z01 0) (z00 (z01 1) z03)) [some x, some y] O = .ok (.zip src src') O := by
  show (match z5L x, z5L y with | some p, some q => R.ok (Src.zip p q) O | _, _ => R.bad) = _
  rw [s1, t1]
 have hgz : ∀ i, (Src.zip src src').get O i = ((xs.zip ys).map fun q => D.tup [q.1, q.2])[i]? := by
  intro i
  show (match src.get O i, src'.get O i with | some x, some y => some (D.tup [x, y]) | _, _ => none) = _
  rw [s2, t2, List.getElem?_map]
  cases e1 : xs[i]? with
  | none =>
   have : (xs.zip ys)[i]? = none := by
    rw [List.getElem?_eq_none_iff] at e1 ⊢
    rw [List.length_zip]; omega
   rw [this]; rfl
  | some a =>
   have hi := (List.getElem?_eq_some_iff.mp e1).1
   have e2 : ys[i]? = some ys[i] := List.getElem?_eq_getElem (by omega)
   have : (xs.zip ys)[i]? = some (a, ys[i]) := List.getElem?_zip_eq_some.mpr ⟨e1, e2⟩
   rw [this, e2]; rfl
 have hzz : (Src.zip src src').size O = ((xs.zip ys).map fun q => D.tup [q.1, q.2]).length := by
  show min (src.size O) (src'.size O) = _
  rw [s3, t3, List.length_map, List.length_zip]
 have hc := zbq (ext := 2) (g := .two 2 3) (ts := []) (te := dFn 2 (z0S k) (z00 (z01 2) (z00 (z01 3) z03))) (p := fun _ => true) (e := fun _ => .bl true) (τ := fun d => match d with | .tup [a, b] => [some x, some y, some a, some b] | _ => []) hi hgz hzz (by rw [List.length_map, List.length_zip]; omega)
  (fun d hd => by obtain ⟨q, _, rfl⟩ := List.mem_map.mp hd; rfl) (fun d hd => rfl) (fun d hd _ => by
   obtain ⟨q, hq, rfl⟩ := List.mem_map.mp hd
   obtain ⟨i, hi, e⟩ := List.mem_iff_getElem.mp hq
   have e : (xs.zip ys)[i]? = some (q.1, q.2) := by rw [List.getElem?_eq_getElem hi, e]
   obtain ⟨e1, e2⟩ := List.getElem?_zip_eq_some.mp e
   exact (z7m (z0e rfl rfl) rfl).trans (hs i q.1 q.2 e1 e2)) false
 have e2 : ((((xs.zip ys).map fun q => D.tup [q.1, q.2]).filter fun _ => true).map fun _ => D.bl true) = ((xs.zip ys).map fun _ => true).map D.bl := by rw [z7M, List.map_map, List.map_map]; rfl
 rw [e2] at hc
 have c1 : z1s (z9i "tuple" "list" (z01 1)) [some x, some y] O = .ok true O := by
  show zdm O (D.bl (z7p (z2n y) "tuple" || z7p (z2n y) "list")) = _
  rw [hk']; rfl
 have isT : ∀ z, z2n z = "list" -> R.ok (D.bl (z7p (z2n z) "tuple")) O = .ok (.bl false) O := fun z hz => by rw [hz]; rfl
 have isL : ∀ z, z2n z = "list" -> R.ok (D.bl (z7p (z2n z) "list")) O = .ok (.bl true) O := fun z hz => by rw [hz]; rfl
 have c2 : zeO (z0z (dOp (fPy neF) (z2P "tuple" (z01 0)) (z2P "tuple" (z01 1)))) (z0z (dOp (fPy neF) (z2P "list" (z01 0)) (z2P "list" (z01 1)))) [some x, some y] O = .ok false O := by
  have a1 : z0z (dOp (fPy neF) (z2P "tuple" (z01 0)) (z2P "tuple" (z01 1))) [some x, some y] O = .ok false O := z0k ((z0f (isT x hk) (isT y hk')).trans rfl)
  have a2 : z0z (dOp (fPy neF) (z2P "list" (z01 0)) (z2P "list" (z01 1))) [some x, some y] O = .ok false O := z0k ((z0f (isL x hk) (isL y hk')).trans rfl)
  show ((z0z (dOp (fPy neF) (z2P "tuple" (z01 0)) (z2P "tuple" (z01 1))) [some x, some y] O).bnd _) = _
  rw [a1]
  exact a2
 have c3 : z0z (dOp (fPy neF) (z0c z2p (z00 (z01 0) z03)) (z0c z2p (z00 (z01 1) z03))) [some x, some y] O = .ok false O := by
  refine z0k ((z0f ((z13 (z0b rfl)).trans (z5O hx)) ((z13 (z0b rfl)).trans (z5O hy))).trans ?_)
  rw [hl]
  show R.ok (D.bl (!((ys.length : Int) == (ys.length : Int)))) O = _
  simp
 show fin (z0i _ _ [some x, some y] O) = _
 have e4 : ∀ (a : DS), z0i (sIf (z1s (z9i "tuple" "list" (z01 1))) a z1l) (z0B (z8B (dOp (fPy eqF) (z01 0) (z01 1)) (dOp (fPy eqF) (z2P "bool" (z01 0)) (z2P "bool" (z01 1))))) [some x, some y] O = match a [some x, some y] O with | .nx σ' O' => z0B (z8B (dOp (fPy eqF) (z01 0) (z01 1)) (dOp (fPy eqF) (z2P "bool" (z01 0)) (z2P "bool" (z01 1)))) σ' O' | r => r := fun a => by
  show (match sIf (z1s (z9i "tuple" "list" (z01 1))) a z1l [some x, some y] O with | .nx σ' O' => _ | r => r) = _
  rw [z1f c1, if_pos rfl]
 rw [e4, z0j (σ' := [some x, some y]) (O1 := O) (by rw [z1f c2]; rfl), z0j (σ' := [some x, some y]) (O1 := O) (by rw [z1f c3]; rfl), z0u ((z13 (z0b hc)).trans (zcJ O _))]
 show R.ok (D.bl _) O = _
 congr 2
 rw [List.all_map]
 exact List.all_eq_true.mpr fun _ _ => rfl
theorem z59 {n : Nat} (h1 : 1 <= n) (h4 : n <= 4) {l : List (List Nat)} (hl : ∀ t ∈ l, t ∈ terms n) (hlen : l.length < 1000) {O : Ow} {x y : D} (hx : lsV O x = some (l.map .str)) (hy : lsV O y = some (l.map .str)) : z14 [x, y] O = .ok (.bl true) O :=
 zbG (k := 2) hx hy rfl (by rw [List.length_map]; omega) fun i a b ha hb => by
  rw [ha] at hb; cases hb
  obtain ⟨cs, hcs, rfl⟩ := List.mem_map.mp (List.mem_of_getElem? ha)
  exact List.map_inj_left.mp (z7l O) cs (z0O h1 h4 (hl cs hcs))
theorem z4G {n : Nat} (h4 : n <= 4) {cs : List Nat} (hl : cs.length = n) {k : Nat} (hk : k < n) (O : Ow) : fIx O (.str cs) (.int (k : Int)) = .ok (.str [cs.getD k 0]) O := by
 rw [zee (by omega) (by omega), z2Q (by omega)]
theorem zb0 {n : Nat} (h4 : n <= 4) {cs : List Nat} (hl : cs.length = n) {σ : Sg} {O : Ow} (h : z01 0 σ O = .ok (.str cs) O) : z24 (z00 (z0c z2p (z00 (z01 0) z03)) z03) σ O = .ok (.val ((List.range n).map fun (i : Nat) => D.int (i : Int))) O :=
 z1S (z0b (z17 (z0b h) ((z8x (by omega)).trans (by rw [hl])))) (by omega)
theorem z8V {n : Nat} {p q : Nat -> Bool} (h : ∀ k, k < n -> p k = q k) : (!((List.range n).filter p).isEmpty) = (List.range n).any q := by
 rw [Bool.eq_iff_iff, Bool.not_eq_true', List.any_eq_true]
 constructor
 ·intro hf
  have : ((List.range n).filter p) ≠ [] := fun e => by rw [e] at hf; cases hf
  obtain ⟨k, hk⟩ := List.exists_mem_of_ne_nil _ this
  obtain ⟨k1, k2⟩ := List.mem_filter.mp hk
  exact ⟨k, k1, by rw [<- h k (List.mem_range.mp k1)]; exact k2⟩
 ·rintro ⟨k, k1, k2⟩
  have hm : k ∈ (List.range n).filter p := List.mem_filter.mpr ⟨k1, by rw [h k (List.mem_range.mp k1)]; exact k2⟩
  cases e : (List.range n).filter p with
  | nil => rw [e] at hm; cases hm
  | cons _ _ => rfl
theorem z4H {n : Nat} (h1 : 1 <= n) (h4 : n <= 4) {a b : List Nat} (ha : a ∈ terms n) (hb : b ∈ terms n) (O : Ow) : z0J [.str a, .str b] O = .ok (.bl (z0w n a b)) O := by
 have la := z05 h1 h4 ha
 have lb := z05 h1 h4 hb
 show fin (z1r [some (.str a), some (.str b)] O) = _
 unfold z1r
 refine z6r ((z0F ((z39 (l := List.range n) (p := fun k => b.getD k 0 != 45 && b.getD k 0 != a.getD k 0) (e := fun (k : Nat) => D.int (k : Int)) (τ := fun (k : Nat) => [some (.str a), some (.str b), some (.int (k : Int))]) (zb0 h4 la rfl) (by simp; omega) (fun _ => rfl) (fun k hk => ?_) (fun _ _ _ => rfl)).trans rfl) rfl (zfK O _)).trans ?_)
 ·have hk := List.mem_range.mp hk
  exact z2O (z0k (z0F (z0F rfl rfl (z4G h4 lb hk O)) rfl (zaF O (z0q h1 h4 hb hk)))) fun _ => z0k (z0F (z0F rfl rfl (z4G h4 lb hk O)) (z0F rfl rfl (z4G h4 la hk O)) (z3z O (z0q h1 h4 hb hk) (z0q h1 h4 ha hk)))
 ·congr 2
  have h := z8V (n := n) (p := fun k => b.getD k 0 != 45 && b.getD k 0 != a.getD k 0) (q := fun k => !(b.getD k 0 == 45 || b.getD k 0 == a.getD k 0)) fun k _ => by simp [bne]
  rw [<- Bool.not_not (b := ((List.range n).filter _).isEmpty), h]
  unfold z0w
  rw [List.any_eq_not_all_not]
  simp
theorem zjA (O : Ow) {x y : Nat} (hx : sgn x = true) (hy : sgn y = true) : zey O (.str [45]) (.tup [.str [x], .str [y]]) = .ok (.bl (x != 45 && y != 45)) O := by
 unfold sgn at hx hy
 simp only [Bool.or_eq_true, beq_iff_eq] at hx hy
 rcases hx with (rfl | rfl) | rfl <;> rcases hy with (rfl | rfl) | rfl <;> kernel_rfl
theorem z7g {n : Nat} (h1 : 1 <= n) (h4 : n <= 4) {a b : List Nat} (ha : a ∈ terms n) (hb : b ∈ terms n) (O : Ow) : z1R [.str a, .str b] O = .ok (.bl (z0r n a b)) O := by
 have la := z05 h1 h4 ha
 have lb := z05 h1 h4 hb
 show fin (z1T [some (.str a), some (.str b)] O) = _
 unfold z1T
 refine z6r ((z0F ((z39 (l := List.range n) (p := fun k => (a.getD k 0 != 45 && b.getD k 0 != 45) && a.getD k 0 != b.getD k 0) (e := fun (k : Nat) => D.int (k : Int)) (τ := fun (k : Nat) => [some (.str a), some (.str b), some (.int (k : Int))]) (zb0 h4 la rfl) (by simp; omega) (fun _ => rfl) (fun k hk => ?_) (fun _ _ _ => rfl)).trans rfl) rfl (z9F O _)).trans ?_)
 ·have hk := List.mem_range.mp hk
  refine z2O (z0k (z0F rfl ?_ (zjA O (z0q h1 h4 ha hk) (z0q h1 h4 hb hk)))) fun _ => z0k (z0F (z0F rfl rfl (z4G h4 la hk O)) (z0F rfl rfl (z4G h4 lb hk O)) (z3z O (z0q h1 h4 ha hk) (z0q h1 h4 hb hk)))
  show ((z00 _ _ _ O).bnd _) = _
  rw [z0e (z0F rfl rfl (z4G h4 la hk O)) (z0F rfl rfl (z4G h4 lb hk O))]; rfl
 ·congr 2
  exact z8V fun k _ => by unfold z1g; rw [Bool.and_assoc]
theorem z5I (O : Ow) {n : Nat} (h1 : 1 <= n) (h4 : n <= 4) {l : List (List Nat)} (h : ∀ cs ∈ l, cs ∈ terms n) : fPy eqF O (.lst (l.map D.str)) (.lst []) = .ok (.bl l.isEmpty) O :=
 (z6V O (b := l.isEmpty) (z3w h1 h4 h) (y := []) rfl (by cases l <;> simp)).1
theorem zeq (O : Ow) {n : Nat} (h1 : 1 <= n) (h4 : n <= 4) {l : List (List Nat)} (h : ∀ cs ∈ l, cs ∈ terms n) : fPy neF O (.lst (l.map D.str)) (.lst []) = .ok (.bl (!l.isEmpty)) O :=
 (z6V O (b := l.isEmpty) (z3w h1 h4 h) (y := []) rfl (by cases l <;> simp)).2
theorem z2L {α : Type} {l : List α} {p : α -> Bool} : (l.filter p).isEmpty = l.all fun x => !p x := by
 rw [Bool.eq_iff_iff, List.isEmpty_iff, List.filter_eq_nil_iff, List.all_eq_true]
 exact forall_congr' fun a => forall_congr' fun _ => by simp
theorem z92 {n : Nat} (h1 : 1 <= n) (h4 : n <= 4) {cl : List (List Nat)} (hcl : ∀ c ∈ cl, c ∈ terms n) (hlen : cl.length < 1000) {O : Ow} (hO : z2o O) : z20 [.int n, .tup (cl.map .str)] O = .ok (.lst ((z2j n (Sof n cl)).map .str)) O := by
 have hfew := z2y h1 h4
 have hS := z87 h1 h4 cl
 let T : Option D := some (.tup (cl.map .str))
 let S : Option D := some (.lst ((Sof n cl).map .str))
 have hSt : ∀ t ∈ Sof n cl, t ∈ terms n := fun t ht => (mem_Sof.mp ht).1
 show fin (z3R [some (.int n), T, none] O) = _
 unfold z3R
 refine z1X (z0X (x := .lst ((Sof n cl).map .str)) (O1 := O) ((z39 (l := terms n) (inj := D.str) (p := fun t => cl.all fun c => z0r n t c) (e := D.str) (τ := fun t => [some (.int n), T, none, some (.str t)]) (z1N (z0l (z0b rfl) (z2q h4 hO))) (by omega) (fun _ => rfl) (fun t ht => z0k ((z0F ((z39 (l := cl) (inj := D.str) (p := fun c => !z0r n t c) (e := D.str) (τ := fun c => [some (.int n), T, none, some (.str t), some (.str c)]) (z4F rfl) (by omega) (fun _ => rfl) (fun c hc => z1F (z0E (z0l (z0e rfl rfl) (z7g h1 h4 ht (hcl c hc) O)))) (fun _ _ _ => rfl)).trans rfl) rfl (z5I O h1 h4 fun c hc => hcl c (List.mem_filter.mp hc).1)).trans (by rw [z2L]; simp))) (fun _ _ _ => rfl)).trans rfl) (z0u ?_))
 refine (z39 (l := Sof n cl) (inj := D.str) (p := fun t => !((Sof n cl).any fun o => decide (t ≠ o) && z0w n t o)) (e := D.str) (τ := fun t => [some (.int n), T, S, some (.str t)]) (z1N rfl) (by omega) (fun _ => rfl) (fun t ht => z0k ((z0F ((z39 (l := Sof n cl) (inj := D.str) (p := fun o => decide (o ≠ t) && z0w n t o) (e := D.str) (τ := fun o => [some (.int n), T, S, some (.str t), some (.str o)]) (z1N rfl) (by omega) (fun _ => rfl) (fun o ho => z2O (z0k (z0F rfl rfl (z7B O h1 h4 (hSt o ho) (hSt t ht)))) fun _ => z0E (z0l (z0e rfl rfl) (z4H h1 h4 (hSt t ht) (hSt o ho) O))) (fun _ _ _ => rfl)).trans rfl) rfl (z5I O h1 h4 fun c hc => hSt c (List.mem_filter.mp hc).1)).trans (by
  rw [z2L, List.all_eq_not_any_not]
  congr 3
  simp only [Bool.not_not]
  congr 1
  funext o
  congr 1
  by_cases h : t = o <;> simp [h, eq_comm]))) (fun _ _ _ => rfl)).trans rfl
def Bin (d : D) : Prop := d = .int 0 \/ d = .int 1
theorem Bin.ans {d : D} (h : Bin d) : Ans d := by
 rcases h with h | h
 ·exact .inl h
 ·exact .inr (.inl h)
theorem z6l {O : Ow} (hO : z2o O) {m : Nat} {s : Int} {b : Bool} (h : StAt O m s b) {n : Nat} (n1 : 1 <= n) (n4 : n <= 4) :
  ∃ f s', (Fn n f /\ ∀ d ∈ f, Bin d) /\ z0T [.own m, .int n, .bl false] O = .ok (.tup f) (O.set m [.int s', .bl b]) /\ StAt (O.set m [.int s', .bl b]) m s' b := by
 have hp := z2A n4
 obtain ⟨r, s1, r1, r2, h1⟩ := z3P h (k := 3) (by decide) (by decide)
 obtain ⟨w, s2, w1, w2, h2⟩ := z3P h1 (k := 3) (by decide) (by decide)
 rw [List.set_set] at w2 h2
 obtain ⟨i, hi⟩ := zbI (O.set m [.int s1, .bl b]) r1
 obtain ⟨z, hz, z0⟩ : ∃ z : Int, dOp (fI z69) (dFn 2 z06 (z00 (z01 0) (z00 (dC (.int 3)) z03))) (z0c z6C (z00 (z01 2) z03)) [some (.own m), some (.int n), some (.bl false), some (.int i), none, none, none, none] (O.set m [.int s1, .bl b]) = .ok (.int z) (O.set m [.int s2, .bl b]) /\ z = 0 := by
  exact ⟨_, z0F (z0l (z0e rfl rfl) w2) (z17 (z0b rfl) (zav _ false)) (z3O (by omega) (by omega)), by simp⟩
 let A : Option D := some (.own m)
 let k := O.length
 have hlen : ∀ s', (O.set m [D.int s', D.bl b]).length = O.length := fun s' => List.length_set
 obtain ⟨σ', O', l1, fs, s3, y6, y7, rfl, rfl, h3, f1, f2⟩ := z4r (i := 6) (l := List.range (2 ^ n)) (inj := fun (i : Nat) => D.int (i : Int)) (O := O.set m [.int s2, .bl b] ++ [[]]) (σ := [A, some (.int n), some (.bl false), some (.int i), some (.int z), some (.own O.length), none, none]) (O0 := O.set m [.int s2, .bl b] ++ [[]]) (it := z24 (z00 (dOp (fI zg1) (dC (.int 1)) (z01 1)) z03)) (body := (z0i (z0W 7 (z0c z6C (z00 (dOp fLt (dFn 2 z06 (z00 (z01 0) (z00 (dC (.int 8)) z03))) (z01 3)) z03))) (z0i (sIf (z0z (dOp fLt (dFn 2 z06 (z00 (z01 0) (z00 (dC (.int 5)) z03))) (z01 4))) (z0W 7 (dC .non)) z1l) (z1e (z7r (z01 5) (z00 (z01 7) z03))))))
  (z1S (z0b (zgH n4 rfl)) (by omega)) (fun j σ O' => ∃ fs s' y6 y7, σ = [A, some (.int n), some (.bl false), some (.int i), some (.int z), some (.own O.length), y6, y7] /\ O' = O.set m [.int s', .bl b] ++ [fs] /\ StAt (O.set m [.int s', .bl b]) m s' b /\ fs.length = j /\ ∀ d ∈ fs, Bin d) (fun j a σ O' ha hI => by
   obtain ⟨fs, s', y6, y7, rfl, rfl, hs, f1, f2⟩ := hI
   have hj : j < 2 ^ n := by have := (List.getElem?_eq_some_iff.mp ha).1; simpa using this
   obtain ⟨q1, t1, _, e1, g1⟩ := z3m hs [fs] (k := 8) (by decide) (by decide)
   obtain ⟨q2, t2, _, e2, g2⟩ := z3m g1 [fs] (k := 5) (by decide) (by decide)
   have hA1 : Bin (.int (if (decide ((q1 : Int) < i)) = true then 1 else 0)) := by
    by_cases h : (q1 : Int) < i
    ·exact .inr (by simp [h])
    ·exact .inl (by simp [h])
   have key : ∀ v, Bin v -> z1e (z7r (z01 5) (z00 (z01 7) z03)) [A, some (.int n), some (.bl false), some (.int i), some (.int z), some (.own O.length), some (.int a), some v] (O.set m [.int t2, .bl b] ++ [fs]) = .nx [A, some (.int n), some (.bl false), some (.int i), some (.int z), some (.own O.length), some (.int a), some v] (O.set m [.int t2, .bl b] ++ [fs ++ [v]]) := fun v _ => by
    rw [z4o (ds := fs) (t := z01 7) rfl rfl (by rw [<- hlen t2]; exact z1B) (by omega)]
    congr 1
    rw [<- hlen t2]; exact z4p
   have fin2 : ∀ v, Bin v -> (fs ++ [v]).length = j + 1 /\ ∀ d ∈ fs ++ [v], Bin d := fun v hv => ⟨by simp [f1], fun d hd => by
    rcases List.mem_append.mp hd with hd | hd
    ·exact f2 d hd
    ·have : d = v := by simpa using hd
     rw [this]; exact hv⟩
   by_cases hq : (q2 : Int) < z
   ·omega
   ·refine ⟨_, _, z0X (x := .int (if (decide ((q1 : Int) < i)) = true then 1 else 0)) (O1 := O.set m [.int t1, .bl b] ++ [fs]) (z17 (z0b (z0F (z0l (z0e rfl rfl) e1) rfl (zdl _ _ _))) (zav _ _)) (z42 (O1 := O.set m [.int t2, .bl b] ++ [fs]) (z0k ((z0F (z0l (z0e rfl rfl) e2) rfl (zdl _ _ _)).trans (by rw [decide_eq_false hq]))) (key _ hA1)), _, t2, _, _, rfl, rfl, g2, fin2 _ hA1⟩) ⟨[], s2, _, _, rfl, rfl, h2, rfl, by simp⟩
 rw [List.length_range] at f1
 refine ⟨fs, s3, ⟨⟨n1, n4, f1, fun d hd => (f2 d hd).ans⟩, f2⟩, ?_, h3⟩
 show za4 O.length (fin (z1i [some (.own m), some (.int n), some (.bl false), none, none, none, none, none] O)) = _
 have hB : z1i [some (.own m), some (.int n), some (.bl false), none, none, none, none, none] O = .rt (.tup fs) (O.set m [.int s3, .bl b] ++ [fs]) := by
  unfold z1i
  refine z0X (x := .int i) (O1 := O.set m [.int s1, .bl b]) (z0F (x := .lst [.int 2, .int 4, .int 6]) rfl (z0l (z0e rfl rfl) r2) hi) (z0X hz (z0X (x := .own O.length) (O1 := O.set m [.int s2, .bl b] ++ [[]]) ?_ (z45 l1 (z0u (z17 (z0b rfl) ?_)))))
  ·show R.ok (D.own (O.set m [D.int s2, D.bl b]).length) _ = _
   rw [hlen]
  ·show (match (O.set m [.int s3, .bl b] ++ [fs])[O.length]? with | some ds => R.ok (D.tup ds) _ | none => _) = _
   rw [<- hlen s3, z1B]
 rw [z1X hB]
 have := z4k (z2g hO m s3 b) [fs] (d := .tup fs) (d' := .tup fs) (z9T fun d hd => zd1 (f2 d hd).ans _)
 rw [hlen] at this
 exact this
def isO : D -> Bool
 | .int i => i == 1
 | _ => false
theorem eq1 (O : Ow) {d : D} (h : Ans d) : fPy eqF O d (.int 1) = .ok (.bl (isO d)) O := by rcases h with rfl | rfl | rfl <;> kernel_rfl
structure z7u (n : Nat) (f : List D) : Prop where
 fn : Fn n f
 bin : ∀ d ∈ f, Bin d
def ziS : D -> D
 | .int i => .int (1 - i)
 | d => d
def opp (f : List D) : List D := f.map ziS
theorem z8Q {n : Nat} {f : List D} (h : z7u n f) : z7u n (opp f) := by
 have hb : ∀ d ∈ opp f, Bin d := fun d hd => by
  obtain ⟨x, hx, rfl⟩ := List.mem_map.mp hd
  rcases h.bin x hx with rfl | rfl
  ·exact .inr rfl
  ·exact .inl rfl
 exact ⟨⟨h.fn.n1, h.fn.n4, by unfold opp; rw [List.length_map]; exact h.fn.len, fun d hd => (hb d hd).ans⟩, hb⟩
theorem z8W {n : Nat} {f : List D} (h : z7u n f) {p : Nat} (hp : p < 2 ^ n) : Bin (f.getD p .non) := by
 have hl : p < f.length := by rw [h.fn.len]; exact hp
 rw [z31 hl]
 exact h.bin _ (List.getElem_mem _)
theorem zc8 {n : Nat} {f : List D} (h : z7u n f) {p : Nat} (hp : p < 2 ^ n) : (opp f).getD p .non = ziS (f.getD p .non) := by
 have hl : p < f.length := by rw [h.fn.len]; exact hp
 rw [z31 hl, z31 (by unfold opp; rw [List.length_map]; exact hl)]
 unfold opp
 rw [List.getElem_map]
theorem z9N {n : Nat} {f : List D} (h : z7u n f) {p : Nat} (hp : p < 2 ^ n) : isZ ((opp f).getD p .non) = !isZ (f.getD p .non) := by
 rw [zc8 h hp]
 rcases z8W h hp with e | e <;> rw [e] <;> rfl
theorem z85 {n : Nat} {f : List D} (h : z7u n f) {p : Nat} (hp : p < 2 ^ n) : isO (f.getD p .non) = !isZ (f.getD p .non) := by
 rcases z8W h hp with e | e <;> rw [e] <;> rfl
theorem z7L {n : Nat} {f : List D} (h : z7u n f) (O : Ow) : z0Q [.tup f] O = .ok (.tup (opp f)) O := by
 have hl := h.fn.len
 have h16 := z2A h.fn.n4
 show fin (z1d [some (.tup f)] O) = _
 unfold z1d
 refine z6r (z17 (z0b ((zcx (l := f) (inj := fun d => d) (e := ziS) (τ := fun d => [some (.tup f), some d]) (by rw [List.map_id']; exact z4F rfl) (by omega) (fun _ => rfl) (fun d hd => ?_)).trans rfl)) rfl)
 rcases h.bin d hd with rfl | rfl <;> rfl
def z7s (f : List D) : List Nat := (List.range f.length).filter fun p => isO (f.getD p .non)
theorem zaH {n : Nat} {f : List D} (hf : Fn n f) (O : Ow) : z18 [.tup f] O = .ok (.lst (zbv (z7s f))) O := by
 have hl := hf.len
 have h16 := z2A hf.n4
 show fin (z2e [some (.tup f)] O) = _
 unfold z2e
 refine z6r ((z39 (l := List.range f.length) (p := fun p => isO (f.getD p .non)) (e := fun (p : Nat) => D.int (p : Int)) (τ := fun (p : Nat) => [some (.tup f), some (.int (p : Int))]) (z1S (z0b (z17 (z0b rfl) (zbP O f))) (by omega)) (by simp; omega) (fun _ => rfl) (fun p hp => ?_) (fun _ _ _ => rfl)).trans rfl)
 have hp := List.mem_range.mp hp
 refine z0k (z0F (z0F rfl rfl (zb9 hp)) rfl ?_)
 rw [eq1 O (hf.ans _ (List.getElem_mem _)), z31 hp]
theorem mem_ones {f : List D} {p : Nat} : p ∈ z7s f ↔ p < f.length /\ isO (f.getD p .non) = true := by
 unfold z7s
 rw [List.mem_filter, List.mem_range]
def z9H (f : List D) (t : List Nat) : Bool := !((z7s f).filter fun p => (pts t).contains p).isEmpty
def zce (n : Nat) (f : List D) (t : List Nat) : Bool := ((z1v n f).filter fun o => decide (o ≠ t) && z0w n t o).isEmpty && z9H f t
def gr (n : Nat) (f : List D) : List (List Nat) := (z1v n f).filter (zce n f)
theorem z0R {n : Nat} {f : List D} {t : List Nat} (h : t ∈ z1v n f) : t ∈ terms n := (List.mem_filter.mp h).1
theorem z6M {n : Nat} {f : List D} (hf : Fn n f) : (z1v n f).length <= 81 := Nat.le_trans (List.length_filter_le _ _) (z2y hf.n1 hf.n4)
theorem zc2 {n : Nat} {f : List D} (hf : Fn n f) : (z7s f).length <= 16 := by
 have h1 := List.length_filter_le (fun p => isO (f.getD p .non)) (List.range f.length)
 rw [List.length_range] at h1
 have h2 := z2A hf.n4
 have h3 := hf.len
 unfold z7s
 omega
def zcp : DS := (z0i (z0W 4 (z0n false 1 (dIt (z01 1)) (.one 6) [(z1y (z0z (dOp (fPy neF) (z01 6) (z01 3))) (z1s (dFn 2 z0J (z00 (z01 3) (z00 (z01 6) z03)))))] [] (z01 6))) (z0i (z0W 5 (z0n false 1 (dIt (dFn 1 z18 (z00 (z01 0) z03))) (.one 6) [(z1s (dFn 2 z0s (z00 (z01 3) (z00 (z01 6) z03))))] [] (z01 6))) (sIf (z1y (z0z (dOp (fPy eqF) (z01 4) (z41 z03))) (z0z (dOp (fPy neF) (z01 5) (z41 z03)))) (z1e (z7r (z01 2) (z00 (z01 3) z03))) z1l)))
theorem zcn {n : Nat} {f : List D} (hf : Fn n f) {t : List Nat} (ht : t ∈ z1v n f) {k : Nat} {O : Ow} {l : List D} (hk : O[k]? = some l) (hl : l.length < 1000) {y4 y5 : Option D} :
  zcp [some (.tup f), some (.lst ((z1v n f).map .str)), some (.own k), some (.str t), y4, y5] O = .nx [some (.tup f), some (.lst ((z1v n f).map .str)), some (.own k), some (.str t), some (.lst (((z1v n f).filter fun o => decide (o ≠ t) && z0w n t o).map .str)), some (.lst (zbv ((z7s f).filter fun p => (pts t).contains p)))] (if zce n f t = true then O.set k (l ++ [.str t]) else O) := by
 have h1 := hf.n1
 have h4 := hf.n4
 have hg := z6M hf
 have ho := zc2 hf
 have htt := z0R ht
 have hlt := z05 h1 h4 htt
 unfold zcp
 refine z0X (x := .lst (((z1v n f).filter fun o => decide (o ≠ t) && z0w n t o).map .str)) (O1 := O) ((z39 (l := z1v n f) (inj := D.str) (p := fun o => decide (o ≠ t) && z0w n t o) (e := D.str) (τ := fun o => [some (.tup f), some (.lst ((z1v n f).map .str)), some (.own k), some (.str t), y4, y5, some (.str o)]) (z1N rfl) (by omega) (fun _ => rfl) (fun o ho => z2O (z0k (z0F rfl rfl (z7B O h1 h4 (z0R ho) htt))) fun _ => z0E (z0l (z0e rfl rfl) (z4H h1 h4 htt (z0R ho) O))) (fun _ _ _ => rfl)).trans rfl) (z0X (x := .lst (zbv ((z7s f).filter fun p => (pts t).contains p))) (O1 := O) ((z39 (l := z7s f) (inj := fun (p : Nat) => D.int (p : Int)) (p := fun p => (pts t).contains p) (e := fun (p : Nat) => D.int (p : Int)) (τ := fun (p : Nat) => [some (.tup f), some (.lst ((z1v n f).map .str)), some (.own k), some (.str t), some (.lst (((z1v n f).filter fun o => decide (o ≠ t) && z0w n t o).map .str)), y5, some (.int (p : Int))]) (z1N (z0l (z0b rfl) (zaH hf O))) (by omega) (fun _ => rfl) (fun p hp => z0E (z0l (z0e rfl rfl) (z2x (z0O h1 h4 htt) (by rw [hlt, <- hf.len]; exact (mem_ones.mp hp).1) O))) (fun _ _ _ => rfl)).trans rfl) ?_)
 rw [z1f (b := zce n f t) (O1 := O) (z2O (z0k (z0F rfl rfl (z5I O h1 h4 fun c hc => z0R (List.mem_filter.mp hc).1))) fun _ => z0k (z0F rfl rfl (z9F O _)))]
 cases zce n f t with
 | true => rw [if_pos rfl, if_pos rfl]; exact z4o (t := z01 3) rfl rfl hk (by omega)
 | false => rfl
theorem z4B {n : Nat} {f : List D} (hf : Fn n f) {O : Ow} (hO : z2o O) : z0x [.tup f] O = .ok (.own O.length) (O ++ [(gr n f).map .str]) := by
 have h1 := hf.n1
 have h4 := hf.n4
 have hg := z6M hf
 have hfew := z2y h1 h4
 let A : Option D := some (.tup f)
 let S : Option D := some (.lst ((z1v n f).map .str))
 obtain ⟨σ', O', l1, y3, y4, y5, rfl, rfl⟩ := z4r (i := 3) (it := dIt (z01 1)) (body := zcp) (σ := [A, S, some (.own O.length), none, none, none]) (O0 := O ++ [[]]) (O := O ++ [[]]) (l := z1v n f) (inj := D.str) rfl
  (fun j σ O' => ∃ y3 y4 y5, σ = [A, S, some (.own O.length), y3, y4, y5] /\ O' = O ++ [(((z1v n f).take j).filter (zce n f)).map D.str]) (fun j t σ O' ht hI => by
   obtain ⟨y3, y4, y5, rfl, rfl⟩ := hI
   have hl : ((((z1v n f).take j).filter (zce n f)).map D.str).length < 1000 := by
    have h1 := List.length_filter_le (zce n f) ((z1v n f).take j)
    have h2 := List.length_take_le' j (z1v n f)
    rw [List.length_map]; omega
   refine ⟨_, _, zcn hf (List.mem_of_getElem? ht) (k := O.length) z1B hl, _, _, _, rfl, ?_⟩
   rw [z8i _ ht]
   split
   ·rw [z4p, List.map_append]; rfl
   ·rw [List.append_nil]) ⟨none, none, none, rfl, by simp⟩
 rw [List.take_length] at l1
 unfold zcp at l1
 show fin (z1M [A, none, none, none, none, none] O) = _
 unfold z1M
 refine z1X (z0X (x := .lst ((z1v n f).map .str)) (O1 := O) ((z39 (l := terms n) (inj := D.str) (p := z4b f) (e := D.str) (τ := fun t => [A, none, none, some (.str t), none, none]) (z1N (z0l (z0b (z0l (z0b rfl) (z2B hf O))) (z2q h4 hO))) (by omega) (fun _ => rfl) (fun t ht => z0E (z0l (z0e rfl rfl) (z4Q hf ht O))) (fun _ _ _ => rfl)).trans rfl) (z0X (x := .own O.length) (O1 := O ++ [[]]) rfl (z45 (σ' := [A, S, some (.own O.length), y3, y4, y5]) (O1 := O ++ [(gr n f).map .str]) ?_ (z0u rfl))))
 exact l1
theorem z7U {f : List D} {t : List Nat} (h : z4b f t = true) {p : Nat} (hp : p ∈ pts t) : isZ (f.getD p .non) = false := by
 unfold z4b at h
 have := List.all_eq_true.mp h p hp
 simpa using this
theorem z7Z {n : Nat} {f : List D} (h : z7u n f) {t : List Nat} (ht : t ∈ z1v n f) : z9H f t = true := by
 have h1 := h.fn.n1
 have h4 := h.fn.n4
 have htt := z0R ht
 have hne : pts t ≠ [] := fun e => by have := z8R h1 h4 htt; rw [e] at this; cases this
 obtain ⟨p, hp⟩ := List.exists_mem_of_ne_nil _ hne
 have hlt := z4v h1 h4 htt hp
 have hm : p ∈ (z7s f).filter fun p => (pts t).contains p := List.mem_filter.mpr ⟨mem_ones.mpr ⟨by rw [h.fn.len]; exact hlt, by rw [z85 h hlt, z7U (List.mem_filter.mp ht).2 hp]; rfl⟩, by simpa using hp⟩
 unfold z9H
 cases e : (z7s f).filter fun p => (pts t).contains p with
 | nil => rw [e] at hm; cases hm
 | cons _ _ => rfl
theorem z7T {n : Nat} {f : List D} (h : z7u n f) : gr n f = z2j n (z1v n f) := by
 unfold gr z2j
 refine List.filter_congr fun t ht => ?_
 unfold zce
 rw [z7Z h ht, Bool.and_true, z2L, List.all_eq_not_any_not]
 congr 2
 funext o
 rw [Bool.not_not]
 congr 1
 by_cases e : t = o <;> simp [e, eq_comm]
theorem z2M {n : Nat} {f : List D} {t : List Nat} (h : t ∈ gr n f) : t ∈ terms n := z0R (List.mem_filter.mp h).1
theorem zbj {n : Nat} {f : List D} {t : List Nat} (h : t ∈ gr n f) : z4b f t = true := (List.mem_filter.mp (List.mem_filter.mp h).1).2
theorem zdc {n : Nat} {f : List D} (hf : Fn n f) : (gr n f).Pairwise (· < ·) := ((z5H hf.n1 hf.n4).filter _).filter _
theorem zcf {q : List Nat -> Bool} (h : ∀ t ∈ terms 4, ∀ o ∈ terms 4, q t = true -> q o = true -> z0w 4 t o = true -> t = o) : ((terms 4).filter q).length <= 54 := by
 have e : terms 4 = (terms 3).flatMap fun t => [t ++ [45], t ++ [48], t ++ [49]] := rfl
 have key : ∀ l : List (List Nat), (∀ x ∈ l, x ∈ terms 3) -> ((l.flatMap fun t => [t ++ [45], t ++ [48], t ++ [49]]).filter q).length <= l.length * 2 := fun l => by
  induction l with
  | nil => intro _; simp
  | cons x r ih =>
   intro hx
   rw [List.flatMap_cons, List.filter_append, List.length_append, List.length_cons, Nat.succ_mul]
   have hr := ih fun y hy => hx y (List.mem_cons_of_mem _ hy)
   have hx3 := hx x List.mem_cons_self
   have hlen := z05 (n := 3) (by decide) (by decide) hx3
   have hin : ∀ c, c = 45 \/ c = 48 \/ c = 49 -> x ++ [c] ∈ terms 4 := fun c hc => by
    rw [e, List.mem_flatMap]
    refine ⟨x, hx3, ?_⟩
    rcases hc with rfl | rfl | rfl <;> simp
   have hlie : ∀ c, z0w 4 (x ++ [c]) (x ++ [45]) = true := fun c => z3F fun k hk => by
    by_cases hk3 : k < 3
    ·right
     rw [List.getD_eq_getElem?_getD, List.getD_eq_getElem?_getD, List.getElem?_append_left (by omega), List.getElem?_append_left (by omega)]
    ·have : k = 3 := by omega
     subst this
     left
     rw [List.getD_eq_getElem?_getD, List.getElem?_append_right (by omega), hlen]; rfl
   have hnot : ∀ c, c = 48 \/ c = 49 -> q (x ++ [45]) = true -> q (x ++ [c]) = false := fun c hc h45 => by
    cases hq : q (x ++ [c]) with
    | false => rfl
    | true =>
     have := h _ (hin c (by rcases hc with rfl | rfl <;> simp)) _ (hin 45 (by simp)) hq h45 (hlie c)
     have h2 : [c] = [45] := List.append_cancel_left this
     rcases hc with rfl | rfl <;> cases h2
   have h2 : ([x ++ [45], x ++ [48], x ++ [49]].filter q).length <= 2 := by
    cases h45 : q (x ++ [45]) with
    | true => rw [List.filter_cons, h45, List.filter_cons, hnot 48 (by simp) h45, List.filter_cons, hnot 49 (by simp) h45]; simp
    | false =>
     rw [List.filter_cons, h45, if_neg (by decide)]
     exact List.length_filter_le _ _
   omega
 rw [e]
 exact Nat.le_trans (key (terms 3) fun _ h => h) (by decide)
theorem z8w {n : Nat} {f : List D} (h : z7u n f) : (gr n f).length < 64 := by
 have h1 := h.fn.n1
 have h4 := h.fn.n4
 by_cases hn : n <= 3
 ·have hl : (terms n).length < 64 := by
   have : n = 1 \/ n = 2 \/ n = 3 := by omega
   rcases this with rfl | rfl | rfl <;> decide
  exact Nat.lt_of_le_of_lt (Nat.le_trans (List.length_filter_le _ _) (List.length_filter_le _ _)) hl
 ·have : n = 4 := by omega
  subst this
  have e : gr 4 f = (terms 4).filter fun t => zce 4 f t && z4b f t := by
   unfold gr z1v
   rw [List.filter_filter]
  rw [e]
  refine Nat.lt_of_le_of_lt (zcf fun t ht o ho qt qo hl => ?_) (by decide : 54 < 64)
  have mt : t ∈ gr 4 f := by rw [e]; exact List.mem_filter.mpr ⟨ht, qt⟩
  have mo : o ∈ gr 4 f := by rw [e]; exact List.mem_filter.mpr ⟨ho, qo⟩
  rw [z7T h] at mt mo
  exact (mem_tops.mp mt).2 o (mem_tops.mp mo).1 hl
def isF (f : List D) (l : List (List Nat)) : Bool := (z7s f).all fun p => l.any fun t => (pts t).contains p
theorem z7D {f : List D} {l m : List (List Nat)} (h : ∀ t, t ∈ l ↔ t ∈ m) : isF f l = isF f m := by
 unfold isF
 congr 1
 funext p
 rw [Bool.eq_iff_iff, List.any_eq_true, List.any_eq_true]
 exact exists_congr fun t => and_congr_left fun _ => h t
theorem zaW : (allN.all fun q => decide (pts (z4W q.1 q.2) = [q.2]) && decide (z4W q.1 q.2 ∈ terms q.1)) = true := by decide +kernel
theorem zeK {n : Nat} {f : List D} (h : z7u n f) : isF f (gr n f) = true := by
 have h1 := h.fn.n1
 have h4 := h.fn.n4
 unfold isF
 rw [List.all_eq_true]
 intro p hp
 obtain ⟨p1, p2⟩ := mem_ones.mp hp
 rw [h.fn.len] at p1
 have hpt := List.all_eq_true.mp zaW (n, p) (zcQ h1 h4 p1)
 simp only [Bool.and_eq_true, decide_eq_true_eq] at hpt
 have hg : z4W n p ∈ z1v n f := List.mem_filter.mpr ⟨hpt.2, by
  unfold z4b
  rw [hpt.1]
  rw [z85 h p1] at p2
  simp only [List.all_cons, List.all_nil, Bool.and_true]
  exact p2⟩
 obtain ⟨w, hw, hl⟩ := zja (fun t ht => z05 h1 h4 (z0R ht)) hg
 rw [List.any_eq_true]
 refine ⟨w, by rw [z7T h]; exact hw, ?_⟩
 have := zbM h1 h4 hpt.2 (z0R (mem_tops.mp hw).1) hl (p := p) (by rw [hpt.1]; simp)
 simpa using this
theorem zan {n : Nat} {f : List D} (h : z7u n f) {l : List (List Nat)} (hl : ∀ t ∈ l, t ∈ gr n (opp f)) (hF : isF (opp f) l = true) : Sof n l = z1v n f := by
 have h1 := h.fn.n1
 have h4 := h.fn.n4
 have ho := z8Q h
 unfold Sof z1v
 refine List.filter_congr fun t ht => ?_
 rw [Bool.eq_iff_iff, List.all_eq_true]
 constructor
 ·intro hm
  unfold z4b
  rw [List.all_eq_true]
  intro p hp
  have hlt := z4v h1 h4 ht hp
  cases hz : isZ (f.getD p .non) with
  | false => rfl
  | true =>
   exfalso
   have hone : p ∈ z7s (opp f) := mem_ones.mpr ⟨by rw [ho.fn.len]; exact hlt, by rw [z85 ho hlt, z9N h hlt, hz]; rfl⟩
   unfold isF at hF
   obtain ⟨c, hc, hpc⟩ := List.any_eq_true.mp (List.all_eq_true.mp hF p hone)
   have hnone := z9h h1 h4 ht (z2M (hl c hc)) (hm c hc)
   have : p ∈ z9D t c := List.mem_filter.mpr ⟨hp, hpc⟩
   rw [hnone] at this
   cases this
 ·intro hg c hc
  cases hmm : z0r n t c with
  | true => rfl
  | false =>
   exfalso
   have hct := z2M (hl c hc)
   have hp := zep h1 h4 ht hct (by unfold z0r at hmm; rw [hmm]; decide)
   have hne : pts (met n t c) ≠ [] := fun e => by have := z8R h1 h4 (z36 h1 h4 ht hct); rw [e] at this; cases this
   obtain ⟨p, hpm⟩ := List.exists_mem_of_ne_nil _ hne
   rw [<- hp] at hpm
   obtain ⟨q1, q2⟩ := List.mem_filter.mp hpm
   have hlt := z4v h1 h4 ht q1
   have z1 := z7U hg q1
   have z2 := z7U (zbj (hl c hc)) (p := p) (by simpa using q2)
   rw [z9N h hlt, z1] at z2
   cases z2
theorem z7G (O : Ow) : (allT.map fun cs => z11 [.int (cs.length : Nat), .str cs] O) = allT.map fun _ => R.ok (.bl true) O := by kernel_rfl
theorem z98 {n : Nat} (h1 : 1 <= n) (h4 : n <= 4) {cs : List Nat} (h : cs ∈ terms n) (O : Ow) : z11 [.int n, .str cs] O = .ok (.bl true) O := by
 have := List.map_inj_left.mp (z7G O) cs (z0O h1 h4 h)
 rw [z05 h1 h4 h] at this
 exact this
theorem zag {l : List (List Nat)} (h : l.Pairwise (· < ·)) : z1p l = l := z2K (z1D l) h fun x => z0M l
theorem zao {σ : Sg} {O O1 : Ow} {t : DA} {x : D} {l : List (List Nat)} (h : t σ O = .ok [x] O1) (hx : lsV O1 x = some (l.map .str) \/ x = .tup (l.map .str)) (hl : l.length < 64) : z9m false t σ O = .ok (.lst ((z1p l).map .str)) O1 := by
 unfold z9m
 rw [h]
 show (match (match lsV O1 x with | some ds => some ds | none => tpV x) with | some ds => zj0 false (.ok ds O1) | none => .bad) = _
 have e : (match lsV O1 x with | some ds => some ds | none => tpV x) = some (l.map .str) := by
  rcases hx with hx | rfl
  ·rw [hx]
  ·rfl
 rw [e]
 show (match z8Y (l.map D.str) with | some ss => if ss.length < 64 then (if false = true then R.ok (D.own _) _ else R.ok (D.lst ((z1p ss).map .str)) O1) else .bad | none => .bad) = _
 rw [DL.strL_map]
 show (if l.length < 64 then _ else _) = _
 rw [if_pos hl]; rfl
theorem z6F {n : Nat} (h1 : 1 <= n) (h4 : n <= 4) {l : List (List Nat)} (hl : ∀ t ∈ l, t ∈ terms n) (hp : l.Pairwise (· < ·)) (hlen : l.length < 64) (O : Ow) : z0G [.int n, .tup (l.map .str)] O = .ok (.bl true) O := by
 show fin (z1z [some (.int n), some (.tup (l.map .str))] O) = _
 unfold z1z
 refine z1X (z42 (O1 := O) (zfZ (a := false) (b := false) (z1F (b := true) (z0E (b := true) rfl)) fun _ => z1F (b := true) (z0E (z17 (z0b ((zcx (l := l) (inj := D.str) (e := fun _ => D.bl true) (τ := fun t => [some (.int n), some (.tup (l.map .str)), some (.str t)]) (z4F rfl) (by omega) (fun _ => rfl) (fun t ht => z0l (z0e rfl rfl) (z98 h1 h4 (hl t ht) O))).trans rfl)) ((z3y O l fun _ => true).trans (by simp))))) (z0u (z0F (x := .lst (l.map .str)) (z17 (z0b rfl) rfl) (zao (z0b rfl) (.inr rfl) hlen) ?_)))
 rw [zag hp]
 exact (z6V O (b := true) (z3w h1 h4 hl) (z3w h1 h4 hl) (by simp)).1
theorem z8m {α : Type} {l : List α} {inj : α -> D} {i : Nat} {body : DS} {τ : Option D -> Sg} {O : Ow} {q : α -> Bool} {d : D} (hset : ∀ y x, (τ y).set i x = τ x) (hb : ∀ a ∈ l, body (τ (some (inj a))) O = if q a = true then .nx (τ (some (inj a))) O else .rt d O) :
  ∀ (f k : Nat) (y : Option D), k <= l.length -> l.length <= k + f -> ∃ y', z0L (.val (l.map inj)) (fun d σ O => match Tg.put (.one i) d σ with | some σ' => body σ' O | none => .bad) f k (τ y) O = if (l.drop k).all q = true then .nx (τ y') O else .rt d O
 | 0, k, y, h1, h2 => by
  have : k = l.length := by omega
  subst this
  refine ⟨y, ?_⟩
  have e : (Src.val (l.map inj)).get O l.length = none := by simp [Src.get]
  unfold z0L
  rw [e]; simp
 | f + 1, k, y, h1, h2 => by
  by_cases hk : k = l.length
  ·subst hk
   refine ⟨y, ?_⟩
   have e : (Src.val (l.map inj)).get O l.length = none := by simp [Src.get]
   unfold z0L
   rw [e]; simp
  ·have hlt : k < l.length := by omega
   have e : (Src.val (l.map inj)).get O k = some (inj l[k]) := by
    show (l.map inj)[k]? = _
    rw [List.getElem?_map, List.getElem?_eq_getElem hlt]; rfl
   obtain ⟨y', ih⟩ := z8m hset hb f (k + 1) (some (inj l[k])) (by omega) (by omega)
   refine ⟨y', ?_⟩
   unfold z0L
   rw [e]
   dsimp only
   have e2 : Tg.put (.one i) (inj l[k]) (τ y) = some (τ (some (inj l[k]))) := congrArg some (hset y _)
   rw [e2]
   dsimp only
   rw [hb _ (List.getElem_mem hlt), List.drop_eq_getElem_cons hlt, List.all_cons]
   cases hq : q l[k] with
   | true => rw [if_pos rfl, Bool.true_and]; exact ih
   | false => simp
theorem zfw {α : Type} {l : List α} {inj : α -> D} {i : Nat} {it : DI} {body : DS} {τ : Option D -> Sg} {O : Ow} {q : α -> Bool} {d : D} {y : Option D} (hi : it (τ y) O = .ok (.val (l.map inj)) O) (hset : ∀ y x, (τ y).set i x = τ x) (hb : ∀ a ∈ l, body (τ (some (inj a))) O = if q a = true then .nx (τ (some (inj a))) O else .rt d O) :
  ∃ y', z4T it (.one i) body (τ y) O = if l.all q = true then .nx (τ y') O else .rt d O := by
 obtain ⟨y', h⟩ := z8m hset hb (l.map inj).length 0 y (Nat.zero_le _) (by simp)
 exact ⟨y', (z65 hi).trans h⟩
theorem z9a {n : Nat} {f : List D} (h : z7u n f) {l : List (List Nat)} (hl : ∀ t ∈ l, t ∈ gr n f) (hp : l.Pairwise (· < ·)) (hlen : l.length < 64) (O : Ow) : z0t [.tup f, .tup (l.map .str)] O = .ok (.bl (isF f l)) O := by
 have h1 := h.fn.n1
 have h4 := h.fn.n4
 have hlt : ∀ t ∈ l, t ∈ terms n := fun t ht => z2M (hl t ht)
 let A : Option D := some (.tup f)
 let T : Option D := some (.tup (l.map .str))
 show fin (z1V [A, T, none] O) = _
 unfold z1V
 obtain ⟨y', hfor⟩ := zfw (l := z7s f) (inj := fun (p : Nat) => D.int (p : Int)) (i := 2) (it := dIt (dFn 1 z18 (z00 (z01 0) z03))) (body := sIf (z0z (dOp (fPy eqF) (z0n false 1 (dIt (z01 1)) (.one 3) [(z1s (dFn 2 z0s (z00 (z01 3) (z00 (z01 2) z03))))] [] (z01 3)) (z41 z03))) (z0B (dC (.bl false))) z1l) (τ := fun y => [A, T, y]) (O := O) (q := fun p => l.any fun t => (pts t).contains p) (d := .bl false) (y := none) (z1N (z0l (z0b rfl) (zaH h.fn O))) (fun _ _ => rfl) (fun p hp => by
  rw [z1f (b := (l.filter fun t => (pts t).contains p).isEmpty) (O1 := O) (z0k ((z0F ((z39 (l := l) (inj := D.str) (p := fun t => (pts t).contains p) (e := D.str) (τ := fun t => [A, T, some (.int (p : Int)), some (.str t)]) (z4F rfl) (by omega) (fun _ => rfl) (fun t ht => z0E (z0l (z0e rfl rfl) (z2x (z0O h1 h4 (hlt t ht)) (by rw [z05 h1 h4 (hlt t ht), <- h.fn.len]; exact (mem_ones.mp hp).1) O))) (fun _ _ _ => rfl)).trans rfl) rfl (z5I O h1 h4 fun c hc => hlt c (List.mem_filter.mp hc).1))))]
  rw [z2L, List.all_eq_not_any_not]
  simp only [Bool.not_not]
  cases (l.any fun t => (pts t).contains p) <;> rfl)
 have e1 : z1o (z1s (dFn 2 z0G (z00 (dFn 1 z0A (z00 (z01 0) z03)) (z00 (z01 1) z03)))) [A, T, none] O = .ok false O := z1F (b := true) (z0E (z0l (z0e (z0l (z0b rfl) (z2B h.fn O)) rfl) (z6F h1 h4 hlt hp hlen O)))
 have e2 : z0z (dOp (fPy neF) (z0n false 1 (dIt (z01 1)) (.one 3) [(z1o (z1s (dFn 2 z1k (z00 (z01 0) (z00 (z01 3) z03)))))] [] (z01 3)) (z41 z03)) [A, T, none] O = .ok false O := by
  refine z0k ((z0F ((z39 (l := l) (inj := D.str) (p := fun t => !z4b f t) (e := D.str) (τ := fun t => [A, T, none, some (.str t)]) (z4F rfl) (by omega) (fun _ => rfl) (fun t ht => z1F (z0E (z0l (z0e rfl rfl) (z4Q h.fn (hlt t ht) O)))) (fun _ _ _ => rfl)).trans rfl) rfl (zeq O h1 h4 fun c hc => hlt c (List.mem_filter.mp hc).1)).trans ?_)
  have : (l.filter fun t => !z4b f t) = [] := List.filter_eq_nil_iff.mpr fun t ht => by rw [zbj (hl t ht)]; decide
  rw [this]; rfl
 cases hF : isF f l with
 | true =>
  have hall : ((z7s f).all fun p => l.any fun t => (pts t).contains p) = true := hF
  rw [hall, if_pos rfl] at hfor
  exact z1X (z42 e1 (z42 e2 (z45 hfor (z0u rfl))))
 | false =>
  have hall : ((z7s f).all fun p => l.any fun t => (pts t).contains p) = false := hF
  rw [hall, if_neg (by decide)] at hfor
  exact z1X (z42 e1 (z42 e2 (z3V hfor)))
theorem zfy {A : Ow} {x y : List D} {k : Nat} (h : A.length = k) : (A ++ [x, y])[k]? = some x := by subst h; simp
theorem zdR {A : Ow} {x y : List D} {k : Nat} (h : A.length = k) : (A ++ [x, y])[k + 1]? = some y := by
 subst h
 rw [List.getElem?_append_right (by omega), Nat.add_sub_cancel_left]; rfl
theorem zim {A : Ow} {x y z : List D} {k : Nat} (h : A.length = k) : (A ++ [x, y]).set k z = A ++ [z, y] := by
 subst h
 rw [List.set_append_right _ _ (Nat.le_refl _), Nat.sub_self]; rfl
theorem ziz {A : Ow} {x y z : List D} {k : Nat} (h : A.length = k) : (A ++ [x, y]).set (k + 1) z = A ++ [x, z] := by
 subst h
 rw [List.set_append_right _ _ (by omega), Nat.add_sub_cancel_left]; rfl
theorem zdN (O : Ow) {n : Nat} (h1 : 1 <= n) (h4 : n <= 4) {l : List (List Nat)} (h : ∀ cs ∈ l, cs ∈ terms n) {k : Nat} (hk : O[k]? = some (l.map D.str)) : fPy neF O (.own k) (.lst []) = .ok (.bl (!l.isEmpty)) O := by
 obtain ⟨ps, hps⟩ := z3x (f := z2k O 7) (l := l.map D.str) fun z hz => z7P O 7 z (List.all_eq_true.mp (z3w h1 h4 h) z hz)
 unfold fPy py
 have e : z2k O 8 (.own k) = some (.list ps) := by
  show (match O[k]? with | some ds => (z1j (z2k O 7) ds).map PyData.list | none => none) = _
  rw [hk]; dsimp only; rw [hps]; rfl
 rw [e]
 cases l with
 | nil => cases hps; rfl
 | cons x l =>
  rw [List.map_cons] at hps
  unfold z1j at hps
  split at hps
  ·cases hps; rfl
  ·cases hps
theorem zeh {O : Ow} {k : Nat} {l : List (List Nat)} (hk : O[k]? = some (l.map .str)) (hn : l.Nodup) (hl : l.length < 64) : z7E O [.own k] = .ok (.lst ((z1p l).map .str)) O := by
 show (match O[k]? with | some ds => (match z8Y ds with | some ss => if ss.Nodup /\ ss.length < 64 then R.ok (D.lst ((z1p ss).map .str)) O else R.bad | none => R.bad) | none => R.bad) = _
 rw [hk]
 dsimp only
 rw [DL.strL_map]
 dsimp only
 rw [if_pos ⟨hn, hl⟩]
theorem z76 {α β : Type} (f : α -> β) : ∀ (l : List α) (i : Nat), (l.map f).eraseIdx i = (l.eraseIdx i).map f
 | [], _ => by simp
 | x :: l, 0 => rfl
 | x :: l, i + 1 => by
  rw [List.map_cons, List.eraseIdx_cons_succ, List.eraseIdx_cons_succ, List.map_cons, z76 f l i]
theorem z23 {α : Type} : ∀ (l : List α) (i : Nat) (h : i < l.length), (l[i] :: l.eraseIdx i).Perm l
 | [], _, h => by simp at h
 | x :: l, 0, _ => List.Perm.refl _
 | x :: l, i + 1, h => by
  rw [List.eraseIdx_cons_succ, List.getElem_cons_succ]
  exact (List.Perm.swap _ _ _).trans ((z23 l i (by simpa using h)).cons x)
def zhX : DE := z0c z3s (z00 (z0c z7E (z00 (z01 3) z03)) z03)
theorem zaY {σ : Sg} {O : Ow} {k : Nat} {l : List (List Nat)} (h3 : z01 3 σ O = .ok (.own k) O) (hk : O[k]? = some (l.map .str)) (hn : l.Nodup) (hl : l.length < 64) : zhX σ O = .ok (.tup ((z1p l).map .str)) O :=
 z17 (z0b (z17 (z0b h3) (zeh hk hn hl))) rfl
def zhU : DS := z1e (z7r (z01 3) (z00 (z6Z (z01 2) (z00 (dFn 2 z06 (z00 (z01 0) (z00 (z0c z2p (z00 (z01 2) z03)) z03))) z03)) z03))
def z5u : DT := z1y (z0z (dOp (fPy neF) (z01 2) (z41 z03))) (z1s (z01 4))
def z56 : DS := (z0i (sIf (z1s (dFn 2 z0t (z00 (z01 1) (z00 zhX z03)))) (z0W 4 (dOp (fPy eqF) (dFn 2 z06 (z00 (z01 0) (z00 (dC (.int 4)) z03))) (dC (.int 0)))) z1l) (sIf (z1s (z01 4)) zhU z1l))
section
variable {n m : Nat} {g : List D} (hg : z7u n g) {O : Ow} {b : Bool}
def OO (O : Ow) (m : Nat) (b : Bool) (s : Int) (L Fd : List (List Nat)) : Ow := O.set m [.int s, .bl b] ++ [L.map .str, Fd.map .str]
def stW (O : Ow) (m : Nat) (g : List D) (mo : Bool) : Sg := [some (.own m), some (.tup g), some (.own O.length), some (.own (O.length + 1)), some (.bl mo)]
include hg
theorem zhK {s : Int} (hs : StAt (O.set m [.int s, .bl b]) m s b) {L Fd : List (List Nat)} (hp : (Fd ++ L).Perm (gr n g)) (hL : L ≠ []) {mo : Bool} :
  ∃ s' r, ∃ hr : r < L.length, zhU (stW O m g mo) (OO O m b s L Fd) = .nx (stW O m g mo) (OO O m b s' (L.eraseIdx r) (Fd ++ [L[r]])) /\ StAt (O.set m [.int s', .bl b]) m s' b := by
 have hlen : ∀ s', (O.set m [D.int s', D.bl b]).length = O.length := fun s' => List.length_set
 have hfew := z8w hg
 have hpl := hp.length_eq
 rw [List.length_append] at hpl
 have hpos : 0 < L.length := List.length_pos_iff.mpr hL
 obtain ⟨r, s', r1, r2, r3⟩ := z3m hs [L.map .str, Fd.map .str] (k := L.length) (by omega) (by omega)
 refine ⟨s', r, r1, ?_, r3⟩
 unfold zhU
 have hidx : (((r : Nat) : Int)).toNat = r := by omega
 have e1 : z6Z (z01 2) (z00 (dFn 2 z06 (z00 (z01 0) (z00 (z0c z2p (z00 (z01 2) z03)) z03))) z03) (stW O m g mo) (OO O m b s L Fd) = .ok (.str L[r]) (OO O m b s' (L.eraseIdx r) Fd) := by
  have ha : z00 (dFn 2 z06 (z00 (z01 0) (z00 (z0c z2p (z00 (z01 2) z03)) z03))) z03 (stW O m g mo) (OO O m b s L Fd) = .ok [.int (r : Nat)] (OO O m b s' L Fd) :=
   z0b (z0l (z0e rfl (z17 (z0b rfl) ((z5O (O := OO O m b s L Fd) (x := .own O.length) (xs := L.map .str) (zfy (hlen s))).trans (by rw [List.length_map]; rfl)))) r2)
  show (((z00 _ _ (stW O m g mo) (OO O m b s L Fd)).bnd fun ys O2 => match ys, O2[O.length]? with | [.int i], some ds => if 0 <= i /\ i < 100000 then (match ds[i.toNat]? with | some d => R.ok d (O2.set O.length (ds.eraseIdx i.toNat)) | none => R.bad) else R.bad | _, _ => R.bad)) = _
  rw [ha]
  show (match [D.int (r : Nat)], (OO O m b s' L Fd)[O.length]? with | [.int i], some ds => if 0 <= i /\ i < 100000 then (match ds[i.toNat]? with | some d => R.ok d ((OO O m b s' L Fd).set O.length (ds.eraseIdx i.toNat)) | none => R.bad) else R.bad | _, _ => R.bad) = _
  rw [show (OO O m b s' L Fd)[O.length]? = some (L.map .str) from zfy (hlen s')]
  dsimp only
  rw [if_pos (by omega), hidx, List.getElem?_map, List.getElem?_eq_getElem r1]
  dsimp only [Option.map_some]
  congr 1
  rw [z76]
  exact zim (hlen s')
 rw [z4o (σ := stW O m g mo) (k := O.length + 1) (ds := Fd.map .str) rfl e1 (zdR (hlen s')) (by rw [List.length_map]; omega)]
 congr 1
 show (OO O m b s' (L.eraseIdx r) Fd).set (O.length + 1) (Fd.map .str ++ [.str L[r]]) = _
 unfold OO
 rw [ziz (hlen s'), List.map_append]; rfl
theorem zcE {s : Int} (hs : StAt (O.set m [.int s, .bl b]) m s b) {L Fd : List (List Nat)} (hp : (Fd ++ L).Perm (gr n g)) (hL : L ≠ []) :
  ∃ s' mo L' Fd', z56 (stW O m g true) (OO O m b s L Fd) = .nx (stW O m g mo) (OO O m b s' L' Fd') /\ StAt (O.set m [.int s', .bl b]) m s' b /\ (Fd' ++ L').Perm (gr n g) /\ ((mo = true /\ L'.length + 1 = L.length) \/ (mo = false /\ L' = L /\ isF g Fd' = true)) := by
 have hlen : ∀ s', (O.set m [D.int s', D.bl b]).length = O.length := fun s' => List.length_set
 have hfew := z8w hg
 have hpl := hp.length_eq
 rw [List.length_append] at hpl
 have hnd : Fd.Nodup := by
  have : (gr n g).Nodup := (zdc hg.fn).imp fun h e => by subst e; exact absurd h (List.lt_irrefl _)
  exact (List.nodup_append.mp (hp.nodup_iff.mpr this)).1
 have hmem : ∀ t ∈ Fd, t ∈ gr n g := fun t ht => hp.mem_iff.mp (List.mem_append_left _ ht)
 have hform : z1s (dFn 2 z0t (z00 (z01 1) (z00 zhX z03))) (stW O m g true) (OO O m b s L Fd) = .ok (isF g Fd) (OO O m b s L Fd) := by
  have e := z9a hg (l := z1p Fd) (fun t ht => hmem t ((z0M Fd).mp ht)) (z1D Fd) (by have := z4l Fd; omega) (OO O m b s L Fd)
  rw [z7D (m := Fd) fun t => z0M Fd] at e
  exact z0E (z0l (z0e rfl (zaY (k := O.length + 1) rfl (zdR (hlen s)) hnd (by omega))) e)
 have popped : ∀ s1, StAt (O.set m [.int s1, .bl b]) m s1 b -> ∃ s' mo L' Fd', sIf (z1s (z01 4)) zhU z1l (stW O m g true) (OO O m b s1 L Fd) = .nx (stW O m g mo) (OO O m b s' L' Fd') /\ StAt (O.set m [.int s', .bl b]) m s' b /\ (Fd' ++ L').Perm (gr n g) /\ ((mo = true /\ L'.length + 1 = L.length) \/ (mo = false /\ L' = L /\ isF g Fd' = true)) := fun s1 hs1 => by
  obtain ⟨s', r, hr, e1, e2⟩ := zhK hg hs1 hp hL (mo := true)
  refine ⟨s', true, L.eraseIdx r, Fd ++ [L[r]], ?_, e2, ?_, .inl ⟨rfl, by rw [List.length_eraseIdx_of_lt hr]; omega⟩⟩
  ·rw [z1f (b := true) (O1 := OO O m b s1 L Fd) rfl, if_pos rfl]; exact e1
  ·rw [List.append_assoc]
   exact ((z23 L r hr).append_left Fd).trans hp
 unfold z56
 cases hF : isF g Fd with
 | false =>
  rw [hF] at hform
  obtain ⟨s', mo, L', Fd', e1, e2, e3, e4⟩ := popped s hs
  exact ⟨s', mo, L', Fd', z42 hform e1, e2, e3, e4⟩
 | true =>
  rw [hF] at hform
  obtain ⟨r, s1, r1, r2, r3⟩ := z3m hs [L.map .str, Fd.map .str] (k := 4) (by decide) (by decide)
  have eset : sIf (z1s (dFn 2 z0t (z00 (z01 1) (z00 zhX z03)))) (z0W 4 (dOp (fPy eqF) (dFn 2 z06 (z00 (z01 0) (z00 (dC (.int 4)) z03))) (dC (.int 0)))) z1l (stW O m g true) (OO O m b s L Fd) = .nx (stW O m g ((r : Int) == 0)) (OO O m b s1 L Fd) := by
   rw [z1f hform, if_pos rfl]
   exact z34 (z0F (z0l (z0e rfl rfl) r2) rfl rfl)
  cases hr0 : ((r : Int) == 0) with
  | true =>
   rw [hr0] at eset
   obtain ⟨s', mo, L', Fd', e1, e2, e3, e4⟩ := popped s1 r3
   exact ⟨s', mo, L', Fd', z45 eset e1, e2, e3, e4⟩
  | false =>
   rw [hr0] at eset
   refine ⟨s1, false, L, Fd, z45 eset ?_, r3, hp, .inr ⟨rfl, rfl, hF⟩⟩
   rw [z1f (b := false) (O1 := OO O m b s1 L Fd) rfl]; rfl
theorem zb2 {s : Int} {L Fd : List (List Nat)} (hp : (Fd ++ L).Perm (gr n g)) {mo : Bool} : z5u (stW O m g mo) (OO O m b s L Fd) = .ok (!L.isEmpty && mo) (OO O m b s L Fd) := by
 have hlen : ∀ s', (O.set m [D.int s', D.bl b]).length = O.length := fun s' => List.length_set
 exact z2O (z0k (z0F rfl rfl (zdN _ hg.fn.n1 hg.fn.n4 (fun t ht => z2M (hp.mem_iff.mp (List.mem_append_right _ ht))) (zfy (hlen s))))) fun _ => z0E rfl
theorem z8I : ∀ (f : Nat) {s : Int} {L Fd : List (List Nat)} {mo : Bool}, StAt (O.set m [.int s, .bl b]) m s b -> (Fd ++ L).Perm (gr n g) -> (mo = true -> L.length + 2 <= f) -> 1 <= f -> (mo = false -> isF g Fd = true) ->
  ∃ s' mo' L' Fd', z22 z5u z56 f (stW O m g mo) (OO O m b s L Fd) = .nx (stW O m g mo') (OO O m b s' L' Fd') /\ StAt (O.set m [.int s', .bl b]) m s' b /\ (Fd' ++ L').Perm (gr n g) /\ isF g Fd' = true
 | 0, s, L, Fd, mo, _, _, _, h1, _ => by omega
 | f + 1, s, L, Fd, mo, hs, hp, hf, _, hm => by
  have hstop : (!L.isEmpty && mo) = false -> ∃ s' mo' L' Fd', z22 z5u z56 (f + 1) (stW O m g mo) (OO O m b s L Fd) = .nx (stW O m g mo') (OO O m b s' L' Fd') /\ StAt (O.set m [.int s', .bl b]) m s' b /\ (Fd' ++ L').Perm (gr n g) /\ isF g Fd' = true := fun hc => by
   refine ⟨s, mo, L, Fd, ?_, hs, hp, ?_⟩
   ·show ((z5u (stW O m g mo) (OO O m b s L Fd)).bnS _) = _
    rw [zb2 hg hp, hc]; rfl
   ·cases mo with
    | false => exact hm rfl
    | true =>
     have : L = [] := by simpa using hc
     subst this
     rw [List.append_nil] at hp
     rw [z7D (m := gr n g) fun t => hp.mem_iff]
     exact zeK hg
  cases mo with
  | false => exact hstop (by simp)
  | true =>
   by_cases hL : L = []
   ·exact hstop (by simp [hL])
   ·have hc : (!L.isEmpty && true) = true := by
     cases L with
     | nil => exact absurd rfl hL
     | cons _ _ => rfl
    obtain ⟨s', mo, L', Fd', e1, e2, e3, e4⟩ := zcE hg hs hp hL
    have hf' := hf rfl
    obtain ⟨s2, mo2, L2, Fd2, q1, q2, q3, q4⟩ := z8I f (s := s') (L := L') (Fd := Fd') (mo := mo) e2 e3 (fun h => by
     rcases e4 with ⟨_, z⟩ | ⟨z, _⟩
     ·omega
     ·rw [h] at z; cases z) (by omega) (fun h => by
     rcases e4 with ⟨z, _⟩ | ⟨_, _, z⟩
     ·rw [h] at z; cases z
     ·exact z)
    refine ⟨s2, mo2, L2, Fd2, ?_, q2, q3, q4⟩
    show ((z5u (stW O m g true) (OO O m b s L Fd)).bnS fun k O1 => if k = true then (match z56 (stW O m g true) O1 with | .nx σ' O' => z22 z5u z56 f σ' O' | .ct σ' O' => z22 z5u z56 f σ' O' | .bk σ' O' => .nx σ' O' | r => r) else .nx (stW O m g true) O1) = _
    rw [zb2 hg hp, hc]
    show (match z56 (stW O m g true) (OO O m b s L Fd) with | .nx σ' O' => z22 z5u z56 f σ' O' | .ct σ' O' => z22 z5u z56 f σ' O' | .bk σ' O' => .nx σ' O' | r => r) = _
    rw [e1]
    exact q1
theorem z6h (hO : z2o O) {s : Int} (hs : StAt O m s b) : ∃ (l : List (List Nat)) (s' : Int), z0I [.own m, .tup g] O = .ok (.tup (l.map .str)) (O.set m [.int s', .bl b]) /\ StAt (O.set m [.int s', .bl b]) m s' b /\ l.Pairwise (· < ·) /\ (∀ t ∈ l, t ∈ gr n g) /\ isF g l = true /\ l.length < 64 := by
 have hlen : ∀ s', (O.set m [D.int s', D.bl b]).length = O.length := fun s' => List.length_set
 have hfew := z8w hg
 have hs' : StAt (O.set m [.int s, .bl b]) m s b := by rw [z5r hs.at_]; exact hs
 obtain ⟨s', mo, L, Fd, e1, e2, e3, e4⟩ := z8I hg (O := O) (m := m) (b := b) 100 (s := s) (L := gr n g) (Fd := []) (mo := true) hs' (List.Perm.refl _) (fun _ => by omega) (by decide) (fun h => by cases h)
 have hpl := e3.length_eq
 rw [List.length_append] at hpl
 have hnd : Fd.Nodup := by
  have : (gr n g).Nodup := (zdc hg.fn).imp fun h e => by subst e; exact absurd h (List.lt_irrefl _)
  exact (List.nodup_append.mp (e3.nodup_iff.mpr this)).1
 have hl2 := z4l Fd
 refine ⟨z1p Fd, s', ?_, e2, z1D Fd, fun t ht => e3.mem_iff.mp (List.mem_append_left _ ((z0M Fd).mp ht)), by rw [z7D (m := Fd) fun t => z0M Fd]; exact e4, by omega⟩
 show za4 O.length (fin (z12 [some (.own m), some (.tup g), none, none, none] O)) = _
 have hstart : O ++ [(gr n g).map .str] ++ [[]] = OO O m b s (gr n g) [] := by
  unfold OO
  rw [z5r hs.at_, List.append_assoc]; rfl
 have hB : z12 [some (.own m), some (.tup g), none, none, none] O = .rt (.tup ((z1p Fd).map .str)) (OO O m b s' L Fd) := by
  unfold z12
  refine z0X (x := .own O.length) (O1 := O ++ [(gr n g).map .str]) (z0l (z0b rfl) (z4B hg.fn hO)) (z0X (x := .own (O.length + 1)) (O1 := OO O m b s (gr n g) []) ?_ (z0X (x := .bl true) (O1 := OO O m b s (gr n g) []) rfl (z45 (σ' := stW O m g mo) (O1 := OO O m b s' L Fd) e1 (z0u ?_))))
  ·rw [<- hstart]
   show R.ok (D.own (O ++ [(gr n g).map D.str]).length) _ = _
   rw [List.length_append]; rfl
  ·exact zaY (k := O.length + 1) rfl (zdR (hlen s')) hnd (by omega)
 rw [z1X hB]
 have := z4k (z2g hO m s' b) [L.map .str, Fd.map .str] (d := .tup ((z1p Fd).map .str)) (d' := .tup ((z1p Fd).map .str)) (z9T fun d hd => by obtain ⟨x, _, rfl⟩ := List.mem_map.mp hd; rfl)
 rw [hlen] at this
 exact this
end
theorem z9M {Pr : List Nat -> Prop} : ∀ (vs : List D), (∀ v ∈ vs, ∃ cs, v = D.str cs /\ Pr cs) -> ∃ ss : List (List Nat), vs = ss.map D.str /\ ∀ s ∈ ss, Pr s
 | [], _ => ⟨[], rfl, by simp⟩
 | v :: vs, h => by
  obtain ⟨c, rfl, hc⟩ := h v List.mem_cons_self
  obtain ⟨cs, rfl, hcs⟩ := z9M vs fun w hw => h w (List.mem_cons_of_mem _ hw)
  exact ⟨c :: cs, rfl, fun x hx => (List.mem_cons.mp hx).elim (fun e => by rw [e]; exact hc) (hcs x)⟩
theorem z3b {n : Nat} (h1 : 1 <= n) (h4 : n <= 4) {O : Ow} (hO : z2o O) {m : Nat} {s : Int} {b : Bool} (hs : StAt O m s b) {q : Nat} (hq : q <= 50) :
  ∃ (l : List (List Nat)) (s' : Int), z0h [.own m, .int n, .int (q : Nat)] O = .ok (.tup (l.map .str)) (O.set m [.int s', .bl b]) /\ StAt (O.set m [.int s', .bl b]) m s' b /\ l.Pairwise (· < ·) /\ (∀ t ∈ l, t ∈ terms n) /\ l.length < 64 := by
 have hfew := z2y h1 h4
 obtain ⟨r, s1, r1, r2, r3⟩ := z3P hs (k := q + 1) (by omega) (by omega)
 let S : Option D := some (.lst ((terms n).map .str))
 have hi : z24 (z00 (dFn 2 z06 (z00 (z01 0) (z00 (dOp z2W (z01 2) (dC (.int 1))) z03))) z03) [some (.own m), some (.int n), some (.int (q : Nat)), S, none] O = .ok (.val ((List.range r).map fun (i : Nat) => D.int (i : Int))) (O.set m [.int s1, .bl b]) :=
  z1S (z0b (z0l (z0e rfl (z0F rfl rfl z2J)) r2)) (by omega)
 obtain ⟨vs, s2, c1, c2, c3, c4⟩ := zeG (o := false) (ext := 1) (i := 5) (te := dOp fIx (z01 3) (dFn 2 z06 (z00 (z01 0) (z00 (z0c z2p (z00 (z01 3) z03)) z03)))) (P := fun v => ∃ cs, v = D.str cs /\ cs ∈ terms n) r3 hi (by simp; omega) (fun d hd s' hs' => by
  rw [List.set_set] at hs'
  have hpos : 1 <= (terms n).length := by rcases zd4 h1 h4 with rfl | rfl | rfl | rfl <;> decide
  obtain ⟨j, s'', j1, j2, j3⟩ := z3P hs' (k := (terms n).length) hpos (by omega)
  rw [List.set_set] at j2 j3
  refine ⟨.str (terms n)[j], s'', ?_, ?_, (terms n)[j], rfl, List.getElem_mem _⟩
  ·rw [List.set_set, List.set_set]
   refine z0F (x := .lst ((terms n).map .str)) rfl (z0l (z0e rfl (z17 (z0b rfl) ((z5O (x := .lst ((terms n).map .str)) rfl).trans (by rw [List.length_map])))) j2) ?_
   rw [zas (by rw [List.length_map]; exact j1), List.getElem_map]
  ·rw [List.set_set]; exact j3)
 rw [List.set_set] at c1 c2
 obtain ⟨ss, rfl, hss⟩ := z9M vs c4
 have hl : ss.length = r := by simpa using c3
 have hl2 := z4l ss
 refine ⟨z1p ss, s2, ?_, c2, z1D ss, fun t ht => hss t ((z0M ss).mp ht), by omega⟩
 show fin (z1n [some (.own m), some (.int n), some (.int (q : Nat)), none, none] O) = _
 unfold z1n
 exact z1X (z0X (x := .lst ((terms n).map .str)) (O1 := O) (z0l (z0b rfl) (z2q h4 hO)) (z0X (x := .lst (ss.map .str)) (O1 := O.set m [.int s2, .bl b]) c1 (z0u (z17 (z0b (zao (l := ss) (z0b rfl) (.inl rfl) (by omega))) rfl))))
structure Cls (n : Nat) (cl : List (List Nat)) : Prop where
 inn : ∀ c ∈ cl, c ∈ terms n
 srt : cl.Pairwise (· < ·)
 few : cl.length < 64
theorem zez {n : Nat} {cl : List (List Nat)} : ∀ t ∈ z2j n (Sof n cl), t ∈ terms n := fun t ht => (mem_Sof.mp (mem_tops.mp ht).1).1
def zcT : DS := (z0i (z0W 8 (dFn 2 z0P (z00 (z01 3) (z00 (z01 6) z03)))) (z0i (sIf (z1o (z1s (dFn 2 z14 (z00 (z01 8) (z00 (dFn 2 z20 (z00 (z01 3) (z00 (z01 6) z03))) z03))))) (z0B (dC (.bl false))) z1l) (z1e (z7r (z01 8) (z00 (dC (.int 0)) z03)))))
theorem zcM {n : Nat} (h1 : 1 <= n) (h4 : n <= 4) {cl : List (List Nat)} (h : Cls n cl) {O : Ow} (hO : z2o O) {a0 a1 a2 a4 a5 a7 y8 : Option D} :
  ∃ z8 O', zcT [a0, a1, a2, some (.int n), a4, a5, some (.tup (cl.map .str)), a7, y8] O = .nx [a0, a1, a2, some (.int n), a4, a5, some (.tup (cl.map .str)), a7, z8] O' /\ z2o O' := by
 obtain ⟨X, hX, e1⟩ := z3B h1 h4 h.inn h.srt (by have := h.few; omega) hO
 have hfew : (z2j n (Sof n cl)).length <= 81 := z8u (z87 h1 h4 cl)
 have hfl : z2o (O ++ X) := Strs.flat hO hX
 have hflat : z2o (O ++ X ++ [(z2j n (Sof n cl)).map .str]) := by rw [List.append_assoc]; exact Strs.flat hO (hX.one _)
 have hout := z92 h1 h4 h.inn (by have := h.few; omega) hflat
 generalize hQ : O ++ X ++ [(z2j n (Sof n cl)).map D.str] = Q at *
 have hk : Q[(O ++ X).length]? = some ((z2j n (Sof n cl)).map D.str) := by rw [<- hQ]; exact z1B
 refine ⟨some (.own (O ++ X).length), O ++ X ++ [(z2j n (Sof n cl)).map .str ++ [.int 0]], ?_, z5C hfl fun d hd => ?_⟩
 ·unfold zcT
  refine z0X (z0l (z0e rfl rfl) e1) (z42 (O1 := Q) (z1F (b := true) (z0E (z0l (z0e rfl (z0l (z0e rfl rfl) hout)) (z59 h1 h4 zez (by omega) (x := .own (O ++ X).length) hk rfl)))) ?_)
  refine (z4o (i := 8) (t := dC (.int 0)) (k := (O ++ X).length) rfl rfl hk (by rw [List.length_map]; omega)).trans ?_
  rw [<- hQ, z4p]; rfl
 ·rcases List.mem_append.mp hd with hd | hd
  ·obtain ⟨x, _, rfl⟩ := List.mem_map.mp hd; rfl
  ·have : d = .int 0 := by simpa using hd
   subst this; rfl
def z4X : DS := z4T (z24 (z00 (dC (.int 2)) z03)) (.one 7) zcT
theorem zc6 {n : Nat} (h1 : 1 <= n) (h4 : n <= 4) {cl : List (List Nat)} (h : Cls n cl) {O : Ow} (hO : z2o O) {a0 a1 a2 a4 a5 a7 y8 : Option D} :
  ∃ z7 z8 O', z4X [a0, a1, a2, some (.int n), a4, a5, some (.tup (cl.map .str)), a7, y8] O = .nx [a0, a1, a2, some (.int n), a4, a5, some (.tup (cl.map .str)), z7, z8] O' /\ z2o O' := by
 obtain ⟨σ5, O5, e5, ⟨z7, z8, rfl, fl5⟩⟩ := z4r (i := 7) (body := zcT) (ziM (k := 2) (c := 2) rfl (by decide) [a0, a1, a2, some (.int n), a4, a5, some (.tup (cl.map .str)), a7, y8] O) (fun _ σ O' => ∃ z7 z8, σ = [a0, a1, a2, some (.int n), a4, a5, some (.tup (cl.map .str)), z7, z8] /\ z2o O') (fun _ d σ O' _ hI => by
  obtain ⟨z7, z8, rfl, fl⟩ := hI
  obtain ⟨w8, O2, e1, e2⟩ := zcM h1 h4 h fl (a0 := a0) (a1 := a1) (a2 := a2) (a4 := a4) (a5 := a5) (a7 := some (.int (d : Int))) (y8 := z8)
  exact ⟨_, _, e1, _, _, rfl, e2⟩) ⟨a7, y8, rfl, hO⟩
 exact ⟨z7, z8, O5, e5, fl5⟩
def itC : DI := dIt (z41 (z00 (dFn 3 z0h (z00 (z01 2) (z00 (z01 3) (z00 (dC (.int 6)) z03)))) (z00 (dFn 3 z0h (z00 (z01 2) (z00 (z01 3) (z00 (dC (.int 2)) z03)))) (z00 (zfA z03) (z00 (zfA (z00 (dOp z7c (dC (.str [45])) (z01 3)) z03)) z03)))))
def zfR : DS := sIf (z1o (z1s (dFn 2 z14 (z00 (dFn 2 z0P (z00 (z01 3) (z00 (z01 5) z03))) (z00 (dFn 1 z0x (z00 (z01 4) z03)) z03))))) (z0B (dC (.bl false))) z1l
def zfP : DS := (z0i (z0W 2 (dFn 2 z1x (z00 (z01 0) (z00 (z01 1) z03)))) (z0i (z0W 3 (dOp z2W (dC (.int 1)) (dFn 2 z06 (z00 (z01 2) (z00 (dC (.int 4)) z03))))) (z0i (z0W 4 (dFn 3 z0T (z00 (z01 2) (z00 (z01 3) (z00 (dC (.bl false)) z03))))) (z0i (z0W 5 (dFn 2 z0I (z00 (z01 2) (z00 (dFn 1 z0Q (z00 (z01 4) z03)) z03)))) (z0i (z4T itC (.one 6) z4X) zfR)))))
theorem zfV {n : Nat} {f : List D} (h : z7u n f) {l : List (List Nat)} (hp : l.Pairwise (· < ·)) (hl : ∀ t ∈ l, t ∈ gr n (opp f)) (hF : isF (opp f) l = true) (hlen : l.length < 64) {O : Ow} (hO : z2o O) {a0 a1 a2 a6 a7 a8 : Option D} :
  ∃ O', zfR [a0, a1, a2, some (.int n), some (.tup f), some (.tup (l.map .str)), a6, a7, a8] O = .nx [a0, a1, a2, some (.int n), some (.tup f), some (.tup (l.map .str)), a6, a7, a8] O' /\ z2o O' := by
 have h1 := h.fn.n1
 have h4 := h.fn.n4
 have hlt : ∀ t ∈ l, t ∈ terms n := fun t ht => z2M (hl t ht)
 obtain ⟨X, hX, e1⟩ := z3B h1 h4 hlt hp (by omega) hO
 have eT : z2j n (Sof n l) = gr n f := by rw [zan h hl hF, z7T h]
 rw [eT] at e1
 have hflat : z2o (O ++ X ++ [(gr n f).map .str]) := by rw [List.append_assoc]; exact Strs.flat hO (hX.one _)
 have hgr := z4B h.fn hflat
 have hfew := z8w h
 generalize hQ : O ++ X ++ [(gr n f).map D.str] = Q at *
 have hk : Q[(O ++ X).length]? = some ((gr n f).map D.str) := by rw [<- hQ]; exact z1B
 have hk2 : (Q ++ [(gr n f).map D.str])[(O ++ X).length]? = some ((gr n f).map D.str) := by rw [List.getElem?_append_left (List.getElem?_eq_some_iff.mp hk).1]; exact hk
 refine ⟨Q ++ [(gr n f).map .str], ?_, z5C hflat fun d hd => by obtain ⟨x, _, rfl⟩ := List.mem_map.mp hd; rfl⟩
 unfold zfR
 rw [z1f (b := false) (O1 := Q ++ [(gr n f).map .str]) (z1F (b := true) (z0E (z0l (z0e (z0l (z0e rfl rfl) e1) (z0l (z0b rfl) hgr)) (z59 h1 h4 (fun t ht => z2M ht) (by omega) (x := .own (O ++ X).length) (y := .own Q.length) hk2 z1B))))]
 rfl
theorem ze1 {n : Nat} (h1 : 1 <= n) (h4 : n <= 4) : Cls n [List.replicate n 45] := ⟨fun c hc => by
 have : c = List.replicate n 45 := by simpa using hc
 subst this
 exact (zd3 h1 h4 (a := [])).1, by simp, by simp⟩
theorem zcX {ns : List Int} {k : Nat} {O : Ow} (hO : z2o O) {y2 y3 y4 y5 y6 y7 y8 : Option D} :
  ∃ z2 z3 z4 z5 z6 z7 z8 O', zfP [some (.lst (ns.map .int)), some (.int (k : Int)), y2, y3, y4, y5, y6, y7, y8] O = .nx [some (.lst (ns.map .int)), some (.int (k : Int)), z2, z3, z4, z5, z6, z7, z8] O' /\ z2o O' := by
 let A : Option D := some (.lst (ns.map .int))
 let B : Option D := some (.int (k : Int))
 obtain ⟨s, b, s1, s2⟩ := zd8 (ns := ns) (k := k) O
 have fl1 : z2o (O ++ [[.int s, .bl b]]) := StAt.flat hO
 generalize hm : O.length = m at *
 generalize hO1 : O ++ [[D.int s, D.bl b]] = O1 at *
 obtain ⟨r, t1, r1, r2, r3⟩ := z3P s2 (k := 4) (by decide) (by decide)
 have h1 : 1 <= 1 + r := by omega
 have h4 : 1 + r <= 4 := by omega
 have en : dOp z2W (dC (.int 1)) (dFn 2 z06 (z00 (z01 2) (z00 (dC (.int 4)) z03))) [A, B, some (.own m), y3, y4, y5, y6, y7, y8] O1 = .ok (.int ((1 + r : Nat) : Int)) (O1.set m [.int t1, .bl b]) := (z0F rfl (z0l (z0e rfl rfl) r2) z2J).trans (by congr 2)
 generalize hn : 1 + r = n at *
 have fl2 := z2g fl1 m t1 b
 obtain ⟨f, t2, ⟨hf1, hf2⟩, f1, f2⟩ := z6l fl2 r3 h1 h4
 rw [List.set_set] at f1 f2
 have hf : z7u n f := ⟨hf1, hf2⟩
 have fl3 := z2g fl1 m t2 b
 obtain ⟨l, t3, g1, g2, g3, g4, g5, g6⟩ := z6h (z8Q hf) fl3 f2
 rw [List.set_set] at g1 g2
 have fl4 := z2g fl1 m t3 b
 obtain ⟨cA, t4, c1, c2, c3, c4, c5⟩ := z3b h1 h4 fl4 g2 (q := 6) (by decide)
 rw [List.set_set] at c1 c2
 have fl5 := z2g fl1 m t4 b
 obtain ⟨cB, t5, d1, d2, d3, d4, d5⟩ := z3b h1 h4 fl5 c2 (q := 2) (by decide)
 rw [List.set_set] at d1 d2
 have fl6 := z2g fl1 m t5 b
 let S : Option D := some (.own m)
 let N : Option D := some (.int (n : Int))
 let F : Option D := some (.tup f)
 let P : Option D := some (.tup (l.map .str))
 have hit : itC [A, B, S, N, F, P, y6, y7, y8] (O1.set m [.int t3, .bl b]) = .ok (.val ([cA, cB, [], [List.replicate n 45]].map fun cl => D.tup (cl.map D.str))) (O1.set m [.int t5, .bl b]) := by
  refine z1N ?_
  show ((z00 _ _ _ (O1.set m [.int t3, .bl b])).bnd _) = _
  rw [z2I (z0l (z2I rfl (z0e rfl rfl)) c1) (z2I (z0l (z2I rfl (z0e rfl rfl)) d1) (z0e (x := .tup []) (y := .tup [.str (List.replicate n 45)]) rfl (by
   show ((z00 _ _ _ (O1.set m [.int t5, .bl b])).bnd _) = _
   rw [z0b (z0F rfl rfl (zah (by omega)))]; rfl)))]
  rfl
 have hcl : ∀ cl ∈ [cA, cB, [], [List.replicate n 45]], Cls n cl := fun cl hcl => by
  simp only [List.mem_cons, List.not_mem_nil, or_false] at hcl
  rcases hcl with rfl | rfl | rfl | rfl
  ·exact ⟨c4, c3, c5⟩
  ·exact ⟨d4, d3, d5⟩
  ·exact ⟨fun c hc => (by cases hc), List.Pairwise.nil, by decide⟩
  ·exact ze1 h1 h4
 obtain ⟨σ7, O7, e7, ⟨z6, z7, z8, rfl, fl7⟩⟩ := z4r (i := 6) (body := z4X) hit (fun _ σ O' => ∃ z6 z7 z8, σ = [A, B, S, N, F, P, z6, z7, z8] /\ z2o O') (fun j cl σ O' hj hI => by
  obtain ⟨z6, z7, z8, rfl, fl⟩ := hI
  obtain ⟨w7, w8, O2, e1, e2⟩ := zc6 h1 h4 (hcl cl (List.mem_of_getElem? hj)) fl (a0 := A) (a1 := B) (a2 := S) (a4 := F) (a5 := P) (a7 := z7) (y8 := z8)
  exact ⟨_, _, e1, _, _, _, rfl, e2⟩) ⟨y6, y7, y8, rfl, fl6⟩
 obtain ⟨O8, e8, fl8⟩ := zfV hf g3 g4 g5 g6 fl7 (a0 := A) (a1 := B) (a2 := S) (a6 := z6) (a7 := z7) (a8 := z8)
 exact ⟨S, N, F, P, z6, z7, z8, O8, z0X (z0l (z0e rfl rfl) s1) (z0X en (z0X (z0l (z2I rfl (z0e rfl rfl)) f1) (z0X (z0l (z0e rfl (z0l (z0b rfl) (z7L hf _))) g1) (z45 e7 e8)))), fl8⟩
theorem pure_law (ns : List Int) (hn : ns.length <= 63) : ∃ O, F_law [.lst (ns.map .int)] [] = .ok (.bl true) O := by
 let A : Option D := some (.lst (ns.map .int))
 obtain ⟨m, hm, hr⟩ := zc9 hn [A, none, none, none, none, none, none, none, none] 6 (by decide) rfl
 obtain ⟨σ', O', l1, y1, y2, y3, y4, y5, y6, y7, y8, rfl, l2⟩ := z4r (i := 1) (body := zfP) (z1S (z0b hr) hm) (fun _ σ O' => ∃ y1 y2 y3 y4 y5 y6 y7 y8, σ = [A, y1, y2, y3, y4, y5, y6, y7, y8] /\ z2o O') (fun _ i σ O' _ hI => by
   obtain ⟨y1, y2, y3, y4, y5, y6, y7, y8, rfl, fl⟩ := hI
   obtain ⟨z2, z3, z4, z5, z6, z7, z8, O4, t1, t2⟩ := zcX (ns := ns) (k := i) fl (y2 := y2) (y3 := y3) (y4 := y4) (y5 := y5) (y6 := y6) (y7 := y7) (y8 := y8)
   exact ⟨_, _, t1, _, _, _, _, _, _, _, _, rfl, t2⟩) ⟨none, none, none, none, none, none, none, none, rfl, fun c hc => by cases hc⟩
 refine ⟨O', ?_⟩
 show fin (z0i (z4T (z24 (z00 (z0c z8h (z00 (dC (.int 1)) (z00 (z0c z7Q (z00 (z0c z2p (z00 (z01 0) z03)) (z00 (dC (.int ((6 : Nat) : Int))) z03))) z03))) z03)) (.one 1) zfP) (z0B (dC (.bl true))) [A, none, none, none, none, none, none, none, none] []) = _
 rw [z0j l1]; rfl
end K53
open PySem PySem.W PyProof.Rows
set_option maxRecDepth 100000 in
set_option maxHeartbeats 0 in
theorem PySem.Challenge.cw_leastterms_k53_products_multiplied_out_holds : PySem.Challenge.rw_leastterms_k53_products_multiplied_out.Holds := by
 w_on; o_law; refine PySem.W.holds_open (q := K53.Qv) (loose := K53.Lv) (N := 3536) (Xt := K53.Xv) (XP := PySem.W.XL K53.Qv []) (Yf := PySem.W.Hook.obs K53.Hk) (Ya := PySem.W.Hook.val K53.Hk) (YP := PySem.W.Hook.says K53.Hk) K53.lw (PySem.W.Hook.of K53.Hk) (PySem.W.Hook.keeps K53.Hk) (fun s e => PySem.W.xl_of s (Bool.and_eq_true_iff.mp e).1) PySem.W.XL.keeps (by rfl) (by rfl) (by rfl) (fun s e => PySem.W.recFacts_of (Bool.and_eq_true_iff.mp e).2) (by rfl) (by first | assumption | decide +kernel) (by decide +kernel) ⟨rfl, rfl, rfl, rfl, rfl, by decide +kernel⟩ ?hw ?hc; (case hw => w_witness2)
 delta K53.Hk; k_fill
 refine DL.walkD' (l := PySem.Challenge.rw_leastterms_k53_products_multiplied_out) (k := 7) (x := "_law_script") (F := K53.F_law) rfl rfl ⟨rfl, by decide, by decide⟩ (fun w h Y => PySem.W.kIn_of Y) ?F K53.pure_law
 case F =>
  intro w mg fa h KX G hmg
  refine' K53.all_mk KX G hmg ⟨K53.fa_mk KX G ?_ ?_ ?_ ?_, K53.fa_mk KX G ?_ ?_ ?_ ?_, K53.fa_mk KX G ?_ ?_ ?_ ?_, K53.fa_mk KX G ?_ ?_ ?_ ?_, K53.fa_mk KX G ?_ ?_ ?_ ?_, K53.fa_mk KX G ?_ ?_ ?_ ?_, K53.fa_mk KX G ?_ ?_ ?_ ?_, K53.fa_mk KX G ?_ ?_ ?_ ?_, K53.fa_mk KX G ?_ ?_ ?_ ?_, K53.fa_mk KX G ?_ ?_ ?_ ?_, K53.fa_mk KX G ?_ ?_ ?_ ?_, K53.fa_mk KX G ?_ ?_ ?_ ?_, K53.fa_mk KX G ?_ ?_ ?_ ?_, K53.fa_mk KX G ?_ ?_ ?_ ?_, K53.fa_mk KX G ?_ ?_ ?_ ?_, K53.fa_mk KX G ?_ ?_ ?_ ?_, K53.fa_mk KX G ?_ ?_ ?_ ?_, K53.fa_mk KX G ?_ ?_ ?_ ?_, K53.fa_mk KX G ?_ ?_ ?_ ?_, K53.fa_mk KX G ?_ ?_ ?_ ?_, K53.fa_mk KX G ?_ ?_ ?_ ?_, K53.fa_mk KX G ?_ ?_ ?_ ?_, K53.fa_mk KX G ?_ ?_ ?_ ?_, K53.fa_mk KX G ?_ ?_ ?_ ?_, K53.fa_mk KX G ?_ ?_ ?_ ?_, K53.fa_mk KX G ?_ ?_ ?_ ?_, K53.fa_mk KX G ?_ ?_ ?_ ?_, K53.fa_mk KX G ?_ ?_ ?_ ?_, K53.fa_mk KX G ?_ ?_ ?_ ?_, K53.fa_mk KX G ?_ ?_ ?_ ?_, K53.fa_mk KX G ?_ ?_ ?_ ?_, K53.fa_mk KX G ?_ ?_ ?_ ?_, K53.fa_mk KX G ?_ ?_ ?_ ?_, K53.fa_mk KX G ?_ ?_ ?_ ?_, K53.fa_mk KX G ?_ ?_ ?_ ?_, K53.fa_mk KX G ?_ ?_ ?_ ?_, PySem.W.mg_none_of KX G ?_, PySem.W.mg_none_of KX G ?_, PySem.W.mg_none_of KX G ?_, PySem.W.mg_none_of KX G ?_, PySem.W.mg_none_of KX G ?_, PySem.W.mg_none_of KX G ?_, PySem.W.mg_none_of KX G ?_, PySem.W.mg_none_of KX G ?_, PySem.W.mg_none_of KX G ?_, PySem.W.mg_none_of KX G ?_, PySem.W.mg_none_of KX G ?_, PySem.W.mg_none_of KX G ?_, PySem.W.mg_none_of KX G ?_, PySem.W.mg_none_of KX G ?_, PySem.W.mg_none_of KX G ?_, PySem.W.mg_none_of KX G ?_, K53.gs_mk KX G ?_, K53.gi_mk KX G ?_⟩ ?Ha ?Hl ?_ ?_
  (case' Ha | Hl => k_is)
  all_goals first | k_is | kernel_rfl | rfl | skip