import PyProof.Rows.All
import Wide.All
import OpenK.AllK
import Wide.FinOn
import Lean
import PyProof.EqAt
import PyProof.EqKinds
import PyProof.TupleCall
import PyProof.NeKinds
import PyProof.StrOps2
import PySem.Challenge.RW_twigtable_k38_columns_unlike
section
set_option Elab.async false
set_option linter.all false
set_option maxRecDepth 100000
namespace L2
open PySem PySem.Spec PyProof.Rows

/-- a key: an int or a str -/
abbrev Key := Sum Int Str
def keyIs : Key → Value → Bool
  | .inl k, v => Value.isInt k v
  | .inr x, v => Value.isStrOf x v
def keyH (w : World) : Key → Int
  | .inl k => hashInt k
  | .inr x => hashStr w x
theorem keyIs_shape : ∀ {k : Key} {v : Value}, keyIs k v = true → (∃ i t, k = Sum.inl i ∧ v = Value.int i t) ∨ (∃ x t, k = Sum.inr x ∧ v = Value.str x t)
  | .inl i, v, h => by
    obtain ⟨t, e⟩ := Value.isInt_shape (k := i) (v := v) h
    exact .inl ⟨i, t, rfl, e⟩
  | .inr x, v, h => by
    obtain ⟨t, e⟩ := Value.isStrOf_shape (x := x) (v := v) h
    exact .inr ⟨x, t, rfl, e⟩
theorem keyIs_int (i : Int) (t : Tok) : keyIs (.inl i) (.int i t) = true := by simp [keyIs, Value.isInt]
theorem keyIs_str (x : Str) (t : Tok) : keyIs (.inr x) (.str x t) = true := by simp [keyIs, Value.isStrOf]
theorem key_ll (a b : Int) : decide ((Sum.inl a : Key) = Sum.inl b) = (a == b) := by
  by_cases e : a = b
  · subst e; simp
  · have h : ¬ (Sum.inl a : Key) = Sum.inl b := fun q => e (Sum.inl.inj q)
    rw [decide_eq_false h]
    exact (beq_eq_false_iff_ne.mpr e).symm
theorem key_rr (a b : Str) : decide ((Sum.inr a : Key) = Sum.inr b) = decide (a = b) := by
  by_cases e : a = b
  · subst e; simp
  · have h : ¬ (Sum.inr a : Key) = Sum.inr b := fun q => e (Sum.inr.inj q)
    rw [decide_eq_false h, decide_eq_false e]
theorem key_lr (a : Int) (b : Str) : decide ((Sum.inl a : Key) = Sum.inr b) = false := decide_eq_false (fun q => nomatch q)
theorem key_rl (a : Str) (b : Int) : decide ((Sum.inr a : Key) = Sum.inl b) = false := decide_eq_false (fun q => nomatch q)

def mixKind (prog : Program) (w : World) : PySem.KeyKind prog w Key where
  is := keyIs
  hash := keyH w
  inj := fun v a b ha hb => by
    rcases keyIs_shape ha with ⟨i, t, rfl, rfl⟩ | ⟨x, t, rfl, rfl⟩
    · rcases keyIs_shape hb with ⟨j, u, rfl, e⟩ | ⟨y, u, rfl, e⟩
      · injection e with e1 _; rw [e1]
      · exact nomatch e
    · rcases keyIs_shape hb with ⟨j, u, rfl, e⟩ | ⟨y, u, rfl, e⟩
      · exact nomatch e
      · injection e with e1 _; rw [e1]
  byValue := fun k v h => by
    rcases keyIs_shape h with ⟨i, t, rfl, rfl⟩ | ⟨x, t, rfl, rfl⟩ <;> rfl
  pyHash := fun hv h => by
    rcases keyIs_shape hv with ⟨i, t, rfl, rfl⟩ | ⟨x, t, rfl, rfl⟩
    · exact wpAny_pyHash_int h
    · exact wpAny_pyHash_str h
  eqBool := fun hu hv h => by
    rcases keyIs_shape hu with ⟨i, t, rfl, rfl⟩ | ⟨x, t, rfl, rfl⟩
    · rcases keyIs_shape hv with ⟨j, u, rfl, rfl⟩ | ⟨y, u, rfl, rfl⟩
      · rw [key_ll] at h; exact wpAny_eqBool_int h
      · rw [key_lr] at h; exact SeqAt.EqAt.int_str i t y u _ _ _ _ h
    · rcases keyIs_shape hv with ⟨j, u, rfl, rfl⟩ | ⟨y, u, rfl, rfl⟩
      · rw [key_rl] at h; exact SeqAt.EqAt.str_int x t j u _ _ _ _ h
      · rw [key_rr] at h; exact wpAny_eqBool_str h
  «strs» := fun k x t v h => by
    rcases keyIs_shape h with ⟨i, u, rfl, e⟩ | ⟨y, u, rfl, e⟩
    · exact nomatch e
    · injection e with e1 _
      subst e1
      cases v <;> rfl

theorem mixKind_int (prog : Program) (w : World) (i : Int) (t : Tok) : (mixKind prog w).is (.inl i) (.int i t) = true := keyIs_int i t
theorem mixKind_str (prog : Program) (w : World) (x : Str) (t : Tok) : (mixKind prog w).is (.inr x) (.str x t) = true := keyIs_str x t
end L2

namespace L2
open PySem PySem.Spec PyProof.Rows

/-- a value, without the heap -/
inductive V where
  | non | bl (b : Bool) | int (i : Int) | str (x : Str) | byt (b : Array UInt8) | flt (b : UInt64) | ref (a : Addr) | ty (n : String)
  deriving DecidableEq

def RelV : V → Value → Prop
  | .non, u => u = Value.none
  | .bl b, u => u = Value.bool b
  | .int i, u => ∃ t, u = Value.int i t
  | .str x, u => ∃ t, u = Value.str x t
  | .byt b, u => ∃ t, u = Value.bytes b t
  | .flt b, u => ∃ t, u = Value.float b t
  | .ref a, u => u = Value.ref a
  | .ty n, u => u = Value.type n

abbrev Vals : List V → List Value → Prop := Paired RelV
theorem Vals.length {xs : List V} {us : List Value} (r : Vals xs us) : xs.length = us.length := Paired.length r
theorem Vals.get : ∀ {xs : List V} {us : List Value} {i : Nat} {x : V}, Vals xs us → xs[i]? = some x → ∃ u, us[i]? = some u ∧ RelV x u
  | _, _, _, _, .nil, e => by simp at e
  | _, _, 0, _, .cons r _, e => by simp at e; subst e; exact ⟨_, rfl, r⟩
  | _, _, i + 1, x, .cons _ t, e => by
    obtain ⟨u, h1, h2⟩ := Vals.get (i := i) (x := x) t (by simpa using e)
    exact ⟨u, by simpa using h1, h2⟩
theorem Vals.set {x : V} {u : Value} (r : RelV x u) : ∀ {xs : List V} {us : List Value} (i : Nat), Vals xs us → Vals (xs.set i x) (us.set i u)
  | _, _, _, .nil => .nil
  | _, _, 0, .cons _ t => .cons r t
  | _, _, i + 1, .cons q t => .cons q (Vals.set r i t)
theorem Vals.append : ∀ {xs ys : List V} {us ws : List Value}, Vals xs us → Vals ys ws → Vals (xs ++ ys) (us ++ ws)
  | _, _, _, _, .nil, s => s
  | _, _, _, _, .cons r t, s => .cons r (Vals.append t s)
theorem Vals.take : ∀ {xs : List V} {us : List Value} (n : Nat), Vals xs us → Vals (xs.take n) (us.take n)
  | _, _, 0, _ => .nil
  | _, _, _ + 1, .nil => .nil
  | _, _, n + 1, .cons r t => .cons r (Vals.take n t)
theorem Vals.drop : ∀ {xs : List V} {us : List Value} (n : Nat), Vals xs us → Vals (xs.drop n) (us.drop n)
  | _, _, 0, r => r
  | _, _, _ + 1, .nil => .nil
  | _, _, n + 1, .cons _ t => Vals.drop n t
theorem Vals.none_of : ∀ {xs : List V} {us : List Value} {i : Nat}, Vals xs us → xs[i]? = none → us[i]? = none := fun {xs us i} r e => by
  have h1 := r.length
  have h2 : xs.length ≤ i := List.getElem?_eq_none_iff.mp e
  exact List.getElem?_eq_none_iff.mpr (by omega)

def RelO : Option V → Option Value → Prop
  | some v, some u => RelV v u
  | none, none => True
  | _, _ => False
def KV {κ : Type} : List (κ × V) → List (κ × Value) → Prop := Paired fun (p : κ × V) (q : κ × Value) => p.1 = q.1 ∧ RelV p.2 q.2

/-- a key of a dict (00_mix): an int or a text -/
def kV : Key → V
  | .inl i => .int i
  | .inr x => .str x

/-- what stands at a tracked address -/
inductive HO where
  /-- a list -/
  | lst (xs : List V)
  /-- a tuple (never changes) -/
  | tup (xs : List V)
  /-- a dict whose keys are ints and texts; one whose keys are tuples of ints and texts (the empty one is both) -/
  | dK (kvs : List (Key × V)) | dT (kvs : List (List Key × V))
  /-- a set of ints: its members, its size -/
  | set (S : Int → Bool) (n : Nat)
  /-- an instance of the class at C, its dict at dx, its attributes -/
  | ins (C dx : Addr) (fs : List (Str × V))
  /-- the dict of the instance at x -/
  | own (x : Addr)
  /-- the dict of an exception -/
  | xd (fs : List (Str × V))
  /-- a bound method, f of x -/
  | met (f x : Addr)
  /-- a range object lo, lo + 1, .. below hi -/
  | rng (lo hi : Int)
  /-- a thing that is known to the object (the script; a dict while a loop walks it): read, never written while it is so -/
  | frz (o : Obj) (u : HO)
  /-- a code object's table -/
  | tbl (ps : Array Value)
  /-- any other thing, by what is true of its one object (a def of one's own: SetO a S n := HO.ext fun h => ..) -/
  | ext (φ : Heap → Prop)

abbrev Hp := Addr → Option HO
def upd (H : Hp) (a : Addr) (o : HO) : Hp := fun b => if b = a then some o else H b
theorem upd_same {H : Hp} {a : Addr} {o : HO} : upd H a o a = some o := by unfold upd; rw [if_pos rfl]
theorem upd_ne {H : Hp} {a b : Addr} {o : HO} (h : b ≠ a) : upd H a o b = H b := by unfold upd; rw [if_neg h]
theorem upd_upd {H : Hp} {a : Addr} {o u : HO} : upd (upd H a o) a u = upd H a u := by
  funext b; unfold upd; split <;> rfl
/-- two objects of different content stand apart -/
theorem ne_of {H : Hp} {a b : Addr} {o u : HO} (h : H a = some o) (h' : H b = some u) (d : o ≠ u) : a ≠ b := by
  intro e; subst e; rw [h] at h'; exact d (Option.some.inj h')
theorem ne_of_none {H : Hp} {a b : Addr} {o : HO} (h : H a = some o) (h' : H b = none) : a ≠ b := by
  intro e; subst e; rw [h] at h'; cases h'

section
variable (P : Program) (w : World)
def ObjOk (H : Hp) (h : Heap) (a : Addr) : HO → Prop
  | .lst xs => xs.length ≤ sizeLine ∧ ∃ (its : List Value) (n : Nat), Vals xs its ∧ h.get? a = some { cls := .type "list", data := .seq its.toArray n }
  | .tup xs => xs.length ≤ sizeLine ∧ ∃ its : List Value, Vals xs its ∧ IsTup h a its.toArray
  | .dK kvs => kvs.length ≤ sizeLine ∧ (a == sysModules) = false ∧ ∃ vs, KV kvs vs ∧ h.DictOf (mixKind P w) a vs
  | .dT kvs => kvs.length ≤ sizeLine ∧ (a == sysModules) = false ∧ ∃ xs : List (List Key × Addr × Value),
      Paired (fun (p : List Key × V) (q : List Key × Addr × Value) => p.1 = q.1 ∧ H q.2.1 = some (.tup (p.1.map kV)) ∧ RelV p.2 q.2.2) kvs xs ∧
      ∃ o es ep, h.get? a = some o ∧ o.ExactDict ∧ o.data = .dict es ep ∧ es.toList = xs.map (entryOfKey (tupleKind (mixKind P w))) ∧ (xs.map (·.1)).Nodup
  | .set S n => h.SetOf (intKind P w) a S n
  | .ins C dx fs => H dx = some (.own a) ∧ fs.length ≤ 1000 ∧ dx ≠ a ∧ h.get? a = some (PySem.W.instObj C dx) ∧
      ∃ mA, h.Ns1 dx mA ∧ (∀ f, RelO (fs.lookup f) (mA f)) ∧ PySem.Within mA (fs.map (·.1))
  | .own _ => ∃ o, h.get? a = some o
  | .xd fs => ∃ mA, h.Ns1 a mA ∧ ∀ f, RelO (fs.lookup f) (mA f)
  | .rng lo hi => ∃ t u v, h.get? a = some { cls := .type "range", data := .fields #[.int lo t, .int hi u, .int 1 v] }
  | .frz o u => h.get? a = some o ∧ ObjOk H h a u
  | .tbl ps => h.get? a = some { cls := .none, data := .fields ps }
  | .met f x => h.get? a = some (PySem.W.methodObj (.ref f) (.ref x))
  | .ext φ => φ h ∧ (∃ o, h.get? a = some o) ∧ ∀ h1 h2 : Heap, φ h1 → (∀ o, h1.get? a = some o → h2.get? a = some o) → φ h2
/-- the abstract heap is held -/
def HOk (H : Hp) (h : Heap) : Prop := ∀ a o, H a = some o → ObjOk P w H h a o
end

section
variable {P : Program} {w : World} {H H' : Hp} {h h' : Heap} {a : Addr} {o : HO}
theorem ObjOk.lt (x : ObjOk P w H h a o) : a < h.objs.size := by
  cases o with
  | lst xs => obtain ⟨_, _, _, _, e⟩ := x; exact Heap.lt_size e
  | tup xs => obtain ⟨_, _, _, p⟩ := x; exact p.lt
  | dK kvs => obtain ⟨_, _, _, _, o, _, _, e, _⟩ := x; exact Heap.lt_size e
  | dT kvs => obtain ⟨_, _, _, _, o, _, _, e, _⟩ := x; exact Heap.lt_size e
  | set S n => obtain ⟨o, _, _, _, e, _⟩ := x; exact Heap.lt_size e
  | ins C dx fs => obtain ⟨_, _, _, e, _⟩ := x; exact Heap.lt_size e
  | own y => obtain ⟨_, e⟩ := x; exact Heap.lt_size e
  | xd fs => obtain ⟨_, ⟨_, _, _, e, _⟩, _⟩ := x; exact Heap.lt_size e
  | rng lo hi => obtain ⟨_, _, _, e⟩ := x; exact Heap.lt_size e
  | frz ob u => obtain ⟨e, _⟩ := x; exact Heap.lt_size e
  | tbl ps => exact Heap.lt_size (show h.get? a = some _ from x)
  | met f y => exact Heap.lt_size (show h.get? a = some _ from x)
  | ext φ => obtain ⟨_, ⟨_, e⟩, _⟩ := x; exact Heap.lt_size e
theorem Paired.mapP {α β : Type} {F G : α → β → Prop} : ∀ {l₁ : List α} {l₂ : List β}, Paired F l₁ l₂ → (∀ a b, F a b → G a b) → Paired G l₁ l₂
  | _, _, .nil, _ => .nil
  | _, _, .cons r t, f => .cons (f _ _ r) (Paired.mapP t f)
/-- what an object's description leans on: its own object, its own dict, the tuples -/
theorem ObjOk.stay (x : ObjOk P w H h a o) (k : ∀ b u, (b = a ∨ H b = some (.own a)) → h.get? b = some u → h'.get? b = some u)
    (ho : ∀ b, H b = some (.own a) → H' b = some (.own a)) (ht : ∀ b xs, H b = some (.tup xs) → H' b = some (.tup xs)) : ObjOk P w H' h' a o := by
  induction o with
  | lst xs => obtain ⟨z, its, n, r, e⟩ := x; exact ⟨z, its, n, r, k _ _ (.inl rfl) e⟩
  | tup xs => obtain ⟨z, its, r, ob, e, c⟩ := x; exact ⟨z, its, r, ob, k _ _ (.inl rfl) e, c⟩
  | dK kvs => obtain ⟨z, y, vs, r, ob, es, ep, e, c⟩ := x; exact ⟨z, y, vs, r, ob, es, ep, k _ _ (.inl rfl) e, c⟩
  | dT kvs =>
    obtain ⟨z, y, xs, r, ob, es, ep, e, c⟩ := x
    exact ⟨z, y, xs, Paired.mapP r fun p q z => ⟨z.1, ht _ _ z.2.1, z.2.2⟩, ob, es, ep, k _ _ (.inl rfl) e, c⟩
  | set S n => obtain ⟨ob, es, ep, t, e, c⟩ := x; exact ⟨ob, es, ep, t, k _ _ (.inl rfl) e, c⟩
  | ins C dx fs =>
    obtain ⟨d, z, ne, e, mA, ⟨od, es, ep, e2, c⟩, r⟩ := x
    exact ⟨ho _ d, z, ne, k _ _ (.inl rfl) e, mA, ⟨od, es, ep, k _ _ (.inr d) e2, c⟩, r⟩
  | own y => obtain ⟨ob, e⟩ := x; exact ⟨ob, k _ _ (.inl rfl) e⟩
  | xd fs => obtain ⟨mA, ⟨od, es, ep, e, c⟩, r⟩ := x; exact ⟨mA, ⟨od, es, ep, k _ _ (.inl rfl) e, c⟩, r⟩
  | rng lo hi => obtain ⟨t, u, v, e⟩ := x; exact ⟨t, u, v, k _ _ (.inl rfl) e⟩
  | frz ob u ih => obtain ⟨e, q⟩ := x; exact ⟨k _ _ (.inl rfl) e, ih q⟩
  | tbl ps =>
    have e : h.get? a = some { cls := .none, data := .fields ps } := x
    show h'.get? a = some { cls := .none, data := .fields ps }
    exact k a _ (.inl rfl) e
  | met f y =>
    have e : h.get? a = some (PySem.W.methodObj (.ref f) (.ref y)) := x
    show h'.get? a = some (PySem.W.methodObj (.ref f) (.ref y))
    exact k a _ (.inl rfl) e
  | ext φ => obtain ⟨p, ⟨o, e⟩, st⟩ := x; exact ⟨st _ _ p fun o q => k _ _ (.inl rfl) q, ⟨o, k _ _ (.inl rfl) e⟩, st⟩
theorem HOk.lt (x : HOk P w H h) (e : H a = some o) : a < h.objs.size := (x a o e).lt
theorem HOk.fresh (x : HOk P w H h) (e : h.objs.size ≤ a) : H a = none := by
  cases q : H a with
  | none => rfl
  | some u => exact absurd (Nat.lt_of_lt_of_le (x.lt q) e) (Nat.lt_irrefl _)
/-- every object of the heap is kept -/
theorem HOk.kept (x : HOk P w H h) (k : ∀ b u, h.get? b = some u → h'.get? b = some u) : HOk P w H h' := fun a o e =>
  (x a o e).stay (fun b u _ q => k b u q) (fun _ q => q) fun _ _ q => q
/-- a new object is laid and tracked -/
theorem HOk.laid (x : HOk P w H h) (k : ∀ b u, h.get? b = some u → h'.get? b = some u) (hp : h.objs.size ≤ a) (new : ObjOk P w (upd H a o) h' a o) : HOk P w (upd H a o) h' := fun b u e => by
  have hn := x.fresh hp
  by_cases hb : b = a
  · subst hb; rw [upd_same] at e; cases e; exact new
  · rw [upd_ne hb] at e
    exact (x b u e).stay (fun c v _ q => k c v q) (fun c q => by rw [upd_ne (ne_of_none q hn)]; exact q) fun c xs q => by rw [upd_ne (ne_of_none q hn)]; exact q
end

/-- what may be read as u: it is u, or a known u -/
def Rd (H : Hp) (a : Addr) (u : HO) : Prop := H a = some u ∨ ∃ o, H a = some (.frz o u)
theorem Rd.of {H : Hp} {a : Addr} {u : HO} (h : H a = some u) : Rd H a u := .inl h
theorem Rd.ok {P : Program} {w : World} {H : Hp} {h : Heap} {a : Addr} {u : HO} (r : Rd H a u) (x : HOk P w H h) : ObjOk P w H h a u := by
  rcases r with r | ⟨o, r⟩
  · exact x a u r
  · obtain ⟨_, q⟩ := x a _ r
    exact q
/-- what may be written -/
def Mut : Option HO → Prop
  | some (.lst _) => True
  | some (.dK _) => True
  | some (.dT _) => True
  | some (.set _ _) => True
  | some (.ins _ _ _) => True
  | some (.ext _) => True
  | _ => False
section
variable {P : Program} {w : World} {H : Hp} {h h' : Heap} {x e : Addr} {o' : HO}
/-- the object at e is changed: x itself, or the dict of the instance x -/
theorem HOk.write (ok : HOk P w H h) (mu : Mut (H x)) (he : e = x ∨ H e = some (.own x)) (k : ∀ b u, b ≠ e → h.get? b = some u → h'.get? b = some u) (heo : ∃ u, h'.get? e = some u)
    (new : ObjOk P w (upd H x o') h' x o') : HOk P w (upd H x o') h' := fun b u q => by
  have nown : ∀ c y, H c = some (.own y) → c ≠ x := fun c y r z => by subst z; rw [r] at mu; exact mu
  have ntup : ∀ c xs, H c = some (.tup xs) → c ≠ x := fun c xs r z => by subst z; rw [r] at mu; exact mu
  by_cases hb : b = x
  · subst hb; rw [upd_same] at q; cases q; exact new
  · rw [upd_ne hb] at q
    by_cases hbe : b = e
    · have q' : H b = some (.own x) := by
        rcases he with z | z
        · exact absurd (hbe.trans z) hb
        · rw [hbe]; exact z
      rw [q] at q'; cases q'
      obtain ⟨v, hv⟩ := heo
      exact ⟨v, by rw [hbe]; exact hv⟩
    · refine (ok b u q).stay (fun c v hc r => k c v ?_ r) (fun c r => by rw [upd_ne (nown c b r)]; exact r) fun c xs r => by rw [upd_ne (ntup c xs r)]; exact r
      rcases hc with rfl | hc
      · exact hbe
      · rintro rfl
        rcases he with z | z
        · exact nown c b hc z
        · rw [hc] at z; cases z; exact hb rfl
end

structure Un (fs ex : List Addr) (H H' : Hp) (h h' : Heap) : Prop where
  keep : ∀ b o, h.get? b = some o → H b = none → b ∉ fs → b ∉ ex → h'.get? b = some o
  slot : ∀ b o, h.get? b = some o → H b = none → b ∈ fs → b ∉ ex → ∃ sl, h'.get? b = some { o with slots := sl }
  free : ∀ b o, h.get? b = some o → H b = none → b ∉ ex → H' b = none
  there : ∀ b o, h.get? b = some o → b ∉ ex → ∃ o', h'.get? b = some o'
  tups : ∀ b xs, H b = some (.tup xs) → H' b = some (.tup xs)
  frzs : ∀ b o u, H b = some (.frz o u) → H' b = some (.frz o u)
  tbls : ∀ b ps, H b = some (.tbl ps) → ∃ more, H' b = some (.tbl (ps ++ more))
section
variable {fs fs' ex ex' : List Addr} {H H1 H2 : Hp} {h h1 h2 h' : Heap} {a x e : Addr} {o : HO}
theorem Un.any (u : Un fs ex H H1 h h1) {b : Addr} {ob : Obj} (q : h.get? b = some ob) (n : H b = none) (hx : b ∉ ex) : ∃ sl, h1.get? b = some { ob with slots := sl } := by
  by_cases hb : b ∈ fs
  · exact u.slot b ob q n hb hx
  · exact ⟨ob.slots, u.keep b ob q n hb hx⟩
theorem Un.trans (a : Un fs ex H H1 h h1) (b : Un fs ex H1 H2 h1 h2) : Un fs ex H H2 h h2 where
  keep := fun c ob q n hc hx => b.keep c ob (a.keep c ob q n hc hx) (a.free c ob q n hx) hc hx
  slot := fun c ob q n hc hx => by
    obtain ⟨sl, e1⟩ := a.slot c ob q n hc hx
    obtain ⟨sl', e2⟩ := b.slot c _ e1 (a.free c ob q n hx) hc hx
    exact ⟨sl', e2⟩
  free := fun c ob q n hx => by
    obtain ⟨o', e1⟩ := a.there c ob q hx
    exact b.free c o' e1 (a.free c ob q n hx) hx
  there := fun c ob q hx => by
    obtain ⟨o', e1⟩ := a.there c ob q hx
    exact b.there c o' e1 hx
  tups := fun c xs q => b.tups c xs (a.tups c xs q)
  frzs := fun c ob xs q => b.frzs c ob xs (a.frzs c ob xs q)
  tbls := fun c ps q => by
    obtain ⟨m1, e1⟩ := a.tbls c ps q
    obtain ⟨m2, e2⟩ := b.tbls c _ e1
    exact ⟨m1 ++ m2, by rw [e2, Array.append_assoc]⟩
theorem Un.kept (k : ∀ b u, h.get? b = some u → h'.get? b = some u) : Un fs ex H H h h' :=
  ⟨fun b ob q _ _ _ => k b ob q, fun b ob q _ _ _ => ⟨ob.slots, k b ob q⟩, fun _ _ _ n _ => n, fun b ob q _ => ⟨ob, k b ob q⟩, fun _ _ q => q, fun _ _ _ q => q, fun _ ps q => ⟨#[], by rw [q]; simp⟩⟩
theorem Un.refl : Un fs ex H H h h := Un.kept fun _ _ q => q
theorem Un.laid (k : ∀ b u, h.get? b = some u → h'.get? b = some u) (hp : h.objs.size ≤ a) (hn : H a = none) : Un fs ex H (upd H a o) h h' where
  keep := fun b u q _ _ _ => k b u q
  slot := fun b u q _ _ _ => ⟨u.slots, k b u q⟩
  free := fun b u q n _ => by rw [upd_ne (Nat.ne_of_lt (Nat.lt_of_lt_of_le (Heap.lt_size q) hp))]; exact n
  there := fun b u q _ => ⟨u, k b u q⟩
  tups := fun b xs q => by rw [upd_ne (ne_of_none q hn)]; exact q
  frzs := fun b u xs q => by rw [upd_ne (ne_of_none q hn)]; exact q
  tbls := fun b ps q => ⟨#[], by rw [upd_ne (ne_of_none q hn), q]; simp⟩
theorem Un.write (mu : Mut (H x)) (he : e = x ∨ H e = some (.own x)) (k : ∀ b u, b ≠ e → h.get? b = some u → h'.get? b = some u) (heo : ∃ u, h'.get? e = some u) : Un fs ex H (upd H x o) h h' := by
  have hx : ∀ b, H b = none → b ≠ x := fun b n z => by subst z; rw [n] at mu; exact mu
  have hb : ∀ b, H b = none → b ≠ e := fun b n z => by
    subst z
    rcases he with r | r
    · exact hx b n r
    · rw [n] at r; cases r
  have hm : ∀ b u, H b = some u → ¬ Mut (some u) → b ≠ x := fun b u q nm z => by subst z; rw [q] at mu; exact nm mu
  refine ⟨fun b u q n _ _ => k b u (hb b n) q, fun b u q n _ _ => ⟨u.slots, k b u (hb b n) q⟩, fun b u q n _ => by rw [upd_ne (hx b n)]; exact n, fun b u q _ => ?_,
    fun b xs q => by rw [upd_ne (hm b _ q fun z => z)]; exact q, fun b u xs q => by rw [upd_ne (hm b _ q fun z => z)]; exact q, fun b ps q => ⟨#[], by rw [upd_ne (hm b _ q fun z => z), q]; simp⟩⟩
  by_cases hbe : b = e
  · subst hbe; exact heo
  · exact ⟨u, k b u hbe q⟩
theorem Un.mono (u : Un fs ex H H1 h h1) (hs : ∀ b ∈ fs, b ∈ fs') (hx : ∀ b ∈ ex, b ∈ ex') : Un fs' ex' H H1 h h1 :=
  ⟨fun b ob q n hb he => u.keep b ob q n (fun z => hb (hs b z)) fun z => he (hx b z), fun _ _ q n _ he => u.any q n fun z => he (hx _ z), fun b ob q n he => u.free b ob q n fun z => he (hx b z), fun b ob q he => u.there b ob q fun z => he (hx b z), u.tups, u.frzs, u.tbls⟩
end

def trk (h : Heap) (H : Hp) : List Addr := (List.range h.objs.size).filter fun a => (H a).isSome
def hidT (h : Heap) (H : Hp) : Heap := PySem.W.hideAll h (trk h H)
theorem hidT_size (h : Heap) (H : Hp) : (hidT h H).objs.size = h.objs.size := PySem.W.hideAll_size _ _
theorem hidT_get {h : Heap} {H : Hp} {b : Addr} {o : Obj} (e : h.get? b = some o) (n : H b = none) : (hidT h H).get? b = some o :=
  PySem.W.hideAll_get _ e fun hm => by
    have q : (H b).isSome = true := (List.mem_filter.mp hm).2
    rw [n] at q; simp at q
theorem of_hidT {h : Heap} {H : Hp} {b : Addr} {o : Obj} (e : (hidT h H).get? b = some o) : h.get? b = some o ∧ H b = none := by
  have e' : h.get? b = some o := PySem.W.of_hideAll (trk h H) e
  refine ⟨e', ?_⟩
  cases q : H b with
  | none => rfl
  | some x =>
    have hm : b ∈ trk h H := List.mem_filter.mpr ⟨List.mem_range.mpr (Heap.lt_size e'), by simp [q]⟩
    have z : (hidT h H).get? b = none := PySem.W.hideAll_none (trk h H) hm
    rw [z] at e; cases e

def allNews (g h : Heap) (L : Addr) : List (Addr × Obj) := (List.range h.objs.size).filterMap fun a => if a = L ∨ (g.get? a).isSome = true then none else (h.get? a).map fun o => (a, o)
def rest (g h : Heap) (L d : Addr) : List (Addr × Obj) := (allNews g h L).filter fun p => decide (p.1 ≠ d)
end L2

namespace L2
open PySem PySem.Spec PyProof.Rows

/-- the module's facts, over the base: the heap at the law's entry without what is tracked there -/
structure Mod (K : PySem.W.Frag) (mg : Str → Option Value) (base : Heap) : Prop where
  kin : K.In base
  glob : base.Ns mainGlobals mg
  blt : ∃ mb, base.Ns builtinsNs mb ∧ ∀ x : Str, x ≠ "__name__" → mb x = bootBuiltins x
  nolimit : base.NoLimit

/-- the context: a def's body (or a comprehension's block) running. base: fixed through the whole law; s₀, H₀: the entry; outer: the frames whose slots others may change (a def's callers); stack: all frames that run;
   ex: iterators that were made ahead of the entry and are walked here (a comprehension's); fn: the names whose cells were made at the entry (a def: all; a comprehension's block: its own); calm: not within an except suite; pn: pins that every state bears; xe: what is wanted of an exception that leaves the code -/
structure Cx where
  prog : Program
  w : World
  K : PySem.W.Frag
  mg : Str → Option Value
  base : Heap
  A : Around
  N : List Str
  s₀ : Shared
  H₀ : Hp
  env : Env
  outer : List Env
  stack : List Env
  ex : List Addr
  fn : Str → Bool
  calm : Bool
  pn : List (Addr × Obj)
  xe : Value → Shared → Prop
/-- the callers' frames -/
def frs (l : List Env) : List Addr := l.filterMap (·.frame)
abbrev Cx.fs (X : Cx) : List Addr := frs X.outer

def Vis (sc : Scope) (x : Str) : Prop := sc.names.lookup x = some .local ∨ sc.names.lookup x = some .cell ∨ sc.names.lookup x = some .free
def Loc (sc : Scope) (x : Str) : Prop := sc.names.lookup x = some .local ∨ sc.names.lookup x = some .cell
def Look (env : Env) (h : Heap) (m : Str → Option Value) (x : Str) (u : Value) : Prop :=
  (env.kindOf x = some .local ∧ m x = some u) ∨ ((env.kindOf x = some .cell ∨ env.kindOf x = some .free) ∧ ∃ c, env.cells.lookup x = some c ∧ h.IsCell c (some u))

structure Cx.Ok (X : Cx) : Prop where
  mod : Mod X.K X.mg X.base
  kind : X.env.scope.kind = .function
  glob : X.env.globals = mainGlobals
  blt : X.env.builtins = builtinsNs
  above : X.s₀.heap.objs.size ≤ X.env.locals
  inj : ∀ x y c, X.env.cells.lookup x = some c → X.env.cells.lookup y = some c → x = y
  has : ∀ x, (X.env.kindOf x = some .cell ∨ X.env.kindOf x = some .free) → ∃ c, X.env.cells.lookup x = some c
  cab : ∀ x c, X.fn x = true → X.env.cells.lookup x = some c → X.s₀.heap.objs.size ≤ c
  hd : X.calm = true → X.A.handled = none
  frames : X.A.frames = some X.stack
  stk : X.stack = X.outer ∨ (X.stack = X.env :: X.outer ∧ X.env.frame = some X.env.locals)
  exf : ∀ b ∈ X.ex, b ≠ X.env.locals ∧ ∀ x c, X.env.cells.lookup x = some c → c ≠ b
  bs : ∀ b o, X.base.get? b = some o → X.s₀.heap.get? b = some o ∧ X.H₀ b = none
  bsz : X.base.objs.size ≤ X.s₀.heap.objs.size
  noex : ∀ b o, X.base.get? b = some o → b ∉ X.ex
  exfs : ∀ b ∈ X.ex, b ∉ X.fs
  funs : X.s₀.heap.FunFrames X.base X.outer
  frf : ∀ b ∈ X.fs, X.H₀ b = none

structure Inv (X : Cx) (pins : List (Addr × Obj)) (σ : List (Option V)) (H : Hp) (s : Shared) : Prop where
  ok : X.Ok
  os : s.os = X.s₀.os
  bare : AllBare s.gens
  base : Un X.fs X.ex X.H₀ H X.s₀.heap s.heap
  loc : ∃ m, s.heap.Ns X.env.locals m ∧ ∀ (i : Nat) (x : Str) (v : V), X.N[i]? = some x → σ[i]? = some (some v) → Vis X.env.scope x → ∃ u, RelV v u ∧ Look X.env s.heap m x u
  cell : ∀ x c, X.env.cells.lookup x = some c → ∃ v, s.heap.IsCell c v
  free : H X.env.locals = none
  freeC : ∀ x c, X.env.cells.lookup x = some c → H c = none
  pin : ∀ p ∈ X.pn ++ pins, s.heap.get? p.1 = some p.2 ∧ H p.1 = none ∧ p.1 ≠ X.env.locals ∧ p.1 ∉ X.fs ∧ ∀ v, p.2.data ≠ .cell v
  hok : HOk X.prog X.w H s.heap
  len : σ.length = X.N.length

section
variable {X : Cx} {pins : List (Addr × Obj)} {σ : List (Option V)} {H H' : Hp} {s : Shared} {h' : Heap}

theorem Cx.Ok.nofr (ok : X.Ok) {b : Addr} {o : Obj} (e : X.base.get? b = some o) : b ∉ X.fs := fun hb => by
  have := (ok.funs.mem hb).1
  rw [e] at this; cases this
theorem Inv.bs (I : Inv X pins σ H s) : ∀ b o, X.base.get? b = some o → s.heap.get? b = some o ∧ H b = none := fun b o e =>
  ⟨I.base.keep b o (I.ok.bs b o e).1 (I.ok.bs b o e).2 (I.ok.nofr e) (I.ok.noex b o e), I.base.free b o (I.ok.bs b o e).1 (I.ok.bs b o e).2 (I.ok.noex b o e)⟩
theorem Inv.bk (I : Inv X pins σ H s) : ∀ b o, X.base.get? b = some o → s.heap.get? b = some o := fun b o e => (I.bs b o e).1
theorem Inv.mod (I : Inv X pins σ H s) : Mod X.K X.mg X.base := I.ok.mod
theorem Inv.kIn (I : Inv X pins σ H s) : X.K.In s.heap := I.ok.mod.kin.keeps I.bk
theorem Inv.nolimit (I : Inv X pins σ H s) : s.heap.NoLimit := I.ok.mod.nolimit.keeps I.bk
/-- the frame over the base: for OpenK's rules (K.In X.base is I.mod.kin) -/
theorem Inv.fr (I : Inv X pins σ H s) : ∃ m, Fr X.base X.env.locals s.heap m :=
  let ⟨m, hn, _⟩ := I.loc
  ⟨m, hn, I.bk, Nat.le_trans I.ok.bsz I.ok.above⟩
theorem Inv.lt (I : Inv X pins σ H s) : X.env.locals < s.heap.objs.size := let ⟨_, hn, _⟩ := I.loc; hn.lt
theorem Inv.sz (I : Inv X pins σ H s) : X.s₀.heap.objs.size ≤ s.heap.objs.size := Nat.le_trans I.ok.above (Nat.le_of_lt I.lt)
theorem Inv.nofs (I : Inv X pins σ H s) {a : Addr} (h : s.heap.objs.size ≤ a) : a ∉ X.fs := fun hb => by
  obtain ⟨_, o, ho, _⟩ := I.ok.funs.mem hb
  exact absurd (Nat.lt_of_lt_of_le (Heap.lt_size ho) (Nat.le_trans I.sz h)) (Nat.lt_irrefl _)
theorem Inv.cne (I : Inv X pins σ H s) : ∀ x c, X.env.cells.lookup x = some c → c ≠ X.env.locals := fun x c e z => by
  obtain ⟨v, o, ho, hd⟩ := I.cell x c e
  obtain ⟨m, ⟨o', es, ep, ho', hd', _⟩, _⟩ := I.loc
  rw [z, ho'] at ho; cases ho; rw [hd'] at hd; cases hd
theorem Inv.funs (I : Inv X pins σ H s) : s.heap.FunFrames X.base X.outer := by
  have all : ∀ (l : List Env), (∀ b ∈ frs l, b ∈ X.fs) → X.s₀.heap.FunFrames X.base l → s.heap.FunFrames X.base l := by
    intro l
    induction l with
    | nil => intro _ _; trivial
    | cons env r ih =>
      intro hs hl
      obtain ⟨hk, ⟨L, o, hf, hn, ho, hd⟩, hr⟩ := hl
      have hL : L ∈ X.fs := hs L (by unfold frs; rw [List.filterMap_cons, hf]; exact List.mem_cons_self)
      obtain ⟨sl, e⟩ := I.base.slot L o ho (I.ok.frf L hL) hL fun z => I.ok.exfs L z hL
      exact ⟨hk, ⟨L, _, hf, hn, e, hd⟩, ih (fun b hb => hs b (by unfold frs; rw [List.filterMap_cons, hf]; exact List.mem_cons_of_mem _ hb)) hr⟩
  exact all X.outer (fun _ hb => hb) I.ok.funs

/-- the frames that run, for a call -/
theorem Inv.stack (I : Inv X pins σ H s) : s.heap.FunFrames X.base X.stack := by
  rcases I.ok.stk with e | ⟨e, hf⟩
  · rw [e]; exact I.funs
  · rw [e]
    obtain ⟨m, hn, _⟩ := I.loc
    refine .cons (by rw [I.ok.kind]; decide) hf hn ?_ I.funs
    exact Heap.get?_none_of_le (Nat.le_trans I.ok.bsz I.ok.above)
theorem Inv.stkSub (I : Inv X pins σ H s) : ∀ b ∈ frs X.stack, b ∈ X.env.locals :: X.fs := fun b hb => by
  rcases I.ok.stk with e | ⟨e, hf⟩
  · rw [e] at hb; exact List.mem_cons_of_mem _ hb
  · rw [e] at hb
    unfold frs at hb
    rw [List.filterMap_cons, hf] at hb
    exact hb
theorem Inv.stkFree (I : Inv X pins σ H s) : ∀ b ∈ frs X.stack, H b = none := fun b hb => by
  rcases List.mem_cons.mp (I.stkSub b hb) with e | hb
  · rw [e]; exact I.free
  · obtain ⟨_, o, ho, _⟩ := I.ok.funs.mem hb
    exact I.base.free b o ho (I.ok.frf b hb) fun z => I.ok.exfs b z hb

/-- THE STEP: the untracked objects but the frame and the records at ch are kept (the callers' frames up to slots), the frame's map is kept, the new abstract heap is held -/
theorem Inv.step {g' : Array GenState} {t' : Nat} {d' : Drawn} {ch : List Addr} (I : Inv X pins σ H s)
    (hch : ∀ b ∈ ch, (b ∈ X.ex ∨ X.s₀.heap.objs.size ≤ b) ∧ b ≠ X.env.locals ∧ (∀ x c, X.env.cells.lookup x = some c → c ≠ b) ∧ ∀ p ∈ X.pn ++ pins, p.1 ≠ b)
    (keep : ∀ b o, b ≠ X.env.locals → b ∉ X.fs → b ∉ ch → s.heap.get? b = some o → H b = none → h'.get? b = some o)
    (slot : ∀ b o, b ≠ X.env.locals → b ∈ X.fs → b ∉ ch → s.heap.get? b = some o → H b = none → ∃ sl, h'.get? b = some { o with slots := sl }) (free : ∀ b o, b ∉ ch → s.heap.get? b = some o → H b = none → H' b = none)
    (there : ∀ b o, b ∉ ch → s.heap.get? b = some o → ∃ o', h'.get? b = some o')
    (tups : ∀ b xs, H b = some (.tup xs) → H' b = some (.tup xs)) (frzs : ∀ b o u, H b = some (.frz o u) → H' b = some (.frz o u)) (tbls : ∀ b ps, H b = some (.tbl ps) → ∃ more, H' b = some (.tbl (ps ++ more)))
    (ns : ∀ m, s.heap.Ns X.env.locals m → h'.Ns X.env.locals m) (hok : HOk X.prog X.w H' h') (hg : AllBare g') :
    Inv X pins σ H' { s with heap := h', gens := g', drawn := d', toks := t' } := by
  have neL : ∀ b o, X.s₀.heap.get? b = some o → b ≠ X.env.locals := fun b o e => Nat.ne_of_lt (Nat.lt_of_lt_of_le (Heap.lt_size e) I.ok.above)
  have neC : ∀ b o, X.s₀.heap.get? b = some o → b ∉ X.ex → b ∉ ch := fun b o e hx hb => by
    rcases (hch b hb).1 with z | z
    · exact hx z
    · exact absurd (Nat.lt_of_lt_of_le (Heap.lt_size e) z) (Nat.lt_irrefl _)
  have cellK : ∀ x c, X.env.cells.lookup x = some c → ∀ v, s.heap.IsCell c v → h'.IsCell c v := fun x c e v ⟨o, ho, hd⟩ => by
    have nch : c ∉ ch := fun z => (hch c z).2.2.1 x c e rfl
    by_cases hc : c ∈ X.fs
    · obtain ⟨sl, q⟩ := slot c o (I.cne x c e) hc nch ho (I.freeC x c e)
      exact ⟨_, q, hd⟩
    · exact ⟨o, keep c o (I.cne x c e) hc nch ho (I.freeC x c e), hd⟩
  refine ⟨I.ok, I.os, hg, ⟨fun b o e n hb hx => ?_, fun b o e n hb hx => ?_, fun b o e n hx => ?_, fun b o e hx => ?_, fun b xs e => tups b xs (I.base.tups b xs e), fun b o xs e => frzs b o xs (I.base.frzs b o xs e), fun b ps e => ?_⟩, ?_, fun x c e => ?_, ?_, fun x c e => ?_, fun p hp => ?_, hok, I.len⟩
  · exact keep b o (neL b o e) hb (neC b o e hx) (I.base.keep b o e n hb hx) (I.base.free b o e n hx)
  · obtain ⟨sl, e1⟩ := I.base.slot b o e n hb hx
    obtain ⟨sl', e2⟩ := slot b _ (neL b o e) hb (neC b o e hx) e1 (I.base.free b o e n hx)
    exact ⟨sl', e2⟩
  · obtain ⟨o', e1⟩ := I.base.there b o e hx
    exact free b o' (neC b o e hx) e1 (I.base.free b o e n hx)
  · obtain ⟨o', e1⟩ := I.base.there b o e hx
    exact there b o' (neC b o e hx) e1
  · obtain ⟨m1, e1⟩ := I.base.tbls b ps e
    obtain ⟨m2, e2⟩ := tbls b _ e1
    exact ⟨m1 ++ m2, by rw [e2, Array.append_assoc]⟩
  · obtain ⟨m, hn, hl⟩ := I.loc
    refine ⟨m, ns m hn, fun i x v e1 e2 e3 => ?_⟩
    obtain ⟨u, r, l⟩ := hl i x v e1 e2 e3
    refine ⟨u, r, ?_⟩
    rcases l with l | ⟨k, c, e, z⟩
    · exact .inl l
    · exact .inr ⟨k, c, e, cellK x c e _ z⟩
  · obtain ⟨v, z⟩ := I.cell x c e
    exact ⟨v, cellK x c e v z⟩
  · obtain ⟨m, ⟨o, _, _, ho, _⟩, _⟩ := I.loc
    exact free _ o (fun z => (hch _ z).2.1 rfl) ho I.free
  · obtain ⟨v, o, ho, hd⟩ := I.cell x c e
    exact free c o (fun z => (hch c z).2.2.1 x c e rfl) ho (I.freeC x c e)
  · obtain ⟨e, n, ne, nf, d⟩ := I.pin p hp
    have nch : p.1 ∉ ch := fun z => (hch p.1 z).2.2.2 p hp rfl
    exact ⟨keep p.1 p.2 ne nf nch e n, free p.1 p.2 nch e n, ne, nf, d⟩
/-- .. where the frame's own object is kept too -/
theorem Inv.un {t' : Nat} (I : Inv X pins σ H s) (u : Un X.fs [] H H' s.heap h') (hok : HOk X.prog X.w H' h') : Inv X pins σ H' { s with heap := h', toks := t' } := by
  obtain ⟨m, ⟨o, es, ep, ho, r⟩, _⟩ := id I.loc
  obtain ⟨sl, hL⟩ := u.any ho I.free (by simp)
  exact I.step (g' := s.gens) (d' := s.drawn) (ch := []) (fun _ z => nomatch z) (fun b o _ hb _ e n => u.keep b o e n hb (by simp)) (fun b o _ hb _ e n => u.slot b o e n hb (by simp)) (fun b o _ e n => u.free b o e n (by simp)) (fun b o _ e => u.there b o e (by simp)) u.tups u.frzs u.tbls (fun m' hm => by
    obtain ⟨o', es', ep', ho', r'⟩ := hm
    rw [ho] at ho'; cases ho'
    exact ⟨_, es', ep', hL, r'⟩) hok I.bare
/-- behind a call (or a comprehension's block): the slots of this frame may have changed too, the records at ch may have turned -/
theorem Inv.call {g' : Array GenState} {t' : Nat} {d' : Drawn} {ch : List Addr} (I : Inv X pins σ H s) (u : Un (frs X.stack) ch H H' s.heap h') (hok : HOk X.prog X.w H' h') (hg : AllBare g')
    (hch : ∀ b ∈ ch, (b ∈ X.ex ∨ X.s₀.heap.objs.size ≤ b) ∧ b ≠ X.env.locals ∧ (∀ x c, X.env.cells.lookup x = some c → c ≠ b) ∧ ∀ p ∈ X.pn ++ pins, p.1 ≠ b) :
    Inv X pins σ H' { s with heap := h', gens := g', drawn := d', toks := t' } := by
  obtain ⟨m, ⟨o, es, ep, ho, r⟩, _⟩ := id I.loc
  obtain ⟨sl, hL⟩ := u.any ho I.free fun z => (hch _ z).2.1 rfl
  exact I.step (ch := ch) hch (fun b o hL hb hc e n => u.keep b o e n (fun z => (List.mem_cons.mp (I.stkSub b z)).elim hL hb) hc) (fun b o _ _ hc e n => u.any e n hc) (fun b o hc e n => u.free b o e n hc) (fun b o hc e => u.there b o e hc) u.tups u.frzs u.tbls (fun m' hm => by
    obtain ⟨o', es', ep', ho', r'⟩ := hm
    rw [ho] at ho'; cases ho'
    exact ⟨_, es', ep', hL, r'⟩) hok hg
/-- an untracked record of ours (an iterator) has turned -/
theorem Inv.turned {t' : Nat} {it : Addr} (I : Inv X pins σ H s) (k : ∀ b o, b ≠ it → s.heap.get? b = some o → h'.get? b = some o) (hn : H it = none) (hL : it ≠ X.env.locals)
    (h1 : it ∈ X.ex ∨ X.s₀.heap.objs.size ≤ it) (h2 : ∀ x c, X.env.cells.lookup x = some c → c ≠ it) (h3 : ∀ p ∈ X.pn ++ pins, p.1 ≠ it) : Inv X pins σ H { s with heap := h', toks := t' } := by
  have nit : ∀ b u, H b = some u → b ≠ it := fun b u e z => by rw [z, hn] at e; cases e
  refine I.step (g' := s.gens) (d' := s.drawn) (ch := [it]) (fun b hb => ?_) (fun b o _ _ hc e _ => k b o (fun z => hc (by simp [z])) e) (fun b o _ _ hc e _ => ⟨o.slots, k b o (fun z => hc (by simp [z])) e⟩) (fun _ _ _ _ n => n)
    (fun b o hc e => ⟨o, k b o (fun z => hc (by simp [z])) e⟩) (fun _ _ e => e) (fun _ _ _ e => e) (fun b ps e => ⟨#[], by rw [e]; simp⟩) (fun m hm => ?_) (fun b u e => ?_) I.bare
  · have e : b = it := by simpa using hb
    subst e
    exact ⟨h1, hL, h2, h3⟩
  · obtain ⟨o, es, ep, ho, r⟩ := hm
    exact ⟨o, es, ep, k _ o (Ne.symm hL) ho, r⟩
  · refine (I.hok b u e).stay (fun c v hc q => k c v ?_ q) (fun _ q => q) fun _ _ q => q
    rcases hc with z | z
    · rw [z]; exact nit b u e
    · exact nit c _ z
theorem Inv.tok (I : Inv X pins σ H s) (t : Nat) : Inv X pins σ H { s with toks := t } := I.un (h' := s.heap) (t' := t) Un.refl I.hok
/-- all objects kept -/
theorem Inv.kept {t' : Nat} (I : Inv X pins σ H s) (k : ∀ b u, s.heap.get? b = some u → h'.get? b = some u) : Inv X pins σ H { s with heap := h', toks := t' } := I.un (Un.kept k) (I.hok.kept k)
/-- a new object laid and tracked -/
theorem Inv.laid {a : Addr} {o : HO} {t' : Nat} (I : Inv X pins σ H s) (k : ∀ b u, s.heap.get? b = some u → h'.get? b = some u) (hp : s.heap.objs.size ≤ a) (new : ObjOk X.prog X.w (upd H a o) h' a o) :
    Inv X pins σ (upd H a o) { s with heap := h', toks := t' } := I.un (Un.laid k hp (I.hok.fresh hp)) (I.hok.laid k hp new)
/-- an object written -/
theorem Inv.write {x e : Addr} {o : HO} {t' : Nat} (I : Inv X pins σ H s) (mu : Mut (H x)) (he : e = x ∨ H e = some (.own x)) (k : ∀ b u, b ≠ e → s.heap.get? b = some u → h'.get? b = some u) (heo : ∃ u, h'.get? e = some u)
    (new : ObjOk X.prog X.w (upd H x o) h' x o) : Inv X pins σ (upd H x o) { s with heap := h', toks := t' } := I.un (Un.write mu he k heo) (I.hok.write mu he k heo new)
theorem Inv.pins_of {pins' : List (Addr × Obj)} (I : Inv X pins σ H s) (h : ∀ p ∈ pins', s.heap.get? p.1 = some p.2 ∧ H p.1 = none ∧ p.1 ≠ X.env.locals ∧ p.1 ∉ X.fs ∧ ∀ v, p.2.data ≠ .cell v) : Inv X pins' σ H s :=
  ⟨I.ok, I.os, I.bare, I.base, I.loc, I.cell, I.free, I.freeC, fun p hp => (List.mem_append.mp hp).elim (fun z => I.pin p (List.mem_append_left _ z)) (h p), I.hok, I.len⟩

theorem nodup_ix {N : List Str} (hN : N.Nodup) {i j : Nat} {x : Str} (a : N[i]? = some x) (b : N[j]? = some x) : i = j := by
  obtain ⟨h1, e1⟩ := List.getElem?_eq_some_iff.mp a
  obtain ⟨h2, e2⟩ := List.getElem?_eq_some_iff.mp b
  exact (List.getElem_inj hN).mp (e1.trans e2.symm)

/-- a name is stored; what changed -/
theorem store_ok2 {M : Model} {A : Around} {E : Value → Shared → Prop} {i : Nat} {x : Str} {v : V} {u : Value} {Q : Unit → Shared → Prop} (I : Inv X pins σ H s) (hN : X.N.Nodup) (hi : X.N[i]? = some x) (hx : Loc X.env.scope x) (r : RelV v u)
    (h : ∀ s', Inv X pins (σ.set i (some v)) H s' → (∃ a, Heap.SameBut a s.heap s'.heap ∧ (a = X.env.locals ∨ X.env.cells.lookup x = some a)) → Q () s') (hf : X.fn x = true ∨ X.env.scope.names.lookup x = some .local := by first | exact .inl rfl | exact .inr rfl | assumption) : wpAny M A (storeName X.env x u) Q E s := by
  obtain ⟨m, hn, hl⟩ := id I.loc
  have hcls : (X.env.scope.kind == .class || (X.env.scope.kind == .module && X.env.locals != X.env.globals)) = false := by rw [I.ok.kind]; rfl
  have hiσ : i < σ.length := by rw [I.len]; exact (List.getElem?_eq_some_iff.mp hi).1
  have cne := I.cne
  have tracked : ∀ {a : Addr} {h' : Heap}, (∃ o, s.heap.get? a = some o ∧ H a = none) → Heap.SameBut a s.heap h' → HOk X.prog X.w H h' := fun {a h'} ha hs b ob e => by
    obtain ⟨_, _, hfree⟩ := ha
    refine (I.hok b ob e).stay (fun c w' hc q => (hs.2 c ?_).trans q) (fun _ q => q) fun _ _ q => q
    rintro rfl
    rcases hc with rfl | hc
    · rw [hfree] at e; cases e
    · rw [hfree] at hc; cases hc
  rcases hx with hk | hk
  · refine wpAny_storeName_local hk hn (fun h' hn' hs => ?_) hcls
    obtain ⟨oL, _, _, hoL, _⟩ := id hn
    refine h _ ⟨I.ok, I.os, I.bare, ⟨fun b o e n hb hx => ?_, fun b o e n hb hx => ?_, I.base.free, fun b o e hx => ?_, I.base.tups, I.base.frzs, I.base.tbls⟩, ⟨_, hn', fun j y v' e1 e2 e3 => ?_⟩, fun y c e => ?_, I.free, I.freeC, fun p hp => ?_, tracked ⟨oL, hoL, I.free⟩ hs, by simpa using I.len⟩ ⟨_, hs, .inl rfl⟩
    · exact (hs.2 b (Nat.ne_of_lt (Nat.lt_of_lt_of_le (Heap.lt_size e) I.ok.above))).trans (I.base.keep b o e n hb hx)
    · obtain ⟨sl, e1⟩ := I.base.slot b o e n hb hx
      exact ⟨sl, (hs.2 b (Nat.ne_of_lt (Nat.lt_of_lt_of_le (Heap.lt_size e) I.ok.above))).trans e1⟩
    · obtain ⟨o', e1⟩ := I.base.there b o e hx
      exact ⟨o', (hs.2 b (Nat.ne_of_lt (Nat.lt_of_lt_of_le (Heap.lt_size e) I.ok.above))).trans e1⟩
    · by_cases hj : j = i
      · subst hj
        rw [hi] at e1; cases e1
        rw [List.getElem?_set_self hiσ] at e2
        cases e2
        exact ⟨u, r, .inl ⟨hk, by simp⟩⟩
      · rw [List.getElem?_set_ne (Ne.symm hj)] at e2
        obtain ⟨u', r', q⟩ := hl j y v' e1 e2 e3
        refine ⟨u', r', ?_⟩
        rcases q with ⟨k, e⟩ | ⟨k, c, e, z⟩
        · refine .inl ⟨k, ?_⟩
          have : y ≠ x := fun e => hj (nodup_ix hN e1 (e ▸ hi))
          simp [this, e]
        · exact .inr ⟨k, c, e, z.sameBut hs (cne y c e)⟩
    · obtain ⟨w', z⟩ := I.cell y c e
      exact ⟨w', z.sameBut hs (cne y c e)⟩
    · obtain ⟨e, n, ne, nf, d⟩ := I.pin p hp
      exact ⟨(hs.2 p.1 ne).trans e, n, ne, nf, d⟩
  · have hfn : X.fn x = true := by
      rcases hf with z | z
      · exact z
      · rw [z] at hk; cases hk
    obtain ⟨c, hc⟩ := I.ok.has x (.inl hk)
    obtain ⟨w', z⟩ := I.cell x c hc
    refine wpAny_storeName_cell I.ok.kind hk hc z (fun h' hc' hs => ?_)
    obtain ⟨oc, hoc, hocd⟩ := id z
    refine h { s with heap := h' } ⟨I.ok, I.os, I.bare, ⟨fun b o e n hb hx => ?_, fun b o e n hb hx => ?_, I.base.free, fun b o e hx => ?_, I.base.tups, I.base.frzs, I.base.tbls⟩, ⟨m, hn.sameBut hs (Ne.symm (cne x c hc)), fun j y v' e1 e2 e3 => ?_⟩, fun y c' e => ?_, I.free, I.freeC, fun p hp => ?_, tracked ⟨oc, hoc, I.freeC x c hc⟩ hs, by simpa using I.len⟩ ⟨c, hs, .inr hc⟩
    · exact (hs.2 b (Nat.ne_of_lt (Nat.lt_of_lt_of_le (Heap.lt_size e) (I.ok.cab x c hfn hc)))).trans (I.base.keep b o e n hb hx)
    · obtain ⟨sl, e1⟩ := I.base.slot b o e n hb hx
      exact ⟨sl, (hs.2 b (Nat.ne_of_lt (Nat.lt_of_lt_of_le (Heap.lt_size e) (I.ok.cab x c hfn hc)))).trans e1⟩
    · obtain ⟨o', e1⟩ := I.base.there b o e hx
      exact ⟨o', (hs.2 b (Nat.ne_of_lt (Nat.lt_of_lt_of_le (Heap.lt_size e) (I.ok.cab x c hfn hc)))).trans e1⟩
    · by_cases hj : j = i
      · subst hj
        rw [hi] at e1; cases e1
        rw [List.getElem?_set_self hiσ] at e2
        cases e2
        exact ⟨u, r, .inr ⟨.inl hk, c, hc, hc'⟩⟩
      · rw [List.getElem?_set_ne (Ne.symm hj)] at e2
        obtain ⟨u', r', q⟩ := hl j y v' e1 e2 e3
        refine ⟨u', r', ?_⟩
        rcases q with q | ⟨k, c', e, z'⟩
        · exact .inl q
        · refine .inr ⟨k, c', e, z'.sameBut hs ?_⟩
          rintro rfl
          exact hj (nodup_ix hN e1 (I.ok.inj _ _ _ e hc ▸ hi))
    · by_cases hcc : c' = c
      · subst hcc; exact ⟨_, hc'⟩
      · obtain ⟨w2, z2⟩ := I.cell y c' e
        exact ⟨w2, z2.sameBut hs hcc⟩
    · obtain ⟨e, n, ne, nf, d⟩ := I.pin p hp
      refine ⟨(hs.2 p.1 ?_).trans e, n, ne, nf, d⟩
      intro q
      rw [q, hoc] at e
      have q' : oc = p.2 := Option.some.inj e
      exact d w' (by rw [← q']; exact hocd)
theorem store_ok {M : Model} {A : Around} {E : Value → Shared → Prop} {i : Nat} {x : Str} {v : V} {u : Value} {Q : Unit → Shared → Prop} (I : Inv X pins σ H s) (hN : X.N.Nodup) (hi : X.N[i]? = some x) (hx : Loc X.env.scope x) (r : RelV v u)
    (h : ∀ s', Inv X pins (σ.set i (some v)) H s' → Q () s') (hf : X.fn x = true ∨ X.env.scope.names.lookup x = some .local := by first | exact .inl rfl | exact .inr rfl | assumption) : wpAny M A (storeName X.env x u) Q E s :=
  store_ok2 I hN hi hx r (fun s' I' _ => h s' I') hf
/-- behind a call or a block, the state as it is -/
theorem Inv.call' {s' : Shared} {ch : List Addr} (I : Inv X pins σ H s) (ho : s'.os = s.os) (u : Un (frs X.stack) ch H H' s.heap s'.heap) (hok : HOk X.prog X.w H' s'.heap) (hg : AllBare s'.gens)
    (hch : ∀ b ∈ ch, (b ∈ X.ex ∨ X.s₀.heap.objs.size ≤ b) ∧ b ≠ X.env.locals ∧ (∀ x c, X.env.cells.lookup x = some c → c ≠ b) ∧ ∀ p ∈ X.pn ++ pins, p.1 ≠ b) : Inv X pins σ H' s' := by
  obtain ⟨h', g', d', t', o'⟩ := s'
  have e : o' = s.os := ho
  subst e
  exact I.call (g' := g') (t' := t') (d' := d') u hok hg hch
end

/-- an exception: its class, its own dict's address (where it has one), the abstract heap behind it -/
abbrev XK := Value → Option Addr → Hp → Prop
abbrev St := List (Option V)
abbrev VK := V → Hp → Prop
/-- an expression's reading; a test's; an argument list's -/
abbrev TE := St → Hp → VK → Prop
abbrev TT := St → Hp → (Bool → Hp → Prop) → Prop
abbrev TA := St → Hp → (List V → Hp → Prop) → Prop
/-- what is wanted behind a statement -/
structure Ends where
  nx : St → Hp → Prop
  rt : VK
  bk : St → Hp → Prop := fun _ _ => False
  ct : St → Hp → Prop := fun _ _ => False
abbrev TS := Ends → St → Hp → Prop

def EP (X : Cx) (pins : List (Addr × Obj)) (σ : St) (Q : VK) (u : Value) (s' : Shared) : Prop := ∃ v H', Inv X pins σ H' s' ∧ RelV v u ∧ Q v H'
def TP (X : Cx) (pins : List (Addr × Obj)) (σ : St) (Q : Bool → Hp → Prop) (b : Bool) (s' : Shared) : Prop := ∃ H', Inv X pins σ H' s' ∧ Q b H'
def AP (X : Cx) (pins : List (Addr × Obj)) (σ : St) (Q : List V → Hp → Prop) (us : List Value) (s' : Shared) : Prop := ∃ vs H', Inv X pins σ H' s' ∧ Vals vs us ∧ Q vs H'
def SP (X : Cx) (pins : List (Addr × Obj)) (D : Ends) (f : Flow) (s' : Shared) : Prop :=
  match f with
  | .next => ∃ σ' H', Inv X pins σ' H' s' ∧ D.nx σ' H'
  | .brk => ∃ σ' H', Inv X pins σ' H' s' ∧ D.bk σ' H'
  | .cont => ∃ σ' H', Inv X pins σ' H' s' ∧ D.ct σ' H'
  | .ret u => ∃ v σ' H', Inv X pins σ' H' s' ∧ RelV v u ∧ D.rt v H'

def PE (X : Cx) (e : Expr) (t : TE) : Prop :=
  ∀ (pins : List (Addr × Obj)) (s : Shared) (σ : St) (H : Hp) (Q : VK), Inv X pins σ H s → t σ H Q → wpAny (model X.prog X.w) X.A (eval e X.env) (EP X pins σ Q) X.xe s
def PT (X : Cx) (e : Expr) (t : TT) : Prop :=
  ∀ (pins : List (Addr × Obj)) (s : Shared) (σ : St) (H : Hp) (Q : Bool → Hp → Prop), Inv X pins σ H s → t σ H Q → wpAny (model X.prog X.w) X.A (isTrue e X.env (eval e X.env)) (TP X pins σ Q) X.xe s
/-- a test whatever its 'whole' is (and, or) -/
def PW (X : Cx) (e : Expr) (t : TT) : Prop :=
  ∀ (whole : Sem Value) (pins : List (Addr × Obj)) (s : Shared) (σ : St) (H : Hp) (Q : Bool → Hp → Prop), Inv X pins σ H s → t σ H Q → wpAny (model X.prog X.w) X.A (isTrue e X.env whole) (TP X pins σ Q) X.xe s
theorem PW.pt {X : Cx} {e : Expr} {t : TT} (h : PW X e t) : PT X e t := h _
/-- an argument list (no star), from the left -/
def PA (X : Cx) (es : List Expr) (t : TA) : Prop :=
  ∀ (pos : Pos) (pins : List (Addr × Obj)) (s : Shared) (σ : St) (H : Hp) (Q : List V → Hp → Prop), Inv X pins σ H s → t σ H Q → wpAny (model X.prog X.w) X.A (spliced (backTo pos (starEach es X.env))) (AP X pins σ Q) X.xe s
def PS (X : Cx) (st : Stmt) (t : TS) : Prop :=
  ∀ (pins : List (Addr × Obj)) (s : Shared) (σ : St) (H : Hp) (D : Ends), Inv X pins σ H s → t D σ H → wpAny (model X.prog X.w) X.A (exec st X.env) (SP X pins D) X.xe s
def PSs (X : Cx) (st : List Stmt) (t : TS) : Prop :=
  ∀ (pins : List (Addr × Obj)) (s : Shared) (σ : St) (H : Hp) (D : Ends), Inv X pins σ H s → t D σ H → wpAny (model X.prog X.w) X.A (execs st X.env) (SP X pins D) X.xe s
/-- weaken the end -/
theorem thn {α : Type} {t : Sem α} {Q Q' : α → Shared → Prop} {M : Model} {A : Around} {E : Value → Shared → Prop} {s : Shared} (h : wpAny M A t Q E s) (hQ : ∀ a s, Q a s → Q' a s) : wpAny M A t Q' E s := wpAny_mono h hQ fun _ _ x => x
end L2

namespace L2
open PySem PySem.Spec PyProof.Rows
section
variable {X : Cx}

def tVar (i : Nat) : TE := fun σ H Q => ∃ v, σ[i]? = some (some v) ∧ Q v H
def tC (v : V) : TE := fun _ H Q => Q v H
theorem pe_var {i : Nat} {x : Str} {pos : Pos} (hN : X.N[i]? = some x) (hv : Vis X.env.scope x) (hd : (x == ("__debug__" : Str)) = false := by decide) (hcd : (x == ("__classdict__" : Str)) = false := by decide) : PE X (.Name x pos) (tVar i) := by
  intro pins s σ H Q I h
  obtain ⟨v, e, h⟩ := h
  obtain ⟨m, hn, hl⟩ := I.loc
  obtain ⟨u, r, l⟩ := hl i x v hN e hv
  have fin : EP X pins σ Q u s := ⟨v, H, I, r, h⟩
  rcases l with ⟨hk, hm⟩ | ⟨hk, c, hc, hcell⟩
  · exact wpAny_Name (wpAny_loadName_local I.ok.kind hk hn hm fin) hd
  · rcases hk with hk | hk
    · exact wpAny_Name (wpAny_loadName_cell I.ok.kind hk hc hcell fin) hd
    · exact wpAny_Name (wpAny_loadName_free I.ok.kind hk hc hcell fin hcd) hd
theorem pe_int {i j pos} : PE X (.Constant (.int i) j pos) (tC (.int i)) := fun _ _ _ H _ I h => wpAny_Constant_int ⟨.int i, H, I.tok _, ⟨_, rfl⟩, h⟩
theorem pe_bl {b j pos} : PE X (.Constant (.bool b) j pos) (tC (.bl b)) := fun _ _ _ H _ I h => Constant_bool ⟨.bl b, H, I, rfl, h⟩
theorem pe_non {j pos} : PE X (.Constant .none j pos) (tC .non) := fun _ _ _ H _ I h => Constant_none ⟨.non, H, I, rfl, h⟩
theorem pe_str {x j pos} : PE X (.Constant (.str x) j pos) (tC (.str x)) := fun _ _ _ H _ I h => Calls.Constant_str ⟨.str x, H, I.tok _, ⟨_, rfl⟩, h⟩

/-- a global name of the def -/
def Gl (X : Cx) (x : Str) : Prop := X.env.kindOf x = some .globalImplicit
theorem ld_glob {E : Value → Shared → Prop} {pins : List (Addr × Obj)} {s : Shared} {σ : St} {H : Hp} {x : Str} {u : Value} {pos : Pos} {Q : Value → Shared → Prop} (I : Inv X pins σ H s) (hg : Gl X x) (hm : X.mg x = some u) (h : Q u s)
    (hd : (x == ("__debug__" : Str)) = false := by decide) : wpAny (model X.prog X.w) X.A (eval (.Name x pos) X.env) Q E s :=
  Calls.Name_function_global I.ok.kind hg (Calls.loadGlobal_global (by rw [I.ok.glob]; exact I.mod.glob.keeps I.bk) hm h) hd
theorem ld_blt {E : Value → Shared → Prop} {pins : List (Addr × Obj)} {s : Shared} {σ : St} {H : Hp} {x : Str} {u : Value} {pos : Pos} {Q : Value → Shared → Prop} (I : Inv X pins σ H s) (hg : Gl X x) (hm : X.mg x = none) (hv : bootBuiltins x = some u) (h : Q u s)
    (hn : x ≠ "__name__" := by decide) (hd : (x == ("__debug__" : Str)) = false := by decide) : wpAny (model X.prog X.w) X.A (eval (.Name x pos) X.env) Q E s := by
  obtain ⟨mb, h1, h2⟩ := I.mod.blt
  exact Calls.Name_function_global I.ok.kind hg (Calls.loadGlobal_builtin (by rw [I.ok.glob]; exact I.mod.glob.keeps I.bk) hm (by rw [I.ok.blt]; exact h1.keeps I.bk) ((h2 x hn).trans hv) h) hd
theorem pe_bltn {x : Str} {v : V} {u : Value} {pos : Pos} (hg : Gl X x) (hm : X.mg x = none) (hv : bootBuiltins x = some u) (r : RelV v u) (hn : x ≠ "__name__" := by decide) (hd : (x == ("__debug__" : Str)) = false := by decide) : PE X (.Name x pos) (tC v) :=
  fun _ _ _ H _ I h => ld_blt I hg hm hv ⟨v, H, I, r, h⟩ hn hd

variable {a b : Expr} {ta tb : TE} {pos : Pos}
def PC (X : Cx) (op : CmpOp) (a b : Expr) (t : TE) : Prop :=
  ∀ (pins : List (Addr × Obj)) (s : Shared) (σ : St) (H : Hp) (Q : VK), Inv X pins σ H s → t σ H Q →
    wpAny (model X.prog X.w) X.A (eval a X.env) (fun v s₁ => wpAny (model X.prog X.w) X.A (eval b X.env) (fun u s₂ => wpAny (model X.prog X.w) X.A (compareOp op v u) (EP X pins σ Q) X.xe s₂) X.xe s₁) X.xe s
theorem nobehind (b : Expr) {op : CmpOp} (h : op ≠ .In) (h2 : op ≠ .NotIn) : behindInMarks op b = false := by
  have e1 : (op == CmpOp.In) = false := by cases op <;> first | rfl | exact absurd rfl h
  have e2 : (op == CmpOp.NotIn) = false := by cases op <;> first | rfl | exact absurd rfl h2
  cases b <;> simp [behindInMarks, e1, e2]
/-- a comparison as a value, as a test -/
def tB (t : TE) : TT := fun σ H Q => t σ H fun x H1 => ∃ c, x = .bl c ∧ Q c H1
theorem pt_cmp {op : CmpOp} {t : TE} (h : PC X op a b t) (h1 : behindInMarks op b = false := by first | exact nobehind _ (by decide) (by decide) | rfl) : PT X (.Compare a [op] [b] pos) (tB t) := by
  intro pins s σ H Q I hw
  refine wpAny_isTrue_Compare1 (thn (h pins s σ H _ I hw) fun v s1 h1 => thn h1 fun u s2 h2 => thn h2 fun c s3 ⟨x, H1, I1, r1, q1⟩ => ?_) h1
  obtain ⟨d, rfl, q⟩ := q1
  cases r1
  exact wpAny_truthy_bool ⟨H1, I1, q⟩
/-- an expression whose value is a bool, as a test -/
theorem pt_val {e : Expr} {t : TE} (h : PE X e t) (he : ∀ whole, isTrue e X.env whole = (do let v ← whole; standAt e.pos; holding [v] (truthy v)) := by intro _; rfl) : PT X e (tB t) := by
  intro pins s σ H Q I hw
  refine isTrue_plain (thn (h pins s σ H _ I hw) fun v s1 ⟨x, H1, I1, r1, q1⟩ => ?_) (he _)
  obtain ⟨d, rfl, q⟩ := q1
  cases r1
  exact wpAny_truthy_bool ⟨H1, I1, q⟩

variable {tA tB' : TT} {rest : List Expr}
def tAnd (t u : TT) : TT := fun σ H Q => t σ H fun c H1 => if c = true then u σ H1 Q else Q false H1
def tOr (t u : TT) : TT := fun σ H Q => t σ H fun c H1 => if c = true then Q true H1 else u σ H1 Q
def tNot (t : TT) : TT := fun σ H Q => t σ H fun c H1 => Q (!c) H1
theorem pw_and1 (ha : PT X a tA) : PW X (.BoolOp .And [a] pos) tA := by
  intro wh pins s σ H Q I h
  refine isTrue_and (thn (ha pins s σ H Q I h) fun c s1 e => ?_)
  cases c with
  | true => exact isTrue_and_nil e
  | false => exact e
theorem pw_or1 (ha : PT X a tA) : PW X (.BoolOp .Or [a] pos) tA := by
  intro wh pins s σ H Q I h
  refine isTrue_or (thn (ha pins s σ H Q I h) fun c s1 e => ?_)
  cases c with
  | false => exact isTrue_or_nil e
  | true => exact e
theorem pw_and (ha : PT X a tA) (hb : PW X (.BoolOp .And (b :: rest) pos) tB') : PW X (.BoolOp .And (a :: b :: rest) pos) (tAnd tA tB') := by
  intro wh pins s σ H Q I h
  refine isTrue_and (thn (ha pins s σ H _ I h) fun c s1 ⟨H1, I1, q1⟩ => ?_)
  cases c with
  | true => exact hb wh pins s1 σ H1 Q I1 q1
  | false => exact ⟨H1, I1, q1⟩
theorem pw_or (ha : PT X a tA) (hb : PW X (.BoolOp .Or (b :: rest) pos) tB') : PW X (.BoolOp .Or (a :: b :: rest) pos) (tOr tA tB') := by
  intro wh pins s σ H Q I h
  refine isTrue_or (thn (ha pins s σ H _ I h) fun c s1 ⟨H1, I1, q1⟩ => ?_)
  cases c with
  | true => exact ⟨H1, I1, q1⟩
  | false => exact hb wh pins s1 σ H1 Q I1 q1
theorem pt_not (ha : PT X a tA) : PT X (.UnaryOp .Not a pos) (tNot tA) := by
  intro pins s σ H Q I h
  exact isTrue_not (ha pins s σ H (fun c H1 => Q (!c) H1) I h)
/-- .. as values (bools) -/
def tAndV (ta tb : TE) : TE := fun σ H Q => ta σ H fun x H1 => ∃ c, x = .bl c ∧ if c = true then tb σ H1 Q else Q (.bl false) H1
def tOrV (ta tb : TE) : TE := fun σ H Q => ta σ H fun x H1 => ∃ c, x = .bl c ∧ if c = true then Q (.bl true) H1 else tb σ H1 Q
def tNotV (ta : TE) : TE := fun σ H Q => ta σ H fun x H1 => ∃ c, x = .bl c ∧ Q (.bl (!c)) H1
/-- a if t else b -/
def tIf (t : TT) (ta tb : TE) : TE := fun σ H Q => t σ H fun c H1 => if c = true then ta σ H1 Q else tb σ H1 Q
end
end L2

namespace L2
open PySem PySem.Spec PyProof.Rows

def SqL (K : PySem.W.Frag) (H : Hp) (a : Addr) (xs : List V) : Prop :=
  Rd H a (.lst xs) ∨
    ∃ (o : Obj) (its : Array Value) (n : Nat), K.lookup a = some o ∧ o.cls = .type "list" ∧ o.dict = none ∧ o.data = .seq its n ∧ its.size ≤ sizeLine ∧ Vals xs its.toList
def SqT (K : PySem.W.Frag) (H : Hp) (a : Addr) (xs : List V) : Prop :=
  Rd H a (.tup xs) ∨
    ∃ (o : Obj) (its : Array Value) (n : Nat), K.lookup a = some o ∧ o.cls = .type "tuple" ∧ o.data = .seq its n ∧ its.size ≤ sizeLine ∧ Vals xs its.toList
def absV : Value → Option V
  | .none => some .non
  | .bool b => some (.bl b)
  | .int i _ => some (.int i)
  | .str x _ => some (.str x)
  | .bytes b _ => some (.byt b)
  | .float b _ => some (.flt b)
  | .ref a => some (.ref a)
  | .type n => some (.ty n)
  | _ => none
theorem RelV.abs {x : V} {u : Value} (r : RelV x u) : absV u = some x := by
  cases x with
  | non => cases r; rfl
  | bl _ => cases r; rfl
  | int _ => obtain ⟨t, rfl⟩ := r; rfl
  | str _ => obtain ⟨t, rfl⟩ := r; rfl
  | byt _ => obtain ⟨t, rfl⟩ := r; rfl
  | flt _ => obtain ⟨t, rfl⟩ := r; rfl
  | ref _ => cases r; rfl
  | ty _ => cases r; rfl
theorem RelV.inj {x y : V} {u : Value} (r : RelV x u) (q : RelV y u) : x = y := Option.some.inj (r.abs.symm.trans q.abs)
theorem Vals.inj : ∀ {xs ys : List V} {us : List Value}, Vals xs us → Vals ys us → xs = ys
  | _, _, _, .nil, .nil => rfl
  | _, _, _, .cons r t, .cons r' t' => by rw [r.inj r', Vals.inj t t']
section
variable {X : Cx} {pins : List (Addr × Obj)} {σ : St} {H : Hp} {s : Shared} {a : Addr} {xs ys : List V}
theorem SqL.of {K : PySem.W.Frag} (h : H a = some (.lst xs)) : SqL K H a xs := .inl (.inl h)
theorem SqT.of {K : PySem.W.Frag} (h : H a = some (.tup xs)) : SqT K H a xs := .inl (.inl h)
theorem Inv.list (I : Inv X pins σ H s) (h : SqL X.K H a xs) : ∃ its : List Value, Vals xs its ∧ PlainL s.heap a its.toArray ∧ xs.length ≤ sizeLine := by
  rcases h with h | ⟨o, its, n, hk, hc, hd, hs, hz, r⟩
  · obtain ⟨z, its, n, r, e⟩ := h.ok I.hok
    exact ⟨its, r, ⟨_, n, e, rfl, rfl, rfl⟩, z⟩
  · refine ⟨its.toList, r, ⟨o, n, I.kIn a o hk, hc, hd, by simpa using hs⟩, ?_⟩
    have e := r.length
    simp only [Array.length_toList] at e
    omega
theorem Inv.tuple (I : Inv X pins σ H s) (h : SqT X.K H a xs) : ∃ its : List Value, Vals xs its ∧ IsTup s.heap a its.toArray ∧ xs.length ≤ sizeLine := by
  rcases h with h | ⟨o, its, n, hk, hc, hs, hz, r⟩
  · obtain ⟨z, its, r, p⟩ := h.ok I.hok
    exact ⟨its, r, p, z⟩
  · refine ⟨its.toList, r, ⟨o, I.kIn a o hk, hc, n, by simpa using hs⟩, ?_⟩
    have e := r.length
    simp only [Array.length_toList] at e
    omega
theorem Inv.list_inj (I : Inv X pins σ H s) (h : SqL X.K H a xs) (h' : SqL X.K H a ys) : xs = ys := by
  obtain ⟨its, r, ⟨o, n, e, _, _, d⟩, _⟩ := I.list h
  obtain ⟨its', r', ⟨o', n', e', _, _, d'⟩, _⟩ := I.list h'
  rw [e] at e'; cases e'
  rw [d] at d'
  injection d' with d1 _
  have : its = its' := by simpa using congrArg Array.toList d1
  subst this
  exact r.inj r'
theorem Inv.tuple_inj (I : Inv X pins σ H s) (h : SqT X.K H a xs) (h' : SqT X.K H a ys) : xs = ys := by
  obtain ⟨its, r, ⟨o, e, _, n, d⟩, _⟩ := I.tuple h
  obtain ⟨its', r', ⟨o', e', _, n', d'⟩, _⟩ := I.tuple h'
  rw [e] at e'; cases e'
  rw [d] at d'
  injection d' with d1 _
  have : its = its' := by simpa using congrArg Array.toList d1
  subst this
  exact r.inj r'
end

abbrev Cx.wish (X : Cx) (E : Value → Shared → Prop) : Cx := { X with xe := E }
/-- no exception leaves -/
abbrev Cx.nox (X : Cx) : Cx := X.wish fun _ _ => False
theorem Cx.Ok.wish {X : Cx} (ok : X.Ok) (E : Value → Shared → Prop) : (X.wish E).Ok :=
  ⟨ok.mod, ok.kind, ok.glob, ok.blt, ok.above, ok.inj, ok.has, ok.cab, ok.hd, ok.frames, ok.stk, ok.exf, ok.bs, ok.bsz, ok.noex, ok.exfs, ok.funs, ok.frf⟩
theorem Cx.Ok.unwish {X : Cx} {E : Value → Shared → Prop} (ok : (X.wish E).Ok) : X.Ok :=
  ⟨ok.mod, ok.kind, ok.glob, ok.blt, ok.above, ok.inj, ok.has, ok.cab, ok.hd, ok.frames, ok.stk, ok.exf, ok.bs, ok.bsz, ok.noex, ok.exfs, ok.funs, ok.frf⟩
section
variable {X : Cx} {pins : List (Addr × Obj)} {σ : St} {H : Hp} {s : Shared} {E : Value → Shared → Prop}
theorem Inv.wish (I : Inv X pins σ H s) (E : Value → Shared → Prop) : Inv (X.wish E) pins σ H s := ⟨I.ok.wish E, I.os, I.bare, I.base, I.loc, I.cell, I.free, I.freeC, I.pin, I.hok, I.len⟩
theorem Inv.unwish (I : Inv (X.wish E) pins σ H s) : Inv X pins σ H s := ⟨I.ok.unwish, I.os, I.bare, I.base, I.loc, I.cell, I.free, I.freeC, I.pin, I.hok, I.len⟩
theorem SP.unwish {D : Ends} {f : Flow} {s' : Shared} (h : SP (X.wish E) pins D f s') : SP X pins D f s' := by
  cases f with
  | next => obtain ⟨σ', H', I, q⟩ := h; exact ⟨σ', H', I.unwish, q⟩
  | brk => obtain ⟨σ', H', I, q⟩ := h; exact ⟨σ', H', I.unwish, q⟩
  | cont => obtain ⟨σ', H', I, q⟩ := h; exact ⟨σ', H', I.unwish, q⟩
  | ret u => obtain ⟨v, σ', H', I, r, q⟩ := h; exact ⟨v, σ', H', I.unwish, r, q⟩
theorem PE.nox {e : Expr} {t : TE} (h : PE X.nox e t) : PE X e t := fun pins s σ H Q I hw =>
  wpAny_mono (h pins s σ H Q (I.wish _) hw) (fun _ _ ⟨v, H', I', r, q⟩ => ⟨v, H', I'.unwish, r, q⟩) fun _ _ z => False.elim z
theorem PT.nox {e : Expr} {t : TT} (h : PT X.nox e t) : PT X e t := fun pins s σ H Q I hw =>
  wpAny_mono (h pins s σ H Q (I.wish _) hw) (fun _ _ ⟨H', I', q⟩ => ⟨H', I'.unwish, q⟩) fun _ _ z => False.elim z
theorem PSs.nox {st : List Stmt} {t : TS} (h : PSs X.nox st t) : PSs X st t := fun pins s σ H D I hw =>
  wpAny_mono (h pins s σ H D (I.wish _) hw) (fun _ _ q => q.unwish) fun _ _ z => False.elim z
end

section
variable {X : Cx} {st : Stmt} {rest : List Stmt} {t u : TS} {e : Expr} {te : TE} {pos : Pos}
def tNext : TS := fun D σ H => D.nx σ H
def tSeq (t u : TS) : TS := fun D σ H => t { D with nx := u D } σ H
theorem pss_nil : PSs X [] tNext := fun _ _ σ H _ I h => wpAny_execs_nil ⟨σ, H, I, h⟩
theorem pss_cons (h1 : PS X st t) (h2 : PSs X rest u) : PSs X (st :: rest) (tSeq t u) := by
  intro pins s σ H D I h
  refine wpAny_execs_cons (thn (h1 pins s σ H { D with nx := u D } I h) fun f s1 q => ?_)
  cases f with
  | next =>
    obtain ⟨σ', H', I', q⟩ := q
    exact h2 pins s1 σ' H' D I' q
  | ret v => exact q
  | brk => exact q
  | cont => exact q
theorem pss_one (h1 : PS X st t) : PSs X [st] t := by
  intro pins s σ H D I h
  refine wpAny_execs_cons (thn (h1 pins s σ H D I h) fun f s1 q => ?_)
  cases f with
  | next => exact wpAny_execs_nil q
  | ret v => exact q
  | brk => exact q
  | cont => exact q
/-- in a def's body nothing is shown -/
theorem Inv.quiet {pins : List (Addr × Obj)} {σ : St} {H : Hp} {s : Shared} (I : Inv X pins σ H s) : interactive X.env = false := by simp [interactive, I.ok.kind]
/-- an expression whose value is dropped -/
def tDrop (te : TE) : TS := fun D σ H => te σ H fun _ H1 => D.nx σ H1
theorem ps_expr (he : PE X e te) (hs : swapsWith e none pos.line X.env = pure false := by rfl) : PS X (.Expr e pos) (tDrop te) := by
  intro pins s σ H D I h
  exact wpAny_Expr_any (thn (he pins s σ H _ I h) fun v s1 ⟨x, H1, I1, r1, q1⟩ => ⟨σ, H1, I1, q1⟩) I.quiet hs
def tRet (te : TE) : TS := fun D σ H => te σ H D.rt
theorem ps_ret (he : PE X e te) : PS X (.Return (some e) pos) (tRet te) := by
  intro pins s σ H D I h
  exact wpAny_Return_some (thn (he pins s σ H _ I h) fun v s1 ⟨x, H1, I1, r1, q1⟩ => ⟨x, σ, H1, I1, r1, q1⟩)
def tRetN : TS := fun D _ H => D.rt .non H
def tIfS (c : TT) (t u : TS) : TS := fun D σ H => c σ H fun b H1 => if b = true then t D σ H1 else u D σ H1
theorem ps_if {c : Expr} {a b : List Stmt} {tc : TT} (hc : PT X c tc) (ha : PSs X a t) (hb : PSs X b u) : PS X (.If c a b pos) (tIfS tc t u) := by
  intro pins s σ H D I h
  refine wpAny_If (thn (hc pins s σ H _ I h) fun d s1 ⟨H1, I1, q1⟩ => ?_)
  cases d with
  | true => exact ha pins s1 σ H1 D I1 q1
  | false => exact hb pins s1 σ H1 D I1 q1
end

abbrev TG := V → St → Hp → (St → Hp → Prop) → Prop
abbrev TGs := List V → St → Hp → (St → Hp → Prop) → Prop
def PG (X : Cx) (target : Expr) (t : TG) : Prop :=
  ∀ (pins : List (Addr × Obj)) (s : Shared) (σ : St) (H : Hp) (v : V) (u : Value) (Q : St → Hp → Prop), Inv X pins σ H s → RelV v u → t v σ H Q →
    wpAny (model X.prog X.w) X.A (assign target X.env u) (fun _ s' => ∃ σ' H', Inv X pins σ' H' s' ∧ Q σ' H') X.xe s
/-- several targets, one after another -/
def PGs (X : Cx) (ts : List Expr) (t : TGs) : Prop :=
  ∀ (pins : List (Addr × Obj)) (s : Shared) (σ : St) (H : Hp) (vs : List V) (us : List Value) (Q : St → Hp → Prop), Inv X pins σ H s → Vals vs us → t vs σ H Q →
    wpAny (model X.prog X.w) X.A (assignInOrder ((assignEach ts X.env).map (·.2)) us) (fun _ s' => ∃ σ' H', Inv X pins σ' H' s' ∧ Q σ' H') X.xe s
section
variable {X : Cx} {pos : Pos}
def gName (i : Nat) : TG := fun v σ H Q => Q (σ.set i (some v)) H
theorem pg_name {i : Nat} {x : Str} (hN : X.N.Nodup) (hi : X.N[i]? = some x) (hx : Loc X.env.scope x) (hf : X.fn x = true ∨ X.env.scope.names.lookup x = some .local := by first | exact .inl rfl | exact .inr rfl | assumption) : PG X (.Name x pos) (gName i) := by
  intro pins s σ H v u Q I r h
  exact wpAny_assign_Name (store_ok I hN hi hx r (fun s' I' => ⟨_, H, I', h⟩) hf)
def gNil : TGs := fun vs σ H Q => vs = [] ∧ Q σ H
def gCons (t : TG) (u : TGs) : TGs := fun vs σ H Q => ∃ v r, vs = v :: r ∧ t v σ H fun σ' H' => u r σ' H' Q
/-- (a, b, ..) = a tuple of that length -/
def gTup (K : PySem.W.Frag) (n : Nat) (t : TGs) : TG := fun v σ H Q => ∃ a xs, v = .ref a ∧ SqT K H a xs ∧ xs.length = n ∧ t xs σ H Q
/-- target = value -/
def tAsg (te : TE) (g : TG) : TS := fun D σ H => te σ H fun x H1 => g x σ H1 D.nx
/-- name = value -/
theorem ps_set {i : Nat} {x : Str} {e : Expr} {te : TE} {pos' : Pos} (hN : X.N.Nodup) (hi : X.N[i]? = some x) (hx : Loc X.env.scope x) (he : PE X e te) (hs : swapsWith e (some (.Name x pos')) pos.line X.env = pure false := by rfl) (hf : X.fn x = true ∨ X.env.scope.names.lookup x = some .local := by first | exact .inl rfl | exact .inr rfl | assumption) :
    PS X (.Assign [.Name x pos'] e pos) (tAsg te (gName i)) := by
  intro pins s σ H D I h
  refine wpAny_Assign_Name (thn (he pins s σ H _ I h) fun v s1 ⟨y, H1, I1, r1, q1⟩ => ?_) hs
  exact store_ok I1 hN hi hx r1 (fun s2 I2 => ⟨_, H1, I2, q1⟩) hf
end

section
variable {X : Cx} {pos : Pos}
end

/-- at turn i: it yields x (the heap may grow), or it stops -/
structure It where
  go : Nat → Hp → Prop
  yld : Nat → Hp → V → Hp → Prop
  stop : Nat → Hp → Prop
/-- the iterator's own objects may turn: they are not the frame's, not pinned, younger than the entry (or a comprehension's own) -/
def FpOk (X : Cx) (pins : List (Addr × Obj)) (H : Hp) (b : Addr) : Prop :=
  H b = none ∧ b ≠ X.env.locals ∧ b ∉ X.fs ∧ (b ∈ X.ex ∨ X.s₀.heap.objs.size ≤ b) ∧ (∀ x c, X.env.cells.lookup x = some c → c ≠ b) ∧ ∀ p ∈ X.pn ++ pins, p.1 ≠ b
theorem Inv.fpOk {X : Cx} {pins : List (Addr × Obj)} {σ : St} {H H' : Hp} {s : Shared} {b : Addr} (I : Inv X pins σ H s) (hb : s.heap.objs.size ≤ b) (hn : H' b = none) : FpOk X pins H' b := by
  refine ⟨hn, Nat.ne_of_gt (Nat.lt_of_lt_of_le I.lt hb), I.nofs hb, .inr (Nat.le_trans I.sz hb), fun x c e z => ?_, fun p hp z => ?_⟩
  · obtain ⟨v, q⟩ := I.cell x c e
    exact absurd (Nat.lt_of_lt_of_le q.lt (by rw [z]; exact hb)) (Nat.lt_irrefl _)
  · exact absurd (Nat.lt_of_lt_of_le (Heap.lt_size (I.pin p hp).1) (by rw [z]; exact hb)) (Nat.lt_irrefl _)
structure Turn (P : Program) (w : World) (K : PySem.W.Frag) (tg : Expr) (J : It) (fp : List Addr) (it : Addr) (tn : Nat → Heap → Prop) : Prop where
  mem : it ∈ fp
  obj : ∀ i h, tn i h → ∀ b ∈ fp, ∃ o, h.get? b = some o ∧ ∀ v, o.data ≠ .cell v
  keep : ∀ i h h', tn i h → (∀ b ∈ fp, ∀ o, h.get? b = some o → h'.get? b = some o) → tn i h'
  item : ∀ (X : Cx), X.prog = P → X.w = w → X.K = K → X.calm = true → ∀ (i : Nat) (pins : List (Addr × Obj)) (s : Shared) (σ : St) (H : Hp) (E : Value → Shared → Prop), Inv X pins σ H s → (∀ b ∈ fp, FpOk X pins H b) → tn i s.heap → J.go i H →
    wpAny (model P w) X.A (pyNext (.ref it)) (fun r s1 => ∃ u, r = some u ∧
      wpAny (model P w) X.A (letOwnedTupleGo tg (.ref it) u) (fun _ s2 => ∃ x H', Inv X pins σ H' s2 ∧ RelV x u ∧ J.yld i H x H' ∧ tn (i + 1) s2.heap ∧ ∀ b ∈ fp, H' b = none) E s1) E s
  done : ∀ (X : Cx), X.prog = P → X.w = w → X.K = K → X.calm = true → ∀ (i : Nat) (pins : List (Addr × Obj)) (s : Shared) (σ : St) (H : Hp) (E : Value → Shared → Prop), Inv X pins σ H s → (∀ b ∈ fp, FpOk X pins H b) → tn i s.heap → J.stop i H →
    wpAny (model P w) X.A (pyNext (.ref it)) (fun r s1 => r = none ∧ Inv X pins σ H s1) E s
  self : ∀ (A : Around) (i : Nat) (s : Shared) (Q : Value → Shared → Prop) (E : Value → Shared → Prop), tn i s.heap → Q (.ref it) s → wpAny (model P w) A (pyIter (.ref it)) Q E s
abbrev TI := St → Hp → (It → Hp → Prop) → Prop
/-- an iterator has come -/
def PIE (X : Cx) (pins : List (Addr × Obj)) (σ : St) (tg : Expr) (R : It → Hp → Prop) (itv : Value) (s2 : Shared) : Prop :=
  ∃ (it : Addr) (fp : List Addr) (tn : Nat → Heap → Prop) (J : It) (H' : Hp), itv = .ref it ∧ Inv X pins σ H' s2 ∧ Turn X.prog X.w X.K tg J fp it tn ∧ tn 0 s2.heap ∧ (∀ b ∈ fp, FpOk X pins H' b) ∧ R J H'
def PI (X : Cx) (tg iter : Expr) (wi : TI) : Prop :=
  ∀ (pins : List (Addr × Obj)) (s : Shared) (σ : St) (H : Hp) (R : It → Hp → Prop), Inv X pins σ H s → wi σ H R →
    wpAny (model X.prog X.w) X.A (eval iter X.env) (fun v s1 => wpAny (model X.prog X.w) X.A (pyIter v) (PIE X pins σ tg R) X.xe s1) X.xe s

/-- the step ahead of the store is nothing for an iterator that keeps no tuple -/
theorem go_of {M : Model} {A : Around} {E : Value → Shared → Prop} {s : Shared} {tg : Expr} {it : Addr} {u : Value} {o : Obj} {n : String} {vs : Array Value} {Q : Unit → Shared → Prop} (ho : s.heap.get? it = some o) (hc : o.cls = .type n) (hd : o.data = .fields vs)
    (hn : ["enumerate", "zip", "dict_itemiterator", "dict_reverseitemiterator", "odict_iterator", "itertools.zip_longest", "itertools.pairwise"].contains n = false) (hQ : Q () s) : wpAny M A (letOwnedTupleGo tg (.ref it) u) Q E s := by
  unfold letOwnedTupleGo
  cases tg <;> first
    | exact wpAny_pure hQ
    | (cases u <;> first
        | exact wpAny_pure hQ
        | (refine wpAny_bind (wpAny_load ho ?_)
           rw [hc, hd]
           show wpAny M A (if (["enumerate", "zip", "dict_itemiterator", "dict_reverseitemiterator", "odict_iterator", "itertools.zip_longest", "itertools.pairwise"].contains n && vs[0]? == some (rawInt _)) = true then _ else _) Q E s
           rw [if_neg (by intro h; rw [hn, Bool.false_and] at h; cases h)]
           exact wpAny_pure hQ))

/-- the list at a, as it stands at each turn (a loop may append to it) -/
def Itl (K : PySem.W.Frag) (a : Addr) : It :=
  ⟨fun i H => ∃ xs x, SqL K H a xs ∧ xs[i]? = some x, fun i H x H' => H' = H ∧ ∀ xs, SqL K H a xs → xs[i]? = some x, fun i H => ∃ xs, SqL K H a xs ∧ xs.length ≤ i⟩
def Itt (K : PySem.W.Frag) (a : Addr) : It :=
  ⟨fun i H => ∃ xs x, SqT K H a xs ∧ xs[i]? = some x, fun i H x H' => H' = H ∧ ∀ xs, SqT K H a xs → xs[i]? = some x, fun i H => ∃ xs, SqT K H a xs ∧ xs.length ≤ i⟩
/-- lo, lo + 1, .. (n of them) -/
def Itr (lo : Int) (n : Nat) : It := ⟨fun i _ => i < n, fun i H x H' => H' = H ∧ x = .int (lo + i), fun i _ => n ≤ i⟩
theorem turn_tuple {P : Program} {w : World} {K : PySem.W.Frag} {tg : Expr} (a it : Addr) : Turn P w K tg (Itt K a) [it] it (fun i h => h.IsTupleIter it a i) where
  mem := by simp
  obj := fun i h st b hb => by
    have e : b = it := by simpa using hb
    subst e
    obtain ⟨o, e, c, d⟩ := st
    exact ⟨o, e, fun v z => by rw [d] at z; cases z⟩
  keep := fun i h h' st k => st.at fun o e => k it (by simp) o e
  item := by
    intro X hP hw hK hc i pins s σ H E I hf st hg
    subst hP hw hK
    obtain ⟨xs, x, hq, hx⟩ := hg
    obtain ⟨its, rv, p, hz⟩ := I.tuple hq
    obtain ⟨u, hu, ru⟩ := rv.get hx
    obtain ⟨f0, f1, f2, f3, f4, f5⟩ := hf it (by simp)
    refine wpAny_pyNext_tuple_item st (show s.heap.IsTuple a its.toArray from p) (x := u) (by simpa using hu) fun h' st' sb => ?_
    have I1 : Inv X pins σ H { s with heap := h' } := I.turned (t' := s.toks) (fun b o hb e => (sb.2 b hb).trans e) f0 f1 f3 f4 f5
    obtain ⟨o, e, c, d⟩ := id st'
    exact ⟨u, rfl, go_of (s := { s with heap := h' }) e c d (by decide) ⟨x, H, I1, ru, ⟨rfl, fun ys hy => by rw [I.tuple_inj hy hq]; exact hx⟩, st', fun b hb => (hf b hb).1⟩⟩
  done := by
    intro X hP hw hK hc i pins s σ H E I hf st hg
    subst hP hw hK
    obtain ⟨xs, hq, hx⟩ := hg
    obtain ⟨its, rv, p, hz⟩ := I.tuple hq
    obtain ⟨f0, f1, f2, f3, f4, f5⟩ := hf it (by simp)
    have hl := rv.length
    exact wpAny_pyNext_tuple_end (I.ok.hd hc) st (show s.heap.IsTuple a its.toArray from p) (by simp; omega) fun h' eb => ⟨rfl, I.turned (t' := s.toks) (fun b o hb e => eb b o hb e) f0 f1 f3 f4 f5⟩
  self := fun _ _ _ _ _ st h => wpAny_pyIter_tupleiter st h
theorem turn_range {P : Program} {w : World} {K : PySem.W.Frag} {tg : Expr} (it : Addr) (lo : Int) (n : Nat) : Turn P w K tg (Itr lo n) [it] it (fun i h => IsRangeIter h it (lo + (i : Nat) * 1) ((n : Int) - (i : Nat)) 1) where
  mem := by simp
  obj := fun i h st b hb => by
    have e : b = it := by simpa using hb
    subst e
    exact ⟨_, st, fun v z => by
      have z' : Data.fields _ = Data.cell v := z
      cases z'⟩
  keep := fun i h h' st k => k it (by simp) _ st
  item := by
    intro X hP hw hK hc i pins s σ H E I hf st hg
    subst hP hw hK
    obtain ⟨f0, f1, f2, f3, f4, f5⟩ := hf it (by simp)
    have W := Walks.range (prog := X.prog) (w := X.w) (I.ok.hd hc) it lo 1 n
    refine W.item i s _ _ hg st fun v h' tk hv st' kk => ?_
    obtain ⟨t, rfl⟩ := hv
    have I1 : Inv X pins σ H { s with heap := h', toks := tk } := I.turned (fun b o hb e => kk b o (by simpa using hb) e) f0 f1 f3 f4 f5
    refine ⟨_, rfl, go_of (s := { s with heap := h', toks := tk }) (n := "range_iterator") st' rfl rfl (by decide) ⟨.int (lo + i), H, I1, ⟨t, ?_⟩, ⟨rfl, rfl⟩, st', fun b hb => (hf b hb).1⟩⟩
    rw [Int.mul_one]
  done := by
    intro X hP hw hK hc i pins s σ H E I hf st hg
    subst hP hw hK
    obtain ⟨f0, f1, f2, f3, f4, f5⟩ := hf it (by simp)
    exact wpAny_pyNext_range_end (I.ok.hd hc) st (by have : n ≤ i := hg; omega) fun h' eb => ⟨rfl, I.turned (t' := s.toks) (fun b o hb e => eb b o hb e) f0 f1 f3 f4 f5⟩
  self := fun _ _ _ _ _ st h => wpAny_pyIter_rangeiter st h
end L2

namespace L2
open PySem PySem.Spec PyProof.Rows
section
variable {X : Cx} {tg : Expr}
def iList (K : PySem.W.Frag) (tl : TE) : TI := fun σ H R => tl σ H fun x H1 => ∃ a, x = .ref a ∧ (∃ xs, SqL K H1 a xs) ∧ R (Itl K a) H1
def iTup (K : PySem.W.Frag) (tl : TE) : TI := fun σ H R => tl σ H fun x H1 => ∃ a, x = .ref a ∧ (∃ xs, SqT K H1 a xs) ∧ R (Itt K a) H1
theorem pi_tup {l : Expr} {tl : TE} (hl : PE X l tl) : PI X tg l (iTup X.K tl) := by
  intro pins s σ H R I h
  refine thn (hl pins s σ H _ I h) fun v s1 ⟨x, H1, I1, r1, q1⟩ => ?_
  obtain ⟨a, e, ⟨xs, hq⟩, q⟩ := q1
  subst e
  cases r1
  obtain ⟨its, rv, p, hz⟩ := I1.tuple hq
  refine wpAny_pyIter_tuple (show s1.heap.IsTuple a its.toArray from p) ?_
  refine ⟨s1.heap.objs.size, [s1.heap.objs.size], _, _, H1, rfl, I1.kept (t' := s1.toks) fun b o e => Heap.get?_push_of_some _ e, turn_tuple a _, ⟨_, Heap.get?_push_size _ rfl, rfl, rfl⟩, fun b hb => ?_, q⟩
  have e : b = s1.heap.objs.size := by simpa using hb
  subst e
  exact I1.fpOk (Nat.le_refl _) (I1.hok.fresh (Nat.le_refl _))
/-- a range object just made, walked -/
theorem range_it {pins : List (Addr × Obj)} {σ : St} {H : Hp} {s : Shared} {R : It → Hp → Prop} {E : Value → Shared → Prop} {lo hi : Int} {t u v : Tok} {tk : Nat} (I : Inv X pins σ H s) (h1 : -(2 ^ 62) ≤ lo) (h2 : lo < 2 ^ 62) (h3 : -(2 ^ 62) ≤ hi) (h4 : hi < 2 ^ 62)
    (q : R (Itr lo (hi - lo).toNat) H) : wpAny (model X.prog X.w) X.A (pyIter (.ref s.heap.objs.size)) (PIE X pins σ tg R) E { s with heap := s.heap.push { cls := .type "range", data := .fields #[.int lo t, .int hi u, .int 1 v] }, toks := tk } := by
  refine wpAny_pyIter_range (IsRange.new ..) (small_one h1 h2 h3 h4) ?_
  have I1 : Inv X pins σ H { s with heap := s.heap.push { cls := .type "range", data := .fields #[.int lo t, .int hi u, .int 1 v] }, toks := tk } := I.kept fun b o e => Heap.get?_push_of_some _ e
  refine ⟨(s.heap.push { cls := .type "range", data := .fields #[.int lo t, .int hi u, .int 1 v] }).objs.size, [(s.heap.push { cls := .type "range", data := .fields #[.int lo t, .int hi u, .int 1 v] }).objs.size], _, _, H, rfl,
    I1.kept (t' := tk) fun b o e => Heap.get?_push_of_some _ e, turn_range _ lo (hi - lo).toNat, ?_, fun b hb => ?_, q⟩
  · have e1 : lo + ((0 : Nat) : Int) * 1 = lo := by simp
    have e2 : (((hi - lo).toNat : Nat) : Int) - ((0 : Nat) : Int) = Builtin.Range.rangeSize lo hi 1 := by rw [rangeSize_one]; split <;> omega
    show IsRangeIter _ _ (lo + ((0 : Nat) : Int) * 1) ((((hi - lo).toNat : Nat) : Int) - ((0 : Nat) : Int)) 1
    rw [e1, e2]
    exact Heap.get?_push_size _ rfl
  · have e : b = (s.heap.push { cls := .type "range", data := .fields #[.int lo t, .int hi u, .int 1 v] }).objs.size := by simpa using hb
    subst e
    exact I1.fpOk (Nat.le_refl _) (I1.hok.fresh (Nat.le_refl _))
def iRng1 (ta : TA) : TI := fun σ H R => ta σ H fun vs H1 => ∃ j : Int, vs = [.int j] ∧ -(2 ^ 62) ≤ j ∧ j < 2 ^ 62 ∧ R (Itr 0 j.toNat) H1
def iRng2 (ta : TA) : TI := fun σ H R => ta σ H fun vs H1 => ∃ i j : Int, vs = [.int i, .int j] ∧ (-(2 ^ 62) ≤ i ∧ i < 2 ^ 62 ∧ -(2 ^ 62) ≤ j ∧ j < 2 ^ 62) ∧ R (Itr i (j - i).toNat) H1
theorem pi_range1 {a : Expr} {ta : TA} {p pos : Pos} (hg : Gl X "range") (hm : X.mg "range" = none) (ha : PA X [a] ta) (hs : starEach [a] X.env = [(false, eval a X.env)] := by rfl) : PI X tg (.Call (.Name "range" p) [a] [] pos) (iRng1 ta) := by
  intro pins s σ H R I h
  refine Call_ (ld_blt I hg hm boot_range (PyProof.Rows.callWith_type1 (thn (ha pos pins s σ H _ I h) fun us s1 ⟨vs, H1, I1, r1, q1⟩ => ?_) hs rfl))
  obtain ⟨j, e, q1, q2, q⟩ := q1
  subst e
  cases r1 with
  | cons r rr =>
    cases rr
    obtain ⟨t, rfl⟩ := r
    exact call_range_1 (range_it I1 (by omega) (by omega) q1 q2 (by simpa using q))
/-- W: the invariant by the turn and a measure; N: what the body is to reach -/
def tFor (wi : TI) (g : TG) (tb : TS) : TS := fun D σ H => wi σ H fun J H1 => ∃ W : Nat → Nat → St → Hp → Prop, (∃ m, W 0 m σ H1) ∧ ∀ i m σ H, W i m σ H →
  (J.stop i H ∧ D.nx σ H) ∨ (J.go i H ∧ ∃ N : St → Hp → Prop, (∀ σ' H', N σ' H' → ∃ m', m' < m ∧ W (i + 1) m' σ' H') ∧ ∀ x H', J.yld i H x H' → g x σ H' fun σ2 H2 => tb { D with nx := N, ct := N, bk := D.nx } σ2 H2)
/-- the records at fp as they stand -/
def pinsAt (fp : List Addr) (h : Heap) : List (Addr × Obj) := fp.filterMap fun b => (h.get? b).map fun o => (b, o)
theorem mem_pinsAt {fp : List Addr} {h : Heap} {b : Addr} {o : Obj} (hb : b ∈ fp) (e : h.get? b = some o) : (b, o) ∈ pinsAt fp h := List.mem_filterMap.mpr ⟨b, hb, by rw [e]; rfl⟩
theorem of_pinsAt {fp : List Addr} {h : Heap} {p : Addr × Obj} (hp : p ∈ pinsAt fp h) : p.1 ∈ fp ∧ h.get? p.1 = some p.2 := by
  obtain ⟨b, hb, e⟩ := List.mem_filterMap.mp hp
  cases q : h.get? b with
  | none => rw [q] at e; cases e
  | some o =>
    rw [q] at e
    have e' : (b, o) = p := Option.some.inj e
    subst e'
    exact ⟨hb, q⟩
theorem Inv.pinned {pins : List (Addr × Obj)} {σ : St} {H : Hp} {s : Shared} {fp : List Addr} (I : Inv X pins σ H s) (hf : ∀ b ∈ fp, FpOk X pins H b) (ho : ∀ b ∈ fp, ∃ o, s.heap.get? b = some o ∧ ∀ v, o.data ≠ .cell v) : Inv X (pins ++ pinsAt fp s.heap) σ H s :=
  I.pins_of fun p hp => (List.mem_append.mp hp).elim (fun z => I.pin p (List.mem_append_right _ z)) fun z => by
    obtain ⟨hb, e⟩ := of_pinsAt z
    obtain ⟨f0, f1, f2, _⟩ := hf p.1 hb
    obtain ⟨o, e', d⟩ := ho p.1 hb
    rw [e] at e'; cases e'
    exact ⟨e, f0, f1, f2, d⟩
theorem Inv.unpinned {pins pl : List (Addr × Obj)} {σ : St} {H : Hp} {s : Shared} (I : Inv X (pins ++ pl) σ H s) : Inv X pins σ H s := I.pins_of fun p hp => I.pin p (List.mem_append_right _ (List.mem_append_left _ hp))
theorem ps_for {iter : Expr} {body : List Stmt} {wi : TI} {g : TG} {tb : TS} {pos : Pos} (hp : PassesOwn (model X.prog X.w) X.A X.env X.xe) (hc : X.calm = true) (hi : PI X tg iter wi) (hg : PG X tg g) (hb : PSs X body tb)
    (hs : ∀ x, foldedSetIterable iter X.env x = pure x := by intro _; rfl) : PS X (.For tg iter body [] pos) (tFor wi g tb) := by
  intro pins s σ H D I h
  refine wpAny_For (thn (hi pins s σ H _ I h) fun v s1 h1 => thn h1 fun itv s2 h2 => ?_) hs
  obtain ⟨it, fp, tn, J, H2, e, I2, T, st2, f2, W, ⟨m0, w0⟩, turn⟩ := h2
  subst e
  -- what stays true of the iterator's objects through the loop
  have stat : ∀ {H' : Hp}, (∀ b ∈ fp, H' b = none) → ∀ b ∈ fp, FpOk X pins H' b := fun hn b hb => ⟨hn b hb, (f2 b hb).2⟩
  refine codeAny_forLoop_any (fun n s' => ∃ i σ' H', Inv X pins σ' H' s' ∧ tn i s'.heap ∧ (∀ b ∈ fp, H' b = none) ∧ W i n σ' H') ?_ m0 ⟨0, σ, H2, I2, st2, fun b hb => (f2 b hb).1, w0⟩
  rintro n s3 ⟨i, σ3, H3, I3, st3, fr3, w3⟩
  rcases turn i n σ3 H3 w3 with ⟨stop, qn⟩ | ⟨go, N, hN, step⟩
  · refine wpAny_passesOwn hp (thn (T.done X rfl rfl rfl hc i pins s3 σ3 H3 X.xe I3 (stat fr3) st3 stop) fun r s4 ⟨hr, I4⟩ => ?_)
    subst hr
    exact wpAny_execs_nil ⟨σ3, H3, I4, qn⟩
  · refine wpAny_passesOwn hp (thn (T.item X rfl rfl rfl hc i pins s3 σ3 H3 X.xe I3 (stat fr3) st3 go) fun r s4 ⟨u, hr, h4⟩ => ?_)
    subst hr
    refine wpAny_passesOwn hp (thn h4 fun _ s5 ⟨x, H5, I5, r5, y5, st5, fr5⟩ => ?_)
    have I5' := I5.pinned (stat fr5) (T.obj _ _ st5)
    refine wpAny_passesOwn hp (thn (hg _ s5 σ3 H5 x u _ I5' r5 (step x H5 y5)) fun _ s6 ⟨σ6, H6, I6, q6⟩ => ?_)
    refine wpAny_passesOwn hp (thn (hb _ s6 σ6 H6 _ I6 q6) fun f s7 q7 => ?_)
    have again : ∀ {σ7 : St} {H7 : Hp}, Inv X (pins ++ pinsAt fp s5.heap) σ7 H7 s7 → N σ7 H7 → ∃ m, m < n ∧ ∃ i σ' H', Inv X pins σ' H' s7 ∧ tn i s7.heap ∧ (∀ b ∈ fp, H' b = none) ∧ W i m σ' H' := fun {σ7 H7} I7 n7 => by
      obtain ⟨m', hm, w7⟩ := hN σ7 H7 n7
      refine ⟨m', hm, i + 1, σ7, H7, I7.unpinned, T.keep _ _ _ st5 fun b hb o e => (I7.pin (b, o) (List.mem_append_right _ (List.mem_append_right _ (mem_pinsAt hb e)))).1, fun b hb => ?_, w7⟩
      obtain ⟨o, e, d⟩ := T.obj _ _ st5 b hb
      exact (I7.pin (b, o) (List.mem_append_right _ (List.mem_append_right _ (mem_pinsAt hb e)))).2.1
    cases f with
    | next => obtain ⟨σ7, H7, I7, n7⟩ := q7; exact again I7 n7
    | cont => obtain ⟨σ7, H7, I7, n7⟩ := q7; exact again I7 n7
    | brk => obtain ⟨σ7, H7, I7, q7⟩ := q7; exact ⟨σ7, H7, I7.unpinned, q7⟩
    | ret v => obtain ⟨x7, σ7, H7, I7, r7, q7⟩ := q7; exact ⟨x7, σ7, H7, I7.unpinned, r7, q7⟩
end

theorem for_range {lo : Int} {n : Nat} {g : TG} {tb : TS} {D : Ends} {σ : St} {H : Hp} (Pv : Nat → St → Hp → Prop) (h0 : Pv 0 σ H)
    (hs : ∀ i σ H, i < n → Pv i σ H → g (.int (lo + i)) σ H fun σ2 H2 => tb { D with nx := Pv (i + 1), ct := Pv (i + 1), bk := D.nx } σ2 H2) (hd : ∀ σ H, Pv n σ H → D.nx σ H) :
    ∃ W : Nat → Nat → St → Hp → Prop, (∃ m, W 0 m σ H) ∧ ∀ i m σ H, W i m σ H →
      ((Itr lo n).stop i H ∧ D.nx σ H) ∨ ((Itr lo n).go i H ∧ ∃ N : St → Hp → Prop, (∀ σ' H', N σ' H' → ∃ m', m' < m ∧ W (i + 1) m' σ' H') ∧ ∀ x H', (Itr lo n).yld i H x H' → g x σ H' fun σ2 H2 => tb { D with nx := N, ct := N, bk := D.nx } σ2 H2) := by
  refine ⟨fun i m σ H => m = n - i ∧ i ≤ n ∧ Pv i σ H, ⟨n, by simp, Nat.zero_le _, h0⟩, ?_⟩
  rintro i m σ H ⟨rfl, hi, p⟩
  by_cases hlt : i < n
  · refine .inr ⟨hlt, Pv (i + 1), fun σ' H' p' => ⟨n - (i + 1), by omega, rfl, hlt, p'⟩, fun x H' y => ?_⟩
    obtain ⟨e, y⟩ := y
    subst e y
    exact hs i σ _ hlt p
  · have e : i = n := by omega
    subst e
    exact .inl ⟨Nat.le_refl _, hd σ H p⟩
end L2

namespace L2
open PySem PySem.Spec PyProof.Rows

abbrev R2 := V → V → Hp → VK → Prop
/-- a two-place operation on values: f is binaryOp op, inplaceOp op or compareOp op -/
def OpR (X : Cx) (f : Value → Value → Sem Value) (r : R2) : Prop :=
  ∀ (pins : List (Addr × Obj)) (s : Shared) (σ : St) (H : Hp) (x y : V) (v u : Value) (Q : VK), Inv X pins σ H s → RelV x v → RelV y u → r x y H Q →
    wpAny (model X.prog X.w) X.A (f v u) (EP X pins σ Q) X.xe s
/-- a call of a value that is known (a builtin, a type) with values -/
def CallR (X : Cx) (f : Value) (r : List V → Hp → VK → Prop) : Prop :=
  ∀ (pins : List (Addr × Obj)) (s : Shared) (σ : St) (H : Hp) (xs : List V) (us : List Value) (Q : VK), Inv X pins σ H s → Vals xs us → r xs H Q →
    wpAny (model X.prog X.w) X.A (call f us) (EP X pins σ Q) X.xe s
def tOp (r : R2) (ta tb : TE) : TE := fun σ H Q => ta σ H fun x H1 => tb σ H1 fun y H2 => r x y H2 Q
def tUn (r : V → Hp → VK → Prop) (ta : TE) : TE := fun σ H Q => ta σ H fun x H1 => r x H1 Q
/-- ints in, under C, and a value out -/
def rI (C : Int → Int → Prop) (g : Int → Int → V) : R2 := fun x y H Q => ∃ i j, x = .int i ∧ y = .int j ∧ C i j ∧ Q (g i j) H
def rI0 (g : Int → Int → V) : R2 := fun x y H Q => ∃ i j, x = .int i ∧ y = .int j ∧ Q (g i j) H
def rU (g : Int → V) : V → Hp → VK → Prop := fun x H Q => ∃ i, x = .int i ∧ Q (g i) H

section
variable {X : Cx} {a b c : Expr} {ta tb tc : TE} {pos : Pos}

theorem binT (ha : PE X a ta) (hb : PE X b tb) {pins : List (Addr × Obj)} {s : Shared} {σ : St} {H : Hp} {R : V → V → Hp → Prop} (I : Inv X pins σ H s)
    (h : ta σ H fun x H1 => tb σ H1 fun y H2 => R x y H2) {Q : Value → Shared → Prop} {f : Value → Value → Sem Value}
    (hf : ∀ v u s2 x y H2, Inv X pins σ H2 s2 → RelV x v → RelV y u → R x y H2 → wpAny (model X.prog X.w) X.A (f v u) Q X.xe s2) :
    wpAny (model X.prog X.w) X.A (eval a X.env) (fun v s₁ => wpAny (model X.prog X.w) X.A (eval b X.env) (fun u s₂ => wpAny (model X.prog X.w) X.A (f v u) Q X.xe s₂) X.xe s₁) X.xe s := by
  refine thn (ha pins s σ H _ I h) fun v s1 ⟨x, H1, I1, r1, q1⟩ => ?_
  refine thn (hb pins s1 σ H1 _ I1 q1) fun u s2 ⟨y, H2, I2, r2, q2⟩ => ?_
  exact hf v u s2 x y H2 I2 r1 r2 q2

theorem pe_op {op : Operator} {r : R2} (ho : OpR X (binaryOp op) r) (ha : PE X a ta) (hb : PE X b tb) : PE X (.BinOp a op b pos) (tOp r ta tb) := by
  intro pins s σ H Q I h
  exact wpAny_BinOp (binT ha hb I h fun v u s2 x y H2 I2 rx ry q => ho pins s2 σ H2 x y v u Q I2 rx ry q)
theorem opI {f : Value → Value → Sem Value} {C : Int → Int → Prop} {g : Int → Int → Int}
    (rule : ∀ (i j : Int) (t u : Tok) (s : Shared) (Q : Value → Shared → Prop) (E : Value → Shared → Prop), C i j → Q (.int (g i j) s.toks) { s with toks := s.toks + 1 } → wpAny (model X.prog X.w) X.A (f (.int i t) (.int j u)) Q E s) :
    OpR X f (rI C fun i j => .int (g i j)) := by
  intro pins s σ H x y v u Q I rx ry h
  obtain ⟨i, j, rfl, rfl, hc, q⟩ := h
  obtain ⟨t, rfl⟩ := rx
  obtain ⟨t', rfl⟩ := ry
  exact rule i j t t' s _ _ hc ⟨.int (g i j), H, I.tok _, ⟨_, rfl⟩, q⟩
theorem opI0 {f : Value → Value → Sem Value} {g : Int → Int → Int}
    (rule : ∀ (i j : Int) (t u : Tok) (s : Shared) (Q : Value → Shared → Prop) (E : Value → Shared → Prop), Q (.int (g i j) s.toks) { s with toks := s.toks + 1 } → wpAny (model X.prog X.w) X.A (f (.int i t) (.int j u)) Q E s) :
    OpR X f (rI0 fun i j => .int (g i j)) := by
  intro pins s σ H x y v u Q I rx ry h
  obtain ⟨i, j, rfl, rfl, q⟩ := h
  obtain ⟨t, rfl⟩ := rx
  obtain ⟨t', rfl⟩ := ry
  exact rule i j t t' s _ _ ⟨.int (g i j), H, I.tok _, ⟨_, rfl⟩, q⟩
theorem opB0 {f : Value → Value → Sem Value} {g : Int → Int → Bool}
    (rule : ∀ (i j : Int) (t u : Tok) (s : Shared) (Q : Value → Shared → Prop) (E : Value → Shared → Prop), Q (.bool (g i j)) s → wpAny (model X.prog X.w) X.A (f (.int i t) (.int j u)) Q E s) :
    OpR X f (rI0 fun i j => .bl (g i j)) := by
  intro pins s σ H x y v u Q I rx ry h
  obtain ⟨i, j, rfl, rfl, q⟩ := h
  obtain ⟨t, rfl⟩ := rx
  obtain ⟨t', rfl⟩ := ry
  exact rule i j t t' s _ _ ⟨.bl (g i j), H, I, rfl, q⟩

def CDiv (i j : Int) : Prop := 0 < j ∧ j < 1073741824
def CPow (i j : Int) : Prop := 0 ≤ j ∧ j ≤ 1000000 ∧ i.natAbs < 2 ^ 64
def CMul (i j : Int) : Prop := (-(2 ^ 64) < i ∧ i < 2 ^ 64) ∨ (-(2 ^ 64) < j ∧ j < 2 ^ 64)
theorem CMul.ok {i j : Int} (h : CMul i j) : IntMulOk i j := by
  rcases h with ⟨h1, h2⟩ | ⟨h1, h2⟩
  · exact .of_left (intBits_le_64 h1 h2)
  · exact .of_right (intBits_le_64 h1 h2)
theorem op_add : OpR X (binaryOp .Add) (rI0 fun i j => .int (i + j)) := opI0 fun _ _ _ _ _ _ _ q => add_int q
theorem op_sub : OpR X (binaryOp .Sub) (rI0 fun i j => .int (i - j)) := opI0 fun _ _ _ _ _ _ _ q => sub_int q
/-- // by a positive divisor -/
theorem op_fdiv : OpR X (binaryOp .FloorDiv) (rI CDiv fun i j => .int (i / j)) := opI fun i j _ _ _ _ _ hc q => by
  have h1 : (0 : Int) < j := hc.1
  have h2 : j < 1073741824 := hc.2
  exact floordiv_int (by omega) (by rw [Int.fdiv_eq_ediv_of_nonneg i (by omega)]; exact q) (.inl (PyProof.noPylong_small (by omega)))
/-- % by a positive divisor of any size -/
theorem op_mod : OpR X (binaryOp .Mod) (rI (fun _ j => 0 < j) fun i j => .int (i % j)) := opI fun i j _ _ _ _ _ hc q => by
  have h1 : (0 : Int) < j := hc
  exact mod_int' (by omega) (by rw [Int.fmod_eq_emod_of_nonneg i (by omega)]; exact q)
theorem op_pow : OpR X (binaryOp .Pow) (rI CPow fun i j => .int (i ^ j.toNat)) := opI fun _ _ _ _ _ _ _ hc q => pow_int_small hc.1 hc.2.1 hc.2.2 q
end

/-- the scalars that == tells apart as data does -/
def scal : V → V → Bool
  | .non, .non => true | .non, .int _ => true | .int _, .non => true | .non, .bl _ => true | .bl _, .non => true | .non, .str _ => true | .str _, .non => true
  | .int _, .int _ => true | .bl _, .bl _ => true | .str _, .str _ => true | .byt _, .byt _ => true
  | .int _, .str _ => true | .str _, .int _ => true | .bl _, .str _ => true | .str _, .bl _ => true
  | _, _ => false
def rEq : R2 := fun x y H Q => scal x y = true ∧ Q (.bl (decide (x = y))) H
def rNe : R2 := fun x y H Q => scal x y = true ∧ Q (.bl (!decide (x = y))) H

theorem dec_int {i j : Int} : decide (V.int i = V.int j) = (i == j) := by
  rw [Bool.eq_iff_iff]
  simp
theorem dec_bl {i j : Bool} : decide (V.bl i = V.bl j) = (i == j) := by
  rw [Bool.eq_iff_iff]
  simp
theorem dec_str {i j : Str} : decide (V.str i = V.str j) = (i == j) := by
  rw [Bool.eq_iff_iff]
  simp
theorem dec_byt {i j : Array UInt8} : decide (V.byt i = V.byt j) = (i.toList == j.toList) := by
  rw [Bool.eq_iff_iff]
  cases i
  cases j
  simp

section
variable {X : Cx} {a b c : Expr} {ta tb tc : TE} {pos : Pos}
theorem fin_bl {pins : List (Addr × Obj)} {σ : St} {H : Hp} {s : Shared} {Q : VK} {k k' : Bool} (I : Inv X pins σ H s) (q : Q (.bl k) H) (e : k = k') : EP X pins σ Q (.bool k') s := by
  subst e
  exact ⟨.bl k, H, I, rfl, q⟩
theorem op_eq : OpR X (compareOp .Eq) rEq := by
  intro pins s σ H x y v u Q I rx ry h
  obtain ⟨hs, q⟩ := h
  cases x with
  | non =>
    cases rx
    cases y with
    | non => cases ry; exact PySem.EqNone.eq_none_none (fin_bl I q (by simp))
    | bl j => cases ry; exact PySem.EqNone.eq_none_bool (fin_bl I q (by simp))
    | int j => obtain ⟨t', rfl⟩ := ry; exact PySem.EqNone.eq_none_int (fin_bl I q (by simp))
    | str j => obtain ⟨t', rfl⟩ := ry; exact PySem.EqNone.eq_none_str (fin_bl I q (by simp))
    | _ => exact absurd (show false = true from hs) Bool.false_ne_true
  | bl i =>
    cases rx
    cases y with
    | non => cases ry; exact PySem.EqNone.eq_bool_none (fin_bl I q (by simp))
    | bl j => cases ry; exact eq_bool (fin_bl I q dec_bl)
    | str j => obtain ⟨t', rfl⟩ := ry; exact PySem.EqMixed.eq_bool_str (fin_bl I q (by simp))
    | _ => exact absurd (show false = true from hs) Bool.false_ne_true
  | int i =>
    obtain ⟨t, rfl⟩ := rx
    cases y with
    | non => cases ry; exact PySem.EqNone.eq_int_none (fin_bl I q (by simp))
    | int j => obtain ⟨t', rfl⟩ := ry; exact eq_int (fin_bl I q dec_int)
    | str j => obtain ⟨t', rfl⟩ := ry; exact PySem.EqMixed.eq_int_str (fin_bl I q (by simp))
    | _ => exact absurd (show false = true from hs) Bool.false_ne_true
  | str i =>
    obtain ⟨t, rfl⟩ := rx
    cases y with
    | non => cases ry; exact PySem.EqNone.eq_str_none (fin_bl I q (by simp))
    | bl j => cases ry; exact PySem.EqMixed.eq_str_bool (fin_bl I q (by simp))
    | int j => obtain ⟨t', rfl⟩ := ry; exact PySem.EqMixed.eq_str_int (fin_bl I q (by simp))
    | str j => obtain ⟨t', rfl⟩ := ry; exact eq_str (fin_bl I q dec_str)
    | _ => exact absurd (show false = true from hs) Bool.false_ne_true
  | byt i =>
    obtain ⟨t, rfl⟩ := rx
    cases y with
    | byt j => obtain ⟨t', rfl⟩ := ry; exact PySem.W.eq_bytes (fin_bl I q dec_byt)
    | _ => exact absurd (show false = true from hs) Bool.false_ne_true
  | _ => cases y <;> exact absurd (show false = true from hs) Bool.false_ne_true
theorem op_ne : OpR X (compareOp .NotEq) rNe := by
  intro pins s σ H x y v u Q I rx ry h
  obtain ⟨hs, q⟩ := h
  cases x with
  | non =>
    cases rx
    cases y with
    | non => cases ry; exact PySem.EqNone.ne_none_none (fin_bl I q (by simp))
    | bl j => cases ry; exact PySem.EqNone.ne_none_bool (fin_bl I q (by simp))
    | int j => obtain ⟨t', rfl⟩ := ry; exact PySem.EqNone.ne_none_int (fin_bl I q (by simp))
    | str j => obtain ⟨t', rfl⟩ := ry; exact PySem.EqNone.ne_none_str (fin_bl I q (by simp))
    | _ => exact absurd (show false = true from hs) Bool.false_ne_true
  | bl i =>
    cases rx
    cases y with
    | non => cases ry; exact PySem.EqNone.ne_bool_none (fin_bl I q (by simp))
    | bl j => cases ry; exact ne_bool (fin_bl I q (congrArg not dec_bl))
    | str j => obtain ⟨t', rfl⟩ := ry; exact PySem.EqMixed.ne_bool_str (fin_bl I q (by simp))
    | _ => exact absurd (show false = true from hs) Bool.false_ne_true
  | int i =>
    obtain ⟨t, rfl⟩ := rx
    cases y with
    | non => cases ry; exact PySem.EqNone.ne_int_none (fin_bl I q (by simp))
    | int j => obtain ⟨t', rfl⟩ := ry; exact ne_int (fin_bl I q (congrArg not dec_int))
    | str j => obtain ⟨t', rfl⟩ := ry; exact PySem.EqMixed.ne_int_str (fin_bl I q (by simp))
    | _ => exact absurd (show false = true from hs) Bool.false_ne_true
  | str i =>
    obtain ⟨t, rfl⟩ := rx
    cases y with
    | non => cases ry; exact PySem.EqNone.ne_str_none (fin_bl I q (by simp))
    | bl j => cases ry; exact PySem.EqMixed.ne_str_bool (fin_bl I q (by simp))
    | int j => obtain ⟨t', rfl⟩ := ry; exact PySem.EqMixed.ne_str_int (fin_bl I q (by simp))
    | str j => obtain ⟨t', rfl⟩ := ry; exact ne_str (fin_bl I q (congrArg not dec_str))
    | _ => exact absurd (show false = true from hs) Bool.false_ne_true
  | byt i =>
    obtain ⟨t, rfl⟩ := rx
    cases y with
    | byt j => obtain ⟨t', rfl⟩ := ry; exact PySem.W.ne_bytes (fin_bl I q (congrArg not dec_byt))
    | _ => exact absurd (show false = true from hs) Bool.false_ne_true
  | _ => cases y <;> exact absurd (show false = true from hs) Bool.false_ne_true

theorem op_lt : OpR X (compareOp .Lt) (rI0 fun i j => .bl (decide (i < j))) := opB0 fun _ _ _ _ _ _ _ q => lt_int q
theorem op_gt : OpR X (compareOp .Gt) (rI0 fun i j => .bl (decide (j < i))) := opB0 fun _ _ _ _ _ _ _ q => gt_int q
theorem op_ge : OpR X (compareOp .GtE) (rI0 fun i j => .bl (decide (j ≤ i))) := opB0 fun _ _ _ _ _ _ _ q => ge_int q
theorem nomark (b : Expr) {op : CmpOp} (h : op ≠ .In := by decide) (h2 : op ≠ .NotIn := by decide) : behindInMarks op b = false := by
  have e1 : (op == CmpOp.In) = false := by cases op <;> first | rfl | exact absurd rfl h
  have e2 : (op == CmpOp.NotIn) = false := by cases op <;> first | rfl | exact absurd rfl h2
  cases b <;> simp [behindInMarks, e1, e2]
/-- a reading of a value as a test -/
def tTest (t : TE) : TT := fun σ H Q => t σ H fun x H' => ∃ k, x = .bl k ∧ Q k H'
theorem pt_cmpR {op : CmpOp} {r : R2} (ho : OpR X (compareOp op) r) (ha : PE X a ta) (hb : PE X b tb) (hm : behindInMarks op b = false) : PT X (.Compare a [op] [b] pos) (tTest (tOp r ta tb)) := by
  intro pins s σ H Q I h
  refine wpAny_isTrue_Compare1 (thn (ha pins s σ H _ I h) fun v s1 ⟨x, H1, I1, r1, q1⟩ => thn (hb pins s1 σ H1 _ I1 q1) fun u s2 ⟨y, H2, I2, r2, q2⟩ =>
    thn (ho pins s2 σ H2 x y v u _ I2 r1 r2 q2) fun c s3 ⟨z, H3, I3, r3, k, e, q3⟩ => ?_) hm
  subst e
  cases r3
  exact wpAny_truthy_bool ⟨H3, I3, q3⟩
/-- a op1 b op2 c -/
def tChain (r r' : R2) (ta tb tc : TE) : TE := fun σ H Q => ta σ H fun x H1 => tb σ H1 fun y H2 => r x y H2 fun z H3 => ∃ k, z = .bl k ∧
  (if k = true then tc σ H3 fun w' H4 => r' y w' H4 Q else Q (.bl false) H3)
theorem line63 : (sizeLine : Nat) < 2 ^ 63 := by rw [sizeLine_eq]; decide
theorem op_add_str : OpR X (binaryOp .Add) (fun x y H Q => ∃ i j, x = .str i ∧ y = .str j ∧ i.length + j.length ≤ sizeLine ∧ Q (.str (i ++ j)) H) := by
  intro pins s σ H x y v u Q I rx ry h
  obtain ⟨i, j, rfl, rfl, hz, q⟩ := h
  obtain ⟨t, rfl⟩ := rx
  obtain ⟨t', rfl⟩ := ry
  exact add_str (fun t' tk => ⟨.str (i ++ j), H, I.tok _, ⟨_, rfl⟩, q⟩) hz
theorem vals1 {x : V} {us : List Value} (r : Vals [x] us) : ∃ u, us = [u] ∧ RelV x u := by
  cases r with
  | cons r1 r2 => cases r2; exact ⟨_, rfl, r1⟩
theorem vals2 {x y : V} {us : List Value} (r : Vals [x, y] us) : ∃ u w', us = [u, w'] ∧ RelV x u ∧ RelV y w' := by
  cases r with
  | cons r1 r2 =>
    cases r2 with
    | cons r3 r4 => cases r4; exact ⟨_, _, rfl, r1, r3⟩
end
end L2

namespace L2
open PySem PySem.Spec PyProof.Rows

structure ObjM (h : Heap) (x dx C : Addr) (mA : Str → Option Value) : Prop where
  obj : h.get? x = some (PySem.W.instObj C dx)
  ns : h.Ns1 dx mA
  ne : dx ≠ x

theorem lookIn_ns {h : Heap} {dx : Addr} {mA : Str → Option Value} (n : h.Ns1 dx mA) : ∃ od, h.get? dx = some od ∧ ∀ name, PySem.W.lookIn name od = some (mA name) := by
  obtain ⟨o, es, ep, ho, hd, hk, _, hm⟩ := n
  refine ⟨o, ho, fun name => ?_⟩
  have e := hm name
  unfold nsFind findBy at e
  rw [← Array.find?_toList] at e
  unfold PySem.W.lookIn
  rw [hd]
  dsimp only
  split
  · rename_i y q
    rw [q] at e
    exact congrArg some e
  · rename_i q
    rw [q] at e
    have a : es.toList.any (·.refKey) = false := by
      rw [List.any_eq_false]
      intro y hy
      obtain ⟨z, t, hkey⟩ := hk y (Array.mem_toList_iff.mp hy)
      simp [DictEntry.refKey, hkey]
    have a' : ¬ es.toList.any (·.refKey) = true := by rw [a]; exact Bool.false_ne_true
    rw [if_neg a']
    exact congrArg some e

theorem ObjM.look {h : Heap} {x dx C : Addr} {mA : Str → Option Value} (I : ObjM h x dx C mA) : ∃ od, PySem.W.InstAt h x (PySem.W.instObj C dx) C (some od) ∧ ∀ name, PySem.W.lookIn name od = some (mA name) :=
  let ⟨od, ho, hl⟩ := lookIn_ns I.ns
  ⟨od, ⟨I.obj, rfl, rfl, ho⟩, hl⟩

section
variable {prog : Program} {w : World} {A : Around} {E : Value → Shared → Prop} {s : Shared} {K : PySem.W.Frag} {x dx C f : Addr} {mA : Str → Option Value} {name : Str} {v : Value}

theorem get_map {expr : Bool} {Q : Value → Shared → Prop} (X : K.In s.heap) (I : ObjM s.heap x dx C mA) (hg : PySem.W.plainGet K C name = true) (hh : PySem.W.hasDictIn K C = true)
    (ha : PySem.W.findIn K (.ref C) name = some none) (hv : mA name = some v) (hv' : PySem.W.handedIn v = true) (h : Q v { s with toks := s.toks + 1 }) :
    wpAny (model prog w) A (getAttr (.ref x) name expr) Q E s := by
  obtain ⟨od, J, hl⟩ := I.look
  exact PySem.W.get_value X J (PySem.W.plainGet_of hg).1 (PySem.W.findObj_own hh ha rfl (by rw [hl, hv])) hv' h

theorem get_meth {pl : Sem Bool} {Q : Value × List Value → Shared → Prop} (X : K.In s.heap) (I : ObjM s.heap x dx C mA) (hg : PySem.W.plainGet K C name = true)
    (hf : PySem.W.findIn K (.ref C) name = some (some (.ref f))) (ht : PySem.W.isFn K (.ref f) = true) (hv : mA name = none) (h : Q (.ref f, [.ref x]) s) :
    wpAny (model prog w) A (getMethod (.ref x) name pl) Q E s := by
  obtain ⟨od, J, hl⟩ := I.look
  exact PySem.W.method_fn X J (PySem.W.plainGet_of hg).1 (PySem.W.plainGet_of hg).2 hf (beq_iff_eq.mp ht) (by show (PySem.W.lookIn name od).map (·.isSome) = some false; rw [hl, hv]; rfl) h

theorem set_map {ns : List Str} {Q : Unit → Shared → Prop} (X : K.In s.heap) (I : ObjM s.heap x dx C mA)
    (hs : PySem.W.findIn K (.ref C) "__setattr__" = some (some (.builtin "object.__setattr__"))) (hp : PySem.W.plainOver K C = true) (ht : PySem.W.takerIn K C name = some none) (hh : PySem.W.hasDictIn K C = true)
    (hw : PySem.Within mA ns) (hsz : ns.length ≤ sizeLine)
    (h : ∀ h', ObjM h' x dx C (fun y => if y = name then some v else mA y) → Heap.SameBut dx s.heap h' → Q () { s with heap := h', toks := s.toks + 2 }) :
    wpAny (model prog w) A (setAttr (.ref x) name v) Q E s := by
  obtain ⟨od, J, hl⟩ := I.look
  refine PySem.W.set_plain X J hs (PySem.W.osa_open (s := { s with toks := s.toks + 1 }) (r := none) X J hp ht fun b => ?_)
  obtain ⟨cd, hc, hd'⟩ := PySem.W.any_some hh
  have hx : s.heap.get? x = some ⟨.ref C, some dx, .plain, #[]⟩ := I.obj
  refine wpAny_bind (wpAny_pure (wpAny_bind (wpAny_bind (wpAny_loadPart hx (wpAny_bind (PySem.W.Looks.here (s := { s with toks := s.toks + 1 }) (PySem.W.looks_clsIn X hc) ?_))))))
  rw [hd']
  refine wpAny_pure (a := some dx) (wpAny_bind (wpAny_pure (wpAny_bind ?_)))
  refine wpAny_nsSet1 (s := { s with toks := s.toks + 1 }) I.ns fun h' hn2 hs2 => ?_
  obtain ⟨oD, esD, epD, hoD, hdD, hcD⟩ := hn2.count (PySem.Within.cons name v hw)
  refine wpAny_bind (wpAny_lookBehind hoD (by rw [hdD]; exact pastItsLine_dict (Nat.le_trans hcD (by rw [List.length_cons]; omega))) ?_)
  exact wpAny_pure (h _ ⟨(hs2.2 _ (Ne.symm I.ne)).trans I.obj, hn2, I.ne⟩ hs2)

/-- C(..): the dict at the heap's end, the instance behind it; then its __init__ -/
theorem make_map {R : Result → Shared → Prop} {vs : List Value} {kw : List (Str × Value)} (X : K.In s.heap) (hm : PySem.W.makesIn K C = true)
    (hi : PySem.W.findIn K (.ref C) "__init__" = some (some (.ref f))) (hf : PySem.W.typeIn K (.ref f) = some (.type "function"))
    (h : codeAny (model prog w) (A.under (.builtin "type.__call__" ⟨.ref C :: vs, kw⟩)) (.call (.ref f) ⟨.ref (s.heap.objs.size + 1) :: vs, kw⟩) (PySem.W.InitBack (s.heap.objs.size + 1) R)
      { s with heap := (s.heap.push PySem.W.emptyDict).push (PySem.W.instObj C s.heap.objs.size) }) :
    codeAny (model prog w) A (.call (.ref C) ⟨vs, kw⟩) R s := by
  obtain ⟨hh, g, d, t, os⟩ := s
  exact PySem.W.make_core (PySem.W.makes_of X hm) (PySem.W.looks_findIn X hi) (fun self => PySem.W.bind_fn X self hf) (.inl rfl) h
end

def putF (f : Str) (v : V) : List (Str × V) → List (Str × V)
  | [] => [(f, v)]
  | (g, x) :: r => if g = f then (g, v) :: r else (g, x) :: putF f v r
theorem lookup_putF (f g : Str) (v : V) : ∀ fs : List (Str × V), (putF f v fs).lookup g = if g = f then some v else fs.lookup g
  | [] => by
    show List.lookup g [(f, v)] = _
    by_cases h : g = f
    · have hb : (g == f) = true := beq_iff_eq.mpr h
      simp only [List.lookup, hb, if_pos h]
    · have hb : (g == f) = false := beq_eq_false_iff_ne.mpr h
      simp only [List.lookup, hb, if_neg h]
  | (k, x) :: r => by
    have ih := lookup_putF f g v r
    rw [show putF f v ((k, x) :: r) = (if k = f then (k, v) :: r else (k, x) :: putF f v r) from rfl]
    by_cases hk : k = f
    · rw [if_pos hk]
      by_cases h : g = k
      · have hb : (g == k) = true := beq_iff_eq.mpr h
        simp only [List.lookup, hb, if_pos (h.trans hk)]
      · have hb : (g == k) = false := beq_eq_false_iff_ne.mpr h
        simp only [List.lookup, hb, if_neg (fun e : g = f => h (e.trans hk.symm))]
    · rw [if_neg hk]
      by_cases h : g = k
      · have hb : (g == k) = true := beq_iff_eq.mpr h
        simp only [List.lookup, hb, if_neg (fun e : g = f => hk (h.symm.trans e))]
      · have hb : (g == k) = false := beq_eq_false_iff_ne.mpr h
        simp only [List.lookup, hb]
        exact ih
theorem keys_putF (f : Str) (v : V) : ∀ fs : List (Str × V), f ∈ (putF f v fs).map (·.1) ∧ ∀ g, g ∈ fs.map (·.1) → g ∈ (putF f v fs).map (·.1)
  | [] => ⟨by simp [putF], fun g h => by simp at h⟩
  | (k, x) :: r => by
    obtain ⟨i1, i2⟩ := keys_putF f v r
    rw [show putF f v ((k, x) :: r) = (if k = f then (k, v) :: r else (k, x) :: putF f v r) from rfl]
    by_cases hk : k = f
    · rw [if_pos hk]
      subst hk
      exact ⟨by simp, fun g h => by simpa using h⟩
    · rw [if_neg hk]
      refine ⟨?_, fun g h => ?_⟩
      · rw [List.map_cons]
        exact List.mem_cons_of_mem _ i1
      · rw [List.map_cons] at h ⊢
        rcases List.mem_cons.mp h with e | e
        · exact List.mem_cons.mpr (.inl e)
        · exact List.mem_cons_of_mem _ (i2 g e)
theorem length_putF (f : Str) (v : V) : ∀ fs : List (Str × V), (putF f v fs).length ≤ fs.length + 1
  | [] => by simp [putF]
  | (k, x) :: r => by
    have ih := length_putF f v r
    rw [show putF f v ((k, x) :: r) = (if k = f then (k, v) :: r else (k, x) :: putF f v r) from rfl]
    by_cases hk : k = f
    · rw [if_pos hk, List.length_cons, List.length_cons]; omega
    · rw [if_neg hk, List.length_cons, List.length_cons]; omega

theorem RelO.some_of {v : V} {o : Option Value} (r : RelO (some v) o) : ∃ u, o = some u ∧ RelV v u := by
  cases o with
  | none => exact (show False from r).elim
  | some u => exact ⟨u, rfl, r⟩
theorem RelO.none_of {o : Option Value} (r : RelO none o) : o = none := by
  cases o with
  | none => rfl
  | some u => exact (show False from r).elim
theorem handed_of {v : V} {u : Value} (r : RelV v u) : PySem.W.handedIn u = true := by
  cases v with
  | non => cases (show u = Value.none from r); rfl
  | bl b => cases (show u = Value.bool b from r); rfl
  | int i => obtain ⟨t, e⟩ := (show ∃ t, u = Value.int i t from r); cases e; rfl
  | str x => obtain ⟨t, e⟩ := (show ∃ t, u = Value.str x t from r); cases e; rfl
  | byt b => obtain ⟨t, e⟩ := (show ∃ t, u = Value.bytes b t from r); cases e; rfl
  | flt b => obtain ⟨t, e⟩ := (show ∃ t, u = Value.float b t from r); cases e; rfl
  | ref a => cases (show u = Value.ref a from r); rfl
  | ty n => cases (show u = Value.type n from r); rfl

section
variable {P : Program} {w : World} {H H' : Hp} {h h' : Heap} {a C dx : Addr} {fs fs' : List (Str × V)}
theorem ins_get (hok : HOk P w H h) (e : H a = some (.ins C dx fs)) : ∃ mA, ObjM h a dx C mA ∧ (∀ f, RelO (fs.lookup f) (mA f)) ∧ PySem.Within mA (fs.map (·.1)) ∧ fs.length ≤ 1000 ∧ H dx = some (.own a) := by
  obtain ⟨d, z, ne, ob, mA, n, r, q⟩ := (show ObjOk P w H h a (.ins C dx fs) from hok a _ e)
  exact ⟨mA, ⟨ob, n, ne⟩, r, q, z, d⟩
end

structure Cls (K : PySem.W.Frag) (C : Addr) : Prop where
  pg : PySem.W.plainGet K C Str.empty = true
  hd : PySem.W.hasDictIn K C = true
  po : PySem.W.plainOver K C = true
  sa : PySem.W.findIn K (.ref C) "__setattr__" = some (some (.builtin "object.__setattr__"))
theorem Cls.get {K : PySem.W.Frag} {C : Addr} (c : Cls K C) (f : Str) : PySem.W.plainGet K C f = true := c.pg
/-- no class of it has the name -/
def NoAttr (K : PySem.W.Frag) (C : Addr) (f : Str) : Prop := PySem.W.findIn K (.ref C) f = some none
theorem NoAttr.taker {K : PySem.W.Frag} {C : Addr} {f : Str} (n : NoAttr K C f) : PySem.W.takerIn K C f = some none := by
  unfold PySem.W.takerIn
  rw [show PySem.W.findIn K (.ref C) f = some none from n]
  rfl
/-- a method: a plain def of the class or of one above it -/
structure Meth (K : PySem.W.Frag) (C : Addr) (m : Str) (f : Addr) : Prop where
  at_ : PySem.W.findIn K (.ref C) m = some (some (.ref f))
  fn : PySem.W.isFn K (.ref f) = true
  kp : PySem.W.keepIn K (.ref f) = true

section
variable {X : Cx} {pins : List (Addr × Obj)} {σ : St} {H : Hp} {s : Shared} {a C dx : Addr} {fs : List (Str × V)} {f : Str} {v : V} {A : Around} {E : Value → Shared → Prop}

theorem getattr_ok {b : Bool} {Q : Value → Shared → Prop} (I : Inv X pins σ H s) (e : H a = some (.ins C dx fs)) (c : Cls X.K C) (n : NoAttr X.K C f) (l : fs.lookup f = some v)
    (h : ∀ u s', Inv X pins σ H s' → RelV v u → Q u s') : wpAny (model X.prog X.w) A (getAttr (.ref a) f b) Q E s := by
  obtain ⟨mA, O, r, _, _, _⟩ := ins_get I.hok e
  obtain ⟨u, hu, ru⟩ := RelO.some_of (v := v) (o := mA f) (by rw [← l]; exact r f)
  exact get_map I.kIn O (c.get f) c.hd n hu (handed_of ru) (h u _ (I.tok _) ru)

theorem getmeth_ok {m : Str} {g : Addr} {pl : Sem Bool} {Q : Value × List Value → Shared → Prop} (I : Inv X pins σ H s) (e : H a = some (.ins C dx fs)) (c : Cls X.K C) (k : Meth X.K C m g) (l : fs.lookup m = none)
    (h : Q (.ref g, [.ref a]) s) : wpAny (model X.prog X.w) A (getMethod (.ref a) m pl) Q E s := by
  obtain ⟨mA, O, r, _, _, _⟩ := ins_get I.hok e
  have hn : mA m = none := RelO.none_of (by rw [← l]; exact r m)
  exact get_meth I.kIn O (c.get m) k.at_ k.fn hn h

theorem setattr_ok {y : V} {u : Value} {Q : Unit → Shared → Prop} (I : Inv X pins σ H s) (e : H a = some (.ins C dx fs)) (c : Cls X.K C) (n : NoAttr X.K C f) (hl : fs.length < 1000) (ry : RelV y u)
    (h : ∀ s', Inv X pins σ (upd H a (.ins C dx (putF f y fs))) s' → Q () s') : wpAny (model X.prog X.w) A (setAttr (.ref a) f u) Q E s := by
  obtain ⟨mA, O, r, wi, _, ho⟩ := ins_get I.hok e
  have hz : (fs.map (·.1)).length ≤ sizeLine := by rw [List.length_map, sizeLine_eq]; omega
  refine set_map I.kIn O c.sa c.po n.taker c.hd wi hz fun h' O' sb => h _ ?_
  have hd : ∃ o, h'.get? dx = some o := let ⟨o, _, _, e', _⟩ := O'.ns; ⟨o, e'⟩
  refine I.write (x := a) (e := dx) (by rw [e]; exact True.intro) (.inr ho) (fun b q hb z => (sb.2 b hb).trans z) hd ?_
  refine ⟨by rw [upd_ne O.ne]; exact ho, ?_, O.ne, O'.obj, _, O'.ns, fun g => ?_, fun g hg => ?_⟩
  · have := length_putF f y fs; omega
  · show RelO ((putF f y fs).lookup g) (if g = f then some u else mA g)
    rw [lookup_putF]
    by_cases q : g = f
    · rw [if_pos q, if_pos q]; exact ry
    · rw [if_neg q, if_neg q]; exact r g
  · by_cases q : g = f
    · rw [q]; exact (keys_putF f y fs).1
    · refine (keys_putF f y fs).2 g (wi g fun z => hg ?_)
      show (if g = f then some u else mA g) = none
      rw [if_neg q]; exact z

/-- a new instance, tracked, without attributes -/
theorem Inv.made (I : Inv X pins σ H s) : Inv X pins σ (upd (upd H s.heap.objs.size (.own (s.heap.objs.size + 1))) (s.heap.objs.size + 1) (.ins C s.heap.objs.size []))
    { s with heap := (s.heap.push PySem.W.emptyDict).push (PySem.W.instObj C s.heap.objs.size) } := by
  have e1 : (s.heap.push PySem.W.emptyDict).get? s.heap.objs.size = some PySem.W.emptyDict := Heap.get?_push_size s.heap rfl
  have e2 : ((s.heap.push PySem.W.emptyDict).push (PySem.W.instObj C s.heap.objs.size)).get? (s.heap.objs.size + 1) = some (PySem.W.instObj C s.heap.objs.size) := by
    have := Heap.get?_push_size (s.heap.push PySem.W.emptyDict) (o := PySem.W.instObj C s.heap.objs.size) rfl
    rwa [Heap.size_push] at this
  have e3 : (s.heap.push PySem.W.emptyDict).Ns s.heap.objs.size (fun _ => none) := ⟨PySem.W.emptyDict, #[], _, e1, rfl, (fun e he => absurd he (by simp)), fun _ => rfl⟩
  have I1 := I.laid (a := s.heap.objs.size) (o := .own (s.heap.objs.size + 1)) (h' := s.heap.push PySem.W.emptyDict) (t' := s.toks) (fun b u q => Heap.get?_push_of_some _ q) (Nat.le_refl _) ⟨_, e1⟩
  refine I1.laid (a := s.heap.objs.size + 1) (o := .ins C s.heap.objs.size []) (t' := s.toks) (fun b u q => Heap.get?_push_of_some _ q) (Nat.le_of_eq (Heap.size_push _ _)) ?_
  have ne : s.heap.objs.size ≠ s.heap.objs.size + 1 := Nat.ne_of_lt (Nat.lt_succ_self _)
  refine ⟨by rw [upd_ne ne, upd_same], Nat.zero_le _, ne, e2, fun _ => none, (Heap.Ns1.of_empty e3).at fun o q => Heap.get?_push_of_some _ q, fun _ => True.intro, fun y hy => absurd rfl hy⟩

/-- e.f where nothing but the object is asked: through attributeBase (super) and the last hold -/
theorem attr_of {prog : Program} {w : World} {env : Env} {e : Expr} {f : Str} {pos : Pos} {s : Shared} {Q : Value → Shared → Prop} (hb : attributeBase e f env (eval e env) = eval e env)
    (h : wpAny (model prog w) A (eval e env) (fun o s₁ => wpAny (model prog w) A (getAttr o f true) Q E s₁) E s) : wpAny (model prog w) A (eval (.Attribute e f pos) env) Q E s :=
  Attribute_any_ h (by rw [arm_eval_Attribute, hb])
end

/-- e.f, an attribute of the instance -/
def tFld (K : PySem.W.Frag) (ta : TE) (f : Str) : TE := fun σ H Q => ta σ H fun x H1 => ∃ a C dx fs v, x = .ref a ∧ H1 a = some (.ins C dx fs) ∧ Cls K C ∧ NoAttr K C f ∧ fs.lookup f = some v ∧ Q v H1
/-- e.f = value -/
def sFld (K : PySem.W.Frag) (ta tv : TE) (f : Str) : TS := fun D σ H => tv σ H fun y H1 => ta σ H1 fun x H2 => ∃ a C dx fs, x = .ref a ∧ H2 a = some (.ins C dx fs) ∧ Cls K C ∧ NoAttr K C f ∧ fs.length < 1000 ∧
  D.nx σ (upd H2 a (.ins C dx (putF f y fs)))
section
variable {X : Cx} {o e value : Expr} {f : Str} {pos pos' tpos : Pos} {ta tv : TE}
theorem pe_fld (he : PE X e ta) (hb : attributeBase e f X.env (eval e X.env) = eval e X.env) : PE X (.Attribute e f pos) (tFld X.K ta f) := by
  intro pins s σ H Q I h
  refine attr_of hb (thn (he pins s σ H _ I h) fun u s1 ⟨x, H1, I1, rx, a, C, dx, fs, v, ex, ea, c, n, l, q⟩ => ?_)
  subst ex
  obtain rfl : u = Value.ref a := rx
  exact getattr_ok I1 ea c n l fun u' s2 I2 ru => ⟨v, H1, I2, ru, q⟩
theorem ps_fld (ha : PE X o ta) (hv : PE X value tv) (hs : swapsWith value (some (.Attribute o f pos')) pos.line X.env = pure false) : PS X (.Assign [.Attribute o f pos'] value pos) (sFld X.K ta tv f) := by
  intro pins s σ H D I h
  refine plainObj_wpAny_Assign_Attribute (thn (hv pins s σ H _ I h) fun u s1 ⟨y, H1, I1, ry, q⟩ => thn (ha pins s1 σ H1 _ I1 q) fun ov s2 ⟨x, H2, I2, rx, a, C, dx, fs, ex, ea, c, n, l, q2⟩ => ?_) hs
  subst ex
  obtain rfl : ov = Value.ref a := rx
  exact setattr_ok I2 ea c n l ry fun s3 I3 => ⟨σ, _, I3, q2⟩
end

section
variable {X : Cx} {pins : List (Addr × Obj)} {σ : St} {H : Hp} {s : Shared} {A : Around} {E : Value → Shared → Prop} {Q : Value → Shared → Prop} {c : Value} {b : Bool}
/-- the type of a value, as the fragment's deciders take it; for an instance its class -/
inductive TyOf (K : PySem.W.Frag) (H : Hp) : V → Value → Prop where
  | non : TyOf K H .non (.type "NoneType")
  | bl (x : Bool) : TyOf K H (.bl x) (.type "bool")
  | int (i : Int) : TyOf K H (.int i) (.type "int")
  | str (x : Str) : TyOf K H (.str x) (.type "str")
  | flt (x : UInt64) : TyOf K H (.flt x) (.type "float")
  | lst {a : Addr} {xs : List V} (e : H a = some (.lst xs)) : TyOf K H (.ref a) (.type "list")
  | frz {a : Addr} {o : Obj} {xs : List V} (e : H a = some (.frz o (.lst xs))) : TyOf K H (.ref a) (.type "list")
  | tup {a : Addr} {xs : List V} (e : H a = some (.tup xs)) : TyOf K H (.ref a) (.type "tuple")
  | dK {a : Addr} {kvs : List (Key × V)} (e : H a = some (.dK kvs)) : TyOf K H (.ref a) (.type "dict")
  | dT {a : Addr} {kvs : List (List Key × V)} (e : H a = some (.dT kvs)) : TyOf K H (.ref a) (.type "dict")
  | ins {a C dx : Addr} {fs : List (Str × V)} (e : H a = some (.ins C dx fs)) (cl : Cls K C) (ha : PySem.W.findIn K (.ref C) "__class__" = some (some (.builtin "object.__class__")))
      (hn : PySem.W.specialIn K (.builtin "object.__class__") "__get__" = some (some (.builtin "getset_descriptor.__get__"))) (htk : PySem.W.takesIn K (.builtin "object.__class__") = some true)
      (hm : PySem.W.mroIn K C (.type "object") = some true) : TyOf K H (.ref a) (.ref C)
/-- isinstance(x, c) for one class c, a built-in or an own one: kitOne's answer -/
theorem isinst_ok {x : V} {u t : Value} (I : Inv X pins σ H s) (rx : RelV x u) (ty : TyOf X.K H x t) (e : PySem.W.kitOne X.K t c = some b) (h : ∀ tk, Q (.bool b) { s with toks := tk }) :
    wpAny (model X.prog X.w) A (call (.builtin "isinstance") [u, c]) Q E s := by
  cases ty with
  | non => cases (show u = Value.none from rx); exact PySem.W.kia_one PySem.W.kitx_none I.kIn True.intro e (fun z => nomatch z) h
  | bl y => cases (show u = Value.bool y from rx); exact PySem.W.kia_one PySem.W.kitx_bool I.kIn True.intro e (fun z => nomatch z) h
  | int i => obtain ⟨t, q⟩ := (show ∃ t, u = Value.int i t from rx); cases q; exact PySem.W.kia_one PySem.W.kitx_int I.kIn True.intro e (fun z => nomatch z) h
  | str y => obtain ⟨t, q⟩ := (show ∃ t, u = Value.str y t from rx); cases q; exact PySem.W.kia_one PySem.W.kitx_str I.kIn True.intro e (fun z => nomatch z) h
  | flt y => obtain ⟨t, q⟩ := (show ∃ t, u = Value.float y t from rx); cases q; exact PySem.W.kia_one PySem.W.kitx_float I.kIn True.intro e (fun z => nomatch z) h
  | @lst a xs ea =>
    cases (show u = Value.ref a from rx)
    obtain ⟨_, _, n, _, h1⟩ := (show ObjOk X.prog X.w H s.heap a (.lst xs) from I.hok a _ ea)
    exact PySem.W.kia_one PySem.W.kitx_list I.kIn ⟨_, h1, rfl⟩ e (fun z => nomatch z) h
  | @frz a ob xs ea =>
    cases (show u = Value.ref a from rx)
    obtain ⟨_, _, _, n, _, h1⟩ := (show ObjOk X.prog X.w H s.heap a (.frz ob (.lst xs)) from I.hok a _ ea)
    exact PySem.W.kia_one PySem.W.kitx_list I.kIn ⟨_, h1, rfl⟩ e (fun z => nomatch z) h
  | @tup a xs ea =>
    cases (show u = Value.ref a from rx)
    obtain ⟨_, _, _, p⟩ := (show ObjOk X.prog X.w H s.heap a (.tup xs) from I.hok a _ ea)
    obtain ⟨o, h1, h2, _⟩ := p
    exact PySem.W.kia_one PySem.W.kitx_tuple I.kIn ⟨o, h1, h2⟩ e (fun z => nomatch z) h
  | @dK a kvs ea =>
    cases (show u = Value.ref a from rx)
    obtain ⟨_, _, vs, _, p⟩ := (show ObjOk X.prog X.w H s.heap a (.dK kvs) from I.hok a _ ea)
    obtain ⟨o, es, ep, h1, h2, _⟩ := p
    exact PySem.W.kia_one PySem.W.kitx_dict I.kIn ⟨o, h1, h2.1⟩ e (fun z => nomatch z) h
  | @dT a kvs ea =>
    cases (show u = Value.ref a from rx)
    obtain ⟨_, _, xs, _, o, es, ep, h1, h2, _⟩ := (show ObjOk X.prog X.w H s.heap a (.dT kvs) from I.hok a _ ea)
    exact PySem.W.kia_one PySem.W.kitx_dict I.kIn ⟨o, h1, h2.1⟩ e (fun z => nomatch z) h
  | @ins a C dx fs ea cl ha hn htk hm =>
    cases (show u = Value.ref a from rx)
    obtain ⟨mA, O, _⟩ := ins_get I.hok ea
    obtain ⟨od, J, _⟩ := O.look
    exact PySem.W.kia_one (PySem.W.kitx_own (cl.get _) cl.hd ha hn htk hm) I.kIn J e (fun z => nomatch z) h
end
end L2

namespace L2
open PySem PySem.Spec PyProof.Rows

structure Room (k : Nat) (A : Around) : Prop where
  hd : A.handled = none
  dp : A.depth + 3 * k + 5 < recursionLimit
  un : A.units + 16 * k + 200 < cLine
theorem Room.mono {j k : Nat} {A : Around} (r : Room k A) (h : j ≤ k) : Room j A := ⟨r.hd, by have := r.dp; omega, by have := r.un; omega⟩
theorem Room.deeper {k : Nat} {A : Around} (r : Room (k + 1) A) (env : Env) : Room k (A.deeper env) :=
  ⟨r.hd, by have := r.dp; show A.depth + 1 + 3 * k + 5 < _; omega, by have := r.un; show A.units + 3 + 16 * k + 200 < _; omega⟩
theorem Room.in1 {k : Nat} {A : Around} (r : Room (k + 1) A) : Room k A.in1 :=
  ⟨r.hd, by have := r.dp; show A.depth + 3 * k + 5 < _; omega, by have := r.un; show A.units + 1 + 16 * k + 200 < _; omega⟩
theorem make_depth {A : Around} {C : Addr} {us : List Value} {kw : List (Str × Value)} : (A.under (.builtin "type.__call__" ⟨.ref C :: us, kw⟩)).depth = A.depth + 1 := by
  first | rfl | simp [Around.under, Code.weight, Code.isCreation, Code.isGuard, Code.isCaller, Code.frames, Code.isFrame, guardIds]
theorem make_units {A : Around} {C : Addr} {us : List Value} {kw : List (Str × Value)} : (A.under (.builtin "type.__call__" ⟨.ref C :: us, kw⟩)).units = A.units + 1 := by
  first | rfl | simp [Around.under, Code.cUnits, Code.frames, Code.isFrame]
theorem Room.make {k : Nat} {A : Around} (r : Room (k + 1) A) (C : Addr) (us : List Value) (kw : List (Str × Value)) : Room k (A.under (.builtin "type.__call__" ⟨.ref C :: us, kw⟩)) :=
  ⟨r.hd, by have := r.dp; rw [make_depth]; omega, by have := r.un; rw [make_units]; omega⟩
theorem Room.depth {k : Nat} {A : Around} (r : Room k A) : A.depth < recursionLimit := by have := r.dp; omega
theorem Room.units {k : Nat} {A : Around} (r : Room k A) : A.units + 64 < cLine := by have := r.un; omega
def tNil : TA := fun _ H Q => Q [] H
def tCons (ta : TE) (tr : TA) : TA := fun σ H Q => ta σ H fun x H1 => tr σ H1 fun xs H2 => Q (x :: xs) H2
section
variable {X : Cx} {e : Expr} {es : List Expr} {te : TE} {t : TA} {pos : Pos}
theorem pa_nil : PA X [] tNil := fun _ _ _ _ H Q I h => Calls.spliced_nil ⟨[], H, I, .nil, h⟩
theorem pa_cons (ha : PE X e te) (hr : PA X es t) (hs : starEach (e :: es) X.env = (false, eval e X.env) :: starEach es X.env := by rfl) : PA X (e :: es) (tCons te t) := by
  intro pos pins s σ H Q I h
  rw [hs]
  show wpAny _ _ (spliced ((false, eval e X.env) :: backTo pos (starEach es X.env))) _ _ s
  refine Calls.spliced_cons (thn (ha pins s σ H _ I h) fun u s1 ⟨x, H1, I1, r1, q1⟩ => ?_)
  exact thn (hr pos pins s1 σ H1 _ I1 q1) fun us s2 ⟨xs, H2, I2, r2, q2⟩ => ⟨x :: xs, H2, I2, .cons r1 r2, q2⟩

/-- a tuple, a list of written items -/
def tTup (t : TA) : TE := fun σ H Q => t σ H fun xs H1 => xs.length ≤ sizeLine ∧ ∀ p, H1 p = none → Q (.ref p) (upd H1 p (.tup xs))
def tLst (t : TA) : TE := fun σ H Q => t σ H fun xs H1 => xs.length ≤ sizeLine ∧ ∀ p, H1 p = none → Q (.ref p) (upd H1 p (.lst xs))
theorem pe_tup {x1} (h : PA X es t) : PE X (.Tuple es x1 pos) (tTup t) := by
  intro pins s σ H Q I hq
  refine wpAny_Tuple_spliced (thn (h pos pins s σ H _ I hq) fun us s1 ⟨xs, H1, I1, r, z, q⟩ => ⟨by rw [← r.length]; exact z, ?_⟩)
  have hf : H1 s1.heap.objs.size = none := I1.hok.fresh (Nat.le_refl _)
  refine ⟨.ref s1.heap.objs.size, upd H1 s1.heap.objs.size (.tup xs), I1.laid (t' := s1.toks) (fun b u e => Heap.get?_push_of_some _ e) (Nat.le_refl _) ?_, rfl, q _ hf⟩
  exact ⟨z, us, r, ⟨_, Heap.get?_push_size _ rfl, rfl, _, rfl⟩⟩
theorem pe_lst (h : PA X es t) : PE X (.List es pos) (tLst t) := by
  intro pins s σ H Q I hq
  refine wpAny_List_spliced (thn (h pos pins s σ H _ I hq) fun us s1 ⟨xs, H1, I1, r, z, q⟩ => ⟨by rw [← r.length]; exact z, ?_⟩)
  have hf : H1 s1.heap.objs.size = none := I1.hok.fresh (Nat.le_refl _)
  refine ⟨.ref s1.heap.objs.size, upd H1 s1.heap.objs.size (.lst xs), I1.laid (t' := s1.toks) (fun b u e => Heap.get?_push_of_some _ e) (Nat.le_refl _) ?_, rfl, q _ hf⟩
  exact ⟨z, us, 0, r, Heap.get?_push_size _ rfl⟩
end

/-- a def's promise: the bound arguments in the parameters' order, the heap, the wanted end, the wanted exception -/
abbrev Sp := List V → Hp → VK → XK → Prop
/-- how an exception lies behind a call (file 08 gives it): the callers' frames, abstract heap and state ahead of the call, the wish, the exception, the state -/
abbrev CXT := List Env → Hp → Shared → XK → Value → Shared → Prop

/-- the state at a call -/
structure Env0 (P : Program) (w : World) (K : PySem.W.Frag) (mg : Str → Option Value) (base : Heap) (A : Around) (outer : List Env) (s : Shared) (H : Hp) : Prop where
  frames : A.frames = some outer
  mod : Mod K mg base
  bs : ∀ b o, base.get? b = some o → s.heap.get? b = some o ∧ H b = none
  bsz : base.objs.size ≤ s.heap.objs.size
  funs : s.heap.FunFrames base outer
  frf : ∀ b ∈ frs outer, H b = none
  hok : HOk P w H s.heap
  bare : AllBare s.gens
/-- a call's end -/
def CE (outer : List Env) (P : Program) (w : World) (H : Hp) (s : Shared) (Q : VK) (u : Value) (s' : Shared) : Prop :=
  ∃ v H', s'.os = s.os ∧ AllBare s'.gens ∧ Un (frs outer) [] H H' s.heap s'.heap ∧ HOk P w H' s'.heap ∧ RelV v u ∧ Q v H'
def CR (CX : CXT) (outer : List Env) (P : Program) (w : World) (H : Hp) (s : Shared) (Q : VK) (E : XK) (r : Result) (s' : Shared) : Prop :=
  match r with
  | .ok (.ret u) => CE outer P w H s Q u s'
  | .ok _ => False
  | .error e => CX outer H s E e s'
structure FnOk (P : Program) (w : World) (K : PySem.W.Frag) (mg : Str → Option Value) (base : Heap) (CX : CXT) (k : Nat) (f : Addr) (fd : FuncData) (ps : List Str) (sp : Sp) : Prop where
  len : ∀ vs H Q E, sp vs H Q E → vs.length = ps.length
  run : ∀ (A : Around) (outer : List Env) (s : Shared) (H : Hp) (args : Args) (us : List Value) (vs : List V) (Q : VK) (E : XK), Room k A → Env0 P w K mg base A outer s H → BindsTo s fd args (ps.zip us) → Vals vs us → sp vs H Q E →
    codeAny (model P w) A (.call (.ref f) args) (CR CX outer P w H s Q E) s
theorem FnOk.mono {P : Program} {w : World} {K : PySem.W.Frag} {mg : Str → Option Value} {base : Heap} {CX : CXT} {j k : Nat} {f : Addr} {fd : FuncData} {ps : List Str} {sp : Sp} (F : FnOk P w K mg base CX j f fd ps sp) (h : j ≤ k) :
    FnOk P w K mg base CX k f fd ps sp := ⟨F.len, fun A outer s H args us vs Q E hr => F.run A outer s H args us vs Q E (hr.mono h)⟩
/-- a weaker promise -/
theorem FnOk.imp {P : Program} {w : World} {K : PySem.W.Frag} {mg : Str → Option Value} {base : Heap} {CX : CXT} {k : Nat} {f : Addr} {fd : FuncData} {ps : List Str} {sp sp' : Sp} (F : FnOk P w K mg base CX k f fd ps sp)
    (h : ∀ vs H Q E, sp' vs H Q E → sp vs H Q E) : FnOk P w K mg base CX k f fd ps sp' :=
  ⟨fun vs H Q E q => F.len vs H Q E (h _ _ _ _ q), fun A outer s H args us vs Q E hr he hb hv hs => F.run A outer s H args us vs Q E hr he hb hv (h _ _ _ _ hs)⟩

theorem Env0.make {P : Program} {w : World} {K : PySem.W.Frag} {mg : Str → Option Value} {base : Heap} {A : Around} {outer : List Env} {s : Shared} {H : Hp} (e : Env0 P w K mg base A outer s H) (C : Addr) (us : List Value) (kw : List (Str × Value)) :
    Env0 P w K mg base (A.under (.builtin "type.__call__" ⟨.ref C :: us, kw⟩)) outer s H := ⟨by first | exact e.frames | (simpa [Around.under, Code.envs, Code.isFrame, pushEnvs] using e.frames), e.mod, e.bs, e.bsz, e.funs, e.frf, e.hok, e.bare⟩
theorem Env0.in1 {P : Program} {w : World} {K : PySem.W.Frag} {mg : Str → Option Value} {base : Heap} {A : Around} {outer : List Env} {s : Shared} {H : Hp} (e : Env0 P w K mg base A outer s H) :
    Env0 P w K mg base A.in1 outer s H := ⟨e.frames, e.mod, e.bs, e.bsz, e.funs, e.frf, e.hok, e.bare⟩

section
variable {X : Cx} {pins : List (Addr × Obj)} {σ : St} {H : Hp} {s s' : Shared}
/-- from a body: what a callee wants -/
theorem Inv.env0 (I : Inv X pins σ H s) : Env0 X.prog X.w X.K X.mg X.base X.A X.stack s H :=
  ⟨I.ok.frames, I.ok.mod, I.bs, Nat.le_trans I.ok.bsz I.sz, I.stack, I.stkFree, I.hok, I.bare⟩
/-- behind a call -/
theorem Inv.after {Q : VK} {u : Value} (I : Inv X pins σ H s) (h : CE X.stack X.prog X.w H s Q u s') : EP X pins σ Q u s' := by
  obtain ⟨v, H', os, bare, un, hok, r, q⟩ := h
  obtain ⟨hh, g, d, t, os'⟩ := s'
  obtain rfl : os' = s.os := os
  exact ⟨v, H', I.call (h' := hh) (g' := g) (d' := d) (t' := t) (ch := []) un hok bare (fun b z => absurd z (by simp)), r, q⟩
end

/-- f(..): the written arguments, then the defaults dvs; E: what is wanted of an exception -/
def tCall (sp : Sp) (dvs : List V) (E : XK) (t : TA) : TE := fun σ H Q => t σ H fun vs H1 => sp (vs ++ dvs) H1 Q E
/-- C(..): a new instance and its dict, then __init__ -/
def tMake (C : Addr) (sp : Sp) (dvs : List V) (E : XK) (t : TA) : TE := fun σ H Q => t σ H fun vs H1 => ∀ x dx, H1 x = none → H1 dx = none → dx ≠ x →
  sp (.ref x :: (vs ++ dvs)) (upd (upd H1 dx (.own x)) x (.ins C dx [])) (fun v H2 => v = .non ∧ Q (.ref x) H2) E

/-- how the parameters are bound: us the positional arguments, kw the keywords' values by name, ds the defaults that fill up -/
def Binds (K : PySem.W.Frag) (fd : FuncData) (ps : List Str) (ds : List Value) : Prop :=
  ∀ (s : Shared) (us : List Value), K.In s.heap → (us ++ ds).length = ps.length → BindsTo s fd ⟨us, []⟩ (ps.zip (us ++ ds))
/-- every parameter is given -/
theorem Binds.all {K : PySem.W.Frag} {fd : FuncData} {ps : List Str} (h : ∀ us : List Value, us.length = ps.length → bindArgs fd ⟨us, []⟩ = pure (ps.zip us)) : Binds K fd ps [] := fun s us _ hl => by
  rw [List.append_nil] at hl ⊢
  exact .of_eq (h us hl)

/-- an exception of a callee reaches what this body wants of exceptions -/
def Passes (CX : CXT) (X : Cx) (E : XK) : Prop := ∀ (pins : List (Addr × Obj)) (σ : St) (H : Hp) (s : Shared) (e : Value) (s' : Shared), Inv X pins σ H s → CX X.stack H s E e s' → X.xe e s'

section
variable {X : Cx} {CX : CXT} {k : Nat} {f C : Addr} {fd : FuncData} {ps : List Str} {sp : Sp} {dvs : List V} {ds : List Value} {E : XK} {x m : Str} {p pos apos : Pos} {e o : Expr} {es : List Expr} {ta : TE} {t : TA}

/-- the callee runs -/
theorem run_fn {pins : List (Addr × Obj)} {σ : St} {H : Hp} {s : Shared} {Q : VK} {us : List Value} {vs : List V} (F : FnOk X.prog X.w X.K X.mg X.base CX k f fd ps sp) (hr : Room k X.A) (hb : Binds X.K fd ps ds) (hd : Vals dvs ds) (hx : Passes CX X E)
    (I : Inv X pins σ H s) (r : Vals vs us) (h : sp (vs ++ dvs) H Q E) : wpAny (model X.prog X.w) X.A (call (.ref f) us) (EP X pins σ Q) X.xe s := by
  have r2 : Vals (vs ++ dvs) (us ++ ds) := r.append hd
  have hl : (us ++ ds).length = ps.length := by rw [← r2.length]; exact F.len _ _ _ _ h
  refine wpAny_call (codeAny_mono (F.run X.A X.stack s H ⟨us, []⟩ (us ++ ds) (vs ++ dvs) Q E hr I.env0 (hb s us I.kIn hl) r2 h) fun r s' hq => ?_)
  cases r with
  | error e => exact hx pins σ H s e s' I hq
  | ok fl =>
    cases fl with
    | ret u => exact I.after hq
    | next => exact False.elim hq
    | brk => exact False.elim hq
    | cont => exact False.elim hq

theorem pe_call (F : FnOk X.prog X.w X.K X.mg X.base CX k f fd ps sp) (hr : Room k X.A) (hg : Gl X x) (hm : X.mg x = some (.ref f)) (hk : PySem.W.keepIn X.K (.ref f) = true) (hb : Binds X.K fd ps ds) (hd : Vals dvs ds) (hx : Passes CX X E)
    (ha : PA X (e :: es) t) (hdb : (x == ("__debug__" : Str)) = false := by decide) (he : starEach (e :: es) X.env = (false, eval e X.env) :: starEach es X.env := by rfl) (hpl : (backTo pos (starEach es X.env)).any (·.1) = false := by rfl) :
    PE X (.Call (.Name x p) (e :: es) [] pos) (tCall sp dvs E t) := by
  intro pins s σ H Q I h
  refine wpAny_Call_Name_kw (ld_glob I hg hm ?_ hdb)
  refine PySem.W.callWith_K (h₀ := X.base) I.ok.mod.kin hk (thn (ha pos pins s σ H _ I h) fun us s1 ⟨vs, H1, I1, r, q⟩ => ⟨I1.kIn, ?_⟩) he hpl
  exact run_fn F hr hb hd hx I1 r q
/-- what a class must have to be made -/
structure Mk (K : PySem.W.Frag) (C f : Addr) : Prop where
  makes : PySem.W.makesIn K C = true
  init : PySem.W.findIn K (.ref C) "__init__" = some (some (.ref f))
  fn : PySem.W.isFn K (.ref f) = true
  kp : PySem.W.keepIn K (.ref C) = true

theorem run_make {pins : List (Addr × Obj)} {σ : St} {H : Hp} {s : Shared} {Q : VK} {us : List Value} {vs : List V} (M : Mk X.K C f) (F : FnOk X.prog X.w X.K X.mg X.base CX k f fd ps sp) (hr : Room (k + 1) X.A) (hb : Binds X.K fd ps ds) (hd : Vals dvs ds)
    (hx : Passes CX X E) (I : Inv X pins σ H s) (r : Vals vs us)
    (h : ∀ x dx, H x = none → H dx = none → dx ≠ x → sp (.ref x :: (vs ++ dvs)) (upd (upd H dx (.own x)) x (.ins C dx [])) (fun v H2 => v = .non ∧ Q (.ref x) H2) E) :
    wpAny (model X.prog X.w) X.A (call (.ref C) us) (EP X pins σ Q) X.xe s := by
  have hq := h (s.heap.objs.size + 1) s.heap.objs.size (I.hok.fresh (Nat.le_succ _)) (I.hok.fresh (Nat.le_refl _)) (Nat.ne_of_lt (Nat.lt_succ_self _))
  have I2 := Inv.made (C := C) I
  have r2 : Vals (V.ref (s.heap.objs.size + 1) :: (vs ++ dvs)) (Value.ref (s.heap.objs.size + 1) :: (us ++ ds)) := .cons rfl (r.append hd)
  have hl : (Value.ref (s.heap.objs.size + 1) :: us ++ ds).length = ps.length := by
    have e := r2.length
    rw [F.len _ _ _ _ hq] at e
    exact e.symm
  refine wpAny_call (make_map (f := f) I.kIn M.makes M.init (beq_iff_eq.mp M.fn) (codeAny_mono (F.run _ X.stack _ _ ⟨Value.ref (s.heap.objs.size + 1) :: us, []⟩ (Value.ref (s.heap.objs.size + 1) :: (us ++ ds)) _ _ E (hr.make C us [])
    (I2.env0.make C us []) (hb _ (Value.ref (s.heap.objs.size + 1) :: us) I2.kIn hl) r2 hq) fun r s' hq' => ?_))
  cases r with
  | error e => exact hx pins σ _ _ e s' I2 hq'
  | ok fl =>
    cases fl with
    | ret u =>
      obtain ⟨v, H', I3, rv, ev, q3⟩ := I2.after hq'
      subst ev
      exact ⟨rv, ⟨V.ref (s.heap.objs.size + 1), H', I3, rfl, q3⟩⟩
    | next => exact False.elim hq'
    | brk => exact False.elim hq'
    | cont => exact False.elim hq'
theorem pe_make (M : Mk X.K C f) (F : FnOk X.prog X.w X.K X.mg X.base CX k f fd ps sp) (hr : Room (k + 1) X.A) (hg : Gl X x) (hm : X.mg x = some (.ref C)) (hb : Binds X.K fd ps ds) (hd : Vals dvs ds) (hx : Passes CX X E)
    (ha : PA X (e :: es) t) (hdb : (x == ("__debug__" : Str)) = false := by decide) (he : starEach (e :: es) X.env = (false, eval e X.env) :: starEach es X.env := by rfl) (hpl : (backTo pos (starEach es X.env)).any (·.1) = false := by rfl) :
    PE X (.Call (.Name x p) (e :: es) [] pos) (tMake C sp dvs E t) := by
  intro pins s σ H Q I h
  refine wpAny_Call_Name_kw (ld_glob I hg hm ?_ hdb)
  refine PySem.W.callWith_K (h₀ := X.base) I.ok.mod.kin M.kp (thn (ha pos pins s σ H _ I h) fun us s1 ⟨vs, H1, I1, r, q⟩ => ⟨I1.kIn, ?_⟩) he hpl
  exact run_make M F hr hb hd hx I1 r q
theorem pe_make0 (M : Mk X.K C f) (F : FnOk X.prog X.w X.K X.mg X.base CX k f fd ps sp) (hr : Room (k + 1) X.A) (hg : Gl X x) (hm : X.mg x = some (.ref C)) (hb : Binds X.K fd ps ds) (hd : Vals dvs ds) (hx : Passes CX X E)
    (hdb : (x == ("__debug__" : Str)) = false := by decide) : PE X (.Call (.Name x p) [] [] pos) (tMake C sp dvs E tNil) := by
  intro pins s σ H Q I h
  refine wpAny_Call_Name_kw (ld_glob I hg hm ?_ hdb)
  exact PySem.W.callWith_K0 I.kIn M.kp (run_make (us := []) M F hr hb hd hx I .nil h)
end

section
variable {X : Cx} {CX : CXT} {k : Nat} {f C : Addr} {fd : FuncData} {ps ks : List Str} {sp : Sp} {E : XK} {x m : Str} {p pos apos kpos : Pos} {e o : Expr} {es : List Expr} {kws : List Keyword} {te ta : TE} {t tk : TA} {nm : Option Str}
variable {g : List Value → List Value → List Value} {gV : List V → List V → List V}
end

/-- names: the parameters first -/
structure FnScope (N P : List Str) (sc : Scope) : Prop where
  kind : sc.kind = .function
  co : sc.isCoroutine = false
  gen : sc.isGenerator = false
  nd : N.Nodup
  pre : N.take P.length = P
  par : ∀ x ∈ P, sc.names.lookup x = some .local ∨ sc.names.lookup x = some .cell
  nofree : ∀ y ∈ sc.names, y.2 ≠ .free

theorem bindL_out {kindOf : Str → Option NameKind} {x : Str} : ∀ {binds : List (Str × Value)} {m : Str → Option Value}, (∀ v, (x, v) ∉ binds) → bindL kindOf binds m x = m x
  | [], _, _ => rfl
  | (n, v) :: r, m, h => by
    unfold bindL
    rw [bindL_out fun w hw => h w (List.mem_cons_of_mem _ hw)]
    split
    · have : x ≠ n := by rintro rfl; exact h v List.mem_cons_self
      simp [this]
    · rfl
theorem bindC_out {kindOf : Str → Option NameKind} {x : Str} : ∀ {binds : List (Str × Value)} {m : Str → Option Value}, (∀ v, (x, v) ∉ binds) → bindC kindOf binds m x = m x
  | [], _, _ => rfl
  | (n, v) :: r, m, h => by
    unfold bindC
    rw [bindC_out fun w hw => h w (List.mem_cons_of_mem _ hw)]
    split
    · rfl
    · have : x ≠ n := by rintro rfl; exact h v List.mem_cons_self
      simp [this]
theorem bindL_get {kindOf : Str → Option NameKind} {x : Str} {v : Value} : ∀ {P : List Str} {vs : List Value} {i : Nat} {m : Str → Option Value}, P.Nodup → P[i]? = some x → vs[i]? = some v → kindOf x = some .local →
    bindL kindOf (P.zip vs) m x = some v
  | [], _, _, _, _, h, _, _ => by simp at h
  | _ :: _, [], _, _, _, _, h, _ => by simp at h
  | p :: P, w :: vs, 0, m, nd, h1, h2, hk => by
    simp at h1 h2; subst h1; subst h2
    show bindL kindOf ((p, w) :: P.zip vs) m p = _
    unfold bindL
    rw [bindL_out fun v hv => (List.nodup_cons.mp nd).1 (List.of_mem_zip hv).1, if_pos hk]
    simp
  | p :: P, w :: vs, i + 1, m, nd, h1, h2, hk => by
    show bindL kindOf ((p, w) :: P.zip vs) m x = _
    unfold bindL
    exact bindL_get (i := i) (List.nodup_cons.mp nd).2 (by simpa using h1) (by simpa using h2) hk
theorem bindC_get {kindOf : Str → Option NameKind} {x : Str} {v : Value} : ∀ {P : List Str} {vs : List Value} {i : Nat} {m : Str → Option Value}, P.Nodup → P[i]? = some x → vs[i]? = some v → kindOf x ≠ some .local →
    bindC kindOf (P.zip vs) m x = some v
  | [], _, _, _, _, h, _, _ => by simp at h
  | _ :: _, [], _, _, _, _, h, _ => by simp at h
  | p :: P, w :: vs, 0, m, nd, h1, h2, hk => by
    simp at h1 h2; subst h1; subst h2
    show bindC kindOf ((p, w) :: P.zip vs) m p = _
    unfold bindC
    rw [bindC_out fun v hv => (List.nodup_cons.mp nd).1 (List.of_mem_zip hv).1, if_neg hk]
    simp
  | p :: P, w :: vs, i + 1, m, nd, h1, h2, hk => by
    show bindC kindOf ((p, w) :: P.zip vs) m x = _
    unfold bindC
    exact bindC_get (i := i) (List.nodup_cons.mp nd).2 (by simpa using h1) (by simpa using h2) hk

/-- the names' values at the entry -/
def start (N : List Str) (vs : List V) : St := vs.map some ++ List.replicate (N.length - vs.length) none

/-- the context of a def's body, at its entry; an exception leaves the frame, then lies as CX says -/
def cxOf (CX : CXT) (P : Program) (w : World) (K : PySem.W.Frag) (mg : Str → Option Value) (base : Heap) (N : List Str) (qual : Str) (scope : Scope) (f : Addr) (cd : Value) (A : Around) (outer : List Env) (s : Shared) (H : Hp) (E : XK) : Cx where
  prog := P
  w := w
  K := K
  mg := mg
  base := base
  A := A.deeper (envOfC qual scope s.heap.objs.size f cd)
  N := N
  s₀ := s
  H₀ := H
  env := envOfC qual scope s.heap.objs.size f cd
  outer := outer
  stack := envOfC qual scope s.heap.objs.size f cd :: outer
  ex := []
  calm := true
  fn := fun _ => true
  pn := []
  xe := fun e s' => wpAny (model P w) (A.deeper (envOfC qual scope s.heap.objs.size f cd)) (leaving (envOfC qual scope s.heap.objs.size f cd) e) (fun _ s'' => CX outer H s E e s'') (fun e' s'' => CX outer H s E e' s'') s'

theorem cell_has {sc : Scope} {n : Nat} {x : Str} (h : sc.names.lookup x = some .cell) : ∃ c, (cellsFrom n sc.names []).lookup x = some c := by
  have q := PySem.W.cellsFrom_some sc.names n [] (.inl h)
  exact Option.isSome_iff_exists.mp q

theorem inv_start {CX : CXT} {P : Program} {w : World} {K : PySem.W.Frag} {mg : Str → Option Value} {base : Heap} {N ps : List Str} {qual : Str} {scope : Scope} {f : Addr} {cd : Value} {A : Around} {outer : List Env} {s s1 : Shared} {H : Hp} {E : XK} {us : List Value} {vs : List V}
    (S : FnScope N ps scope) (hd : A.handled = none) (e0 : Env0 P w K mg base A outer s H) (hl : vs.length = ps.length) (r : Vals vs us)
    (x : InCallC s s.heap.objs.size (bindL (envOfC qual scope s.heap.objs.size f cd).kindOf (ps.zip us) fun _ => none) (cellsFrom (s.heap.objs.size + 1) scope.names []) (bindC (envOfC qual scope s.heap.objs.size f cd).kindOf (ps.zip us) fun _ => none) s1) :
    Inv (cxOf CX P w K mg base N qual scope f cd A outer s H E) [] (start N vs) H s1 := by
  have hpl : ps.length ≤ N.length := by have := congrArg List.length S.pre; rw [List.length_take] at this; omega
  obtain ⟨h1, tk, rfl, hk⟩ := x.done
  have noA : ∀ b : Addr, b ∉ (cxOf CX P w K mg base N qual scope f cd A outer s H E).ex := fun b z => absurd (show b ∈ ([] : List Addr) from z) (by simp)
  refine ⟨⟨e0.mod, S.kind, rfl, rfl, Nat.le_refl _, fun y z c h1 h2 => ?_, fun y hy => ?_, fun y c _ h => ?_, fun _ => hd, Around.frames_deeper e0.frames, .inr ⟨rfl, rfl⟩, fun b z => absurd z (noA b), e0.bs, e0.bsz, fun b _ _ => noA b, fun b z => absurd z (noA b), e0.funs, e0.frf⟩,
    rfl, e0.bare, Un.kept hk, ⟨_, x.toInCall.ns, fun i y v h1 h2 h3 => ?_⟩, fun y c h => ⟨_, x.cell y c h⟩, e0.hok.fresh (Nat.le_refl _), fun y c h => ?_, fun p hp => absurd (show p ∈ ([] : List (Addr × Obj)) from hp) (by simp), e0.hok.kept hk, ?_⟩
  · exact name_of_addr x.apart (PySem.mem_of_lookup h1) (PySem.mem_of_lookup h2)
  · have hy : scope.names.lookup y = some .cell ∨ scope.names.lookup y = some .free := hy
    rcases hy with hy | hy
    · exact cell_has hy
    · exact absurd rfl (S.nofree _ (PySem.mem_of_lookup hy))
  · exact Nat.le_of_lt (x.above y c (PySem.mem_of_lookup h))
  · have hi : i < vs.length := by
      unfold start at h2
      by_cases hi : i < vs.length
      · exact hi
      · rw [List.getElem?_append_right (by simpa using hi)] at h2
        rw [List.getElem?_replicate] at h2
        split at h2 <;> cases h2
    have ha : vs[i]? = some v := by
      unfold start at h2
      rw [List.getElem?_append_left (by simpa using hi), List.getElem?_map] at h2
      cases e : vs[i]? with
      | none => rw [e] at h2; cases h2
      | some a => rw [e] at h2; cases h2; rfl
    obtain ⟨u, hu, rv⟩ := r.get ha
    have hp : ps[i]? = some y := by
      rw [← S.pre, List.getElem?_take_of_lt (by omega)]; exact h1
    have ndP : ps.Nodup := by rw [← S.pre]; exact S.nd.sublist (List.take_sublist _ _)
    refine ⟨u, rv, ?_⟩
    rcases S.par y (List.mem_of_getElem? hp) with k | k
    · exact .inl ⟨k, bindL_get ndP hp hu k⟩
    · obtain ⟨c, e⟩ := cell_has (n := s.heap.objs.size + 1) k
      refine .inr ⟨.inl k, c, e, ?_⟩
      have q := x.cell y c e
      rw [bindC_get ndP hp hu (by show scope.names.lookup y ≠ _; rw [k]; decide)] at q
      exact q
  · exact e0.hok.fresh (Nat.le_of_lt (x.above y c (PySem.mem_of_lookup h)))
  · unfold start
    show _ = N.length
    rw [List.length_append, List.length_map, List.length_replicate]
    omega

/-- THE RULE: a def (or a method) of the text, by its body. The body's reading t is chosen for each entry; it is run at the parameters' values -/
theorem fn_of {CX : CXT} {P : Program} {w : World} {K : PySem.W.Frag} {mg : Str → Option Value} {base : Heap} {k : Nat} {f : Addr} {name qual : Str} {params : Arguments} {body : List Stmt} {scope : Scope} {dV kV doc pm cdv ct oc : Value} {an od : Option Addr}
    {osl : Array (Option Value)} {N ps : List Str} {sp : Sp} (lk : K.lookup f = some ⟨oc, od, .func (PySem.W.fnOf name qual params body scope dV kV doc pm an cdv ct), osl⟩) (hcd : PySem.W.codeIn K cdv qual = true) (S : FnScope N ps scope)
    (len : ∀ vs H Q E, sp vs H Q E → vs.length = ps.length)
    (hbody : ∀ (A : Around) (outer : List Env) (s : Shared) (H : Hp) (vs : List V) (Q : VK) (E : XK), Room k (A.deeper (envOfC qual scope s.heap.objs.size f cdv)) → sp vs H Q E →
      ∃ t, PSs (cxOf CX P w K mg base N qual scope f cdv A outer s H E) body t ∧ t { nx := fun _ H' => Q .non H', rt := Q } (start N vs) H) :
    FnOk P w K mg base CX (k + 1) f (PySem.W.fnOf name qual params body scope dV kV doc pm an cdv ct) ps sp := by
  refine ⟨len, fun A outer s H args us vs Q E hr e0 hb r hsp => ?_⟩
  have hl := len _ _ _ _ hsp
  have KX : K.In s.heap := e0.mod.kin.keeps fun b o e => (e0.bs b o e).1
  have lim : s.heap.NoLimit := e0.mod.nolimit.keeps fun b o e => (e0.bs b o e).1
  have hkind : ∀ y ∈ ps.zip us, scope.names.lookup y.1 = some .local ∨ (scope.names.lookup y.1 = some .cell ∧ ((cellsFrom (s.heap.objs.size + 1) scope.names []).lookup y.1).isSome = true) := fun ⟨n, v⟩ hy => by
    rcases S.par n (List.of_mem_zip hy).1 with q | q
    · exact .inl q
    · exact .inr ⟨q, PySem.W.cellsFrom_some _ _ _ (.inl q)⟩
  refine codeAny_call_function hr.depth (KX _ _ lk) rfl S.co S.gen rfl (PySem.W.codeRec_of KX hcd) (hb _ _ _ _ ?_)
  refine wpAny_newFunctionEnv_cells S.kind hkind fun env he s1 x => ?_
  subst he
  refine ⟨lim.keeps x.toInCall.keep, codeAny_func ?_⟩
  obtain ⟨t, ht, hq⟩ := hbody A outer s H vs Q E (hr.deeper _) hsp
  have I : Inv (cxOf CX P w K mg base N qual scope f cdv A outer s H E) [] (start N vs) H s1 := inv_start S hr.hd e0 hl r x
  refine wpAny_mono (ht [] s1 (start N vs) H _ I hq) (fun fl s' hs => ?_) fun e s' hs => hs
  have fin : ∀ {σ' : St} {H' : Hp} {v : V} {u : Value}, Inv (cxOf CX P w K mg base N qual scope f cdv A outer s H E) [] σ' H' s' → RelV v u → Q v H' → CE outer P w H s Q u s' :=
    fun {σ' H' v u} J rv q => ⟨v, H', J.os, J.bare, J.base, J.hok, rv, q⟩
  cases fl with
  | ret u =>
    obtain ⟨v, σ', H', J, rv, q⟩ := hs
    exact fin J rv q
  | next =>
    obtain ⟨σ', H', J, q⟩ := hs
    exact fin (v := V.non) (u := Value.none) J rfl q
  | brk =>
    obtain ⟨_, _, _, q⟩ := hs
    exact False.elim q
  | cont =>
    obtain ⟨_, _, _, q⟩ := hs
    exact False.elim q
end L2

namespace L2
open PySem PySem.Spec PyProof.Rows
section
variable {X : Cx} {x : Str} {p pos : Pos} {e : Expr} {es : List Expr} {t : TA} {id T : String} {r : List V → Hp → VK → Prop}

def tCB (r : List V → Hp → VK → Prop) (t : TA) : TE := fun σ H Q => t σ H fun vs H1 => r vs H1 Q
/-- f(e, ..), f a built-in function -/
theorem pe_callB (hc : CallR X (.builtin id) r) (hg : Gl X x) (hm : X.mg x = none) (hv : bootBuiltins x = some (.builtin id)) (ha : PA X (e :: es) t) (hn : x ≠ "__name__" := by decide) (hdb : (x == ("__debug__" : Str)) = false := by decide)
    (he : starEach (e :: es) X.env = (false, eval e X.env) :: starEach es X.env := by rfl) (hpl : (backTo pos (starEach es X.env)).any (·.1) = false := by rfl) : PE X (.Call (.Name x p) (e :: es) [] pos) (tCB r t) := by
  intro pins s σ H Q I h
  refine wpAny_Call_Name_kw (ld_blt I hg hm hv ?_ hn hdb)
  exact PyProof.Rows.callWith_builtin1 (thn (ha pos pins s σ H _ I h) fun us s1 ⟨vs, H1, I1, r1, q1⟩ => hc pins s1 σ H1 vs us Q I1 r1 q1) he hpl
/-- T(e, ..), T a built-in type -/
theorem pe_callTy (hc : CallR X (.type T) r) (hg : Gl X x) (hm : X.mg x = none) (hv : bootBuiltins x = some (.type T)) (ha : PA X (e :: es) t) (hn : x ≠ "__name__" := by decide) (hdb : (x == ("__debug__" : Str)) = false := by decide)
    (he : starEach (e :: es) X.env = (false, eval e X.env) :: starEach es X.env := by rfl) (hpl : (backTo pos (starEach es X.env)).any (·.1) = false := by rfl) : PE X (.Call (.Name x p) (e :: es) [] pos) (tCB r t) := by
  intro pins s σ H Q I h
  refine wpAny_Call_Name_kw (ld_blt I hg hm hv ?_ hn hdb)
  exact PyProof.Rows.callWith_type1 (thn (ha pos pins s σ H _ I h) fun us s1 ⟨vs, H1, I1, r1, q1⟩ => hc pins s1 σ H1 vs us Q I1 r1 q1) he hpl
end
end L2

namespace HT
open PySem PyProof.Rows

section
open PySem.SeqAt
open PySem.AutoSeq1 (wpAny_loadPart')
open PySem.MeetsSeq PySem.MeetsSeq2 PySem.MeetsSeq3

end

section
variable {prog : Program} {w : World} {A : Around} {E : Value → Shared → Prop} {s : Shared}

/-- a slice's bound as a place among n (d where it is left out) -/
def sIx (n d : Nat) : Option Int → Nat
  | none => d
  | some v => if v < 0 then (v + (n : Int)).toNat else min v.toNat n
end
end HT

namespace L2
open PySem PySem.Spec PyProof.Rows

abbrev TO := St → Hp → (Option Int → Hp → Prop) → Prop
/-- a slice's part (left out, or an int) -/
def PO (X : Cx) (e : Option Expr) (t : TO) : Prop :=
  ∀ (pins : List (Addr × Obj)) (s : Shared) (σ : St) (H : Hp) (Q : Option Int → Hp → Prop), Inv X pins σ H s → t σ H Q →
    wpAny (model X.prog X.w) X.A (evalPart e X.env) (fun u s' => ∃ o H', Inv X pins σ H' s' ∧ IsPart u o ∧ Q o H') X.xe s
def tNoPart : TO := fun _ H Q => Q none H
def tPart (t : TE) : TO := fun σ H Q => t σ H fun x H1 => ∃ i, x = .int i ∧ Q (some i) H1

section
variable {X : Cx} {e : Expr} {te : TE} {lo hi : Option Expr} {tl th : TO} {pos p2 : Pos}

def tSl (r : V → Option Int → Option Int → Hp → VK → Prop) (te : TE) (tl th : TO) : TE := fun σ H Q => te σ H fun x H1 => tl σ H1 fun l H2 => th σ H2 fun u H3 => r x l u H3 Q
/-- the items of xs[lo:hi] -/
def cutV (xs : List V) (lo hi : Option Int) : List V := (xs.drop (HT.sIx xs.length 0 lo)).take (HT.sIx xs.length xs.length hi - HT.sIx xs.length 0 lo)
end
end L2

namespace L2
open PySem PySem.Spec PyProof.Rows

/-- the place that an index of any sign means -/
def ixN (n : Nat) (i : Int) : Option Nat := if 0 ≤ i then (if i < n then some i.toNat else none) else if -(n : Int) ≤ i then some (i + n).toNat else none
def atI {α : Type} (xs : List α) (i : Int) : Option α := (ixN xs.length i).bind fun j => xs[j]?
theorem ixN_seq {n : Nat} {i : Int} {j : Nat} (h : ixN n i = some j) : seqIndex? i n = some j ∧ j < n ∧ -(n : Int) ≤ i ∧ i < n := by
  unfold ixN at h
  by_cases h0 : 0 ≤ i
  · rw [if_pos h0] at h
    by_cases h1 : i < n
    · rw [if_pos h1] at h
      have e : i.toNat = j := Option.some.inj h
      exact ⟨by rw [seqIndex_of h0 h1, e], by omega, by omega, h1⟩
    · rw [if_neg h1] at h; cases h
  · rw [if_neg h0] at h
    by_cases h1 : -(n : Int) ≤ i
    · rw [if_pos h1] at h
      have e : (i + n).toNat = j := Option.some.inj h
      exact ⟨by rw [seqIndex_neg (by omega) h1, e], by omega, h1, by omega⟩
    · rw [if_neg h1] at h; cases h
theorem atI_get {α : Type} {xs : List α} {i : Int} {v : α} (h : atI xs i = some v) : ∃ j, seqIndex? i xs.length = some j ∧ xs[j]? = some v ∧ j < xs.length ∧ -(xs.length : Int) ≤ i ∧ i < xs.length := by
  unfold atI at h
  cases e : ixN xs.length i with
  | none => rw [e] at h; cases h
  | some j =>
    rw [e] at h
    obtain ⟨h1, h2, h3, h4⟩ := ixN_seq e
    exact ⟨j, h1, h, h2, h3, h4⟩
theorem atI_nat {α : Type} {xs : List α} {j : Nat} {v : α} (h : xs[j]? = some v) : atI xs (j : Int) = some v := by
  have hj : j < xs.length := (List.getElem?_eq_some_iff.mp h).1
  have e : ixN xs.length (j : Int) = some j := by
    unfold ixN
    rw [if_pos (by omega), if_pos (by omega)]; simp
  unfold atI; rw [e]; exact h
/-- what stands as an index of a plain subscript -/
def PlainIx (b : Expr) : Prop := ∀ o i, subscripted b false o i = operate [o, i] (getItem o i)
/-- a subscript by values -/
def IxR (X : Cx) (r : R2) : Prop :=
  ∀ (value slice : Expr) (pins : List (Addr × Obj)) (s : Shared) (σ : St) (H : Hp) (x y : V) (v u : Value) (Q : VK), Inv X pins σ H s → RelV x v → RelV y u → r x y H Q →
    subscripted slice false v u = operate [v, u] (getItem v u) → wpAny (model X.prog X.w) X.A (subscriptTail value slice v u) (EP X pins σ Q) X.xe s
/-- a call of a builtin's method by values: the receiver, the arguments -/
def MtR (X : Cx) (id : String) (r : V → List V → Hp → VK → Prop) : Prop :=
  ∀ (pins : List (Addr × Obj)) (s : Shared) (σ : St) (H : Hp) (x : V) (xs : List V) (v : Value) (us : List Value) (Q : VK), Inv X pins σ H s → RelV x v → Vals xs us → r x xs H Q →
    wpAny (model X.prog X.w) X.A (call (.builtin id) (v :: us)) (EP X pins σ Q) X.xe s
section
variable {X : Cx} {a b : Expr} {ta tb : TE} {pos : Pos}
/-- a[b] -/
theorem pe_ix {r : R2} (hr : IxR X r) (ha : PE X a ta) (hb : PE X b tb) (hs : PlainIx b) : PE X (.Subscript a b pos) (tOp r ta tb) := by
  intro pins s σ H Q I h
  exact Subscript_ (binT ha hb I h fun v u s2 x y H2 I2 rx ry q => hr a b pins s2 σ H2 x y v u Q I2 rx ry q (hs _ _))

def rIxL (K : PySem.W.Frag) : R2 := fun x y H Q => ∃ p xs i v, x = .ref p ∧ y = .int i ∧ SqL K H p xs ∧ atI xs i = some v ∧ Q v H
def rIxT (K : PySem.W.Frag) : R2 := fun x y H Q => ∃ p xs i v, x = .ref p ∧ y = .int i ∧ SqT K H p xs ∧ atI xs i = some v ∧ Q v H
def rIxS : R2 := fun x y H Q => ∃ z i c, x = .str z ∧ y = .int i ∧ z.length ≤ sizeLine ∧ atI z.cps.toList i = some c ∧ Q (.str ⟨#[c]⟩) H
theorem ix_list : IxR X (rIxL X.K) := by
  intro value slice pins s σ H x y v u Q I rx ry h hs
  obtain ⟨p, xs, i, z, rfl, rfl, hq, he, q⟩ := h
  cases rx
  obtain ⟨t, rfl⟩ := ry
  obtain ⟨its, r, pl, hz⟩ := I.list hq
  obtain ⟨j, h1, h2, h3, h4, h5⟩ := atI_get he
  obtain ⟨w, ew, rw'⟩ := r.get h2
  have hl := r.length
  have hn := line63
  have fin : EP X pins σ Q w s := ⟨z, H, I, rw', q⟩
  by_cases h0 : 0 ≤ i
  · have hj : i.toNat = j := by
      rw [seqIndex_of h0 h5] at h1
      exact Option.some.inj h1
    exact item_listR pl.isList h0 (by omega) (by rw [hj]; simpa using ew) fin hs
  · have hj : (i + (its.toArray.size : Int)).toNat = j := by
      rw [seqIndex_neg (by omega) h4] at h1
      rw [List.size_toArray, ← hl]
      exact Option.some.inj h1
    exact subscriptTail_builtinR (x := w) pl.isList.typeIs slot_list_getitem.lookup
      (wpAny_getItem_list_neg (Q := fun r s' => r = w ∧ EP X pins σ Q r s') pl.isList (by omega) (by rw [List.size_toArray] <;> omega) (by omega) (by rw [hj]; simpa using ew) ⟨rfl, fin⟩) hs
theorem ix_tup : IxR X (rIxT X.K) := by
  intro value slice pins s σ H x y v u Q I rx ry h hs
  obtain ⟨p, xs, i, z, rfl, rfl, hq, he, q⟩ := h
  cases rx
  obtain ⟨t, rfl⟩ := ry
  obtain ⟨its, r, pl, hz⟩ := I.tuple hq
  obtain ⟨j, h1, h2, h3, h4, h5⟩ := atI_get he
  obtain ⟨w, ew, rw'⟩ := r.get h2
  have hl := r.length
  have hn := line63
  have fin : EP X pins σ Q w s := ⟨z, H, I, rw', q⟩
  exact subscriptTail_builtinR (x := w) pl.typeIs slot_tuple_getitem.lookup
    (getItem_tuple (j := j) (Q := fun r s' => r = w ∧ EP X pins σ Q r s') pl (by omega) (by omega) (by rw [List.size_toArray, ← hl]; exact h1) (by simpa using ew) ⟨rfl, fin⟩) hs
theorem ix_str : IxR X rIxS := by
  intro value slice pins s σ H x y v u Q I rx ry h hs
  obtain ⟨z, i, c, rfl, rfl, hz, he, q⟩ := h
  obtain ⟨t, rfl⟩ := rx
  obtain ⟨t', rfl⟩ := ry
  obtain ⟨j, h1, h2, h3, h4, h5⟩ := atI_get he
  have hl : z.cps.toList.length = z.length := by simp [Str.length]
  rw [hl] at h1 h4 h5
  have hn := line63
  exact tail_any (typeIs_str s z t) slot_str_getitem.lookup (getItem_str (c := c) (by
    have e1 : decide (i < -(2 ^ 63 : Int)) = false := decide_eq_false (by omega)
    have e2 : decide (i ≥ 2 ^ 63) = false := decide_eq_false (by omega)
    rw [e1, e2, Bool.or_false]) (by rw [h1]; simpa using h2) ⟨.str ⟨#[c]⟩, H, I.tok _, ⟨_, rfl⟩, q⟩) hs
theorem Inv.lst {pins : List (Addr × Obj)} {σ : St} {H : Hp} {s : Shared} {p : Addr} {xs : List V} (I : Inv X pins σ H s) (h : H p = some (.lst xs)) :
    ∃ (its : List Value) (n : Nat), Vals xs its ∧ s.heap.get? p = some { cls := .type "list", data := .seq its.toArray n } ∧ xs.length ≤ sizeLine := by
  obtain ⟨z, its, n, r, e⟩ := I.hok p _ h
  exact ⟨its, n, r, e, z⟩
/-- xs[lo:hi] of a list: a new list -/
def rSlL (K : PySem.W.Frag) : V → Option Int → Option Int → Hp → VK → Prop := fun x lo hi H Q => ∃ a xs, x = .ref a ∧ SqL K H a xs ∧ ∀ p, H p = none → Q (.ref p) (upd H p (.lst (cutV xs lo hi)))
def flatV : V → Bool
  | .non => true
  | .bl _ => true
  | .int _ => true
  | .str _ => true
  | _ => false
/-- == of flat values -/
def eqV : V → V → Bool
  | .non, .non => true
  | .bl a, .bl b => a == b
  | .bl a, .int b => (if a then 1 else 0) == b
  | .int a, .bl b => a == (if b then 1 else 0)
  | .int a, .int b => a == b
  | .str a, .str b => a == b
  | _, _ => false
theorem eqAt_V {A : Around} {s : Shared} {y x : V} {u v : Value} (ry : RelV y u) (rx : RelV x v) (fy : flatV y = true) (fx : flatV x = true) : SeqAt.EqAt A s u v (eqV y x) := by
  cases y with
  | non =>
    cases ry
    cases x with
    | non => cases rx; exact SeqAt.EqAt.same _
    | bl b => cases rx; exact SeqAt.EqAt.none_bool b
    | int b => obtain ⟨t, rfl⟩ := rx; exact SeqAt.EqAt.none_int b t
    | str b => obtain ⟨t, rfl⟩ := rx; exact SeqAt.EqAt.none_str b t
    | _ => exact absurd (show false = true from fx) Bool.false_ne_true
  | bl a =>
    cases ry
    cases x with
    | non => cases rx; exact SeqAt.EqAt.bool_none a
    | bl b => cases rx; exact SeqAt.EqAt.bool_bool a b
    | int b => obtain ⟨t, rfl⟩ := rx; exact SeqAt.EqAt.bool_int a b t
    | str b => obtain ⟨t, rfl⟩ := rx; exact SeqAt.EqAt.bool_str a b t
    | _ => exact absurd (show false = true from fx) Bool.false_ne_true
  | int a =>
    obtain ⟨t', rfl⟩ := ry
    cases x with
    | non => cases rx; exact SeqAt.EqAt.int_none a t'
    | bl b => cases rx; exact SeqAt.EqAt.int_bool a t' b
    | int b => obtain ⟨t, rfl⟩ := rx; exact SeqAt.EqAt.int_int a t' b t
    | str b => obtain ⟨t, rfl⟩ := rx; exact SeqAt.EqAt.int_str a t' b t
    | _ => exact absurd (show false = true from fx) Bool.false_ne_true
  | str a =>
    obtain ⟨t', rfl⟩ := ry
    cases x with
    | non => cases rx; exact SeqAt.EqAt.str_none a t'
    | bl b => cases rx; exact SeqAt.EqAt.str_bool a t' b
    | int b => obtain ⟨t, rfl⟩ := rx; exact SeqAt.EqAt.str_int a t' b t
    | str b => obtain ⟨t, rfl⟩ := rx; exact SeqAt.EqAt.str_str a t' b t
    | _ => exact absurd (show false = true from fx) Bool.false_ne_true
  | _ => exact absurd (show false = true from fy) Bool.false_ne_true
def inV (x : V) (xs : List V) : Bool := xs.any fun y => eqV y x
/-- x in a list or tuple of flat items -/
def rIn (K : PySem.W.Frag) (neg : Bool) : R2 := fun x y H Q => ∃ p xs, y = .ref p ∧ (SqL K H p xs ∨ SqT K H p xs) ∧ flatV x = true ∧ xs.all flatV = true ∧ Q (.bl (if neg then !inV x xs else inV x xs)) H
theorem call_len_seq : CallR X (.builtin "len") (fun xs H Q => ∃ p ys, xs = [.ref p] ∧ (SqL X.K H p ys ∨ SqT X.K H p ys) ∧ Q (.int ys.length) H) := by
  intro pins s σ H xs us Q I r h
  obtain ⟨p, ys, rfl, hq, q⟩ := h
  obtain ⟨u, rfl, rx⟩ := vals1 r
  cases rx
  have hn := line63
  rcases hq with hq | hq
  · obtain ⟨its, r', pl, hz⟩ := I.list hq
    have hlen := r'.length
    exact Calls.call_len_list pl.isList (by simp only [List.size_toArray] <;> omega) ⟨.int ys.length, H, I.tok _, ⟨s.toks + 1, by rw [List.size_toArray, hlen]⟩, q⟩
  · obtain ⟨its, r', pl, hz⟩ := I.tuple hq
    have hlen := r'.length
    exact len_tuple pl (by simp only [List.size_toArray] <;> omega) ⟨.int ys.length, H, I.tok _, ⟨s.toks + 1, by rw [List.size_toArray, hlen]⟩, q⟩
theorem call_tuple_of : CallR X (.type "tuple") (fun xs H Q => ∃ p ys, xs = [.ref p] ∧ ((SqL X.K H p ys ∧ ∀ l, H l = none → Q (.ref l) (upd H l (.tup ys))) ∨ (SqT X.K H p ys ∧ Q (.ref p) H))) := by
  intro pins s σ H xs us Q I r h
  obtain ⟨p, ys, rfl, h⟩ := h
  obtain ⟨u, rfl, rx⟩ := vals1 r
  cases rx
  rcases h with ⟨hq, q⟩ | ⟨hq, q⟩
  · obtain ⟨its, r', pl, hz⟩ := I.list hq
    have hlen := r'.length
    refine call_tuple_list pl.isList (fun h' kp => ?_) (by simp only [List.size_toArray] <;> omega)
    have I1 : Inv X pins σ H { s with heap := h' } := I.kept (t' := s.toks) kp
    have I2 : Inv X pins σ (upd H h'.objs.size (.tup ys)) { s with heap := h'.push { cls := .type "tuple", data := .seq its.toArray } } :=
      I1.laid (t' := s.toks) (fun b o e => Heap.get?_push_of_some _ e) (Nat.le_refl _) (show ObjOk X.prog X.w _ _ _ (.tup ys) from ⟨hz, its, r', IsTup.new _ _⟩)
    exact ⟨.ref h'.objs.size, _, I2, rfl, q _ (I1.hok.fresh (Nat.le_refl _))⟩
  · obtain ⟨its, r', pl, hz⟩ := I.tuple hq
    exact call_tuple_same pl ⟨.ref p, H, I, rfl, q⟩

/-- the value is of that builtin type -/
def tyV (K : PySem.W.Frag) (T : String) (x : V) (H : Hp) : Prop := match x with
  | .str _ => T = "str"
  | .int _ => T = "int"
  | .ref p => (T = "list" ∧ ∃ xs, SqL K H p xs) ∨ (T = "tuple" ∧ ∃ o, K.lookup p = some o ∧ o.cls = .type "tuple" ∧ o.dict = none) ∨
      (T = "dict" ∧ ((∃ kvs, H p = some (.dK kvs)) ∨ ∃ kvs, H p = some (.dT kvs))) ∨ (T = "set" ∧ ∃ S n, H p = some (.set S n))
  | _ => False
theorem tyV_is {pins : List (Addr × Obj)} {σ : St} {H : Hp} {s : Shared} {T : String} {x : V} {v : Value} (I : Inv X pins σ H s) (r : RelV x v) (ty : tyV X.K T x H) :
    s.TypeIs v T ∧ ∀ a, v = .ref a → ∃ ob, s.heap.get? a = some ob ∧ ob.dict = none := by
  cases x with
  | str z =>
    obtain ⟨t, rfl⟩ := r
    cases (show T = "str" from ty)
    exact ⟨typeIs_str s z t, fun _ e => nomatch e⟩
  | int i =>
    obtain ⟨t, rfl⟩ := r
    cases (show T = "int" from ty)
    exact ⟨typeIs_int s i t, fun _ e => nomatch e⟩
  | ref p =>
    cases r
    rcases ty with ⟨rfl, xs, hq⟩ | ⟨rfl, o, hk, hc, hd⟩ | ⟨rfl, hk⟩ | ⟨rfl, S, n, hk⟩
    · obtain ⟨its, _, pl, _⟩ := I.list hq
      refine ⟨pl.isList.typeIs, fun a e => ?_⟩
      cases e
      obtain ⟨o, n, e, c, hd, _⟩ := pl
      exact ⟨o, e, hd⟩
    · refine ⟨⟨o, I.kIn p o hk, hc⟩, fun a e => ?_⟩
      cases e
      exact ⟨o, I.kIn _ o hk, hd⟩
    · have z : ∃ o, s.heap.get? p = some o ∧ o.ExactDict := by
        rcases hk with ⟨kvs, hk⟩ | ⟨kvs, hk⟩
        · obtain ⟨_, _, _, _, o, _, _, e, ex, _⟩ := I.hok p _ hk
          exact ⟨o, e, ex⟩
        · obtain ⟨_, _, _, _, o, _, _, e, ex, _⟩ := I.hok p _ hk
          exact ⟨o, e, ex⟩
      obtain ⟨o, e, ex⟩ := z
      refine ⟨⟨o, e, ex.1⟩, fun a e2 => ?_⟩
      cases e2
      exact ⟨o, e, ex.2.1⟩
    · obtain ⟨o, _, _, _, e, ex, _⟩ := I.hok p _ hk
      refine ⟨⟨o, e, ex.1⟩, fun a e2 => ?_⟩
      cases e2
      exact ⟨o, e, ex.2.1⟩
  | _ => exact False.elim ty
def tBM0 (K : PySem.W.Frag) (T : String) (r : V → List V → Hp → VK → Prop) (to : TE) : TE := fun σ H Q => to σ H fun x H1 => tyV K T x H1 ∧ r x [] H1 Q
def tBM (K : PySem.W.Frag) (T : String) (r : V → List V → Hp → VK → Prop) (to : TE) (t : TA) : TE := fun σ H Q => to σ H fun x H1 => tyV K T x H1 ∧ t σ H1 fun xs H2 => r x xs H2 Q
variable {o e : Expr} {es : List Expr} {to : TE} {t : TA} {name : Str} {apos cpos : Pos} {T id : String} {r : V → List V → Hp → VK → Prop}
theorem pe_bm0 (pa : PlainAttrs T) (slot : Slot T name id) (hty : typeOf (.builtin id) = pure (.type "method_descriptor")) (hm : MtR X id r) (ho : PE X o to)
    (hbase : attributeBase o name X.env (eval o X.env) = eval o X.env := by rfl) (hline : (apos.endLine == cpos.line) = true := by rfl) : PE X (.Call (.Attribute o name apos) [] [] cpos) (tBM0 X.K T r to) := by
  intro pins s σ H Q I h
  refine wpAny_Call_method0_late hbase hline (thn (ho pins s σ H _ I h) fun v s1 ⟨x, H1, I1, r1, ty, q1⟩ => ?_)
  obtain ⟨h1, h2⟩ := tyV_is I1 r1 ty
  exact ⟨T, id, pa, slot, hty, h1, h2, Calls.callWith_builtin rfl (PySem.evalArgs_none (hm pins s1 σ H1 x [] v [] Q I1 r1 .nil q1))⟩
theorem pe_bm (pa : PlainAttrs T) (slot : Slot T name id) (hty : typeOf (.builtin id) = pure (.type "method_descriptor")) (hm : MtR X id r) (ho : PE X o to) (ha : PA X (e :: es) t)
    (hbase : attributeBase o name X.env (eval o X.env) = eval o X.env := by rfl)
    (hfew : ((backTo cpos (starEach (e :: es) X.env)).all (fun x => !x.1) && (backToKw cpos (keywordEach [] X.env)).all (fun x => x.1.isSome)
      && decide ((e :: es).length + ([] : List Keyword).length + (if ([] : List Keyword).isEmpty then 0 else 1) < 30)) = true := by rfl)
    (hline : (apos.endLine == cpos.line) = true := by rfl) (hs : starEach (e :: es) X.env = (false, eval e X.env) :: starEach es X.env := by rfl) (hplain : (backTo cpos (starEach es X.env)).any (·.1) = false := by rfl) :
    PE X (.Call (.Attribute o name apos) (e :: es) [] cpos) (tBM X.K T r to t) := by
  intro pins s σ H Q I h
  refine wpAny_Call_method_late hbase hfew hline rfl (thn (ho pins s σ H _ I h) fun v s1 ⟨x, H1, I1, r1, ty, q1⟩ => ?_)
  obtain ⟨h1, h2⟩ := tyV_is I1 r1 ty
  refine ⟨T, id, pa, slot, hty, h1, h2, ?_⟩
  have hA := ha cpos pins s1 σ H1 _ I1 q1
  rw [hs] at hA ⊢
  refine Calls.callWith_builtin (by show (false || (backTo cpos (starEach es X.env)).any (·.1)) = false; rw [hplain] <;> rfl) (Calls.evalArgs_plain ?_)
  exact thn hA fun us s2 ⟨vs, H2, I2, r2, q2⟩ => hm pins s2 σ H2 x vs v us Q I2 r1 r2 q2
end
end L2

namespace L2
open PySem PySem.Spec PyProof.Rows

def MtM (X : Cx) (id : String) (r : V → List V → Hp → VK → Prop) : Prop :=
  ∀ (pins : List (Addr × Obj)) (s : Shared) (σ : St) (H : Hp) (x : V) (xs : List V) (v : Value) (us : List Value) (Q : VK), Inv X pins σ H s → RelV x v → Vals xs us → r x xs H Q →
    wpAny (model X.prog X.w) X.A (call (.builtin id) (v :: us)) (EP X pins σ Q) X.xe s

theorem Vals.one : ∀ {x : V} {us : List Value}, Vals [x] us → ∃ u, us = [u] ∧ RelV x u
  | _, _, .cons r .nil => ⟨_, rfl, r⟩
theorem Vals.two : ∀ {x y : V} {us : List Value}, Vals [x, y] us → ∃ u v, us = [u, v] ∧ RelV x u ∧ RelV y v
  | _, _, _, .cons r (.cons q .nil) => ⟨_, _, rfl, r, q⟩
theorem Vals.zero : ∀ {us : List Value}, Vals [] us → us = []
  | _, .nil => rfl
theorem Vals.dropLast {xs : List V} {us : List Value} (h : Vals xs us) : Vals xs.dropLast us.dropLast := by
  induction h with
  | nil => exact .nil
  | cons r t ih =>
    cases t with
    | nil => exact .nil
    | cons q t' => exact .cons r ih
theorem Vals.eraseIdx : ∀ {xs : List V} {us : List Value} (i : Nat), Vals xs us → Vals (xs.eraseIdx i) (us.eraseIdx i)
  | _, _, _, .nil => .nil
  | _, _, 0, .cons _ t => t
  | _, _, i + 1, .cons r t => .cons r (Vals.eraseIdx i t)
theorem Vals.rep {xs : List V} {us : List Value} (h : Vals xs us) : ∀ k : Nat, Vals (List.replicate k xs).flatten (List.replicate k us).flatten
  | 0 => .nil
  | k + 1 => by
    rw [List.replicate_succ, List.replicate_succ, List.flatten_cons, List.flatten_cons]
    exact Vals.append h (Vals.rep h k)
section
variable {X : Cx} {pins : List (Addr × Obj)} {σ : St} {H : Hp} {s : Shared} {l b : Addr} {xs ys zs : List V}

theorem Inv.lset {its its' : List Value} {n : Nat} {f : Array Value → Array Value} {t' : Nat} (I : Inv X pins σ H s) (hH : H l = some (.lst xs))
    (e : s.heap.get? l = some { cls := .type "list", data := .seq its.toArray n }) (hf : f its.toArray = its'.toArray) (hv : Vals ys its') (hz : ys.length ≤ sizeLine) :
    Inv X pins σ (upd H l (.lst ys)) { s with heap := s.heap.update l (Obj.mapSeq f), toks := t' } := by
  have q := PySem.IsL.update e f
  rw [hf] at q
  refine I.write (x := l) (e := l) (by rw [hH]; exact trivial) (.inl rfl) (fun b' u hb hu => (Heap.get?_update_other s.heap (Obj.mapSeq f) (Ne.symm hb)).trans hu) ⟨_, q⟩ ?_
  exact ⟨hz, its', _, hv, q⟩
theorem Inv.lnew {its : List Value} {t' : Nat} (I : Inv X pins σ H s) (hv : Vals ys its) (hz : ys.length ≤ sizeLine) :
    Inv X pins σ (upd H s.heap.objs.size (.lst ys)) { s with heap := s.heap.push { cls := .type "list", data := .seq its.toArray }, toks := t' } :=
  I.laid (fun _ _ q => Heap.get?_push_of_some _ q) (Nat.le_refl _) ⟨hz, its, 0, hv, Heap.get?_push_size _ rfl⟩
theorem Inv.fresh (I : Inv X pins σ H s) : H s.heap.objs.size = none := I.hok.fresh (Nat.le_refl _)
theorem Inv.lstM (I : Inv X pins σ H s) (hH : H l = some (.lst xs)) : xs.length ≤ sizeLine ∧ ∃ (its : List Value) (n : Nat), Vals xs its ∧ xs.length = its.length ∧ s.heap.get? l = some { cls := .type "list", data := .seq its.toArray n } := by
  obtain ⟨z, its, n, r, e⟩ := I.hok l _ hH
  exact ⟨z, its, n, r, r.length, e⟩

end

section
variable {X : Cx}

def rAppend : V → List V → Hp → VK → Prop := fun x vs H Q => ∃ l xs y, x = .ref l ∧ vs = [y] ∧ H l = some (.lst xs) ∧ xs.length < sizeLine ∧ Q .non (upd H l (.lst (xs ++ [y])))
theorem mt_append : MtM X "list.append" rAppend := by
  intro pins s σ H x vs v us Q I rx rv h
  obtain ⟨l, xs, y, rfl, rfl, hH, hz, q⟩ := h
  cases rx
  obtain ⟨u, rfl, ru⟩ := rv.one
  obtain ⟨z, its, n, r, hl, e⟩ := I.lstM hH
  refine call_meets F.slot_list_append ⟨_, e, rfl⟩ F.entry_list_append (F.args_list_append_2 _ _) (PySem.list_append l its.toArray n u (by rw [List.size_toArray]; omega)) ⟨e, ?_⟩
  refine ⟨.non, _, I.lset (its' := its ++ [u]) hH e (by simp) (r.append (.cons ru .nil)) ?_, rfl, q⟩
  rw [List.length_append, List.length_singleton]
  omega

def rClear : V → List V → Hp → VK → Prop := fun x vs H Q => ∃ l xs, x = .ref l ∧ vs = [] ∧ H l = some (.lst xs) ∧ Q .non (upd H l (.lst []))
theorem mt_clear : MtM X "list.clear" rClear := by
  intro pins s σ H x vs v us Q I rx rv h
  obtain ⟨l, xs, rfl, rfl, hH, q⟩ := h
  cases rx
  have hus := rv.zero
  subst hus
  obtain ⟨z, its, n, r, hl, e⟩ := I.lstM hH
  refine call_meets F.slot_list_clear ⟨_, e, rfl⟩ F.entry_list_clear (F.args_list_clear_1 _) (AutoSeq1.list_clear_list_0 l its.toArray n (by rw [List.size_toArray]; omega)) ⟨e, ?_⟩
  exact ⟨.non, _, I.lset (its' := []) (ys := []) hH e rfl .nil (Nat.zero_le _), rfl, q⟩

def rCat : R2 := fun x y H Q => ∃ l b xs zs, x = .ref l ∧ y = .ref b ∧ H l = some (.lst xs) ∧ H b = some (.lst zs) ∧ xs.length + zs.length ≤ sizeLine ∧ ∀ p, H p = none → Q (.ref p) (upd H p (.lst (xs ++ zs)))
end

section
variable {prog : Program} {w : World} {A : Around} {E : Value → Shared → Prop} {s : Shared}
end

section
variable {X : Cx}
end
end L2

namespace Att
open PySem PySem.W PySem.Calls PyProof.Rows

theorem ints_of_wellAll {P : Params} {h : Heap} : ∀ (ns : List Int) (vs : List Value), WellAll P h vs (ns.map WData.int) → IntsAre vs ns := by
  intro ns
  induction ns with
  | nil =>
    intro vs w
    rw [List.map_nil] at w
    cases w
    exact .nil
  | cons n ns ih =>
    intro vs w
    rw [List.map_cons] at w
    cases w with
    | cons a b =>
      cases a
      exact .cons _ _ (ih _ b)

theorem script_of {l : OpenLaw} {n : Nat} (hn : l.most = some n) {P : Params} {h : Heap} {args : List WData} {vals : List Value}
    (hpre : l.row.toRowW.claim.pre args = true) (hwl : WellAll P h vals args) :
    ∃ a vs ns, vals = [Value.ref a] ∧ args = [WData.list (ns.map WData.int)] ∧ h.get? a = some { cls := .type "list", data := .seq vs.toArray } ∧ IntsAre vs ns ∧ ns.length ≤ n := by
  have hsh : WShape.hasAll [] args [.list .int] = true := (pre_splitW hpre).1
  have hc : l.pre.holds [] { args := args } = true := (pre_splitW hpre).2
  obtain ⟨d, r, rfl, h1, h2⟩ := hasAllW_cons hsh
  obtain rfl := hasAllW_nil h2
  obtain ⟨xs, rfl, h3⟩ := hasW_list h1
  obtain ⟨ns, rfl⟩ := items_int h3
  have hlen : ns.length ≤ n := by
    unfold OpenLaw.pre at hc
    have h4 : (WTm.not (.lt (.lit (.int (n : Int))) (.len (.arg 0)))).holds [] { args := [.list (ns.map .int)] } = true := by
      have h4 := (holds_andW hc).1
      rw [hn] at h4
      exact h4
    have h5 := condW_of h4 (w_not (w_lt w_lit (w_len_list (w_arg rfl))))
    rw [List.length_map] at h5
    refine Nat.le_of_not_lt fun q => ?_
    have q' : (n : Int) < ((ns.length : Nat) : Int) := by omega
    first
      | (rw [decide_eq_true q'] at h5; exact absurd h5 (by decide))
      | (simp at h5; omega)
  cases hwl with
  | cons w1 w2 =>
    cases w2
    cases w1 with
    | list ho hall => exact ⟨_, _, ns, rfl, rfl, ho, ints_of_wellAll ns _ hall, hlen⟩

theorem post_true (l : OpenLaw) (args : List WData) : l.row.toRowW.claim.post args (.bool true) args = true :=
  postW_of (r := l.row.toRowW) (X := (true == true))
    (show WShape.has [] (.bool true) .bool = true by first | rfl | decide | simp [WShape.has, WShape.arms, WShape.armsAll])
    (show (WTm.eq .res (.lit (.bool true))).value [] { args := args, res := some (.bool true), after := args } = some (.bool (true == true)) from w_eq_bool (w_res rfl) w_lit) rfl

section
variable {prog : Program} {w : World} {A : Around} {E : Value → Shared → Prop} {s : Shared} {K : Frag}

end
end Att

namespace L2
open PySem PySem.Spec PyProof.Rows

theorem vals_ints : ∀ {vs : List Value} {ns : List Int}, IntsAre vs ns → Vals (ns.map V.int) vs
  | _, _, .nil => .nil
  | _, _, .cons n t h => .cons ⟨t, rfl⟩ (vals_ints h)

/-- nothing is tracked but the script, known to the object (or it is an object of the module) -/
def Only (H : Hp) : Prop := ∀ b, H b = none ∨ ∃ o xs, H b = some (.frz o (.lst xs))

/-- THE HEAD: the law's promise, at the heap behind the top. F, the promise of the law's def, may use that base is part of the heap (so K.In base, base.Ns mainGlobals mg stand in Mod) -/
theorem law_call {P : Program} {w : World} {K : PySem.W.Frag} {mg mb : Str → Option Value} {CX : CXT} {k : Nat} {fa a : Addr} {fd : FuncData} {x : Str} {sp : Sp} {s₁ : Shared} {vs : List Value} {ns : List Int}
    (KX : K.In s₁.heap) (hns : s₁.heap.Ns mainGlobals mg) (hb : s₁.heap.Ns builtinsNs mb) (hbb : ∀ x : Str, x ≠ "__name__" → mb x = bootBuiltins x) (hlim : s₁.heap.NoLimit) (hg : s₁.gens = #[])
    (ha : s₁.heap.get? a = some { cls := .type "list", data := .seq vs.toArray }) (hi : IntsAre vs ns) (hl : ns.length ≤ sizeLine) (hr : Room k callerA)
    (F : ∀ base : Heap, K.In base → base.Ns mainGlobals mg → FnOk P w K mg base CX k fa fd [x] sp) (hbind : ∀ (s : Shared) (u : Value), BindsTo s fd ⟨[u], []⟩ [(x, u)])
    (hsp : ∀ H : Hp, Only H → SqL K H a (ns.map V.int) → sp [.ref a] H (fun v _ => v = .bl true) fun _ _ _ => False)
    (hCX : ∀ H e s', CX [] H s₁ (fun _ _ _ => False) e s' → False) :
    codeAny (model P w) callerA (.call (.ref fa) ⟨[.ref a], []⟩) (fun r s' => r = .ok (.ret (.bool true)) ∧ OldK s₁.heap s'.heap ∧ s'.os = s₁.os ∧ AllBare s'.gens) s₁ := by
  have rv := vals_ints hi
  have lenV := hi.length
  -- from an abstract heap in which nothing but the script may be tracked
  have core : ∀ H : Hp, Only H → SqL K H a (ns.map V.int) → HOk P w H s₁.heap → (∀ b, H b ≠ none → b = a) → (H a ≠ none → K.lookup a = none) →
      codeAny (model P w) callerA (.call (.ref fa) ⟨[.ref a], []⟩) (fun r s' => r = .ok (.ret (.bool true)) ∧ OldK s₁.heap s'.heap ∧ s'.os = s₁.os ∧ AllBare s'.gens) s₁ := by
    intro H hO hS hok hA hK
    have base_of : ∀ {b : Addr} {o : Obj}, s₁.heap.get? b = some o → H b = none → (hidT s₁.heap H).get? b = some o := fun e n => hidT_get e n
    have noA : ∀ {b : Addr} {o : Obj} {es : Array DictEntry} {ep : Nat}, s₁.heap.get? b = some o → o.data = .dict es ep → H b = none := fun {b o es ep} e d => by
      cases q : H b with
      | none => rfl
      | some u =>
        have e' : b = a := hA b (by rw [q]; simp)
        subst e'
        rw [ha] at e; cases e
        have d' : Data.seq vs.toArray _ = Data.dict es ep := d
        cases d'
    have nsK : ∀ {b : Addr} {m : Str → Option Value}, s₁.heap.Ns b m → (hidT s₁.heap H).Ns b m := fun {b m} ⟨o, es, ep, e, d, r⟩ => ⟨o, es, ep, base_of e (noA e d), d, r⟩
    have hKb : K.In (hidT s₁.heap H) := fun b o e => base_of (KX b o e) (by
      cases q : H b with
      | none => rfl
      | some u =>
        have e' : b = a := hA b (by rw [q]; simp)
        subst e'
        rw [hK (by rw [q]; simp)] at e; cases e)
    have hM : Mod K mg (hidT s₁.heap H) := ⟨hKb, nsK hns, ⟨mb, nsK hb, hbb⟩, let ⟨mc, h1, h2⟩ := hlim; ⟨mc, nsK h1, h2⟩⟩
    have e0 : Env0 P w K mg (hidT s₁.heap H) callerA [] s₁ H := ⟨rfl, hM, fun b o e => of_hidT e, Nat.le_of_eq (hidT_size _ _), trivial, fun b hb => absurd (show b ∈ ([] : List Addr) from hb) (by simp), hok, .of_eq hg⟩
    refine codeAny_mono ((F _ hKb (nsK hns)).run callerA [] s₁ H ⟨[.ref a], []⟩ [.ref a] [.ref a] _ _ hr e0 (hbind s₁ (.ref a)) (.cons rfl .nil) (hsp H hO hS)) fun r s' h => ?_
    cases r with
    | error e => exact (hCX H e s' h).elim
    | ok fl =>
      cases fl with
      | next => exact False.elim h
      | brk => exact False.elim h
      | cont => exact False.elim h
      | ret u =>
        obtain ⟨v, H', os, bare, un, hok', r', q⟩ := h
        have q' : v = .bl true := q
        subst q'
        obtain rfl : u = Value.bool true := r'
        refine ⟨rfl, OldK.of_keep fun b o e => ?_, os, bare⟩
        cases q : H b with
        | none => exact un.keep b o e q (by intro z; exact absurd (show b ∈ ([] : List Addr) from z) (by simp)) (by simp)
        | some u =>
          rcases hO b with z | ⟨ob, xs, z⟩
          · rw [q] at z; cases z
          · have z2 := un.frzs b ob _ z
            obtain ⟨e1, _⟩ := hok b _ z
            obtain ⟨e2, _⟩ := hok' b _ z2
            rw [e] at e1; cases e1
            exact e2
  cases hk : K.lookup a with
  | some o =>
    -- the script is one of the module's own objects
    have e := KX a o hk
    rw [ha] at e
    cases e
    refine core (fun _ => none) (fun _ => .inl rfl) (.inr ⟨_, vs.toArray, _, hk, rfl, rfl, rfl, by rw [List.size_toArray, lenV]; exact hl, by simpa using rv⟩) (fun b u z => by have z' : (none : Option HO) = some u := z; cases z') (fun b z => absurd rfl z) fun z => absurd rfl z
  | none =>
    refine core (fun b => if b = a then some (.frz { cls := .type "list", data := .seq vs.toArray } (.lst (ns.map V.int))) else none) (fun b => ?_) (.inl (.inr ⟨{ cls := .type "list", data := .seq vs.toArray }, if_pos rfl⟩)) (fun b u z => ?_) (fun b z => ?_) fun _ => hk
    · by_cases hb : b = a
      · exact .inr ⟨_, _, if_pos hb⟩
      · exact .inl (if_neg hb)
    · by_cases hb : b = a
      · have z' := (if_pos hb).symm.trans z
        cases z'
        subst hb
        exact ⟨ha, by rw [List.length_map]; exact hl, vs, _, rv, ha⟩
      · have z' := (if_neg hb).symm.trans z
        cases z'
    · by_cases hb : b = a
      · exact hb
      · exact absurd (if_neg hb) z
end L2

namespace L2
open PySem PySem.Spec PyProof.Rows

end L2

namespace L2
open PySem PySem.Spec PyProof.Rows

def defArgs (s : Stmt) : Arguments := match s with
  | .FunctionDef _ a _ _ _ _ _ _ _ _ => a
  | _ => { posonlyargs := [], args := [], vararg := none, kwonlyargs := [], kw_defaults := [], kwarg := none, defaults := [] }
def defBody (s : Stmt) : List Stmt := match s with
  | .FunctionDef _ _ b _ _ _ _ _ _ _ => b
  | _ => []
def defScope (s : Stmt) : Scope := match s with
  | .FunctionDef _ _ _ _ _ _ sc _ _ _ => sc
  | _ => { kind := .function, names := [], isGenerator := false, isCoroutine := false }

abbrev CX0 : CXT := fun _ _ _ _ _ _ => False
abbrev E0 : XK := fun _ _ _ => False
theorem pass0 {X : Cx} : Passes CX0 X E0 := fun _ _ _ _ _ _ _ h => h.elim

structure Fun (K : PySem.W.Frag) (x qual : Str) (st : Stmt) (f : Addr) (fd : FuncData) : Prop where
  ex : ∃ (oc : Value) (od : Option Addr) (kV doc pm : Value) (an : Option Addr) (cdv ct : Value) (osl : Array (Option Value)),
    fd = PySem.W.fnOf x qual (defArgs st) (defBody st) (defScope st) .none kV doc pm an cdv ct ∧ K.lookup f = some ⟨oc, od, .func fd, osl⟩ ∧ PySem.W.codeIn K cdv qual = true
  kp : PySem.W.keepIn K (.ref f) = true
section
variable {P : Program} {w : World} {K : PySem.W.Frag} {mg : Str → Option Value} {base : Heap}
/-- THE RULE for a def: its body as a term of rules, and the reading of that term -/
theorem Fun.ok {x qual : Str} {st : Stmt} {f : Addr} {fd : FuncData} {N ps : List Str} {k : Nat} {sp : Sp} (F : Fun K x qual st f fd) (S : FnScope N ps (defScope st)) (len : ∀ vs H Q E, sp vs H Q E → vs.length = ps.length)
    (hbody : ∀ (cdv : Value) (A : Around) (outer : List Env) (s : Shared) (H : Hp) (vs : List V) (Q : VK) (E : XK), Room k (A.deeper (envOfC qual (defScope st) s.heap.objs.size f cdv)) → sp vs H Q E →
      ∃ t, PSs (cxOf CX0 P w K mg base N qual (defScope st) f cdv A outer s H E).nox (defBody st) t ∧ t { nx := fun _ H' => Q .non H', rt := Q } (start N vs) H) : FnOk P w K mg base CX0 (k + 1) f fd ps sp := by
  obtain ⟨oc, od, kV, doc, pm, an, cdv, ct, osl, rfl, lk, hcd⟩ := F.ex
  refine fn_of lk hcd S len fun A outer s H vs Q E hr hsp => ?_
  obtain ⟨t, h, q⟩ := hbody cdv A outer s H vs Q E hr hsp
  exact ⟨t, h.nox, q⟩
/-- how its arguments bind (no defaults): h is «fun _ _ _ _ _ _ us hl => match us, hl with | [_, _], _ => rfl», one _ a parameter -/
theorem Fun.binds {x qual : Str} {st : Stmt} {f : Addr} {fd : FuncData} {ps : List Str} (F : Fun K x qual st f fd)
    (h : ∀ (kV doc pm : Value) (an : Option Addr) (cdv ct : Value) (us : List Value), us.length = ps.length → bindArgs (PySem.W.fnOf x qual (defArgs st) (defBody st) (defScope st) .none kV doc pm an cdv ct) ⟨us, []⟩ = pure (ps.zip us)) : Binds K fd ps [] := by
  obtain ⟨oc, od, kV, doc, pm, an, cdv, ct, osl, rfl, lk, hcd⟩ := F.ex
  exact .all (h kV doc pm an cdv ct)
theorem fun_mk {x qual : Str} {st : Stmt} {f : Addr} {oc : Value} {od an : Option Addr} {osl : Array (Option Value)} {kV doc pm cdv ct : Value} (l : K.lookup f = some ⟨oc, od, .func (PySem.W.fnOf x qual (defArgs st) (defBody st) (defScope st) .none kV doc pm an cdv ct), osl⟩)
    (c : PySem.W.codeIn K cdv qual = true) (k : PySem.W.keepIn K (.ref f) = true) : Fun K x qual st f (PySem.W.fnOf x qual (defArgs st) (defBody st) (defScope st) .none kV doc pm an cdv ct) := ⟨⟨oc, od, kV, doc, pm, an, cdv, ct, osl, rfl, l, c⟩, k⟩
end
theorem small1000 {n : Nat} (h : n ≤ 1000) : n < sizeLine := Nat.lt_of_le_of_lt h (by decide)

section
variable {X : Cx}
theorem pv (i : Nat) {x : Str} {pos : Pos} (hN : X.N[i]? = some x := by rfl) (hv : Vis X.env.scope x := by first | exact Or.inl rfl | exact Or.inr (Or.inl rfl) | exact Or.inr (Or.inr rfl)) (hd : (x == ("__debug__" : Str)) = false := by decide)
    (hcd : (x == ("__classdict__" : Str)) = false := by decide) : PE X (.Name x pos) (tVar i) := pe_var hN hv hd hcd
end

theorem ite2 {c A B : Prop} [Decidable c] (h1 : c → A) (h2 : ¬ c → B) : if c then A else B := by
  by_cases h : c
  · rw [if_pos h]
    exact h1 h
  · rw [if_neg h]
    exact h2 h
/-- all that was tracked is as it was -/
def Same (H H' : Hp) : Prop := ∀ b o, H b = some o → H' b = some o
theorem Same.refl (H : Hp) : Same H H := fun _ _ h => h
theorem Same.trans {H H1 H2 : Hp} (a : Same H H1) (b : Same H1 H2) : Same H H2 := fun c o h => b c o (a c o h)
theorem Same.free {H H' : Hp} (e : Same H H') {l : Addr} (h : H' l = Option.none) : H l = Option.none := by
  cases q : H l with
  | none => rfl
  | some o =>
    rw [e l o q] at h
    cases h
theorem Same.seq {K : PySem.W.Frag} {H H' : Hp} {a : Addr} {xs : List V} (e : Same H H') (h : SqL K H a xs) : SqL K H' a xs := by
  rcases h with (h | ⟨o, h⟩) | h
  · exact .inl (.inl (e _ _ h))
  · exact .inl (.inr ⟨o, e _ _ h⟩)
  · exact .inr h

end L2


end
section
set_option Elab.async false
set_option linter.all false
set_option maxRecDepth 100000
namespace L2
open PySem PySem.Spec PyProof.Rows

end L2

namespace L2
open PySem PySem.Spec PyProof.Rows

section
variable (P : Program) (w : World)
end

section
variable {P : Program} {w : World} {H H' : Hp} {h h' : Heap} {a : Addr} {o : HO}
end

section
variable {P : Program} {w : World} {H : Hp} {h h' : Heap} {x e : Addr} {o' : HO}
end

section
variable {fs fs' ex ex' : List Addr} {H H1 H2 : Hp} {h h1 h2 h' : Heap} {a x e : Addr} {o : HO}
end

end L2

namespace L2
open PySem PySem.Spec PyProof.Rows

section
variable {X : Cx} {pins : List (Addr × Obj)} {σ : List (Option V)} {H H' : Hp} {s : Shared} {h' : Heap}

end

end L2

namespace L2
open PySem PySem.Spec PyProof.Rows
section
variable {X : Cx}

variable {a b : Expr} {ta tb : TE} {pos : Pos}
variable {tA tB' : TT} {rest : List Expr}
end
end L2

namespace L2
open PySem PySem.Spec PyProof.Rows

section
variable {X : Cx} {pins : List (Addr × Obj)} {σ : St} {H : Hp} {s : Shared} {a : Addr} {xs ys : List V}
end

section
variable {X : Cx} {pins : List (Addr × Obj)} {σ : St} {H : Hp} {s : Shared} {E : Value → Shared → Prop}
end

section
variable {X : Cx} {st : Stmt} {rest : List Stmt} {t u : TS} {e : Expr} {te : TE} {pos : Pos}
end

section
variable {X : Cx} {pos : Pos}
end

section
variable {X : Cx} {pos : Pos}
end

end L2

namespace L2
open PySem PySem.Spec PyProof.Rows
section
variable {X : Cx} {tg : Expr}
end

end L2

namespace L2
open PySem PySem.Spec PyProof.Rows

section
variable {X : Cx} {a b c : Expr} {ta tb tc : TE} {pos : Pos}

end

section
variable {X : Cx} {a b c : Expr} {ta tb tc : TE} {pos : Pos}
end
end L2

namespace L2
open PySem PySem.Spec PyProof.Rows

section
variable {prog : Program} {w : World} {A : Around} {E : Value → Shared → Prop} {s : Shared} {K : PySem.W.Frag} {x dx C f : Addr} {mA : Str → Option Value} {name : Str} {v : Value}

end

section
variable {P : Program} {w : World} {H H' : Hp} {h h' : Heap} {a C dx : Addr} {fs fs' : List (Str × V)}
end

section
variable {X : Cx} {pins : List (Addr × Obj)} {σ : St} {H : Hp} {s : Shared} {a C dx : Addr} {fs : List (Str × V)} {f : Str} {v : V} {A : Around} {E : Value → Shared → Prop}

end

section
variable {X : Cx} {o e value : Expr} {f : Str} {pos pos' tpos : Pos} {ta tv : TE}
end

section
variable {X : Cx} {pins : List (Addr × Obj)} {σ : St} {H : Hp} {s : Shared} {A : Around} {E : Value → Shared → Prop} {Q : Value → Shared → Prop} {c : Value} {b : Bool}
end
end L2

namespace L2
open PySem PySem.Spec PyProof.Rows

section
variable {X : Cx} {e : Expr} {es : List Expr} {te : TE} {t : TA} {pos : Pos}
end

section
variable {X : Cx} {pins : List (Addr × Obj)} {σ : St} {H : Hp} {s s' : Shared}
end

section
variable {X : Cx} {CX : CXT} {k : Nat} {f C : Addr} {fd : FuncData} {ps : List Str} {sp : Sp} {dvs : List V} {ds : List Value} {E : XK} {x m : Str} {p pos apos : Pos} {e o : Expr} {es : List Expr} {ta : TE} {t : TA}

end

section
variable {X : Cx} {CX : CXT} {k : Nat} {f C : Addr} {fd : FuncData} {ps ks : List Str} {sp : Sp} {E : XK} {x m : Str} {p pos apos kpos : Pos} {e o : Expr} {es : List Expr} {kws : List Keyword} {te ta : TE} {t tk : TA} {nm : Option Str}
variable {g : List Value → List Value → List Value} {gV : List V → List V → List V}
end

end L2

namespace L2
open PySem PySem.Spec PyProof.Rows
section
variable {X : Cx} {x : Str} {p pos : Pos} {e : Expr} {es : List Expr} {t : TA} {id T : String} {r : List V → Hp → VK → Prop}

end
end L2

namespace L2
open PySem PySem.Spec PyProof.Rows

section
variable {κ : Type} [DecidableEq κ]
def valV (kvs : List (κ × V)) (k : κ) : Option V := (kvs.find? fun kv => decide (kv.1 = k)).map (·.2)
/-- in its place, or at the end -/
def putK (kvs : List (κ × V)) (k : κ) (v : V) : List (κ × V) :=
  if (kvs.any fun kv => decide (kv.1 = k)) = true then kvs.map (fun kv => if kv.1 = k then (kv.1, v) else kv) else kvs ++ [(k, v)]
def dropK (kvs : List (κ × V)) (k : κ) : List (κ × V) := kvs.filter fun kv => decide (kv.1 ≠ k)

theorem valV_pos {p : κ × V} {r : List (κ × V)} {k : κ} (e : p.1 = k) : valV (p :: r) k = some p.2 := by simp [valV, List.find?_cons, e]
theorem valV_neg {p : κ × V} {r : List (κ × V)} {k : κ} (e : ¬ p.1 = k) : valV (p :: r) k = valV r k := by simp [valV, List.find?_cons, e]
theorem valV_any (k : κ) : ∀ kvs : List (κ × V), (kvs.any fun kv => decide (kv.1 = k)) = (valV kvs k).isSome
  | [] => rfl
  | p :: r => by
    rw [List.any_cons]
    by_cases e : p.1 = k
    · simp only [valV_pos e, decide_eq_true e, Bool.true_or, Option.isSome_some]
    · rw [valV_neg e, decide_eq_false e, Bool.false_or]; exact valV_any k r
theorem length_putK (kvs : List (κ × V)) (k : κ) (v : V) : (putK kvs k v).length ≤ kvs.length + 1 := by
  unfold putK
  split
  · rw [List.length_map]; omega
  · rw [List.length_append, List.length_cons, List.length_nil]; omega
theorem putK_new {kvs : List (κ × V)} {k : κ} (v : V) (h : valV kvs k = none) : putK kvs k v = kvs ++ [(k, v)] := by
  unfold putK
  rw [valV_any, h]
  exact if_neg (by decide)

theorem RelO.isSome_eq {o : Option V} {u : Option Value} (r : RelO o u) : o.isSome = u.isSome := by
  cases o with
  | none => cases u with
    | none => rfl
    | some _ => exact (show False from r).elim
  | some _ => cases u with
    | none => exact (show False from r).elim
    | some _ => rfl
theorem RelO.getD {o : Option V} {u : Option Value} {d : V} {d' : Value} (r : RelO o u) (rd : RelV d d') : RelV (o.getD d) (u.getD d') := by
  cases o with
  | none => cases u with
    | none => exact rd
    | some _ => exact (show False from r).elim
  | some _ => cases u with
    | none => exact (show False from r).elim
    | some _ => exact r

/-- raw tables of the same keys -/
theorem KV.val {kvs : List (κ × V)} {vs : List (κ × Value)} (r : KV kvs vs) (k : κ) : RelO (valV kvs k) (valueAt vs k) := by
  unfold KV at r
  induction r with
  | nil => exact True.intro
  | @cons p q ps qs h t ih =>
    obtain ⟨h1, h2⟩ := h
    by_cases e : p.1 = k
    · have e' : q.1 = k := h1.symm.trans e
      have b : valueAt (q :: qs) k = some q.2 := by simp [valueAt, List.find?_cons, e']
      rw [valV_pos e, b]; exact h2
    · have e' : ¬ q.1 = k := fun z => e (h1.trans z)
      have b : valueAt (q :: qs) k = valueAt qs k := by simp [valueAt, List.find?_cons, e']
      rw [valV_neg e, b]; exact ih
theorem KV.any {kvs : List (κ × V)} {vs : List (κ × Value)} (r : KV kvs vs) (k : κ) : (kvs.any fun kv => decide (kv.1 = k)) = vs.any fun kv => decide (kv.1 = k) := by
  unfold KV at r
  induction r with
  | nil => rfl
  | cons h t ih => rw [List.any_cons, List.any_cons, ih, h.1]
theorem KV.repl {kvs : List (κ × V)} {vs : List (κ × Value)} (r : KV kvs vs) (k : κ) {y : V} {u : Value} (ry : RelV y u) :
    KV (kvs.map fun kv => if kv.1 = k then (kv.1, y) else kv) (vs.map fun kv => if kv.1 = k then (kv.1, u) else kv) := by
  unfold KV at r ⊢
  induction r with
  | nil => exact .nil
  | @cons p q ps qs h t ih =>
    rw [List.map_cons, List.map_cons]
    refine .cons ?_ ih
    obtain ⟨h1, h2⟩ := h
    by_cases e : p.1 = k
    · rw [if_pos e, if_pos (h1.symm.trans e)]; exact ⟨h1, ry⟩
    · rw [if_neg e, if_neg (fun z => e (h1.trans z))]; exact ⟨h1, h2⟩
theorem KV.put {kvs : List (κ × V)} {vs : List (κ × Value)} (r : KV kvs vs) (k : κ) {y : V} {u : Value} (ry : RelV y u) : KV (putK kvs k y) (stored vs k u) := by
  unfold putK stored
  rw [r.any k]
  by_cases e : (vs.any fun kv => decide (kv.1 = k)) = true
  · rw [if_pos e, if_pos e]; exact r.repl k ry
  · rw [if_neg e, if_neg e]; exact Paired.snoc r ⟨rfl, ry⟩
theorem KV.drop {kvs : List (κ × V)} {vs : List (κ × Value)} (r : KV kvs vs) (k : κ) : KV (dropK kvs k) (without vs k) := by
  unfold KV at r ⊢
  unfold dropK without
  induction r with
  | nil => exact .nil
  | @cons p q ps qs h t ih =>
    obtain ⟨h1, h2⟩ := h
    rw [List.filter_cons, List.filter_cons]
    by_cases e : p.1 = k
    · have a : ¬ decide (p.1 ≠ k) = true := by simp [e]
      have b : ¬ decide (q.1 ≠ k) = true := by simp [h1.symm.trans e]
      rw [if_neg a, if_neg b]; exact ih
    · have e' : ¬ q.1 = k := fun z => e (h1.trans z)
      have a : decide (p.1 ≠ k) = true := by simp [e]
      have b : decide (q.1 ≠ k) = true := by simp [e']
      rw [if_pos a, if_pos b]; exact .cons ⟨h1, h2⟩ ih
theorem KV.keys {kvs : List (κ × V)} {vs : List (κ × Value)} (r : KV kvs vs) : kvs.map (·.1) = vs.map (·.1) := by
  unfold KV at r
  induction r with
  | nil => rfl
  | cons h t ih => rw [List.map_cons, List.map_cons, ih, h.1]
theorem KV.length {kvs : List (κ × V)} {vs : List (κ × Value)} (r : KV kvs vs) : kvs.length = vs.length := Paired.length r
end


theorem kV_is {P : Program} {w : World} {k : Key} {u : Value} (r : RelV (kV k) u) : (mixKind P w).is k u = true := by
  cases k with
  | inl i => obtain ⟨t, e⟩ := (show ∃ t, u = Value.int i t from r); subst e; exact mixKind_int P w i t
  | inr x => obtain ⟨t, e⟩ := (show ∃ t, u = Value.str x t from r); subst e; exact mixKind_str P w x t
theorem items_are {P : Program} {w : World} : ∀ {ks : List Key} {us : List Value}, Vals (ks.map kV) us → ItemsAre (mixKind P w) ks us
  | [], _, r => by rw [List.map_nil] at r; cases r; exact .nil
  | k :: ks, _, r => by
    rw [List.map_cons] at r
    cases r with
    | cons h t => exact .cons (kV_is h) (items_are t)

/-- raw entries of a dict with tuple keys -/
abbrev KT (H : Hp) : List (List Key × V) → List (List Key × Addr × Value) → Prop := Paired fun p q => p.1 = q.1 ∧ H q.2.1 = some (.tup (p.1.map kV)) ∧ RelV p.2 q.2.2
theorem KT.val {H : Hp} {kvs : List (List Key × V)} {xs : List (List Key × Addr × Value)} (r : KT H kvs xs) (k : List Key) : RelO (valV kvs k) ((atKey xs k).map (·.2)) := by
  induction r with
  | nil => exact True.intro
  | @cons p q ps qs h t ih =>
    obtain ⟨h1, _, h2⟩ := h
    by_cases e : p.1 = k
    · have e' : q.1 = k := h1.symm.trans e
      have b : atKey (q :: qs) k = some q.2 := by simp [atKey, List.find?_cons, e']
      rw [valV_pos e, b]; exact h2
    · have e' : ¬ q.1 = k := fun z => e (h1.trans z)
      have b : atKey (q :: qs) k = atKey qs k := by simp [atKey, List.find?_cons, e']
      rw [valV_neg e, b]; exact ih
theorem KT.repl {H : Hp} {kvs : List (List Key × V)} {xs : List (List Key × Addr × Value)} (r : KT H kvs xs) (k : List Key) {y : V} {u : Value} (ry : RelV y u) :
    KT H (kvs.map fun kv => if kv.1 = k then (kv.1, y) else kv) (xs.map (putAt k u)) := by
  induction r with
  | nil => exact .nil
  | @cons p q ps qs h t ih =>
    rw [List.map_cons, List.map_cons]
    refine .cons ?_ ih
    obtain ⟨h1, h2, h3⟩ := h
    unfold putAt
    by_cases e : p.1 = k
    · rw [if_pos e, if_pos (h1.symm.trans e)]; exact ⟨h1, h2, ry⟩
    · rw [if_neg e, if_neg (fun z => e (h1.trans z))]; exact ⟨h1, h2, h3⟩
theorem KT.put {H : Hp} {kvs : List (List Key × V)} {xs : List (List Key × Addr × Value)} (r : KT H kvs xs) (k : List Key) {b : Addr} {y : V} {u : Value} (hb : H b = some (.tup (k.map kV))) (ry : RelV y u) :
    KT H (putK kvs k y) (storedH xs k b u) := by
  have e : (kvs.any fun kv => decide (kv.1 = k)) = (atKey xs k).isSome := by
    rw [valV_any, (r.val k).isSome_eq, Option.isSome_map]
  unfold putK storedH
  rw [e]
  by_cases q : (atKey xs k).isSome = true
  · rw [if_pos q, if_pos q]; exact r.repl k ry
  · rw [if_neg q, if_neg q]; exact Paired.snoc r ⟨rfl, hb, ry⟩
theorem KT.keeps {H H' : Hp} {kvs : List (List Key × V)} {xs : List (List Key × Addr × Value)} (r : KT H kvs xs) (ht : ∀ b ys, H b = some (.tup ys) → H' b = some (.tup ys)) : KT H' kvs xs :=
  Paired.mapP r fun _ _ z => ⟨z.1, ht _ _ z.2.1, z.2.2⟩

section
variable {P : Program} {w : World} {H : Hp} {h : Heap} {a : Addr}
theorem rd_of {u : HO} (ok : HOk P w H h) (e : Rd H a u) : ObjOk P w H h a u := e.ok ok
theorem dk_rd {kvs : List (Key × V)} (ok : HOk P w H h) (e : Rd H a (.dK kvs)) : kvs.length ≤ sizeLine ∧ (a == sysModules) = false ∧ ∃ vs, KV kvs vs ∧ h.DictOf (mixKind P w) a vs :=
  show ObjOk P w H h a (.dK kvs) from rd_of ok e
theorem dk_of {kvs : List (Key × V)} (ok : HOk P w H h) (e : H a = some (.dK kvs)) : kvs.length ≤ sizeLine ∧ (a == sysModules) = false ∧ ∃ vs, KV kvs vs ∧ h.DictOf (mixKind P w) a vs := dk_rd ok (.inl e)
/-- a tracked tuple of ints and texts is a key -/
theorem key_of {ks : List Key} (ok : HOk P w H h) (e : H a = some (.tup (ks.map kV))) : (tupleKind (mixKind P w)).is h ks a := by
  obtain ⟨_, its, r, o, h1, h2, n, h3⟩ := (show ObjOk P w H h a (.tup (ks.map kV)) from ok a _ e)
  exact ⟨o, its.toArray, n, h1, h2, h3, by simpa using items_are r⟩
theorem dt_rd {kvs : List (List Key × V)} (ok : HOk P w H h) (e : Rd H a (.dT kvs)) : kvs.length ≤ sizeLine ∧ (a == sysModules) = false ∧
    ∃ xs, KT H kvs xs ∧ h.DictOfH (tupleKind (mixKind P w)) a xs := by
  obtain ⟨z, y, xs, r, o, es, ep, h1, h2, h3, h4, h5⟩ := (show ObjOk P w H h a (.dT kvs) from rd_of ok e)
  refine ⟨z, y, xs, r, o, es, ep, h1, h2, h3, h4, fun x hx => ?_, h5⟩
  have all : ∀ {l : List (List Key × V)} {m : List (List Key × Addr × Value)}, KT H l m → ∀ x ∈ m, (tupleKind (mixKind P w)).is h x.1 x.2.1 := by
    intro l m q
    induction q with
    | nil => intro x hx; exact nomatch hx
    | @cons p q ps qs hq t ih =>
      intro x hx
      rcases List.mem_cons.mp hx with e | hx
      · subst e
        exact key_of ok (by rw [← hq.1]; exact hq.2.1)
      · exact ih x hx
  exact all r x hx
theorem dt_of {kvs : List (List Key × V)} (ok : HOk P w H h) (e : H a = some (.dT kvs)) : kvs.length ≤ sizeLine ∧ (a == sysModules) = false ∧
    ∃ xs, KT H kvs xs ∧ h.DictOfH (tupleKind (mixKind P w)) a xs := dt_rd ok (.inl e)
end

/-- what the dict at a holds at the key y -/
def DGet (H : Hp) (a : Addr) (y : V) (r : Option V) : Prop :=
  (∃ kvs k, Rd H a (.dK kvs) ∧ y = kV k ∧ r = valV kvs k) ∨ ∃ kvs k b, Rd H a (.dT kvs) ∧ y = .ref b ∧ H b = some (.tup (k.map kV)) ∧ r = valV kvs k
/-- the heap behind a[y] = v -/
def DPut (H : Hp) (a : Addr) (y v : V) (H' : Hp) : Prop :=
  (∃ kvs k, H a = some (.dK kvs) ∧ y = kV k ∧ kvs.length < sizeLine ∧ H' = upd H a (.dK (putK kvs k v))) ∨
  ∃ kvs k b, H a = some (.dT kvs) ∧ y = .ref b ∧ H b = some (.tup (k.map kV)) ∧ kvs.length < sizeLine ∧ H' = upd H a (.dT (putK kvs k v))
theorem DGet.k {H : Hp} {a : Addr} {kvs : List (Key × V)} {k : Key} (e : H a = some (.dK kvs)) : DGet H a (kV k) (valV kvs k) := .inl ⟨kvs, k, .inl e, rfl, rfl⟩
theorem DGet.t {H : Hp} {a b : Addr} {kvs : List (List Key × V)} {k : List Key} (e : H a = some (.dT kvs)) (eb : H b = some (.tup (k.map kV))) : DGet H a (.ref b) (valV kvs k) := .inr ⟨kvs, k, b, .inl e, rfl, eb, rfl⟩
theorem DPut.k {H : Hp} {a : Addr} {kvs : List (Key × V)} {k : Key} {v : V} (e : H a = some (.dK kvs)) (hl : kvs.length < sizeLine) : DPut H a (kV k) v (upd H a (.dK (putK kvs k v))) := .inl ⟨kvs, k, e, rfl, hl, rfl⟩
theorem DPut.t {H : Hp} {a b : Addr} {kvs : List (List Key × V)} {k : List Key} {v : V} (e : H a = some (.dT kvs)) (eb : H b = some (.tup (k.map kV))) (hl : kvs.length < sizeLine) :
    DPut H a (.ref b) v (upd H a (.dT (putK kvs k v))) := .inr ⟨kvs, k, b, e, rfl, eb, hl, rfl⟩


section
variable {X : Cx} {pins : List (Addr × Obj)} {σ : St} {H : Hp} {s : Shared} {a : Addr} {y v : V} {u r : Value} {o : Option V} {A : Around} {E : Value → Shared → Prop}

theorem Inv.big (I : Inv X pins σ H s) : sysModules < s.heap.objs.size := by
  have h : mainGlobals < s.heap.objs.size := (I.mod.glob.keeps I.bk).lt
  exact Nat.lt_trans (by decide) h

/-- a dict's object is replaced -/
theorem d_write {h' : Heap} {t' : Nat} {ob : HO} (I : Inv X pins σ H s) (mu : Mut (H a)) (hs : Heap.SameBut a s.heap h') (he : ∃ q, h'.get? a = some q) (new : ObjOk X.prog X.w (upd H a ob) h' a ob) :
    Inv X pins σ (upd H a ob) { s with heap := h', toks := t' } :=
  I.write (x := a) (e := a) mu (.inl rfl) (fun b q hb z => (hs.2 b hb).trans z) he new
theorem dk_new {P : Program} {w : World} {H' : Hp} {h' : Heap} {kvs : List (Key × V)} {vs : List (Key × Value)} (z : kvs.length ≤ sizeLine) (hd : (a == sysModules) = false) (rel : KV kvs vs) (dd : h'.DictOf (mixKind P w) a vs) :
    ObjOk P w H' h' a (.dK kvs) := ⟨z, hd, vs, rel, dd⟩
/-- d[y] = v -/
theorem d_setItem {H' : Hp} {Q : Unit → Shared → Prop} (hu : A.units + 1 < cLine) (I : Inv X pins σ H s) (g : DPut H a y v H') (ry : RelV y u) (rv : RelV v r) (h : ∀ s', Inv X pins σ H' s' → Q () s') :
    wpAny (model X.prog X.w) A (setItem (.ref a) u r) Q E s := by
  rcases g with ⟨kvs, k, e, ey, l, eH⟩ | ⟨kvs, k, b, e, ey, eb, l, eH⟩
  · subst ey eH
    obtain ⟨z, hd, vs, rel, dd⟩ := dk_of I.hok e
    have hz : vs.length ≤ sizeLine := by rw [← rel.length]; exact z
    have hl : (putK kvs k v).length ≤ sizeLine := by have := length_putK kvs k v; omega
    refine wpAny_setItem_pairs (hsz := hz) (kV_is ry) dd fun h' dd' hs => h _ ?_
    have he : ∃ q, h'.get? a = some q := let ⟨q, _, _, hq, _⟩ := dd'; ⟨q, hq⟩
    exact d_write I (by rw [e]; exact True.intro) hs he (dk_new hl hd (rel.put k rv) dd')
  · subst ey eH
    cases (show u = Value.ref b from ry)
    obtain ⟨z, hd, xs, rel, dd⟩ := dt_of I.hok e
    have hz : xs.length ≤ sizeLine := by rw [← Paired.length rel]; exact z
    have hl : (putK kvs k v).length ≤ sizeLine := by have := length_putK kvs k v; omega
    refine wpAny_setItem_heap (hsz := hz) (tupleKind_room_in1 hu) (key_of I.hok eb) dd fun h' dd' hs => h _ ?_
    obtain ⟨q, es, ep, hq, h2, h3, h4, _, h5⟩ := dd'
    refine d_write I (by rw [e]; exact True.intro) hs ⟨q, hq⟩ ⟨hl, hd, _, (rel.put k eb rv).keeps fun c ys ec => ?_, q, es, ep, hq, h2, h3, h4, h5⟩
    rw [upd_ne (ne_of ec e (fun z => nomatch z))]
    exact ec
end

section
variable {X : Cx} {pins : List (Addr × Obj)} {σ : St} {H : Hp} {s : Shared} {a : Addr} {kvs : List (Key × V)} {k : Key} {u : Value} {A : Around} {E : Value → Shared → Prop}
end


/-- the element of a subscription, not a slice -/
def NoSl (i : Expr) : Prop := ∀ ov iv, subscripted i false ov iv = operate [ov, iv] (getItem ov iv)
theorem subD_of {prog : Program} {w : World} {A : Around} {E : Value → Shared → Prop} {s : Shared} {env : Env} {value slice : Expr} {pos : Pos} {T id : String} {Q : Value → Shared → Prop}
    (hl : typeLookup (.type T) "__getitem__" = pure (some (.builtin id))) (hs : NoSl slice)
    (h : wpAny (model prog w) A (eval value env) (fun o s₁ => wpAny (model prog w) A (eval slice env) (fun i s₂ => s₂.TypeIs o T ∧ wpAny (model prog w) A (getItem o i) Q E s₂) E s₁) E s) :
    wpAny (model prog w) A (eval (.Subscript value slice pos) env) Q E s := by
  refine Subscript_ (wpAny_mono h (fun o s₁ h₁ => wpAny_mono h₁ (fun i s₂ h₂ => ?_) fun _ _ x => x) fun _ _ x => x)
  obtain ⟨hT, h₂⟩ := h₂
  unfold subscriptTail
  refine wpAny_bind ?_
  rw [getitemInPython_of_ne hT.not_modules]
  refine wpAny_bind (wpAny_specialOf hT hl ?_)
  have fin : wpAny (model prog w) A (subscripted slice false o i) (fun r s₃ => wpAny (model prog w) A (letTemporaryGo value o r >>= fun _ => pure r) Q E s₃) E s₂ := by
    rw [hs o i]
    exact wpAny_operating (wpAny_mono h₂ (fun r s₃ h₃ => wpAny_bind (wpAny_letTemporaryGo (wpAny_pure h₃))) fun _ _ x => x)
  first
    | exact wpAny_pure (wpAny_bind fin)
    | exact wpAny_bind (wpAny_pure (wpAny_bind fin))
    | exact wpAny_bind fin

/-- d[y] -/
def tDGet (td ty : TE) : TE := fun σ H Q => td σ H fun x H1 => ty σ H1 fun y H2 => ∃ a v, x = .ref a ∧ DGet H2 a y (some v) ∧ Q v H2
/-- y in d, y not in d -/
def tDIn (ty td : TE) : TE := fun σ H Q => ty σ H fun y H1 => td σ H1 fun x H2 => ∃ a o, x = .ref a ∧ DGet H2 a y o ∧ Q (.bl o.isSome) H2
def tDNotIn (ty td : TE) : TE := fun σ H Q => ty σ H fun y H1 => td σ H1 fun x H2 => ∃ a o, x = .ref a ∧ DGet H2 a y o ∧ Q (.bl (!o.isSome)) H2
/-- d[y] = v -/
def sDPut (td ty tv : TE) : TS := fun D σ H => tv σ H fun v H1 => td σ H1 fun x H2 => ty σ H2 fun y H3 => ∃ a H4, x = .ref a ∧ DPut H3 a y v H4 ∧ D.nx σ H4
section
variable {X : Cx} {o i e value : Expr} {pos pos' tpos : Pos} {td ty tv : TE}
theorem ps_dput (hu : X.A.units + 1 < cLine) (ho : PE X o td) (hi : PE X i ty) (hv : PE X value tv) (hs : swapsWith value (some (.Subscript o i pos')) pos.line X.env = pure false) :
    PS X (.Assign [.Subscript o i pos'] value pos) (sDPut td ty tv) := by
  intro pins s σ H D I h
  refine wpAny_Assign_Subscript (thn (hv pins s σ H _ I h) fun r s1 ⟨v, H1, I1, rv, q1⟩ => thn (ho pins s1 σ H1 _ I1 q1) fun u s2 ⟨x, H2, I2, rx, q2⟩ => thn (hi pins s2 σ H2 _ I2 q2) fun iv s3 ⟨y, H3, I3, ry, a, H4, ex, g, q3⟩ => ?_) hs
  subst ex
  obtain rfl : u = Value.ref a := rx
  exact d_setItem hu I3 g ry rv fun s4 I4 => ⟨σ, H4, I4, q3⟩
end


theorem dk_empty {P : Program} {w : World} {H : Hp} (h : Heap) (hb : sysModules < h.objs.size) : ObjOk P w H (h.push { cls := .type "dict", data := .dict #[] }) h.objs.size (.dK []) :=
  ⟨Nat.zero_le _, beq_eq_false_iff_ne.mpr (Ne.symm (Nat.ne_of_lt hb)), [], .nil, Heap.DictOf.new h⟩
/-- {}, to be a dict of the kind that is wanted -/
def tDNewK : TE := fun _ H Q => ∀ p, H p = none → Q (.ref p) (upd H p (.dK []))
section
variable {X : Cx} {pos : Pos}
theorem pe_dnewK : PE X (.Dict [] [] pos) tDNewK := fun pins s σ H Q I h =>
  wpAny_Dict_empty ⟨.ref s.heap.objs.size, _, I.laid (a := s.heap.objs.size) (o := .dK []) (t' := s.toks) (fun _ _ q => Heap.get?_push_of_some _ q) (Nat.le_refl _) (dk_empty s.heap I.big), rfl, h _ (I.hok.fresh (Nat.le_refl _))⟩
end

/-- a is a dict, whatever its keys -/
def IsD (H : Hp) (a : Addr) : Prop := (∃ kvs, Rd H a (.dK kvs)) ∨ ∃ kvs, Rd H a (.dT kvs)
section
variable {X : Cx} {pins : List (Addr × Obj)} {σ : St} {H : Hp} {s : Shared} {a : Addr} {y d : V} {u r : Value} {o : Option V} {A : Around} {E : Value → Shared → Prop}
end

def tDGet1 (td ty : TE) : TE := fun σ H Q => td σ H fun x H1 => ∃ a, x = .ref a ∧ IsD H1 a ∧ ty σ H1 fun y H2 => ∃ o, DGet H2 a y o ∧ Q (o.getD .non) H2
/-- d.pop(k): there; d.pop(k, x): there or not -/
def tDPop1 (td ty : TE) : TE := fun σ H Q => td σ H fun x H1 => ∃ a, x = .ref a ∧ IsD H1 a ∧ ty σ H1 fun y H2 => ∃ kvs k v, H2 a = some (.dK kvs) ∧ y = kV k ∧ valV kvs k = some v ∧ Q v (upd H2 a (.dK (dropK kvs k)))
section
variable {X : Cx} {o e f : Expr} {apos cpos : Pos} {td ty tx : TE}
end

section
variable {X : Cx} {pins : List (Addr × Obj)} {σ : St} {H : Hp} {s : Shared} {a : Addr} {kvs : List (Key × V)} {A : Around} {E : Value → Shared → Prop}
end


section
variable {X : Cx} {pins : List (Addr × Obj)} {σ : St} {H : Hp} {s : Shared} {a : Addr} {y : V} {u : Value} {A : Around} {E : Value → Shared → Prop}
end
end L2

namespace Att
open PySem PySem.W PySem.Calls PyProof.Rows

section
variable {prog : Program} {w : World} {A : Around} {E : Value → Shared → Prop} {s : Shared} {K : Frag}

end
end Att

namespace L2
open PySem PySem.Spec PyProof.Rows

end L2

namespace L2
open PySem PySem.Spec PyProof.Rows

end L2

namespace L2
open PySem PySem.Spec PyProof.Rows

section
variable {P : Program} {w : World} {K : PySem.W.Frag} {mg : Str → Option Value} {base : Heap}
end
section
variable {X : Cx}
end

section
variable {κ : Type} [DecidableEq κ]
end
end L2



end
section
set_option Elab.async false
set_option linter.all false
set_option maxRecDepth 100000
set_option maxHeartbeats 4000000
namespace L2
open PySem PySem.Spec PyProof.Rows

theorem relabel_lookup (env : Env) : ∀ (l : List (Str × NameKind)) (x : Str),
    (l.map fun (n, k) => if (k == NameKind.free && env.scope.kind == .function && env.kindOf n == some .cell) then (n, NameKind.cell) else (n, k)).lookup x
      = (l.lookup x).map fun k => if (k == NameKind.free && env.scope.kind == .function && env.kindOf x == some .cell) then NameKind.cell else k
  | [], _ => rfl
  | (n, k) :: r, x => by
    have ih := relabel_lookup env r x
    show List.lookup x ((if (k == NameKind.free && env.scope.kind == .function && env.kindOf n == some .cell) = true then (n, NameKind.cell) else (n, k)) :: _) = _
    cases hx : x == n with
    | true =>
      have e : x = n := by simpa using hx
      subst e
      by_cases hc : (k == NameKind.free && env.scope.kind == .function && env.kindOf x == some .cell) = true
      · rw [if_pos hc]; simp only [List.lookup_cons, hx, Option.map_some, hc, if_true]
      · rw [if_neg hc]; simp only [List.lookup_cons, hx, Option.map_some, if_neg hc]
    | false =>
      by_cases hc : (k == NameKind.free && env.scope.kind == .function && env.kindOf n == some .cell) = true
      · rw [if_pos hc]; simp only [List.lookup_cons, hx]; exact ih
      · rw [if_neg hc]; simp only [List.lookup_cons, hx]; exact ih

theorem closure_go {env : Env} : ∀ (l : List (Str × NameKind)) (acc : List (Str × Addr)), (∀ y ∈ l, y.2 = .free → ∃ c, env.cells.lookup y.1 = some c) → (∀ y c, acc.lookup y = some c → env.cells.lookup y = some c) →
    ∃ cl, (forIn l acc fun x (cs : List (Str × Addr)) => (if (x.2 == NameKind.free) = true then (do let a ← cellOf env x.1; pure (ForInStep.yield ((x.1, a) :: cs))) else pure (ForInStep.yield cs) : Sem (ForInStep (List (Str × Addr))))) = pure cl ∧ (∀ y c, cl.lookup y = some c → env.cells.lookup y = some c) ∧ (∀ y c, acc.lookup y = some c → ∃ c', cl.lookup y = some c') ∧
      ∀ y ∈ l, y.2 = .free → ∃ c, cl.lookup y.1 = some c
  | [], acc, _, h2 => ⟨acc, rfl, h2, fun _ c h => ⟨c, h⟩, fun _ h => nomatch h⟩
  | (n, k) :: r, acc, h1, h2 => by
    by_cases hk : k = .free
    · subst hk
      obtain ⟨c, hc⟩ := h1 (n, .free) List.mem_cons_self rfl
      have h2' : ∀ y c', ((n, c) :: acc).lookup y = some c' → env.cells.lookup y = some c' := fun y c' h => by
        rw [List.lookup_cons] at h
        cases hy : y == n with
        | true => rw [hy] at h; have e : y = n := by simpa using hy
                  subst e; cases h; exact hc
        | false => rw [hy] at h; exact h2 y c' h
      obtain ⟨cl, e, q1, q2, q3⟩ := closure_go r ((n, c) :: acc) (fun y hy => h1 y (List.mem_cons_of_mem _ hy)) h2'
      refine ⟨cl, ?_, q1, fun y c' h => ?_, fun y hy hf => ?_⟩
      · rw [List.forIn_cons]
        simp only [beq_self_eq_true, if_true]
        unfold cellOf
        rw [hc]
        exact e
      · cases hy : y == n with
        | true => exact q2 y c (by rw [List.lookup_cons, hy])
        | false => exact q2 y c' (by rw [List.lookup_cons, hy]; exact h)
      · rcases List.mem_cons.mp hy with e' | hy
        · subst e'
          exact q2 n c (by simp [List.lookup_cons])
        · exact q3 y hy hf
    · have hb : (k == NameKind.free) = false := by simpa using hk
      obtain ⟨cl, e, q1, q2, q3⟩ := closure_go r acc (fun y hy => h1 y (List.mem_cons_of_mem _ hy)) h2
      refine ⟨cl, ?_, q1, q2, fun y hy hf => ?_⟩
      · rw [List.forIn_cons]
        simp only [hb, Bool.false_eq_true, if_false]
        exact e
      · rcases List.mem_cons.mp hy with e' | hy
        · subst e'; exact absurd hf hk
        · exact q3 y hy hf

theorem closure_ok (env : Env) (sc : Scope) (h : ∀ y ∈ sc.names, y.2 = .free → ∃ c, env.cells.lookup y.1 = some c) :
    ∃ cl, closureFor sc env = pure cl ∧ (∀ y c, cl.lookup y = some c → env.cells.lookup y = some c) ∧ ∀ y ∈ sc.names, y.2 = .free → ∃ c, cl.lookup y.1 = some c := by
  obtain ⟨cl, e, q1, _, q3⟩ := closure_go (env := env) sc.names [] h (fun y c z => by simp at z)
  refine ⟨cl, ?_, q1, q3⟩
  unfold closureFor
  rw [← e]
  simp only [bind_pure]

/-- the block of a comprehension over the slots M of the def, its own name x ahead of them -/
def blk (X : Cx) (sc : Scope) (x : Str) (M : List Str) (cl : List (Str × Addr)) (C : Addr) (s : Shared) (H : Hp) (fp : List Addr) : Cx :=
  { X with N := x :: M, s₀ := s, H₀ := H, env := compEnvC sc cl C X.env, outer := X.stack, ex := fp, fn := fun _ => false, pn := [], xe := fun _ _ => False }

/-- what the text says of the block: its names, as decide sees them -/
structure BlkOk (X : Cx) (sc : Scope) (x : Str) (M : List Str) : Prop where
  kind : sc.kind = .function
  nocell : ∀ y ∈ sc.names, y.2 ≠ .cell
  names : ∀ y ∈ sc.names, y.2 = .local → sc.names.lookup y.1 = some .local
  own : sc.names.lookup x = some .local
  nd : (x :: M).Nodup
  len : M.length = X.N.length
  free : ∀ y ∈ sc.names, y.2 = .free → X.env.kindOf y.1 = some .cell ∨ X.env.kindOf y.1 = some .free
  same : ∀ (i : Nat) (y : Str), M[i]? = some y → sc.names.lookup y = some .free → X.N[i]? = some y
  noloc : ∀ y ∈ M, sc.names.lookup y ≠ some .local

section
variable {X : Cx}
theorem Inv.toBlk {pins : List (Addr × Obj)} {σ : St} {H : Hp} {s : Shared} {sc : Scope} {x : Str} {M : List Str} {cl : List (Str × Addr)} {fp : List Addr} {h₁ : Heap} {tk : Nat}
    (I : Inv X pins σ H s) (B : BlkOk X sc x M) (q1 : ∀ y c, cl.lookup y = some c → X.env.cells.lookup y = some c) (q3 : ∀ y ∈ sc.names, y.2 = .free → ∃ c, cl.lookup y.1 = some c)
    (fpk : ∀ b ∈ fp, FpOk X pins H b) (fpl : ∀ b ∈ fp, b < s.heap.objs.size) {m : Str → Option Value} (hn : h₁.Ns s.heap.objs.size m) (keep : ∀ b o, s.heap.get? b = some o → h₁.get? b = some o) :
    Inv (blk X sc x M cl s.heap.objs.size s H fp) [] (none :: σ) H { s with heap := h₁, toks := tk } := by
  have kindOf' : ∀ y, (blk X sc x M cl s.heap.objs.size s H fp).env.kindOf y = (sc.names.lookup y).map fun k => if (k == NameKind.free && X.env.scope.kind == .function && X.env.kindOf y == some .cell) then NameKind.cell else k := fun y => relabel_lookup X.env sc.names y
  have isfree : ∀ y, ((blk X sc x M cl s.heap.objs.size s H fp).env.kindOf y = some .cell ∨ (blk X sc x M cl s.heap.objs.size s H fp).env.kindOf y = some .free) → sc.names.lookup y = some .free := fun y hy => by
    rw [kindOf'] at hy
    cases e : sc.names.lookup y with
    | none => rw [e] at hy; simp at hy
    | some k =>
      rw [e] at hy
      by_cases hk : k = .free
      · rw [hk]
      · exfalso
        have hb : (k == NameKind.free) = false := by simpa using hk
        simp only [hb, Bool.false_and, Option.map_some, Bool.false_eq_true, if_false, Option.some.injEq] at hy
        rcases hy with z | z
        · exact B.nocell (y, k) (PySem.mem_of_lookup e) z
        · exact hk z
  have ncell : ∀ y c, X.env.cells.lookup y = some c → c < s.heap.objs.size := fun y c e => by
    obtain ⟨v, o, ho, _⟩ := I.cell y c e
    exact Heap.lt_size ho
  have below : ∀ b ∈ fp, FpOk X pins H b := fpk
  refine ⟨⟨I.ok.mod, B.kind, I.ok.glob, I.ok.blt, Nat.le_refl _, fun y z c h1 h2 => I.ok.inj y z c (q1 y c h1) (q1 z c h2), fun y hy => q3 _ (PySem.mem_of_lookup (isfree y hy)) rfl, fun y c h _ => absurd (show false = true from h) Bool.false_ne_true, I.ok.hd, I.ok.frames, .inl rfl,
    fun b hb => ?_, I.bs, Nat.le_trans I.ok.bsz I.sz, fun b o e hb => ?_, fun b hb z => ?_, I.stack, I.stkFree⟩, rfl, I.bare, Un.kept keep, ⟨_, hn, fun i y v e1 e2 e3 => ?_⟩, fun y c h => ?_, I.hok.fresh (Nat.le_refl _), fun y c h => I.freeC y c (q1 y c h), fun p hp => absurd (show p ∈ ([] : List (Addr × Obj)) from hp) (by simp), I.hok.kept keep, ?_⟩
  · exact ⟨Nat.ne_of_lt (fpl b hb), fun y c h => (fpk b hb).2.2.2.2.1 y c (q1 y c h)⟩
  · rcases (fpk b hb).2.2.2.1 with z | z
    · exact I.ok.noex b o e z
    · exact absurd (Nat.lt_of_lt_of_le (Heap.lt_size e) (Nat.le_trans I.ok.bsz z)) (Nat.lt_irrefl _)
  · rcases List.mem_cons.mp (I.stkSub b z) with e | z
    · exact (fpk b hb).2.1 e
    · exact (fpk b hb).2.2.1 z
  · cases i with
    | zero => simp at e2
    | succ i =>
      have e1' : M[i]? = some y := e1
      have e2' : σ[i]? = some (some v) := e2
      have hy : sc.names.lookup y = some .free := by
        rcases e3 with z | z | z
        · exfalso
          have z' : (blk X sc x M cl s.heap.objs.size s H fp).env.kindOf y = some .local := z
          rw [kindOf'] at z'
          cases e : sc.names.lookup y with
          | none => rw [e] at z'; simp at z'
          | some k =>
            rw [e] at z'
            simp only [Option.map_some, Option.some.injEq] at z'
            split at z'
            · cases z'
            · subst z'
              exact B.noloc y (List.mem_of_getElem? e1') e
        · exact isfree y (.inl z)
        · exact isfree y (.inr z)
      have hk := B.free _ (PySem.mem_of_lookup hy) rfl
      obtain ⟨m0, hn0, hl⟩ := I.loc
      obtain ⟨u, r, l⟩ := hl i y v (B.same i y e1' hy) e2' (hk.elim (fun z => .inr (.inl z)) fun z => .inr (.inr z))
      refine ⟨u, r, .inr ⟨?_, ?_⟩⟩
      · rcases e3 with z | z | z
        · exfalso
          have z' : (blk X sc x M cl s.heap.objs.size s H fp).env.kindOf y = some .local := z
          rw [kindOf', hy] at z'
          simp only [Option.map_some, Option.some.injEq] at z'
          split at z' <;> cases z'
        · exact .inl z
        · exact .inr z
      · rcases l with ⟨k, _⟩ | ⟨_, c, e, hc⟩
        · rcases hk with z | z <;> (have z' : X.env.kindOf y = _ := z; rw [k] at z'; cases z')
        · obtain ⟨c', e'⟩ := q3 _ (PySem.mem_of_lookup hy) rfl
          have e'' := q1 y c' e'
          rw [e] at e''; cases e''
          obtain ⟨o, ho, hd⟩ := hc
          exact ⟨c, e', o, keep c o ho, hd⟩
  · obtain ⟨v, o, ho, hd⟩ := I.cell y c (q1 y c h)
    exact ⟨v, o, keep c o ho, hd⟩
  · show (none :: σ).length = (x :: M).length
    rw [List.length_cons, List.length_cons, I.len, B.len]
end

def PIfs (X : Cx) (ifs : List Expr) (t : TT) : Prop :=
  ∀ (pins : List (Addr × Obj)) (s : Shared) (σ : St) (H : Hp) (Q : Bool → Hp → Prop), Inv X pins σ H s → t σ H Q →
    wpAny (model X.prog X.w) X.A (forIn ifs true fun c r => if r = true then do let ok ← isTrue c X.env (eval c X.env); pure (ForInStep.yield ok) else pure (ForInStep.yield r)) (TP X pins σ Q) X.xe s
def tYes : TT := fun _ H Q => Q true H
theorem pif_one {X : Cx} {c : Expr} {t : TT} (h : PT X c t) : PIfs X [c] t := fun pins s σ H Q I q => wpAny_tests_one (h pins s σ H Q I q)

section
variable {prog : Program} {w : World} {A : Around} {E : Value → Shared → Prop} {R : Result → Shared → Prop} {s : Shared}
theorem compLoop_go {elt target iter : Expr} {ifs : List Expr} {scope : Scope} {pos : Pos} {it acc : Value} {env : Env} (I : Nat → Shared → Prop)
    (turn : ∀ n s, I n s → wpAny (model prog w) A (pyNext it) (fun r s₁ => match r with
      | none => R (.ok .next) s₁
      | some v => wpAny (model prog w) A (letOwnedTupleGo target it v) (fun _ s₁ => wpAny (model prog w) A (assign target env v) (fun _ s₂ =>
          wpAny (model prog w) A (forIn ifs true fun c r => if r = true then do let ok ← isTrue c env (eval c env); pure (ForInStep.yield ok) else pure (ForInStep.yield r)) (fun ok s₃ =>
            if ok = true then wpAny (model prog w) A (eval elt env) (fun x s₄ =>
              wpAny (model prog w) A (call (.builtin "list.append") [acc, x]) (fun _ s₅ => ∃ m, m < n ∧ I m s₅) (fun _ _ => False) s₄) (fun _ _ => False) s₃
            else ∃ m, m < n ∧ I m s₃) (fun _ _ => False) s₂) (fun _ _ => False) s₁) (fun _ _ => False) s₁) (fun _ _ => False) s)
    (n : Nat) (h : I n s) :
    codeAny (model prog w) A (.compLoop (.ListComp elt [⟨target, iter, ifs, 0⟩] scope pos) 0 it acc env) R s := by
  refine codeAny_loop rfl I (fun n s hI => ?_) n h
  show wpAny _ A ((compTurn (.ListComp elt [⟨target, iter, ifs, 0⟩] scope pos) 0 it acc env).onRaise (fun x => do noteFrame x env; theTreesLotGoes x)) _ _ s
  refine wpAny_noted ?_
  rw [compTurn_list]
  refine wpAny_bind (wpAny_standAt (wpAny_bind (wpAny_mono (turn n s hI) (fun r s₁ h₁ => ?_) fun _ _ h' => h'.elim)))
  cases r with
  | none => exact wpAny_pure h₁
  | some v =>
    refine wpAny_bind (wpAny_mono h₁ (fun _ s₁ h₁ => ?_) fun _ _ h' => h'.elim)
    refine wpAny_bind (wpAny_mono h₁ (fun _ s₂ h₂ => wpAny_bind (wpAny_mono h₂ (fun ok s₃ h₃ => ?_) fun _ _ h' => h'.elim)) fun _ _ h' => h'.elim)
    cases ok with
    | false => exact wpAny_pure ⟨rfl, h₃⟩
    | true =>
      exact wpAny_bind (wpAny_bind (wpAny_mono h₃ (fun x s₄ h₄ => wpAny_bind (wpAny_mono h₄ (fun _ s₅ h₅ => wpAny_pure (wpAny_pure ⟨rfl, h₅⟩)) fun _ _ h' => h'.elim)) fun _ _ h' => h'.elim))
end

def tLc (wi : TI) (tt : TT) (te : TE) : TE := fun σ H Q => wi σ H fun J H1 => ∀ D, H1 D = none → ∃ W : Nat → Nat → List V → Hp → Prop, (∃ m, W 0 m [] (upd H1 D (.lst []))) ∧ ∀ i m ys H, W i m ys H →
  H D = some (.lst ys) ∧ ((J.stop i H ∧ Q (.ref D) H) ∨ (J.go i H ∧ ys.length < sizeLine ∧ ∀ x H', J.yld i H x H' → tt (some x :: σ) H' fun b H2 => if b = true then te (some x :: σ) H2 fun v H3 =>
    H3 D = some (.lst ys) ∧ ∃ m', m' < m ∧ W (i + 1) m' (ys ++ [v]) (upd H3 D (.lst (ys ++ [v]))) else ∃ m', m' < m ∧ W (i + 1) m' ys H2))

section
variable {X : Cx}
theorem lcomp_core {sc : Scope} {x : Str} {px pos : Pos} {iter elt : Expr} {ifs : List Expr} {M : List Str} {wi : TI} {tt : TT} {te : TE} {cl : List (Str × Addr)} {RR : Value → Addr → Result → Shared → Prop} {pins : List (Addr × Obj)} {s : Shared} {σ : St} {H : Hp} {Q : VK}
    (hc : X.calm = true) (B : BlkOk X sc x M) (hi : PI X (.Name x px) iter wi) (ht : ∀ C s H fp, PIfs (blk X sc x M cl C s H fp) ifs tt) (he : ∀ C s H fp, PE (blk X sc x M cl C s H fp) elt te)
    (q1 : ∀ y c, cl.lookup y = some c → X.env.cells.lookup y = some c) (q3 : ∀ y ∈ sc.names, y.2 = .free → ∃ c, cl.lookup y.1 = some c)
    (I : Inv X pins σ H s) (h : tLc wi tt te σ H Q)
    (hRR : ∀ (D C : Addr) (s' : Shared) (m : Str → Option Value) (H' : Hp), Inv X pins σ H' s' → s'.heap.Ns C m → FpOk X pins H' C → Q (.ref D) H' → RR (.ref D) C (.ok .next) s') :
    wpAny (model X.prog X.w) X.A (eval iter X.env) (fun xv s₁ => wpAny (model X.prog X.w) X.A (pyIter xv) (fun it s₂ => wpAny (model X.prog X.w) X.A (newList []) (fun acc s₃ =>
      wpAny (model X.prog X.w) X.A (newFunctionEnv sc X.env.globals cl [] X.env.qual none .none (some X.env)) (fun cenv s₄ =>
        codeAny (model X.prog X.w) X.A (.compStart (.ListComp elt [⟨.Name x px, iter, ifs, 0⟩] sc pos) 0 it acc { cenv with scope := relabel sc X.env }) (RR acc cenv.locals) s₄) X.xe s₃) X.xe s₂) X.xe s₁) X.xe s := by
  refine thn (hi pins s σ H _ I h) fun v s1 h1 => thn h1 fun itv s2 h2 => ?_
  obtain ⟨it, fp, tn, J, H2, rfl, I2, T, st2, f2, q2⟩ := h2
  refine wpAny_newObj_type (wpAny_newFunctionEnv B.nocell (by intro y hy; simp at hy) (fun h₁ hns₁ hsb₁ => ?_) B.kind)
  dsimp only at hns₁ hsb₁ ⊢
  obtain ⟨W, ⟨m0, w0⟩, turn⟩ := q2 s2.heap.objs.size I2.fresh
  have I3 : Inv X pins σ (upd H2 s2.heap.objs.size (.lst [])) { s2 with heap := s2.heap.push { cls := .type "list", data := .seq ([] : List Value).toArray }, toks := s2.toks } := I2.lnew .nil (Nat.zero_le _)
  generalize hs3 : ({ s2 with heap := s2.heap.push { cls := .type "list", data := .seq ([] : List Value).toArray }, toks := s2.toks } : Shared) = s3 at I3
  have eh : s2.heap.push { cls := .type "list", dict := none, data := .seq ([] : List Value).toArray } = s3.heap := by rw [← hs3]
  have fpl : ∀ b ∈ fp, b < s2.heap.objs.size := fun b hb => by
    obtain ⟨o, e, _⟩ := T.obj _ _ st2 b hb
    exact Heap.lt_size e
  have sz : s3.heap.objs.size = s2.heap.objs.size + 1 := by rw [← eh, Heap.size_push]
  have fpl3 : ∀ b ∈ fp, b < s3.heap.objs.size := fun b hb => by rw [sz]; exact Nat.lt_succ_of_lt (fpl b hb)
  have fp3 : ∀ b ∈ fp, FpOk X pins (upd H2 s2.heap.objs.size (.lst [])) b := fun b hb => ⟨by rw [upd_ne (Nat.ne_of_lt (fpl b hb))]; exact (f2 b hb).1, (f2 b hb).2⟩
  rw [eh] at hns₁ hsb₁ ⊢
  have keep : ∀ b o, s3.heap.get? b = some o → h₁.get? b = some o := fun b o e => hsb₁.extBut b o (Nat.ne_of_lt (Heap.lt_size e)) (Heap.get?_push_of_some _ e)
  have IB := I3.toBlk (tk := s2.toks + ([] : List (Str × Value)).length) B q1 q3 fp3 fpl3 hns₁ keep
  have st4 : tn 0 h₁ := T.keep _ _ _ st2 fun b hb o e => keep b o (by rw [← eh]; exact Heap.get?_push_of_some _ e)
  have es : ({ s3 with heap := h₁, toks := s2.toks + ([] : List (Str × Value)).length } : Shared) = { s2 with heap := h₁, toks := s2.toks + ([] : List (Str × Value)).length } := by rw [← hs3]
  rw [es] at IB
  have hx' : (blk X sc x M cl s3.heap.objs.size s3 (upd H2 s2.heap.objs.size (.lst [])) fp).env.scope.names.lookup x = some .local := lookup_relabel_local B.own
  have hg : PG (blk X sc x M cl s3.heap.objs.size s3 (upd H2 s2.heap.objs.size (.lst [])) fp) (.Name x px) (gName 0) := pg_name B.nd rfl (.inl hx') (.inr hx')
  have he' := he s3.heap.objs.size s3 (upd H2 s2.heap.objs.size (.lst [])) fp
  have ht' := ht s3.heap.objs.size s3 (upd H2 s2.heap.objs.size (.lst [])) fp
  have loop : ∀ s₄ : Shared, s₄ = { s2 with heap := h₁, toks := s2.toks + ([] : List (Str × Value)).length } →
      codeAny (model X.prog X.w) X.A (.compLoop (.ListComp elt [⟨.Name x px, iter, ifs, 0⟩] sc pos) 0 (.ref it) (.ref s2.heap.objs.size) (compEnvC sc cl s3.heap.objs.size X.env)) (RR (.ref s2.heap.objs.size) s3.heap.objs.size) s₄ := by
    rintro s₄ rfl
    refine compLoop_go (fun n s' => ∃ i ys o H', Inv (blk X sc x M cl s3.heap.objs.size s3 (upd H2 s2.heap.objs.size (.lst [])) fp) [] (o :: σ) H' s' ∧ tn i s'.heap ∧ (∀ b ∈ fp, H' b = none) ∧ W i n ys H') ?_ m0
      ⟨0, [], none, _, IB, st4, fun b hb => (fp3 b hb).1, w0⟩
    rintro n s' ⟨i, ys, o, H', I', st', fr', w'⟩
    have fpB : ∀ {H' : Hp} {pl : List (Addr × Obj)}, (∀ b ∈ fp, H' b = none) → ∀ b ∈ fp, FpOk (blk X sc x M cl s3.heap.objs.size s3 (upd H2 s2.heap.objs.size (.lst [])) fp) [] H' b := fun {H' pl} hn b hb =>
      ⟨hn b hb, Nat.ne_of_lt (fpl3 b hb), fun z => I'.ok.exfs b hb z, .inl hb, fun y c hy => (fp3 b hb).2.2.2.2.1 y c (q1 y c hy), fun p hp => absurd (show p ∈ ([] : List (Addr × Obj)) from hp) (by simp)⟩
    obtain ⟨hD, ⟨stop, q⟩ | ⟨go, hlen, step⟩⟩ := turn i n ys H' w'
    · refine wpAny_mono (T.done (blk X sc x M cl s3.heap.objs.size s3 (upd H2 s2.heap.objs.size (.lst [])) fp) rfl rfl rfl hc i [] s' (o :: σ) H' (fun _ _ => False) I' (fpB (pl := []) fr') st' stop) (fun r s4 ⟨hr, I4⟩ => ?_) fun _ _ f => f.elim
      subst hr
      obtain ⟨m, hn, _⟩ := I4.loc
      refine hRR _ _ s4 m H' (I3.call' (ch := fp) I4.os I4.base I4.hok I4.bare fun b hb => ⟨(fp3 b hb).2.2.2.1, (fp3 b hb).2.1, (fp3 b hb).2.2.2.2.1, (fp3 b hb).2.2.2.2.2⟩) hn (I3.fpOk (Nat.le_refl _) I4.free) q
    · refine wpAny_mono (T.item (blk X sc x M cl s3.heap.objs.size s3 (upd H2 s2.heap.objs.size (.lst [])) fp) rfl rfl rfl hc i [] s' (o :: σ) H' (fun _ _ => False) I' (fpB (pl := []) fr') st' go) (fun r s4 ⟨u, hr, h4⟩ => ?_) fun _ _ f => f.elim
      subst hr
      refine wpAny_mono h4 (fun _ s5 ⟨y, H5, I5, r5, y5, st5, fr5⟩ => ?_) fun _ _ f => f.elim
      have I5' := I5.pinned (fpB (pl := []) fr5) (T.obj _ _ st5)
      refine wpAny_mono (hg _ s5 (o :: σ) H5 y u (fun σ' H' => σ' = some y :: σ ∧ H' = H5) I5' r5 ⟨rfl, rfl⟩) (fun _ s6 ⟨σ6, H6, I6, e6, e6'⟩ => ?_) fun _ _ f => f.elim
      subst e6 e6'
      have again : ∀ {H7 : Hp} {s7 : Shared} {zs : List V} {m' : Nat}, Inv (blk X sc x M cl s3.heap.objs.size s3 (upd H2 s2.heap.objs.size (.lst [])) fp) ([] ++ pinsAt fp s5.heap) (some y :: σ) H7 s7 → m' < n → W (i + 1) m' zs H7 →
          ∃ m, m < n ∧ ∃ i ys o H', Inv (blk X sc x M cl s3.heap.objs.size s3 (upd H2 s2.heap.objs.size (.lst [])) fp) [] (o :: σ) H' s7 ∧ tn i s7.heap ∧ (∀ b ∈ fp, H' b = none) ∧ W i m ys H' := fun {H7 s7 zs m'} I7 hm w7 => by
        refine ⟨m', hm, i + 1, zs, some y, H7, I7.unpinned, T.keep _ _ _ st5 fun b hb o e => (I7.pin (b, o) (List.mem_append_right _ (List.mem_append_right _ (mem_pinsAt hb e)))).1, fun b hb => ?_, w7⟩
        obtain ⟨o, e, d⟩ := T.obj _ _ st5 b hb
        exact (I7.pin (b, o) (List.mem_append_right _ (List.mem_append_right _ (mem_pinsAt hb e)))).2.1
      refine wpAny_mono (ht' _ s6 (some y :: σ) H6 _ I6 (step y H6 y5)) (fun b s7 ⟨H7, I7, q7⟩ => ?_) fun _ _ f => f.elim
      cases b with
      | false =>
        rw [if_neg Bool.false_ne_true] at q7 ⊢
        obtain ⟨m', hm, w7⟩ := q7
        exact again I7 hm w7
      | true =>
        rw [if_pos rfl] at q7 ⊢
        refine wpAny_mono (he' _ s7 (some y :: σ) H7 _ I7 q7) (fun u8 s8 ⟨v8, H8, I8, r8, hD8, m', hm, w8⟩ => ?_) fun _ _ f => f.elim
        refine wpAny_mono (mt_append (X := blk X sc x M cl s3.heap.objs.size s3 (upd H2 s2.heap.objs.size (.lst [])) fp) _ s8 (some y :: σ) H8 (.ref s2.heap.objs.size) [v8] (.ref s2.heap.objs.size) [u8] (fun _ H9 => H9 = upd H8 s2.heap.objs.size (.lst (ys ++ [v8]))) I8 rfl (.cons r8 .nil) ⟨_, ys, v8, rfl, rfl, hD8, hlen, rfl⟩) (fun _ s9 ⟨_, H9, I9, _, e9⟩ => ?_) fun _ _ f => f.elim
        subst e9
        exact again I9 hm w8
  exact codeAny_compStart_list (loop _ rfl) (T.self X.A 0 _ _ _ st4 (loop _ rfl))

/-- y = [.. for x in ..] on one row, y a plain local -/
def tSetLc (j : Nat) (wi : TI) (tt : TT) (te : TE) : TS := fun D σ H => tLc wi tt te σ H fun v H' => D.nx (σ.set j (some v)) H'
theorem ps_lcomp {sc : Scope} {x y : Str} {px py pos spos : Pos} {iter elt : Expr} {ifs : List Expr} {j : Nat} (M : List Str) {wi : TI} {tt : TT} {te : TE} (hc : X.calm = true) (hN : X.N.Nodup) (hj : X.N[j]? = some y) (hy : X.env.scope.names.lookup y = some .local)
    (B : BlkOk X sc x M) (hi : PI X (.Name x px) iter wi)
    (ht : ∀ cl C s H fp, PIfs (blk X sc x M cl C s H fp) ifs tt) (he : ∀ cl C s H fp, PE (blk X sc x M cl C s H fp) elt te)
    (hsw : swapsWith (.ListComp elt [⟨.Name x px, iter, ifs, 0⟩] sc pos) (some (.Name y py)) spos.line X.env = pure true := by rfl) (hs : ∀ x, foldedSetIterable iter X.env x = pure x := by intro _; rfl) :
    PS X (.Assign [.Name y py] (.ListComp elt [⟨.Name x px, iter, ifs, 0⟩] sc pos) spos) (tSetLc j wi tt te) := by
  intro pins s σ H D I h
  obtain ⟨cl, hcl, q1, q3⟩ := closure_ok X.env sc (fun y hy hf => I.ok.has y.1 (B.free y hy hf))
  rw [exec_Assign_Name_used _ _ _ _ hsw]
  refine wpAny_bind (wpAny_standAt (wpAny_bind ?_))
  show wpAny _ X.A (do let _ ← comprehension (.ListComp elt [⟨.Name x px, iter, ifs, 0⟩] sc pos) sc X.env _ (newList []) false (eval iter X.env) (some (assign (.Name y py) X.env))) _ _ s
  refine wpAny_bind (wpAny_mono (wpAny_comprehension_free (use := some (assign (.Name y py) X.env)) (Q := fun _ s' => SP X pins D .next s') rfl hs hcl B.kind B.names
    (lcomp_core (RR := fun acc C => compPost (model X.prog X.w) X.A X.xe (some (assign (.Name y py) X.env)) (fun _ s' => SP X pins D .next s') acc C) hc B hi (ht cl) (he cl) q1 q3 I h ?_)) (fun _ s' hq => wpAny_pure (wpAny_pure hq)) fun _ _ e => e)
  intro A C s' m H' I' hn fpC q
  show wpAny _ X.A (assign (.Name y py) X.env (.ref A)) _ _ s'
  refine wpAny_assign_Name (store_ok2 I' hN hj (.inl hy) (v := .ref A) rfl (fun s'' I'' ⟨a, sb, ha⟩ => ?_) (.inr hy))
  have hne : C ≠ a := by
    rcases ha with e | e
    · rw [e]; exact fpC.2.1
    · exact fun z => fpC.2.2.2.2.1 y a e z.symm
  exact ⟨m, hn.sameBut sb hne, fun h' sb' => ⟨_, H', I''.turned (t' := s''.toks) (fun b o hb e => sb'.extBut b o hb e) fpC.1 fpC.2.1 fpC.2.2.2.1 fpC.2.2.2.2.1 fpC.2.2.2.2.2, q⟩⟩
end
end L2


end
section
set_option Elab.async false
set_option linter.all false
set_option maxRecDepth 100000
set_option maxHeartbeats 4000000
namespace HT
open PySem PyProof.Rows L2
/-- t < u of tuples whose first unlike items are two ints or two texts -/
def lexV : List V → List V → Option Bool
  | [], [] => some false
  | [], _ :: _ => some true
  | _ :: _, [] => some false
  | .int i :: xs, .int j :: ys => if i = j then lexV xs ys else some (decide (i < j))
  | .str i :: xs, .str j :: ys => if i = j then lexV xs ys else some (decide (i.cps.toList < j.cps.toList))
  | _ :: _, _ :: _ => none
section
open PySem.SeqAt
open PySem.AutoSeq1 (wpAny_loadPart')
open PySem.MeetsSeq PySem.MeetsSeq2 PySem.MeetsSeq3
end
section
variable {prog : Program} {w : World} {A : Around} {E : Value → Shared → Prop} {s : Shared}
end
end HT

namespace L2
open PySem PySem.Spec PyProof.Rows
section
variable {X : Cx}
def clsV : V → Option Value
  | .ty n => some (.type n)
  | .ref a => some (.ref a)
  | _ => none
def rIsI (K : PySem.W.Frag) : List V → Hp → VK → Prop := fun xs H Q => ∃ x c t cv b, xs = [x, c] ∧ clsV c = some cv ∧ TyOf K H x t ∧ PySem.W.kitOne K t cv = some b ∧ Q (.bl b) H
theorem call_isinst : CallR X (.builtin "isinstance") (rIsI X.K) := by
  intro pins s σ H xs us Q I r h
  obtain ⟨x, c, t, cv, b, rfl, hc, ty, e, q⟩ := h
  obtain ⟨u, w', rfl, rx, rc⟩ := vals2 r
  have ec : w' = cv := by
    cases c <;> simp [clsV] at hc
    · subst hc; exact rc
    · subst hc; exact rc
  subst ec
  exact isinst_ok I rx ty e fun tk => ⟨.bl b, H, I.tok tk, rfl, q⟩
def rLtV (K : PySem.W.Frag) : R2 := fun x y H Q => ∃ a b xs ys r, x = .ref a ∧ y = .ref b ∧ SqT K H a xs ∧ SqT K H b ys ∧ HT.lexV xs ys = some r ∧ Q (.bl r) H
def Its (z : Str) : It := ⟨fun i _ => i < z.length, fun i H x H' => H' = H ∧ ∃ c, z.cps[i]? = some c ∧ x = .str ⟨#[c]⟩, fun i _ => z.length ≤ i⟩
end
end L2

namespace L2
open PySem PySem.Spec PyProof.Rows
section
variable {X : Cx}
def iStr (tl : TE) : TI := fun σ H R => tl σ H fun x H1 => ∃ z, x = .str z ∧ R (Its z) H1
def rJoin (K : PySem.W.Frag) : V → List V → Hp → VK → Prop := fun x xs H Q => ∃ z l ys, x = .str z ∧ xs = [.ref l] ∧ SqL K H l (ys.map V.str) ∧ (ys.map (·.length)).sum + ys.length * z.length ≤ 16777216 ∧ Q (.str (Txt.join z ys)) H
def rSlS : V → Option Int → Option Int → Hp → VK → Prop := fun x lo hi H Q => ∃ z, x = .str z ∧ z.length ≤ sizeLine ∧ Q (.str (Txt.slice z lo hi)) H
def eqVs (xs ys : List V) : Bool := (List.range (min xs.length ys.length)).all (fun i => eqV (xs.getD i .non) (ys.getD i .non)) && xs.length == ys.length
def rEqL (K : PySem.W.Frag) (neg : Bool) : R2 := fun x y H Q => ∃ a b xs ys, x = .ref a ∧ y = .ref b ∧ SqL K H a xs ∧ SqL K H b ys ∧ xs.all flatV = true ∧ ys.all flatV = true ∧ Q (.bl (if neg then !eqVs xs ys else eqVs xs ys)) H
theorem eqV_refl {x : V} (f : flatV x = true) : eqV x x = true := by cases x <;> simp [eqV, flatV] at *
end
end L2


end
section
set_option Elab.async false
set_option linter.all false
set_option maxRecDepth 100000
set_option maxHeartbeats 4000000
namespace L2
open PySem PySem.Spec PyProof.Rows
theorem bo_len : bootBuiltins "len" = some (.builtin "len") := by decide +kernel
theorem bo_isinstance : bootBuiltins "isinstance" = some (.builtin "isinstance") := by decide +kernel
theorem bo_list : bootBuiltins "list" = some (.type "list") := by decide +kernel
theorem bo_tuple : bootBuiltins "tuple" = some (.type "tuple") := by decide +kernel
/-- the block's names, as one test -/
def blkB (dsc sc : Scope) (x : Str) (N M : List Str) : Bool :=
  decide (sc.kind = .function) && sc.names.all (fun y => decide (y.2 ≠ .cell)) && sc.names.all (fun y => decide (y.2 = .local → sc.names.lookup y.1 = some .local)) && decide (sc.names.lookup x = some .local) && decide ((x :: M).Nodup) &&
  decide (M.length = N.length) && sc.names.all (fun y => decide (y.2 = .free → dsc.names.lookup y.1 = some .cell ∨ dsc.names.lookup y.1 = some .free)) &&
  (List.range M.length).all (fun i => match M[i]? with | some y => decide (sc.names.lookup y = some .free → N[i]? = some y) | none => true) && M.all (fun y => decide (sc.names.lookup y ≠ some .local))
theorem blkOk {X : Cx} {sc dsc : Scope} {x : Str} {N M : List Str} (hN : X.N = N) (hs : X.env.scope = dsc) (h : blkB dsc sc x N M = true) : BlkOk X sc x M := by
  unfold blkB at h
  simp only [Bool.and_eq_true, decide_eq_true_eq, List.all_eq_true] at h
  obtain ⟨⟨⟨⟨⟨⟨⟨⟨h1, h2⟩, h3⟩, h4⟩, h5⟩, h6⟩, h7⟩, h8⟩, h9⟩ := h
  refine ⟨h1, h2, h3, h4, h5, by rw [hN]; exact h6, fun y hy hf => ?_, fun i y hi hf => ?_, h9⟩
  · have := h7 y hy hf
    rw [← hs] at this
    exact this
  · have hl : i < M.length := (List.getElem?_eq_some_iff.mp hi).1
    have := h8 i (List.mem_range.mpr hl)
    rw [hi] at this
    rw [hN]
    exact (decide_eq_true_eq.mp this) hf
/-- a def of the text that may be called by its name: its promise, how it binds, where it stands -/
def Cal (P : Program) (w : World) (K : PySem.W.Frag) (mg : Str → Option Value) (base : Heap) (k : Nat) (x : Str) (ps : List Str) (sp : Sp) : Prop :=
  ∃ f fd, FnOk P w K mg base CX0 k f fd ps sp ∧ Binds K fd ps [] ∧ PySem.W.keepIn K (.ref f) = true ∧ mg x = some (.ref f)
section
variable {X : Cx} {e : Expr} {es : List Expr} {t : TA} {p pos : Pos}
theorem pe_cal {j k : Nat} {x : Str} {ps : List Str} {sp : Sp} (G : Cal X.prog X.w X.K X.mg X.base j x ps sp) (hr : Room k X.A) (hj : j ≤ k) (hg : Gl X x) (ha : PA X (e :: es) t) (hdb : (x == ("__debug__" : Str)) = false := by decide)
    (he : starEach (e :: es) X.env = (false, eval e X.env) :: starEach es X.env := by rfl) (hpl : (backTo pos (starEach es X.env)).any (·.1) = false := by rfl) : PE X (.Call (.Name x p) (e :: es) [] pos) (tCall sp [] E0 t) := by
  obtain ⟨f, fd, F, b, kp, m⟩ := G
  exact pe_call F (hr.mono hj) hg m kp b .nil pass0 ha hdb he hpl
end
theorem isI_of {K : PySem.W.Frag} {H : Hp} {Q : VK} {x : V} {n : String} {t : Value} {b : Bool} (ty : TyOf K H x t) (e : PySem.W.kitOne K t (.type n) = some b) (q : Q (.bl b) H) : rIsI K [x, .ty n] H Q := ⟨x, .ty n, t, .type n, b, rfl, rfl, ty, e, q⟩
section
variable {K : PySem.W.Frag}
theorem kit_int_bool : PySem.W.kitOne K (.type "int") (.type "bool") = some false := by rfl
end
end L2
namespace L2
open PySem PySem.Spec PyProof.Rows
theorem rd_start {t : TS} {D : Ends} {σ σ' : St} {H : Hp} (e : σ' = σ) (h : t D σ H) : t D σ' H := by rw [e]; exact h
end L2


end
section
set_option Elab.async false
set_option linter.all false
set_option maxRecDepth 100000
set_option maxHeartbeats 4000000
namespace Att
open PySem PySem.W PySem.Calls PyProof.Rows
theorem bits_all : ∀ (ns : List Int), WData.weightAll (ns.map WData.int) ≤ 2 ^ 20 → ∀ n ∈ ns, Builtin.Int.intBits n ≤ 2 ^ 20
  | [], _, _, h => nomatch h
  | m :: ns, hw, n, h => by
    rw [List.map_cons] at hw
    have e : WData.weightAll (WData.int m :: ns.map WData.int) = WData.weight (.int m) + 1 + WData.weightAll (ns.map WData.int) := by simp only [WData.weightAll]
    rw [e] at hw
    rcases List.mem_cons.mp h with rfl | h
    · have : WData.weight (.int n) ≤ 2 ^ 20 := by omega
      simpa only [WData.weight, Builtin.Int.intBits] using this
    · exact bits_all ns (by omega) n h
theorem attach_callB {l : OpenLaw} {n : Nat} {q : Program} {loose : List Str} {XP : (Str → Option Value) → Heap → Prop} {YP : World → Heap → Prop} {d : DefRec}
    (hn : l.most = some n) (hdf : d.params.defaults = [])
    (call : ∀ (w : World) (s₀ s₁ : Shared) (mg mb : Str → Option Value) (fa : Addr) (o : Obj) (pm cd doc : Value) (a : Addr) (vs : List Value) (ns : List Int),
      Ground q loose [] XP w s₀ mg mb s₁.heap → YP w s₁.heap →
      s₁.heap.get? fa = some o → o.data = .func (docDef d.name d.params d.body d.scope pm cd doc) → s₁.heap.CodeRec cd d.name → mg d.name = some (.ref fa) →
      s₁.heap.get? a = some { cls := .type "list", data := .seq vs.toArray } → IntsAre vs ns → ns.length ≤ n → (∀ i ∈ ns, Builtin.Int.intBits i ≤ 2 ^ 20) → s₁.gens = #[] →
      codeAny (model l.prog w) callerA (.call (.ref fa) ⟨[.ref a], []⟩) (fun r s' => r = .ok (.ret (.bool true)) ∧ OldK s₁.heap s'.heap ∧ s'.os = s₁.os ∧ AllBare s'.gens) s₁) :
    WalkO q loose XP YP l.row.toRowW d [] (fun f vs => PySem.call f vs) := by
  intro w s₀ s₁ mg mb G Y fa o pm cd doc dV kV ho hd hcd hD hmg hg args vals as hpre hlay hrd hwl hlo
  obtain rfl : dV = .none := Dflts.none hD hdf
  obtain rfl : kV = .none := Dflts.noKw hD
  obtain ⟨a, vs, ns, rfl, rfl, hobj, hints, hlen⟩ := script_of hn hpre hwl
  have hb : ∀ i ∈ ns, Builtin.Int.intBits i ≤ 2 ^ 20 := by
    have h1 : WData.layable (.list (ns.map WData.int)) = true := by
      have := hlay
      unfold WData.layableAll at this
      exact List.all_eq_true.mp this _ List.mem_cons_self
    have h2 : WData.weight (.list (ns.map WData.int)) ≤ 2 ^ 20 := of_decide_eq_true (Bool.and_eq_true_iff.mp h1).2
    exact bits_all ns (by simpa only [WData.weight] using h2)
  refine enter_call (codeAny_mono (call w s₀ s₁ mg mb fa o pm cd doc a vs ns G Y ho (fd_plain hd) hcd hmg hobj hints hlen hb hg) fun r s' hq => ?_)
  obtain ⟨rfl, h2, h3, h4⟩ := hq
  exact ⟨.inl ⟨.bool true, .bool true, [], rfl, fun _ => rfl, .bool true, post_true l _, fun _ => ⟨List.Pairwise.nil, fun _ hm => (nomatch hm)⟩⟩, h2, h3, h4⟩
end Att
namespace L2
open PySem PySem.Spec PyProof.Rows
/-- the head, with the bound of the script's ints -/
theorem walk_ofB {l : PySem.W.OpenLaw} {n k : Nat} {q : Program} {loose : List Str} {XP : (Str → Option Value) → Heap → Prop} {YP : World → Heap → Prop} {d : DefRec} {K : Params → PySem.W.Frag} {CX : World → CXT} {sp : PySem.W.Frag → Sp} {x : Str}
    (hn : l.most = some n) (hn2 : n ≤ sizeLine) (hdf : d.params.defaults = []) (hr : Room k callerA)
    (hY : ∀ (w : World) (h : Heap), YP w h → (K w.params).In h)
    (F : ∀ (w : World) (mg : Str → Option Value) (fa : Addr) (h : Heap), (K w.params).In h → h.Ns mainGlobals mg → mg d.name = some (.ref fa) →
      ∃ fd : FuncData, (∀ (s : Shared) (u : Value), BindsTo s fd ⟨[u], []⟩ [(x, u)]) ∧
        ∀ base : Heap, (K w.params).In base → base.Ns mainGlobals mg → FnOk l.prog w (K w.params) mg base (CX w) k fa fd [x] (sp (K w.params)))
    (hsp : ∀ (K : PySem.W.Frag) (H : Hp) (a : Addr) (ns : List Int), ns.length ≤ n → (∀ i ∈ ns, Builtin.Int.intBits i ≤ 2 ^ 20) → Only H → SqL K H a (ns.map V.int) → sp K [.ref a] H (fun v _ => v = .bl true) fun _ _ _ => False)
    (hCX : ∀ (w : World) (H : Hp) (s : Shared) (e : Value) (s' : Shared), CX w [] H s (fun _ _ _ => False) e s' → False) :
    PySem.W.WalkO q loose XP YP l.row.toRowW d [] (fun f vs => PySem.call f vs) := by
  refine Att.attach_callB hn hdf fun w s₀ s₁ mg mb fa o pm cd doc a vs ns G Y ho hd hcd hmg hobj hints hlen hb hg => ?_
  have KX := hY w _ Y
  obtain ⟨fd, hbd, hF⟩ := F w mg fa _ KX G.T.g hmg
  exact law_call KX G.T.g G.T.b G.T.builtins G.T.nolimit hg hobj hints (Nat.le_trans hlen hn2) hr hF hbd (fun H hO hS => hsp _ H a ns hlen hb hO hS) fun H e s' => hCX w H s₁ e s'
section
variable {X : Cx}
theorem op_mulB : OpR X (binaryOp .Mult) (rI IntMulOk fun i j => .int (i * j)) := opI fun _ _ _ _ _ _ _ hc q => mul_int q hc
end
end L2


end
section
set_option Elab.async false
set_option linter.all false
set_option maxRecDepth 100000
set_option maxHeartbeats 4000000
namespace L2
open PySem PySem.Spec PyProof.Rows
section
variable {X : Cx}
end
theorem same_upd {H : Hp} {p : Addr} (h : H p = none) (o : HO) : Same H (upd H p o) := fun b u q => by rw [upd_ne (ne_of_none q h)]; exact q
theorem Same.updL {H H' : Hp} {p : Addr} (s : Same H H') (h : H p = none) (o : HO) : Same H (upd H' p o) := fun b u q => by rw [upd_ne (ne_of_none q h)]; exact s b u q
theorem Same.seqT {K : PySem.W.Frag} {H H' : Hp} {a : Addr} {xs : List V} (e : Same H H') (h : SqT K H a xs) : SqT K H' a xs := by
  rcases h with (h | ⟨o, h⟩) | h
  · exact .inl (.inl (e _ _ h))
  · exact .inl (.inr ⟨o, e _ _ h⟩)
  · exact .inr h
end L2
namespace L2
open PySem PySem.Spec PyProof.Rows
def FoR (J : It) (g : TG) (tb : TS) (D : Ends) (σ : St) (H1 : Hp) : Prop := ∃ W : Nat → Nat → St → Hp → Prop, (∃ m, W 0 m σ H1) ∧ ∀ i m σ H, W i m σ H →
  (J.stop i H ∧ D.nx σ H) ∨ (J.go i H ∧ ∃ N : St → Hp → Prop, (∀ σ' H', N σ' H' → ∃ m', m' < m ∧ W (i + 1) m' σ' H') ∧ ∀ x H', J.yld i H x H' → g x σ H' fun σ2 H2 => tb { D with nx := N, ct := N, bk := D.nx } σ2 H2)
def LcR (J : It) (tt : TT) (te : TE) (σ : St) (Q : VK) (H1 : Hp) : Prop := ∀ D, H1 D = none → ∃ W : Nat → Nat → List V → Hp → Prop, (∃ m, W 0 m [] (upd H1 D (.lst []))) ∧ ∀ i m ys H, W i m ys H →
  H D = some (.lst ys) ∧ ((J.stop i H ∧ Q (.ref D) H) ∨ (J.go i H ∧ ys.length < sizeLine ∧ ∀ x H', J.yld i H x H' → tt (some x :: σ) H' fun b H2 => if b = true then te (some x :: σ) H2 fun v H3 =>
    H3 D = some (.lst ys) ∧ ∃ m', m' < m ∧ W (i + 1) m' (ys ++ [v]) (upd H3 D (.lst (ys ++ [v]))) else ∃ m', m' < m ∧ W (i + 1) m' ys H2))
theorem tFor_rng1 {ta : TA} {g : TG} {tb : TS} {D : Ends} {σ : St} {H : Hp} : tFor (iRng1 ta) g tb D σ H = ta σ H fun vs H1 => ∃ j : Int, vs = [.int j] ∧ -(2 ^ 62) ≤ j ∧ j < 2 ^ 62 ∧ FoR (Itr 0 j.toNat) g tb D σ H1 := rfl
theorem tFor_rng2 {ta : TA} {g : TG} {tb : TS} {D : Ends} {σ : St} {H : Hp} : tFor (iRng2 ta) g tb D σ H = ta σ H fun vs H1 => ∃ i j : Int, vs = [.int i, .int j] ∧ (-(2 ^ 62) ≤ i ∧ i < 2 ^ 62 ∧ -(2 ^ 62) ≤ j ∧ j < 2 ^ 62) ∧ FoR (Itr i (j - i).toNat) g tb D σ H1 := rfl
theorem tFor_list {K : PySem.W.Frag} {tl : TE} {g : TG} {tb : TS} {D : Ends} {σ : St} {H : Hp} : tFor (iList K tl) g tb D σ H = tl σ H fun x H1 => ∃ a, x = .ref a ∧ (∃ xs, SqL K H1 a xs) ∧ FoR (Itl K a) g tb D σ H1 := rfl
theorem tFor_tup {K : PySem.W.Frag} {tl : TE} {g : TG} {tb : TS} {D : Ends} {σ : St} {H : Hp} : tFor (iTup K tl) g tb D σ H = tl σ H fun x H1 => ∃ a, x = .ref a ∧ (∃ xs, SqT K H1 a xs) ∧ FoR (Itt K a) g tb D σ H1 := rfl
theorem tFor_str {tl : TE} {g : TG} {tb : TS} {D : Ends} {σ : St} {H : Hp} : tFor (iStr tl) g tb D σ H = tl σ H fun x H1 => ∃ z, x = .str z ∧ FoR (Its z) g tb D σ H1 := rfl
theorem tLc_rng1 {ta : TA} {tt : TT} {te : TE} {σ : St} {H : Hp} {Q : VK} : tLc (iRng1 ta) tt te σ H Q = ta σ H fun vs H1 => ∃ j : Int, vs = [.int j] ∧ -(2 ^ 62) ≤ j ∧ j < 2 ^ 62 ∧ LcR (Itr 0 j.toNat) tt te σ Q H1 := rfl
theorem tLc_list {K : PySem.W.Frag} {tl : TE} {tt : TT} {te : TE} {σ : St} {H : Hp} {Q : VK} : tLc (iList K tl) tt te σ H Q = tl σ H fun x H1 => ∃ a, x = .ref a ∧ (∃ xs, SqL K H1 a xs) ∧ LcR (Itl K a) tt te σ Q H1 := rfl
theorem tLc_tup {K : PySem.W.Frag} {tl : TE} {tt : TT} {te : TE} {σ : St} {H : Hp} {Q : VK} : tLc (iTup K tl) tt te σ H Q = tl σ H fun x H1 => ∃ a, x = .ref a ∧ (∃ xs, SqT K H1 a xs) ∧ LcR (Itt K a) tt te σ Q H1 := rfl
theorem tLc_str {tl : TE} {tt : TT} {te : TE} {σ : St} {H : Hp} {Q : VK} : tLc (iStr tl) tt te σ H Q = tl σ H fun x H1 => ∃ z, x = .str z ∧ LcR (Its z) tt te σ Q H1 := rfl
theorem foR_range {lo : Int} {n : Nat} {g : TG} {tb : TS} {D : Ends} {σ : St} {H : Hp} (Pv : Nat → St → Hp → Prop) (h0 : Pv 0 σ H)
    (hs : ∀ i σ H, i < n → Pv i σ H → g (.int (lo + i)) σ H fun σ2 H2 => tb { D with nx := Pv (i + 1), ct := Pv (i + 1), bk := D.nx } σ2 H2) (hd : ∀ σ H, Pv n σ H → D.nx σ H) : FoR (Itr lo n) g tb D σ H := for_range Pv h0 hs hd
end L2


end
section
set_option linter.all false
namespace SortT
open PySem PySem.W PyProof.Rows
def K (r : Nat → Nat) (p : Array Nat) (i : Nat) : Nat := r (p.getD i 0)
structure Ok (n : Nat) (p : Array Nat) : Prop where
  size : p.size = n
  perm : p.Perm (List.range n).toArray
theorem Ok.lt {n : Nat} {p : Array Nat} (h : Ok n p) (hn : 0 < n) (i : Nat) : p.getD i 0 < n := by
  rw [Array.getD_eq_getD_getElem?]
  cases e : p[i]? with
  | none => exact hn
  | some x =>
    have hx : x ∈ p := Array.mem_of_getElem? e
    have := (h.perm.mem_iff (a := x)).mp hx
    simpa using this
theorem Ok.start (n : Nat) : Ok n (List.range n).toArray := ⟨by simp, Array.Perm.refl _⟩
def Up (r : Nat → Nat) (p : Array Nat) (m : Nat) : Prop := ∀ i j, i ≤ j → j < m → K r p i ≤ K r p j
def Dn (r : Nat → Nat) (p : Array Nat) (m : Nat) : Prop := ∀ i j, i ≤ j → j < m → K r p j ≤ K r p i
variable {n : Nat} {r : Nat → Nat}
end SortT


end
section
set_option linter.all false
set_option Elab.async false
set_option maxRecDepth 100000
namespace SortB
open PySem PySem.W PyProof.Rows
/-- the rank of what stands at i -/
def K (rk : Keyed → Nat) (a : Array Keyed) (i : Nat) : Nat := match a[i]? with | some p => rk p | none => 0
theorem K_get {rk : Keyed → Nat} {a : Array Keyed} {i : Nat} (h : i < a.size) : K rk a i = rk a[i] := by unfold K; rw [getElem?_pos a i h]
section
variable {prog : Program} {w : World} {A : Around} {E : Value → Shared → Prop} {s : Shared} {κ : SortKind} {rk : Keyed → Nat} {S : Keyed → Prop}
end
end SortB


end
section
set_option linter.all false
set_option Elab.async false
set_option maxRecDepth 100000
namespace SortB
open PySem PySem.W PyProof.Rows
/-- rising by rank -/
abbrev Rs (rk : Keyed → Nat) (l : List Keyed) : Prop := l.Pairwise fun x y => rk x ≤ rk y
/-- merged so far: ia of la, ib of lb -/
structure Mg (rk : Keyed → Nat) (la lb out : List Keyed) (ia ib : Nat) : Prop where
  perm : out.Perm (la.take ia ++ lb.take ib)
  pw : Rs rk out
  ra : ∀ x ∈ out, ∀ y ∈ la.drop ia, rk x ≤ rk y
  rb : ∀ x ∈ out, ∀ y ∈ lb.drop ib, rk x ≤ rk y
section
variable {rk : Keyed → Nat} {la lb out : List Keyed} {ia ib k : Nat}
theorem drop_split (l : List Keyed) (i k : Nat) : l.drop i = (l.drop i).take k ++ l.drop (i + k) := by
  rw [← List.drop_drop, List.take_append_drop]
theorem Mg.takeA (m : Mg rk la lb out ia ib) (pa : Rs rk la) (k : Nat) (h : ∀ x ∈ (la.drop ia).take k, ∀ y ∈ lb.drop ib, rk x ≤ rk y) : Mg rk la lb (out ++ (la.drop ia).take k) (ia + k) ib := by
  have pd : Rs rk (la.drop ia) := pa.sublist (List.drop_sublist _ _)
  have ps := drop_split la ia k
  refine ⟨?_, ?_, ?_, ?_⟩
  · have e : la.take (ia + k) = la.take ia ++ (la.drop ia).take k := by rw [List.take_add]
    rw [e]
    refine (m.perm.append_right _).trans ?_
    rw [List.append_assoc, List.append_assoc]
    exact (List.perm_append_comm).append_left _
  · refine List.pairwise_append.mpr ⟨m.pw, pd.sublist (List.take_sublist _ _), fun x hx y hy => m.ra x hx y (List.mem_of_mem_take hy)⟩
  · intro x hx y hy
    rcases List.mem_append.mp hx with hx | hx
    · exact m.ra x hx y (by rw [ps]; exact List.mem_append_right _ hy)
    · rw [ps] at pd
      exact (List.pairwise_append.mp pd).2.2 x hx y hy
  · intro x hx y hy
    rcases List.mem_append.mp hx with hx | hx
    · exact m.rb x hx y hy
    · exact h x hx y hy
theorem Mg.swap (m : Mg rk la lb out ia ib) : Mg rk lb la out ib ia := ⟨m.perm.trans List.perm_append_comm, m.pw, m.rb, m.ra⟩
theorem Mg.takeB (m : Mg rk la lb out ia ib) (pb : Rs rk lb) (k : Nat) (h : ∀ x ∈ (lb.drop ib).take k, ∀ y ∈ la.drop ia, rk x ≤ rk y) : Mg rk la lb (out ++ (lb.drop ib).take k) ia (ib + k) := (m.swap.takeA pb k h).swap
/-- all of a, then what is left of b -/
theorem Mg.done (m : Mg rk la lb out ia ib) (pa : Rs rk la) (pb : Rs rk lb) (h : ∀ x ∈ la.drop ia, ∀ y ∈ lb.drop ib, rk x ≤ rk y) : (out ++ la.drop ia ++ lb.drop ib).Perm (la ++ lb) ∧ Rs rk (out ++ la.drop ia ++ lb.drop ib) := by
  have e1 : (la.drop ia).take la.length = la.drop ia := List.take_of_length_le (by rw [List.length_drop]; omega)
  have e2 : (lb.drop ib).take lb.length = lb.drop ib := List.take_of_length_le (by rw [List.length_drop]; omega)
  have m1 := m.takeA pa la.length (by rw [e1]; exact h)
  rw [e1] at m1
  have z : la.drop (ia + la.length) = [] := List.drop_eq_nil_of_le (by omega)
  have m2 := m1.takeB pb lb.length (by rw [z]; intro _ _ _ q; cases q)
  rw [e2] at m2
  refine ⟨?_, m2.pw⟩
  have := m2.perm
  rwa [List.take_of_length_le (by omega), List.take_of_length_le (by omega)] at this
theorem Mg.doneB (m : Mg rk la lb out ia ib) (pa : Rs rk la) (pb : Rs rk lb) (h : ∀ x ∈ lb.drop ib, ∀ y ∈ la.drop ia, rk x ≤ rk y) : (out ++ lb.drop ib ++ la.drop ia).Perm (la ++ lb) ∧ Rs rk (out ++ lb.drop ib ++ la.drop ia) := by
  obtain ⟨a, b⟩ := m.swap.done pb pa h
  exact ⟨a.trans List.perm_append_comm, b⟩
end
section
variable {rk : Keyed → Nat} {a : Array Keyed} {i j k n : Nat} {x : Keyed}
theorem Rs.le (h : Rs rk a.toList) (hij : i ≤ j) (hj : j < a.size) : K rk a i ≤ K rk a j := by
  by_cases e : i = j
  · rw [e]; exact Nat.le_refl _
  · rw [K_get (show i < a.size by omega), K_get hj]
    have := List.pairwise_iff_getElem.mp h i j (by simp; omega) (by simp; omega) (by omega)
    simpa using this
end
section
variable {prog : Program} {w : World} {A : Around} {E : Value → Shared → Prop} {s : Shared} {κ : SortKind} {rk : Keyed → Nat} {S : Keyed → Prop}
end
end SortB


end
section
set_option linter.all false
set_option Elab.async false
set_option maxRecDepth 100000
namespace SortB
open PySem PySem.W PyProof.Rows
/-- merged so far from the right: na of la, nb of lb are left -/
structure Mh (rk : Keyed → Nat) (la lb R : List Keyed) (na nb : Nat) : Prop where
  perm : R.Perm (la.drop na ++ lb.drop nb)
  pw : Rs rk R
  ra : ∀ x ∈ la.take na, ∀ y ∈ R, rk x ≤ rk y
  rb : ∀ x ∈ lb.take nb, ∀ y ∈ R, rk x ≤ rk y
section
variable {rk : Keyed → Nat} {la lb R : List Keyed} {na nb k : Nat}
theorem Mh.swap (m : Mh rk la lb R na nb) : Mh rk lb la R nb na := ⟨m.perm.trans List.perm_append_comm, m.pw, m.rb, m.ra⟩
theorem drop_mid {l : List Keyed} {k n : Nat} (h : k ≤ n) : l.drop k = (l.drop k).take (n - k) ++ l.drop n := by
  have e : l.drop n = (l.drop k).drop (n - k) := by rw [List.drop_drop]; congr 1; omega
  rw [e, List.take_append_drop]
theorem take_mid {l : List Keyed} {k n : Nat} (h : k ≤ n) : l.take n = l.take k ++ (l.drop k).take (n - k) := by
  have e : n = k + (n - k) := by omega
  rw [e, List.take_add]
  congr 2
  omega
theorem Mh.takeA (m : Mh rk la lb R na nb) (pa : Rs rk la) (k : Nat) (hk : k ≤ na) (h : ∀ x ∈ lb.take nb, ∀ y ∈ (la.drop k).take (na - k), rk x ≤ rk y) : Mh rk la lb ((la.drop k).take (na - k) ++ R) k nb := by
  have pt : Rs rk (la.take na) := pa.sublist (List.take_sublist _ _)
  have ps := take_mid (l := la) hk
  rw [ps] at pt
  obtain ⟨_, p2, p3⟩ := List.pairwise_append.mp pt
  have sub : ∀ y ∈ (la.drop k).take (na - k), y ∈ la.take na := fun y hy => by rw [ps]; exact List.mem_append_right _ hy
  refine ⟨?_, ?_, ?_, ?_⟩
  · refine (m.perm.append_left _).trans (List.Perm.of_eq ?_)
    rw [← List.append_assoc, ← drop_mid hk]
  · exact List.pairwise_append.mpr ⟨p2, m.pw, fun x hx y hy => m.ra x (sub x hx) y hy⟩
  · intro x hx y hy
    rcases List.mem_append.mp hy with hy | hy
    · exact p3 x hx y hy
    · exact m.ra x (by rw [ps]; exact List.mem_append_left _ hx) y hy
  · intro x hx y hy
    rcases List.mem_append.mp hy with hy | hy
    · exact h x hx y hy
    · exact m.rb x hx y hy
theorem Mh.takeB (m : Mh rk la lb R na nb) (pb : Rs rk lb) (k : Nat) (hk : k ≤ nb) (h : ∀ x ∈ la.take na, ∀ y ∈ (lb.drop k).take (nb - k), rk x ≤ rk y) : Mh rk la lb ((lb.drop k).take (nb - k) ++ R) na k := (m.swap.takeA pb k hk h).swap
theorem Mh.doneB (m : Mh rk la lb R na nb) (pa : Rs rk la) (pb : Rs rk lb) (h : ∀ x ∈ lb.take nb, ∀ y ∈ la.take na, rk x ≤ rk y) : (lb.take nb ++ la.take na ++ R).Perm (la ++ lb) ∧ Rs rk (lb.take nb ++ la.take na ++ R) := by
  have m1 := m.takeA pa 0 (Nat.zero_le _) (by simpa using h)
  have m2 := m1.takeB pb 0 (Nat.zero_le _) (by simp)
  have e : ((lb.drop 0).take (nb - 0) ++ ((la.drop 0).take (na - 0) ++ R)) = lb.take nb ++ la.take na ++ R := by simp
  rw [e] at m2
  exact ⟨by simpa using m2.perm, m2.pw⟩
theorem Mh.done (m : Mh rk la lb R na nb) (pa : Rs rk la) (pb : Rs rk lb) (h : ∀ x ∈ la.take na, ∀ y ∈ lb.take nb, rk x ≤ rk y) : (la.take na ++ lb.take nb ++ R).Perm (la ++ lb) ∧ Rs rk (la.take na ++ lb.take nb ++ R) := by
  obtain ⟨a, b⟩ := m.swap.doneB pb pa h
  exact ⟨a.trans List.perm_append_comm, b⟩
end
section
variable {rk : Keyed → Nat} {a : Array Keyed} {i j k n : Nat} {x : Keyed}
end
section
variable {prog : Program} {w : World} {A : Around} {E : Value → Shared → Prop} {s : Shared} {κ : SortKind} {rk : Keyed → Nat} {S : Keyed → Prop}
end
end SortB


end
section
set_option linter.all false
set_option Elab.async false
set_option maxRecDepth 100000
namespace SortB
open PySem PySem.W PyProof.Rows
/-- rising between lo and hi -/
def Up (rk : Keyed → Nat) (a : Array Keyed) (lo hi : Nat) : Prop := ∀ i j, lo ≤ i → i ≤ j → j < hi → K rk a i ≤ K rk a j
/-- changed between lo and hi alone, the same things in all -/
structure Ch (rk : Keyed → Nat) (lo hi : Nat) (a b : Array Keyed) : Prop where
  perm : b.Perm a
  out : ∀ j, j < lo ∨ hi ≤ j → K rk b j = K rk a j
section
variable {rk : Keyed → Nat} {a b c : Array Keyed} {lo hi lo' hi' i j k n : Nat}
theorem Ch.refl : Ch rk lo hi a a := ⟨Array.Perm.refl _, fun _ _ => rfl⟩
theorem Ch.size (h : Ch rk lo hi a b) : b.size = a.size := h.perm.size_eq
theorem Ch.trans (h : Ch rk lo hi a b) (h' : Ch rk lo hi b c) : Ch rk lo hi a c := ⟨h'.perm.trans h.perm, fun j hj => (h'.out j hj).trans (h.out j hj)⟩
theorem Ch.mono (h : Ch rk lo hi a b) (h1 : lo' ≤ lo) (h2 : hi ≤ hi') : Ch rk lo' hi' a b := ⟨h.perm, fun j hj => h.out j (by omega)⟩
theorem Ch.all {S : Keyed → Prop} (h : Ch rk lo hi a b) (hS : ∀ x ∈ a, S x) : ∀ x ∈ b, S x := fun x hx => hS x (h.perm.mem_iff.mp hx)
theorem Up.ext (u : Up rk a lo hi) (h : ∀ i, lo ≤ i → i < hi → K rk b i = K rk a i) : Up rk b lo hi := fun i j h1 h2 h3 => by
  rw [h i h1 (by omega), h j (by omega) h3]; exact u i j h1 h2 h3
end
section
variable {prog : Program} {w : World} {A : Around} {E : Value → Shared → Prop} {s : Shared} {κ : SortKind} {rk : Keyed → Nat} {S : Keyed → Prop}
end
end SortB


end
section
set_option linter.all false
set_option Elab.async false
set_option maxRecDepth 100000
namespace SortB
open PySem PySem.W PyProof.Rows
section
variable {prog : Program} {w : World} {A : Around} {E : Value → Shared → Prop} {s : Shared} {κ : SortKind} {rk : Keyed → Nat} {S : Keyed → Prop}
/-- falling between lo and hi -/
def Dn (rk : Keyed → Nat) (a : Array Keyed) (lo hi : Nat) : Prop := ∀ i j, lo ≤ i → i ≤ j → j < hi → K rk a j ≤ K rk a i
theorem Up.step {a : Array Keyed} {lo n : Nat} (u : Up rk a lo (lo + n)) (hn : 1 ≤ n) (h : ¬ K rk a (lo + n) < K rk a (lo + n - 1)) : Up rk a lo (lo + (n + 1)) := fun i j h1 h2 h3 => by
  by_cases hj : j < lo + n
  · exact u i j h1 h2 hj
  · have : j = lo + n := by omega
    subst this
    by_cases hi : i = lo + n
    · rw [hi]; exact Nat.le_refl _
    · have := u i (lo + n - 1) h1 (by omega) (by omega); omega
theorem Dn.step {a : Array Keyed} {lo n : Nat} (u : Dn rk a lo (lo + n)) (hn : 1 ≤ n) (h : K rk a (lo + n) ≤ K rk a (lo + n - 1)) : Dn rk a lo (lo + (n + 1)) := fun i j h1 h2 h3 => by
  by_cases hj : j < lo + n
  · exact u i j h1 h2 hj
  · have : j = lo + n := by omega
    subst this
    by_cases hi : i = lo + n
    · rw [hi]; exact Nat.le_refl _
    · have := u i (lo + n - 1) h1 (by omega) (by omega); omega
end
end SortB


end
section
set_option linter.all false
set_option Elab.async false
set_option maxRecDepth 100000
namespace SortB
open PySem PySem.W PyProof.Rows
/-- the runs lie one behind the other, from lo to hi -/
def Cov (rk : Keyed → Nat) (a : Array Keyed) : List (Nat × Nat × Nat) → Nat → Nat → Prop
  | [], lo, hi => lo = hi
  | (s, n, _) :: r, lo, hi => s = lo ∧ 0 < n ∧ Up rk a lo (lo + n) ∧ Cov rk a r (lo + n) hi
section
variable {rk : Keyed → Nat} {a b : Array Keyed} {l r : List (Nat × Nat × Nat)} {lo hi mid : Nat}
theorem Cov.le : ∀ {l : List (Nat × Nat × Nat)} {lo hi : Nat}, Cov rk a l lo hi → lo + l.length ≤ hi
  | [], lo, hi, h => by have : lo = hi := h; simp; omega
  | (s, n, p) :: r, lo, hi, h => by
    obtain ⟨_, h1, _, h2⟩ := h
    have := Cov.le h2
    rw [List.length_cons]; omega
theorem Cov.ext : ∀ {l : List (Nat × Nat × Nat)} {lo : Nat}, Cov rk a l lo hi → (∀ j, lo ≤ j → j < hi → K rk b j = K rk a j) → Cov rk b l lo hi
  | [], _, h, _ => h
  | (s, n, p) :: l, lo, h, e => by
    obtain ⟨a1, a2, a3, a4⟩ := h
    have := Cov.le a4
    exact ⟨a1, a2, a3.ext fun i h1 h2 => e i h1 (by omega), a4.ext fun j h1 h2 => e j (by omega) h2⟩
end
section
variable {prog : Program} {w : World} {A : Around} {E : Value → Shared → Prop} {s : Shared} {κ : SortKind} {rk : Keyed → Nat} {S : Keyed → Prop}
end
end SortB


end
section
set_option linter.all false
set_option Elab.async false
set_option maxRecDepth 100000
namespace SortB
open PySem PySem.W PyProof.Rows
open Classical in
section
variable {prog : Program} {w : World} {A : Around} {E : Value → Shared → Prop} {s : Shared} {κ : SortKind} {ks vs : List Value} {r : Nat → Nat}
end
end SortB


end
section
set_option Elab.async false
set_option linter.all false
set_option maxRecDepth 100000
set_option maxHeartbeats 4000000
namespace L2
open PySem PySem.Spec PyProof.Rows PySem.W
theorem Vals.getD : ∀ {xs : List V} {us : List Value}, Vals xs us → ∀ i, RelV (xs.getD i .non) (us.getD i Value.none) := fun {xs us} r i => by
  cases e : xs[i]? with
  | none =>
    have e2 := r.none_of e
    rw [List.getD_eq_getElem?_getD, List.getD_eq_getElem?_getD, e, e2]
    rfl
  | some x =>
    obtain ⟨u, e2, ru⟩ := r.get e
    rw [List.getD_eq_getElem?_getD, List.getD_eq_getElem?_getD, e, e2]
    exact ru
theorem Vals.pick {xs : List V} {us : List Value} (r : Vals xs us) : ∀ l : List Nat, Vals (l.map fun i => xs.getD i .non) (l.map fun i => us.getD i Value.none)
  | [] => .nil
  | i :: l => .cons (r.getD i) (r.pick l)
/-- lt is a strict weak order on xs -/
structure Swo {α : Type} (xs : List α) (lt : α → α → Bool) : Prop where
  irr : ∀ a ∈ xs, lt a a = false
  tr : ∀ a ∈ xs, ∀ b ∈ xs, ∀ c ∈ xs, lt a b = true → lt b c = true → lt a c = true
  neg : ∀ a ∈ xs, ∀ b ∈ xs, ∀ c ∈ xs, lt a c = true → lt a b = true ∨ lt b c = true
end L2


end
section
set_option Elab.async false
set_option linter.all false
set_option maxRecDepth 100000
set_option maxHeartbeats 400000
namespace L2
open PySem PySem.Spec PyProof.Rows PySem.W
section
variable {X : Cx} {pins : List (Addr × Obj)} {σ : St} {H : Hp} {s : Shared} {k : Nat} {f : Addr} {fd : FuncData} {p0 : Str} {sp : Sp} {A : Around} {E : Value → Shared → Prop}
/-- what is known of the key function over the items -/
structure KeyF (K : PySem.W.Frag) (sp : Sp) (H : Hp) (xs : List V) (rk : V → List V) (lt : V → V → Bool) : Prop where
  hd : ∀ v ∈ xs, ∃ n r, rk v = .int n :: r
  key : ∀ v ∈ xs, ∀ H2, Same H H2 → ∀ R : VK, (∀ p H3, Same H2 H3 → SqT K H3 p (rk v) → R (.ref p) H3) → sp [v] H2 R E0
  lex : ∀ v ∈ xs, ∀ u ∈ xs, HT.lexV (rk v) (rk u) = some (lt v u)
  swo : Swo xs lt
end
end L2


end
section
set_option Elab.async false
set_option linter.all false
set_option maxRecDepth 100000
set_option maxHeartbeats 400000
namespace L2
open PySem PySem.Spec PyProof.Rows PySem.W
section
variable {X : Cx} {pins : List (Addr × Obj)} {σ : St} {H : Hp} {s : Shared} {k : Nat} {f : Addr} {fd : FuncData} {p0 : Str} {sp : Sp}
def tSortK (K : PySem.W.Frag) (sp : Sp) (te : TE) : TE := fun σ H Q => te σ H fun x H1 => ∃ a xs rk lt, x = .ref a ∧ SqL K H1 a xs ∧ xs.length < 64 ∧ KeyF K sp H1 xs rk lt ∧
  ∀ D H' ys, Same H1 H' → H1 D = none → H' D = some (.lst ys) → ys.Perm xs → ys.Pairwise (fun a b => lt b a = false) → Q (.ref D) H'
def tSortKB (K : PySem.W.Frag) (sp : Sp) (te : TE) : TE := fun σ H Q => te σ H fun x H1 => ∃ a xs rk lt, x = .ref a ∧ SqL K H1 a xs ∧ xs.length < 1000 ∧ KeyF K sp H1 xs rk lt ∧
  ∀ D H' ys, Same H1 H' → H1 D = none → H' D = some (.lst ys) → ys.Perm xs → ys.Pairwise (fun a b => lt b a = false) → Q (.ref D) H'
end
end L2


end
section
set_option Elab.async false
set_option linter.all false
set_option maxRecDepth 100000
set_option maxHeartbeats 400000
namespace L2
open PySem PySem.Spec PyProof.Rows
section
variable {X : Cx} {e : Expr} {es : List Expr} {te : TE} {pos : Pos}
def tFmtI (te : TE) : TE := fun σ H Q => te σ H fun x H1 => ∃ i : Int, x = .int i ∧ i.natAbs.log2 < 1920 ∧ Q (.str (toString i)) H1
def tFmtS (te : TE) : TE := fun σ H Q => te σ H fun x H1 => ∃ z : Str, x = .str z ∧ z.length ≤ sizeLine ∧ Q (.str z) H1
def tParts : List TE → Str → TE
  | [], acc => fun _ H Q => acc.length ≤ sizeLine ∧ Q (.str acc) H
  | t :: ts, acc => fun σ H Q => t σ H fun x H1 => ∃ z : Str, x = .str z ∧ (acc ++ z).length ≤ sizeLine ∧ tParts ts (acc ++ z) σ H1 Q
def tJoinF (ts : List TE) : TE := tParts ts Str.empty
end
theorem empty_add (z : Str) : Str.empty ++ z = z := by
  apply PyProof.Rows.ext_toList
  rw [PySem.W.KT.app_list]; rfl
end L2


end
section
set_option Elab.async false
set_option linter.all false
set_option maxRecDepth 100000
set_option maxHeartbeats 400000
namespace Pl
open PySem L2
def plainV : V → Prop
  | .non => True
  | .int i => -(10 ^ 30) < i ∧ i < 10 ^ 30
  | .str z => z.length ≤ 40
  | _ => False
def rk : V → List V
  | .non => [.int 0, .int 0]
  | .str z => [.int 2, .str z]
  | v => [.int 1, v]
def ltV (a b : V) : Bool := (HT.lexV (rk a) (rk b)).getD false
theorem lt_nn : ltV .non .non = false := rfl
theorem lt_ni (i : Int) : ltV .non (.int i) = true := rfl
theorem lt_ns (z : Str) : ltV .non (.str z) = true := rfl
theorem lt_in (i : Int) : ltV (.int i) .non = false := rfl
theorem lt_sn (z : Str) : ltV (.str z) .non = false := rfl
theorem lt_is (i : Int) (z : Str) : ltV (.int i) (.str z) = true := rfl
theorem lt_si (i : Int) (z : Str) : ltV (.str z) (.int i) = false := rfl
theorem lt_ii (i j : Int) : ltV (.int i) (.int j) = decide (i < j) := by
  unfold ltV
  simp only [rk, HT.lexV, if_true]
  by_cases e : i = j
  · rw [if_pos e]; subst e; simp
  · rw [if_neg e]; rfl
theorem lt_ss (x y : Str) : ltV (.str x) (.str y) = decide (x.cps.toList < y.cps.toList) := by
  unfold ltV
  simp only [rk, HT.lexV, if_true]
  by_cases e : x = y
  · rw [if_pos e]; subst e
    have : ¬ (x.cps.toList < x.cps.toList) := List.lt_irrefl _
    simp [this]
  · rw [if_neg e]; rfl
theorem irr {a : V} (ha : plainV a) : ltV a a = false := by
  cases a <;> first | exact ha.elim | skip
  · rfl
  · rw [lt_ii]; simp
  · rw [lt_ss]; exact decide_eq_false (List.lt_irrefl _)
theorem tr {a b c : V} (ha : plainV a) (hb : plainV b) (hc : plainV c) (h1 : ltV a b = true) (h2 : ltV b c = true) : ltV a c = true := by
  cases a <;> first | exact ha.elim | skip
  all_goals (cases b <;> first | exact hb.elim | skip)
  all_goals (cases c <;> first | exact hc.elim | skip)
  all_goals first | rfl | (exfalso; rw [lt_nn] at h1; cases h1; done) | (exfalso; rw [lt_in] at h1; cases h1; done) | (exfalso; rw [lt_sn] at h1; cases h1; done) | (exfalso; rw [lt_si] at h1; cases h1; done) | (exfalso; rw [lt_nn] at h2; cases h2; done) | (exfalso; rw [lt_in] at h2; cases h2; done) | (exfalso; rw [lt_sn] at h2; cases h2; done) | (exfalso; rw [lt_si] at h2; cases h2; done) | skip
  · rw [lt_ii, decide_eq_true_eq] at *; omega
  · rw [lt_ss, decide_eq_true_eq] at *; exact List.lt_trans h1 h2
theorem tri {a b : V} (ha : plainV a) (hb : plainV b) (h1 : ltV a b = false) (h2 : ltV b a = false) : a = b := by
  cases a <;> first | exact ha.elim | skip
  all_goals (cases b <;> first | exact hb.elim | skip)
  all_goals first | rfl | (exfalso; rw [lt_ni] at h1; cases h1; done) | (exfalso; rw [lt_ns] at h1; cases h1; done) | (exfalso; rw [lt_is] at h1; cases h1; done) | (exfalso; rw [lt_ni] at h2; cases h2; done) | (exfalso; rw [lt_ns] at h2; cases h2; done) | (exfalso; rw [lt_is] at h2; cases h2; done) | skip
  · rw [lt_ii, decide_eq_false_iff_not] at *
    congr 1; omega
  · rw [lt_ss, decide_eq_false_iff_not] at *
    congr 1
    exact PyProof.Rows.ext_toList (List.le_antisymm (List.not_lt.mp h2) (List.not_lt.mp h1))
theorem neg {a b c : V} (ha : plainV a) (hb : plainV b) (hc : plainV c) (h : ltV a c = true) : ltV a b = true ∨ ltV b c = true := by
  cases e : ltV a b with
  | true => exact .inl rfl
  | false =>
    cases e2 : ltV b a with
    | true => exact .inr (tr hb ha hc e2 h)
    | false => rw [tri ha hb e e2] at h; exact .inr h
theorem swo {xs : List V} (h : ∀ v ∈ xs, plainV v) : Swo xs ltV := ⟨fun a ha => irr (h a ha), fun a ha b hb c hc => tr (h a ha) (h b hb) (h c hc), fun a ha b hb c hc => neg (h a ha) (h b hb) (h c hc)⟩
/-- what holds while the items, in order, are put one behind the other: each once -/
structure Grow (ys : List V) (i : Nat) (fs : List V) : Prop where
  up : fs.Pairwise fun a b => ltV a b = true
  mem : ∀ v, v ∈ fs ↔ v ∈ ys.take i
  last : ∀ v, fs.getLast? = some v → ∃ k, k < i ∧ ys[k]? = some v
  len : fs.length ≤ i
theorem Grow.start (ys : List V) : Grow ys 0 [] := ⟨List.Pairwise.nil, fun v => by simp, fun v h => by simp at h, Nat.zero_le _⟩
theorem take_succ_mem {ys : List V} {i : Nat} {x v : V} (hx : ys[i]? = some x) : v ∈ ys.take (i + 1) ↔ v ∈ ys.take i ∨ v = x := by
  rw [List.take_succ, hx]; simp
theorem Grow.put {ys fs : List V} {i : Nat} {x : V} (g : Grow ys i fs) (p : ∀ v ∈ ys, plainV v) (so : ys.Pairwise fun a b => ltV b a = false) (hx : ys[i]? = some x) (h : ∀ l, fs.getLast? = some l → ltV l x = true) : Grow ys (i + 1) (fs ++ [x]) := by
  have px := p x (List.mem_of_getElem? hx)
  refine ⟨List.pairwise_append.mpr ⟨g.up, List.pairwise_singleton _ _, fun a ha b hb => ?_⟩, fun v => ?_, fun v hv => ?_, by have := g.len; rw [List.length_append, List.length_singleton]; omega⟩
  · have e : b = x := by simpa using hb
    subst e
    obtain ⟨l, hl⟩ : ∃ l, fs.getLast? = some l := by
      cases q : fs.getLast? with
      | none => rw [List.getLast?_eq_none_iff] at q; rw [q] at ha; cases ha
      | some l => exact ⟨l, rfl⟩
    have pl : plainV l := p l (List.mem_of_mem_take ((g.mem l).mp (List.mem_of_getLast? hl)))
    have pa : plainV a := p a (List.mem_of_mem_take ((g.mem a).mp ha))
    obtain ⟨fs', rfl⟩ := List.getLast?_eq_some_iff.mp hl
    rcases List.mem_append.mp ha with h' | h'
    · exact tr pa pl px ((List.pairwise_append.mp g.up).2.2 a h' l (by simp)) (h l hl)
    · have e : a = l := by simpa using h'
      subst e; exact h a hl
  · rw [take_succ_mem hx, List.mem_append, g.mem v]; simp
  · rw [List.getLast?_append] at hv
    simp at hv
    subst hv
    exact ⟨i, Nat.lt_succ_self _, hx⟩
theorem Grow.skip {ys fs : List V} {i : Nat} {x l : V} (g : Grow ys i fs) (p : ∀ v ∈ ys, plainV v) (so : ys.Pairwise fun a b => ltV b a = false) (hx : ys[i]? = some x) (hl : fs.getLast? = some l) (h : ltV l x = false) : Grow ys (i + 1) fs := by
  have px := p x (List.mem_of_getElem? hx)
  have pl : plainV l := p l (List.mem_of_mem_take ((g.mem l).mp (List.mem_of_getLast? hl)))
  have hxl : ltV x l = false := by
    obtain ⟨k, hk, e⟩ := g.last l hl
    obtain ⟨k1, e1⟩ := List.getElem?_eq_some_iff.mp e
    obtain ⟨i1, e2⟩ := List.getElem?_eq_some_iff.mp hx
    have := (List.pairwise_iff_getElem.mp so) k i k1 i1 hk
    rw [e1, e2] at this
    exact this
  have e : l = x := tri pl px h hxl
  refine ⟨g.up, fun v => ?_, fun v hv => ?_, Nat.le_succ_of_le g.len⟩
  · rw [take_succ_mem hx, g.mem v]
    constructor
    · exact fun h => .inl h
    · rintro (h | h)
      · exact h
      · rw [h, ← e]; exact (g.mem l).mp (List.mem_of_getLast? hl)
  · obtain ⟨k, hk, e⟩ := g.last v hv
    exact ⟨k, by omega, e⟩
end Pl


end
section
set_option Elab.async false
set_option linter.all false
set_option maxRecDepth 100000
set_option maxHeartbeats 400000
namespace L2
open PySem PySem.Spec PyProof.Rows
/-- the tuples are kept -/
def SameT (H H' : Hp) : Prop := ∀ b xs, H b = some (.tup xs) → H' b = some (.tup xs)
theorem Same.t {H H' : Hp} (s : Same H H') : SameT H H' := fun b xs e => s b _ e
theorem SameT.refl (H : Hp) : SameT H H := fun _ _ e => e
theorem SameT.trans {H H1 H2 : Hp} (a : SameT H H1) (b : SameT H1 H2) : SameT H H2 := fun c xs e => b c xs (a c xs e)
theorem sameT_lst {H : Hp} {D : Addr} {ys zs : List V} (h : H D = some (.lst ys)) : SameT H (upd H D (.lst zs)) := fun b xs e => by
  rw [upd_ne (ne_of e h (by intro z; cases z))]; exact e
theorem add_assoc (a b c : Str) : a ++ b ++ c = a ++ (b ++ c) := PyProof.Rows.ext_toList (by simp only [PySem.W.KT.app_list, List.append_assoc])
/-- the codes of a number's figures -/
def nd (m : Nat) : List Nat := (Nat.toDigits 10 m).map Char.toNat
end L2


end
section
set_option Elab.async false
set_option linter.all false
set_option maxRecDepth 100000
set_option maxHeartbeats 400000
namespace L2
open PySem PySem.Spec PyProof.Rows
def noStar : Expr → Bool
  | .Starred _ _ => false
  | _ => true
theorem star_cons {e : Expr} {es : List Expr} {env : Env} (h : noStar e = true) : starEach (e :: es) env = (false, eval e env) :: starEach es env := by
  cases e <;> first | rfl | (exact absurd h Bool.false_ne_true)
theorem pa_c {X : Cx} {e : Expr} {es : List Expr} {te : TE} {t : TA} (ha : PE X e te) (hr : PA X es t) (hn : noStar e = true := by rfl) : PA X (e :: es) (tCons te t) := pa_cons ha hr (star_cons hn)
end L2


end
section
set_option Elab.async false
set_option linter.all false
set_option maxRecDepth 100000
set_option maxHeartbeats 400000
namespace L2
open PySem PySem.Spec PyProof.Rows
section
variable {prog : Program} {w : World} {A : Around} {E : Value → Shared → Prop} {s : Shared}
structure ZipAt (h : Heap) (z TI TO i1 i2 : Addr) (f0 : Value) : Prop where
  z : IsZip h z TI TO f0
  ti : IsPair h TI (.ref i1) (.ref i2)
  to : ∃ a b, IsPair h TO a b
theorem ZipAt.same {h h' : Heap} {z TI TO i1 i2 c : Addr} {f0 : Value} (x : ZipAt h z TI TO i1 i2 f0) (sb : Heap.SameBut c h h') (n1 : z ≠ c) (n2 : TI ≠ c) (n3 : TO ≠ c) : ZipAt h' z TI TO i1 i2 f0 :=
  ⟨(sb.2 _ n1).trans x.z, (sb.2 _ n2).trans x.ti, let ⟨a, b, e⟩ := x.to; ⟨a, b, (sb.2 _ n3).trans e⟩⟩
variable {z TI TO i1 i2 : Addr} {fp1 fp2 : List Addr} {n1 n2 i : Nat} {P1 P2 : Nat → Value → Prop} {S1 S2 : Nat → Heap → Prop}
end
end L2


end
section
set_option Elab.async false
set_option linter.all false
set_option maxRecDepth 100000
set_option maxHeartbeats 400000
namespace L2
open PySem PySem.Spec PyProof.Rows
def SqB (tup : Bool) (H : Hp) (a : Addr) (xs : List V) : Prop := H a = some (if tup then .tup xs else .lst xs)
theorem SqB.inj {tup : Bool} {H : Hp} {a : Addr} {xs ys : List V} (h : SqB tup H a xs) (h' : SqB tup H a ys) : xs = ys := by
  unfold SqB at h h'
  rw [h] at h'
  cases tup <;> simpa using h'
def seqName (tup : Bool) : String := if tup then "tuple" else "list"
def SeqAtB (tup : Bool) (h : Heap) (a : Addr) (its : Array Value) : Prop := if tup = true then IsTup h a its else h.IsList a its
def IterB (tup : Bool) (h : Heap) (it a : Addr) (i : Nat) : Prop := if tup = true then h.IsTupleIter it a i else h.IsListIter it a i
theorem SeqAtB.cls {tup : Bool} {h : Heap} {a : Addr} {its : Array Value} (x : SeqAtB tup h a its) : ∃ o, h.get? a = some o ∧ o.cls = .type (seqName tup) := by
  cases tup with
  | true => obtain ⟨o, e, c, _⟩ := (x : IsTup h a its); exact ⟨o, e, c⟩
  | false => obtain ⟨o, e, c, _⟩ := (x : h.IsList a its); exact ⟨o, e, c⟩
theorem IterB.get {tup : Bool} {h : Heap} {it a : Addr} {i : Nat} (x : IterB tup h it a i) : ∃ o, h.get? it = some o ∧ (o.cls = .type "tuple_iterator" ∨ o.cls = .type "list_iterator") ∧ o.data = .fields #[.ref a, .int i 0] := by
  cases tup with
  | true => obtain ⟨o, e, c, d⟩ := (x : h.IsTupleIter it a i); exact ⟨o, e, .inl c, d⟩
  | false => obtain ⟨o, e, c, d⟩ := (x : h.IsListIter it a i); exact ⟨o, e, .inr c, d⟩
theorem IterB.keep {tup : Bool} {h h' : Heap} {it a : Addr} {i : Nat} (x : IterB tup h it a i) (k : ∀ o, h.get? it = some o → h'.get? it = some o) : IterB tup h' it a i := by
  cases tup with
  | true => obtain ⟨o, e, r⟩ := (x : h.IsTupleIter it a i); exact (⟨o, k o e, r⟩ : h'.IsTupleIter it a i)
  | false => obtain ⟨o, e, r⟩ := (x : h.IsListIter it a i); exact (⟨o, k o e, r⟩ : h'.IsListIter it a i)
def ItZ (ta tb : Bool) (a b : Addr) : It :=
  ⟨fun i H => ∃ xs ys x y, SqB ta H a xs ∧ SqB tb H b ys ∧ xs[i]? = some x ∧ ys[i]? = some y,
   fun i H v H' => ∃ T x y, H T = none ∧ v = .ref T ∧ H' = upd H T (.tup [x, y]) ∧ (∀ xs, SqB ta H a xs → xs[i]? = some x) ∧ ∀ ys, SqB tb H b ys → ys[i]? = some y,
   fun i H => ∃ xs, SqB ta H a xs ∧ xs.length = i⟩
section
variable {prog : Program} {w : World} {A : Around} {E : Value → Shared → Prop} {s : Shared}
theorem SeqAtB.keep {tup : Bool} {h h' : Heap} {a : Addr} {its : Array Value} (x : SeqAtB tup h a its) (k : ∀ o, h.get? a = some o → h'.get? a = some o) : SeqAtB tup h' a its := by
  cases tup with
  | true => obtain ⟨o, e, r⟩ := (x : IsTup h a its); exact (⟨o, k o e, r⟩ : IsTup h' a its)
  | false => obtain ⟨o, e, r⟩ := (x : h.IsList a its); exact (⟨o, k o e, r⟩ : h'.IsList a its)
end
section
variable {X : Cx} {ea eb : Expr} {ua ub : TE} {p pos tpos : Pos} {elts : List Expr} {kk : Nat}
def iZip (ta tb : Bool) (ua ub : TE) : TI := fun σ H R => ua σ H fun x H1 => ub σ H1 fun y H2 => ∃ a b xs ys, x = .ref a ∧ y = .ref b ∧ SqB ta H2 a xs ∧ SqB tb H2 b ys ∧ R (ItZ ta tb a b) H2
theorem tFor_zip {ta tb : Bool} {g : TG} {t : TS} {D : Ends} {σ : St} {H : Hp} : tFor (iZip ta tb ua ub) g t D σ H = ua σ H fun x H1 => ub σ H1 fun y H2 => ∃ a b xs ys, x = .ref a ∧ y = .ref b ∧ SqB ta H2 a xs ∧ SqB tb H2 b ys ∧ FoR (ItZ ta tb a b) g t D σ H2 := rfl
end
end L2


end
section
set_option Elab.async false
set_option linter.all false
set_option maxRecDepth 100000
set_option maxHeartbeats 400000
namespace L2
open PySem PySem.Spec PyProof.Rows
section
variable {X : Cx}
end
end L2


end
section
set_option Elab.async false
set_option linter.all false
set_option maxRecDepth 100000
set_option maxHeartbeats 400000
namespace L2
open PySem PySem.Spec PyProof.Rows
section
variable {X : Cx}
def rAll (K : PySem.W.Frag) : List V → Hp → VK → Prop := fun xs H Q => ∃ (a : Addr) (bs : List Bool), xs = [.ref a] ∧ SqL K H a (bs.map V.bl) ∧ Q (.bl (bs.all id)) H
def tDNew : TE := fun _ H Q => ∀ p, H p = none → Q (.ref p) (upd H p (.dK []))
def rEqN (K : PySem.W.Frag) : R2 := fun x y H Q => ∃ a b xs ys, x = .ref a ∧ y = .ref b ∧ SqL K H a xs ∧ SqL K H b ys ∧ ((xs.length ≠ ys.length ∧ Q (.bl false) H) ∨ (xs.all flatV = true ∧ ys.all flatV = true ∧ Q (.bl (eqVs xs ys)) H))
theorem tLc_rng2 {ta : TA} {tt : TT} {te : TE} {σ : St} {H : Hp} {Q : VK} : tLc (iRng2 ta) tt te σ H Q = ta σ H fun vs H1 => ∃ i j : Int, vs = [.int i, .int j] ∧ (-(2 ^ 62) ≤ i ∧ i < 2 ^ 62 ∧ -(2 ^ 62) ≤ j ∧ j < 2 ^ 62) ∧ LcR (Itr i (j - i).toNat) tt te σ Q H1 := rfl
end
end L2


end
section
set_option Elab.async false
set_option linter.all false
set_option maxRecDepth 100000
set_option maxHeartbeats 400000
namespace L2
open PySem PySem.Spec PyProof.Rows
/-- all is kept, but that lists may have other items -/
def SameL (H H' : Hp) : Prop := ∀ b o, H b = some o → H' b = some o ∨ ((∃ xs, o = .lst xs) ∧ ∃ ys, H' b = some (.lst ys))
theorem Same.l {H H' : Hp} (s : Same H H') : SameL H H' := fun b o e => .inl (s b o e)
theorem SameL.refl (H : Hp) : SameL H H := (Same.refl H).l
theorem SameL.trans {H H1 H2 : Hp} (a : SameL H H1) (b : SameL H1 H2) : SameL H H2 := fun c o e => by
  rcases a c o e with h | ⟨⟨xs, rfl⟩, ys, h⟩
  · exact b c o h
  · rcases b c _ h with h' | ⟨_, zs, h'⟩
    · exact .inr ⟨⟨xs, rfl⟩, ys, h'⟩
    · exact .inr ⟨⟨xs, rfl⟩, zs, h'⟩
theorem SameL.tup {H H' : Hp} (s : SameL H H') {b : Addr} {xs : List V} (e : H b = some (.tup xs)) : H' b = some (.tup xs) := by
  rcases s b _ e with h | ⟨⟨ys, h⟩, _⟩
  · exact h
  · cases h
theorem SameL.dK {H H' : Hp} (s : SameL H H') {b : Addr} {xs : List (Key × V)} (e : H b = some (.dK xs)) : H' b = some (.dK xs) := by
  rcases s b _ e with h | ⟨⟨ys, h⟩, _⟩
  · exact h
  · cases h
theorem SameL.lst {H H' : Hp} (s : SameL H H') {b : Addr} {xs : List V} (e : H b = some (.lst xs)) : ∃ ys, H' b = some (.lst ys) := by
  rcases s b _ e with h | ⟨_, ys, h⟩
  · exact ⟨xs, h⟩
  · exact ⟨ys, h⟩
end L2
namespace Th
open PySem L2 Pl
def signB (c : Nat) : Bool := decide (32 ≤ c ∧ c ≤ 126 ∧ c ≠ 37)
def goodZ (z : Str) : Prop := z.length ≤ 60 ∧ ∀ c ∈ z.cps.toList, signB c = true ∨ c = 9 ∨ c = 10
def flatG : V → Prop
  | .non => True
  | .bl _ => True
  | .int _ => True
  | .str z => goodZ z
  | _ => False
/-- what a thing is, n tuples deep -/
def TT : Nat → Hp → V → Prop
  | 0, H, v => flatG v ∨ ∃ a, v = .ref a ∧ ((∃ xs, H a = some (.lst xs)) ∨ H a = some (.dK []) ∨ ∃ xs, H a = some (.tup xs) ∧ xs.length ≤ 60)
  | n + 1, H, v => flatG v ∨ ∃ a, v = .ref a ∧ ((∃ xs, H a = some (.lst xs)) ∨ H a = some (.dK []) ∨ ∃ xs, H a = some (.tup xs) ∧ xs.length ≤ 60 ∧ ∀ u ∈ xs, TT n H u)
theorem TT.mono : ∀ {n : Nat} {H H' : Hp} {v : V}, SameL H H' → TT n H v → TT n H' v
  | 0, H, H', v, s, h => by
    rcases h with h | ⟨a, e, h | h | ⟨xs, h, l⟩⟩
    · exact .inl h
    · obtain ⟨xs, h⟩ := h; exact .inr ⟨a, e, .inl (s.lst h)⟩
    · exact .inr ⟨a, e, .inr (.inl (s.dK h))⟩
    · exact .inr ⟨a, e, .inr (.inr ⟨xs, s.tup h, l⟩)⟩
  | n + 1, H, H', v, s, h => by
    rcases h with h | ⟨a, e, h | h | ⟨xs, h, l, p⟩⟩
    · exact .inl h
    · obtain ⟨xs, h⟩ := h; exact .inr ⟨a, e, .inl (s.lst h)⟩
    · exact .inr ⟨a, e, .inr (.inl (s.dK h))⟩
    · exact .inr ⟨a, e, .inr (.inr ⟨xs, s.tup h, l, fun u hu => TT.mono s (p u hu)⟩)⟩
theorem TT.flat {n : Nat} {H : Hp} {v : V} (h : flatG v) : TT n H v := by cases n <;> exact .inl h
theorem TT.ofT {n : Nat} {H : Hp} {a : Addr} {xs : List V} (h : H a = some (.tup xs)) (l : xs.length ≤ 60) (p : ∀ u ∈ xs, TT n H u) : TT (n + 1) H (.ref a) := .inr ⟨a, rfl, .inr (.inr ⟨xs, h, l, p⟩)⟩
end Th


end
section
set_option Elab.async false
set_option linter.all false
set_option maxRecDepth 100000
set_option maxHeartbeats 400000
namespace L2
open PySem PySem.Spec PyProof.Rows
/-- what the head of its traceback is marked with -/
def HeadIs (h : Heap) (Y : Addr → Prop) (e : Addr) (vs : Array Value) : Option Value → Prop
  | none => vs[1]? = some .none
  | some v => ∃ T oT ts, vs[1]? = some (.ref T) ∧ T ≠ e ∧ (Y T ∧ oT.cls = .type "traceback") ∧ h.get? T = some oT ∧ oT.data = .fields ts ∧ ts[3]? = some v
/-- the exceptions behind an exception: each one's context is the next -/
def Links : List (Addr × Obj) → Value → Prop
  | [], c => c = .none
  | p :: r, c => c = .ref p.1 ∧ ∃ va c', p.2.data = .fields va ∧ va[2]? = some c' ∧ Links r c'
/-- they lie in the heap -/
def Lie (h : Heap) (Y : Addr → Prop) (e : Addr) (ch : List (Addr × Obj)) : Prop := (e :: ch.map (·.1)).Nodup ∧ ∀ p ∈ ch, h.get? p.1 = some p.2 ∧ p.2.cls ≠ .type "traceback" ∧ (∃ va, p.2.data = .fields va) ∧ Y p.1
/-- the record at e, of the class cls, with its dict at dx and the exceptions ch behind it; Y: where the traceback's records may lie -/
def Exc (h : Heap) (Y : Addr → Prop) (e : Addr) (cls : Value) (dx : Option Addr) (ch : List (Addr × Obj)) (fl : Option Value) : Prop :=
  ∃ oe vs, h.get? e = some oe ∧ oe.cls = cls ∧ oe.dict = dx ∧ oe.data = .fields vs ∧ ((∃ c, vs[2]? = some c ∧ Links ch c) ∧ Lie h Y e ch) ∧ HeadIs h Y e vs fl
/-- what stays: all but e and the tracebacks in Y, and the frames' slots -/
structure Stay (Y : Addr → Prop) (e : Addr) (fs : List Addr) (h h' : Heap) : Prop where
  keep : ∀ b o, h.get? b = some o → b ≠ e → ¬ (Y b ∧ o.cls = .type "traceback") → b ∉ fs → h'.get? b = some o
  slot : ∀ b o, h.get? b = some o → (∀ vs, o.data ≠ .fields vs) → ∃ sl, h'.get? b = some { o with slots := sl }
  size : h.objs.size ≤ h'.objs.size
theorem Stay.refl (Y : Addr → Prop) (e : Addr) (fs : List Addr) (h : Heap) : Stay Y e fs h h := ⟨fun _ _ q _ _ _ => q, fun _ o q _ => ⟨o.slots, q⟩, Nat.le_refl _⟩
theorem Stay.trans {Y : Addr → Prop} {e : Addr} {fs : List Addr} {h₁ h₂ h₃ : Heap} (x : Stay Y e fs h₁ h₂) (y : Stay Y e fs h₂ h₃) : Stay Y e fs h₁ h₃ :=
  ⟨fun b o q a c d => y.keep b o (x.keep b o q a c d) a c d, fun b o q n => let ⟨_, e1⟩ := x.slot b o q n; let ⟨sl, e2⟩ := y.slot b _ e1 n; ⟨sl, e2⟩, Nat.le_trans x.size y.size⟩
theorem Stay.funs {Y : Addr → Prop} {e : Addr} {fs : List Addr} {h h' base : Heap} {l : List Env} (x : Stay Y e fs h h') (f : h.FunFrames base l) : h'.FunFrames base l :=
  f.of_keeps fun b o q n => let ⟨sl, e1⟩ := x.slot b o q n; ⟨_, e1, rfl⟩
theorem Lie.stay {Y : Addr → Prop} {e : Addr} {fs : List Addr} {h h' : Heap} {ch : List (Addr × Obj)} (l : Lie h Y e ch) (st : Stay Y e fs h h') (nf : ∀ b ∈ fs, ∃ o, h.get? b = some o ∧ ∀ vs, o.data ≠ .fields vs) : Lie h' Y e ch :=
  ⟨l.1, fun p hp => by
    obtain ⟨q, c, ⟨va, d⟩, y⟩ := l.2 p hp
    refine ⟨st.keep p.1 p.2 q (fun z => ?_) (fun z => c z.2) (fun z => ?_), c, ⟨va, d⟩, y⟩
    · exact (List.nodup_cons.mp l.1).1 (by rw [← z]; exact List.mem_map_of_mem hp)
    · obtain ⟨o, q', n⟩ := nf _ z
      rw [q] at q'; cases q'
      exact n va d⟩
theorem dict_mapF (o : Obj) (f) : (o.mapFields f).dict = o.dict := by
  obtain ⟨c, d, dt, sl⟩ := o; cases dt <;> rfl
/-- a record's field is set -/
theorem stay_set {Y : Addr → Prop} {e a : Addr} {fs : List Addr} {h : Heap} {o : Obj} {vs : Array Value} (i : Nat) (x : Value) (ho : h.get? a = some o) (hd : o.data = .fields vs) (ha : a = e ∨ (Y a ∧ o.cls = .type "traceback")) :
    Stay Y e fs h (h.update a (Obj.mapFields (·.setIfInBounds i x))) where
  keep b u q n1 n2 _ := by
    rw [Heap.get?_update_other _ _ (fun z => by subst z; rw [ho] at q; cases q; exact ha.elim n1 n2)]; exact q
  slot b u q n := ⟨u.slots, by
    rw [Heap.get?_update_other _ _ (fun z => by subst z; rw [ho] at q; cases q; exact n vs hd)]; exact q⟩
  size := by rw [Heap.size_update]; exact Nat.le_refl _
theorem set_get {a : Addr} {h : Heap} {o : Obj} {vs : Array Value} (i : Nat) (x : Value) (ho : h.get? a = some o) (hd : o.data = .fields vs) :
    (h.update a (Obj.mapFields (·.setIfInBounds i x))).get? a = some (o.mapFields (·.setIfInBounds i x)) := Heap.get?_update_self _ ho (Obj.isFreed_of_fields (Obj.data_mapFields hd _))
section
variable {M : Model} {A : Around} {E : Value → Shared → Prop} {s : Shared} {Y : Addr → Prop} {base : Heap} {env : Env} {outer : List Env} {L e : Addr} {cls : Value} {dx : Option Addr} {ch : List (Addr × Obj)} {fl : Option Value} {Q : Unit → Shared → Prop}
/-- the mark is taken away -/
theorem land_ok {fs : List Addr} {v : Value} (nf : ∀ b ∈ fs, ∃ o, s.heap.get? b = some o ∧ ∀ vs, o.data ≠ .fields vs) (x : Exc s.heap Y e cls dx ch (some v)) (q : ∀ h', Stay Y e fs s.heap h' → Exc h' Y e cls dx ch (some .none) → Q () { s with heap := h' }) : wpAny M A (setFlight (.ref e) none) Q E s := by
  obtain ⟨oe, vs, he, hc, hdx, hd, ⟨lk, ll⟩, T, oT, ts, h1, hTe, hY, hT, hdT, h3⟩ := x
  unfold setFlight
  refine wpAny_bind (wpAny_field he hd h1 ?_)
  rw [if_pos (show (Value.ref T != Value.none) = true from by simp)]
  have hsz : 3 < ts.size := (Array.getElem?_eq_some_iff.mp h3).1
  have st := stay_set (Y := Y) (e := e) (fs := fs) 3 ((none : Option Addr).elim Value.none fun f => rawInt f) hT hdT (.inr hY)
  refine wpAny_setField hT hdT hsz (q _ st ⟨oe, vs, ?_, hc, hdx, hd, ⟨lk, ll.stay st nf⟩, T, _, _, h1, hTe, ⟨hY.1, (Obj.cls_mapFields _ _).trans hY.2⟩, set_get 3 _ hT hdT, Obj.data_mapFields hdT _, ?_⟩)
  · rw [Heap.get?_update_other _ _ hTe]; exact he
  · simp [hsz]
/-- a new head for the traceback -/
theorem entry_ok {head : Value} {hadNext : Bool} (hfr : A.frames = some (env :: outer)) (hl : s.heap.FunFrames base (env :: outer)) (hf : env.frame = some L) (hy : ∀ b, s.heap.objs.size ≤ b → Y b) {oe : Obj} {vs : Array Value}
    (he : s.heap.get? e = some oe) (hc : oe.cls = cls) (hdx : oe.dict = dx) (hd : oe.data = .fields vs) (hsz : 1 < vs.size) (lk : ∃ c, vs[2]? = some c ∧ Links ch c) (ll : Lie s.heap Y e ch)
    (q : ∀ h', Stay Y e (frs (env :: outer)) s.heap h' → Exc h' Y e cls dx ch (some (rawInt L)) → Q () { s with heap := h' }) :
    wpAny M A (do let a ← frameOf env; let pl ← entryPlaceOf L hadNext; let b ← EntryCells.newEntry head a .none (rawInt L) .none pl; setField (.ref e) 1 b) Q E s := by
  refine wpAny_bind (wpAny_frameOf_fun hfr hl hf fun h₁ hs => ?_)
  refine wpAny_bind (wpAny_entryPlaceOf fun pl hpl => ?_)
  unfold EntryCells.newEntry newFields
  refine wpAny_bind (wpAny_newObj_type ?_ (hpl.sizeOk5 _ _ _ _ _))
  have hef : e ∉ frs (env :: outer) := fun hm => by
    obtain ⟨_, o, ho, hn⟩ := hl.mem hm
    rw [he] at ho; cases ho; exact hn vs hd
  have he1 : h₁.get? e = some oe := (hs.2.1 e hef).trans he
  have hne : h₁.objs.size ≠ e := Nat.ne_of_gt (Heap.lt_size he1)
  generalize htb : ({ cls := .type "traceback", dict := none, data := .fields ([head, .ref L, .none, rawInt L, .none] ++ (if pl.isEmpty then List.replicate 6 Value.none else pl)).toArray } : Obj) = tb
  have htd : tb.data = .fields ([head, .ref L, .none, rawInt L, .none] ++ (if pl.isEmpty then List.replicate 6 Value.none else pl)).toArray := by rw [← htb]
  have hfr' : tb.isFreed = false := Obj.isFreed_of_fields htd
  have he2 : (h₁.push tb).get? e = some oe := Heap.get?_push_of_some _ he1
  have hY : Y h₁.objs.size := hy _ (by rw [hs.1]; exact Nat.le_refl _)
  have htc : tb.cls = .type "traceback" := by rw [← htb]
  have st : Stay Y e (frs (env :: outer)) s.heap ((h₁.push tb).update e (Obj.mapFields (·.setIfInBounds 1 (Value.ref h₁.objs.size)))) := by
    refine Stay.trans ?_ (stay_set 1 _ he2 hd (.inl rfl))
    refine ⟨fun b o g _ _ n => Heap.get?_push_of_some _ ((hs.2.1 b n).trans g), fun b o g _ => ?_, ?_⟩
    · obtain ⟨sl, g1⟩ := hs.2.2 b o g
      exact ⟨sl, Heap.get?_push_of_some _ g1⟩
    · rw [← hs.1]; cases h₁; simp [Heap.push]
  refine wpAny_setField he2 hd hsz (q _ st ⟨_, _, set_get 1 _ he2 hd, (Obj.cls_mapFields _ _).trans hc, (dict_mapF _ _).trans hdx, Obj.data_mapFields hd _, ⟨?_, ll.stay st fun b hb => (hl.mem hb).2⟩, h₁.objs.size, tb, _, by simp [hsz], hne, ⟨hY, htc⟩, ?_, htd, ?_⟩)
  · obtain ⟨c, h2, l⟩ := lk
    exact ⟨c, by rw [Array.getElem?_setIfInBounds_ne (by decide)]; exact h2, l⟩
  · rw [Heap.get?_update_other _ _ (Ne.symm hne)]; exact Heap.get?_push_size _ hfr'
  · first | (simp; done) | (rcases hpl with rfl | ⟨_, _, _, _, _, _, _, rfl⟩ <;> simp)
/-- the frame is noted -/
theorem note_ok (hfr : A.frames = some (env :: outer)) (hl : s.heap.FunFrames base (env :: outer)) (hf : env.frame = some L) (hy : ∀ b, s.heap.objs.size ≤ b → Y b) (x : Exc s.heap Y e cls dx ch fl) (hfl : fl = none ∨ fl = some .none)
    (q : ∀ h', Stay Y e (frs (env :: outer)) s.heap h' → Exc h' Y e cls dx ch (some (rawInt L)) → Q () { s with heap := h' }) : wpAny M A (noteFrame (.ref e) env) Q E s := by
  obtain ⟨oe, vs, he, hc, hdx, hd, ⟨lk, ll⟩, hh⟩ := x
  unfold noteFrame
  simp only [hf]
  rcases hfl with rfl | rfl
  · have h1 : vs[1]? = some .none := hh
    refine wpAny_bind (wpAny_field he hd h1 ?_)
    rw [if_neg (by decide)]
    exact entry_ok hfr hl hf hy he hc hdx hd (Array.getElem?_eq_some_iff.mp h1).1 lk ll q
  · obtain ⟨T, oT, ts, h1, hTe, hY, hT, hdT, h3⟩ := hh
    refine wpAny_bind (wpAny_field he hd h1 ?_)
    rw [if_pos (show (Value.ref T != Value.none) = true from by simp)]
    refine wpAny_bind (wpAny_field hT hdT h3 ?_)
    rw [if_neg (show ¬ ((Value.none == rawInt L) = true) from by simp [rawInt])]
    refine wpAny_bind (wpAny_setField hT hdT (Array.getElem?_eq_some_iff.mp h3).1 ?_)
    have st : Stay Y e (frs (env :: outer)) s.heap (s.heap.update T (Obj.mapFields (·.setIfInBounds 3 Value.none))) := stay_set 3 _ hT hdT (.inr hY)
    refine entry_ok (s := { s with heap := s.heap.update T (Obj.mapFields (·.setIfInBounds 3 Value.none)) }) hfr (st.funs hl) hf (fun b hb => hy b (Nat.le_trans st.size hb)) ((Heap.get?_update_other _ _ hTe).trans he) hc hdx hd (Array.getElem?_eq_some_iff.mp h1).1 lk (ll.stay st fun b hb => (hl.mem hb).2) fun h' t x' => q h' (st.trans t) x'
/-- it leaves a frame -/
theorem leave_ok (hfr : A.frames = some (env :: outer)) (hl : s.heap.FunFrames base (env :: outer)) (hf : env.frame = some L) (hy : ∀ b, s.heap.objs.size ≤ b → Y b) (x : Exc s.heap Y e cls dx ch fl) (hfl : fl = none ∨ fl = some .none)
    (q : ∀ h', Stay Y e (frs (env :: outer)) s.heap h' → Exc h' Y e cls dx ch (some .none) → Q () { s with heap := h' }) : wpAny M A (leaving env (.ref e)) Q E s := by
  unfold leaving
  refine wpAny_bind (note_ok hfr hl hf hy x hfl fun h₁ st x1 => ?_)
  exact land_ok (s := { s with heap := h₁ }) (fs := frs (env :: outer)) (fun b hb => ((st.funs hl).mem hb).2) x1 fun h₂ st2 x2 => q h₂ (st.trans st2) x2
end
end L2


end
section
set_option Elab.async false
set_option linter.all false
set_option maxRecDepth 100000
set_option maxHeartbeats 400000
namespace L2
open PySem PySem.Spec PyProof.Rows
theorem Exc.mono {h : Heap} {Y Y' : Addr → Prop} {e : Addr} {cls : Value} {dx : Option Addr} {ch : List (Addr × Obj)} {fl : Option Value} (x : Exc h Y e cls dx ch fl) (k : ∀ b, Y b → Y' b) : Exc h Y' e cls dx ch fl := by
  obtain ⟨oe, vs, he, hc, hdx, hd, ⟨lk, l1, l2⟩, hh⟩ := x
  refine ⟨oe, vs, he, hc, hdx, hd, ⟨lk, l1, fun p hp => let ⟨a, b, c, d⟩ := l2 p hp; ⟨a, b, c, k _ d⟩⟩, ?_⟩
  cases fl with
  | none => exact hh
  | some v => obtain ⟨T, oT, ts, h1, h2, h3, r⟩ := hh; exact ⟨T, oT, ts, h1, h2, ⟨k T h3.1, h3.2⟩, r⟩
/-- young and not tracked -/
def Yg (old : Heap) (H : Hp) (b : Addr) : Prop := old.get? b = none ∧ H b = none
/-- how an exception lies behind a call -/
def CX1 (P : Program) (w : World) : CXT := fun outer H s E e s' => ∃ ea cls dx ch H', e = .ref ea ∧ s'.os = s.os ∧ AllBare s'.gens ∧ Un (frs outer) [] H H' s.heap s'.heap ∧ HOk P w H' s'.heap ∧
  Exc s'.heap (Yg s.heap H') ea cls dx ch (some .none) ∧ s.heap.get? ea = none ∧ H' ea = none ∧ E cls dx H'
/-- what is thrown in the body reaches the wish -/
def Throws (X : Cx) (E : XK) : Prop := ∀ (pins : List (Addr × Obj)) (σ : St) (H : Hp) (s : Shared) (e : Addr) (cls : Value) (dx : Option Addr) (ch : List (Addr × Obj)) (fl : Option Value), Inv X pins σ H s → Exc s.heap (Yg X.s₀.heap H) e cls dx ch fl → (fl = none ∨ fl = some .none) →
  X.s₀.heap.get? e = none → H e = none → E cls dx H → X.xe (.ref e) s
section
variable {X : Cx} {E : XK} {pins : List (Addr × Obj)} {σ : St} {H : Hp} {s : Shared}
theorem Inv.young (I : Inv X pins σ H s) (hx : X.ex = []) {b : Addr} (h : s.heap.get? b = none) : X.s₀.heap.get? b = none := by
  cases q : X.s₀.heap.get? b with
  | none => rfl
  | some o =>
    obtain ⟨o', e⟩ := I.base.there b o q (by rw [hx]; simp)
    rw [h] at e; cases e
theorem frs_cons {env : Env} {outer : List Env} {L : Addr} (h : env.frame = some L) : frs (env :: outer) = L :: frs outer := by unfold frs; rw [List.filterMap_cons, h]
end
section
variable {P : Program} {w : World} {K : PySem.W.Frag} {mg : Str → Option Value} {base : Heap} {N : List Str} {qual : Str} {scope : Scope} {f : Addr} {cd : Value} {A : Around} {outer : List Env} {s : Shared} {H : Hp} {E : XK}
theorem throws0 : Throws (cxOf (CX1 P w) P w K mg base N qual scope f cd A outer s H E) E := by
  intro pins σ H' s' e cls dx ch fl I x hfl n1 n2 hE
  have n1 : s.heap.get? e = none := n1
  have fr : frs (envOfC qual scope s.heap.objs.size f cd :: outer) = s.heap.objs.size :: frs outer := frs_cons rfl
  have stk : s'.heap.FunFrames base (envOfC qual scope s.heap.objs.size f cd :: outer) := I.stack
  have sf : ∀ b ∈ frs (envOfC qual scope s.heap.objs.size f cd :: outer), H' b = none := I.stkFree
  have ib : Un (frs outer) [] H H' s.heap s'.heap := I.base
  show wpAny (model P w) _ (leaving _ (.ref e)) _ _ s'
  refine leave_ok (base := base) (Y := Yg s.heap H') (L := s.heap.objs.size) (fl := fl) I.ok.frames stk rfl (fun b hb => ⟨Heap.get?_none_of_le (Nat.le_trans I.sz hb), I.hok.fresh hb⟩) x hfl fun h' st x' => ?_
  have nf : ∀ b o, s.heap.get? b = some o → b ∉ frs outer → b ∉ frs (envOfC qual scope s.heap.objs.size f cd :: outer) := fun b o q hb hm => by
    rw [fr] at hm
    rcases List.mem_cons.mp hm with z | z
    · rw [z] at q; exact absurd (Heap.lt_size q) (Nat.lt_irrefl _)
    · exact hb z
  have ne : ∀ b o, s.heap.get? b = some o → b ≠ e := fun b o q z => by rw [z, n1] at q; cases q
  have ny : ∀ b o (o' : Obj), s.heap.get? b = some o → ¬ (Yg s.heap H' b ∧ o'.cls = .type "traceback") := fun b o o' q y => by rw [y.1.1] at q; cases q
  refine ⟨e, cls, dx, ch, H', rfl, I.os, I.bare, ⟨fun b o q n hb hx => ?_, fun b o q n hb hx => ?_, ib.free, fun b o q hx => ?_, ib.tups, ib.frzs, ib.tbls⟩, fun b u eb => ?_, x', n1, n2, hE⟩
  · exact st.keep b o (ib.keep b o q n hb hx) (ne b o q) (ny b o _ q) (nf b o q hb)
  · obtain ⟨sl, q1⟩ := ib.slot b o q n hb hx
    obtain ⟨_, o2, q2, hn⟩ := stk.mem (show b ∈ frs _ by rw [fr]; exact List.mem_cons_of_mem _ hb)
    rw [q1] at q2; cases q2
    obtain ⟨sl', q3⟩ := st.slot b _ q1 hn
    exact ⟨sl', q3⟩
  · obtain ⟨o', q1⟩ := ib.there b o q hx
    by_cases hn : ∀ vs, o'.data ≠ .fields vs
    · obtain ⟨sl, q2⟩ := st.slot b o' q1 hn
      exact ⟨_, q2⟩
    · refine ⟨o', st.keep b o' q1 (ne b o q) (ny b o _ q) fun hm => ?_⟩
      obtain ⟨_, o2, q2, hn2⟩ := stk.mem hm
      rw [q1] at q2; cases q2
      exact hn hn2
  · refine (I.hok b u eb).stay (fun c v hc q => ?_) (fun _ q => q) fun _ _ q => q
    have hc' : H' c ≠ none := by
      rcases hc with z | z
      · rw [z, eb]; simp
      · rw [z]; simp
    exact st.keep c v q (fun z => hc' (by rw [z]; exact n2)) (fun y => hc' y.1.2) fun hm => hc' (sf c hm)
end
theorem ObjOk.obj {P : Program} {w : World} {H : Hp} {h : Heap} {a : Addr} {o : HO} (x : ObjOk P w H h a o) : ∃ ob, h.get? a = some ob := by
  cases o with
  | lst xs => obtain ⟨_, _, _, _, e⟩ := x; exact ⟨_, e⟩
  | tup xs => obtain ⟨_, _, _, p⟩ := x; obtain ⟨o, e, _⟩ := p; exact ⟨_, e⟩
  | dK kvs => obtain ⟨_, _, _, _, o, _, _, e, _⟩ := x; exact ⟨_, e⟩
  | dT kvs => obtain ⟨_, _, _, _, o, _, _, e, _⟩ := x; exact ⟨_, e⟩
  | set S n => obtain ⟨o, _, _, _, e, _⟩ := x; exact ⟨_, e⟩
  | ins C dx fs => obtain ⟨_, _, _, e, _⟩ := x; exact ⟨_, e⟩
  | own y => exact x
  | xd fs => obtain ⟨_, ⟨_, _, _, e, _⟩, _⟩ := x; exact ⟨_, e⟩
  | rng lo hi => obtain ⟨_, _, _, e⟩ := x; exact ⟨_, e⟩
  | frz ob u => obtain ⟨e, _⟩ := x; exact ⟨_, e⟩
  | tbl ps => exact ⟨_, x⟩
  | met f y => exact ⟨_, x⟩
  | ext φ => obtain ⟨_, e, _⟩ := x; exact e
theorem HOk.none_of {P : Program} {w : World} {H : Hp} {h : Heap} {a : Addr} (x : HOk P w H h) (e : h.get? a = none) : H a = none := by
  cases q : H a with
  | none => rfl
  | some u => obtain ⟨o, e'⟩ := (x a u q).obj; rw [e] at e'; cases e'
section
variable {X : Cx} {E : XK} {x : Str} {C : Addr} {bm bmB : List Value} {B newId initId : String} {np cpos pos : Pos}
end
end L2


end
section
set_option Elab.async false
set_option linter.all false
set_option maxRecDepth 100000
set_option maxHeartbeats 400000
namespace L2
open PySem PySem.Spec PyProof.Rows
/-- what was there ahead of the call: all of the entry, all that is pinned -/
structure Old (X : Cx) (pins : List (Addr × Obj)) (old : Heap) : Prop where
  ent : ∀ b, old.get? b = none → X.s₀.heap.get? b = none
  pin : ∀ p ∈ X.pn ++ pins, old.get? p.1 ≠ none
def X1P (X : Cx) (pins : List (Addr × Obj)) (σ : St) (E : XK) (ev : Value) (s' : Shared) : Prop :=
  ∃ ea cls dx ch H' old, ev = .ref ea ∧ Inv X pins σ H' s' ∧ Exc s'.heap (Yg old H') ea cls dx ch (some .none) ∧ Old X pins old ∧ (∀ b, s'.heap.objs.size ≤ b → old.get? b = none) ∧ old.get? ea = none ∧ H' ea = none ∧ E cls dx H'
abbrev TE1 := St → Hp → VK → XK → Prop
abbrev TS1 := Ends → St → Hp → XK → Prop
def PE1 (X : Cx) (e : Expr) (t : TE1) : Prop :=
  ∀ (pins : List (Addr × Obj)) (s : Shared) (σ : St) (H : Hp) (Q : VK) (E : XK), Inv X pins σ H s → t σ H Q E → wpAny (model X.prog X.w) X.A (eval e X.env) (EP X pins σ Q) (X1P X pins σ E) s
section
variable {X : Cx} {E : XK} {e : Expr} {es : List Expr} {t : TA} {t1 : TE1} {x : Str} {p pos : Pos} {k j : Nat} {f : Addr} {fd : FuncData} {ps : List Str} {sp : Sp}
theorem X1P.thrown {pins : List (Addr × Obj)} {σ : St} {ev : Value} {s' : Shared} (T : Throws X E) (h : X1P X pins σ E ev s') : X.xe ev s' := by
  obtain ⟨ea, cls, dx, ch, H', old, rfl, I, y, o, _, n1, n2, hE⟩ := h
  exact T pins σ H' s' ea cls dx ch _ I (y.mono fun b z => ⟨o.ent b z.1, z.2⟩) (.inr rfl) (o.ent _ n1) n2 hE
theorem PE1.pe (h : PE1 X e t1) (T : Throws X E) : PE X e (fun σ H Q => t1 σ H Q E) := fun pins s σ H Q I q => wpAny_mono (h pins s σ H Q E I q) (fun _ _ z => z) fun _ _ z => z.thrown T
theorem Inv.old {pins : List (Addr × Obj)} {σ : St} {H : Hp} {s : Shared} (I : Inv X pins σ H s) (hex : X.ex = []) : Old X pins s.heap :=
  ⟨fun b h => I.young hex h, fun p hp h => by rw [(I.pin p hp).1] at h; cases h⟩
/-- the callee runs -/
theorem run_fn1 {pins : List (Addr × Obj)} {σ : St} {H : Hp} {s : Shared} {Q : VK} {us : List Value} {vs : List V} (F : FnOk X.prog X.w X.K X.mg X.base (CX1 X.prog X.w) k f fd ps sp) (hr : Room k X.A) (hb : Binds X.K fd ps []) (hex : X.ex = [])
    (I : Inv X pins σ H s) (r : Vals vs us) (h : sp vs H Q E) : wpAny (model X.prog X.w) X.A (call (.ref f) us) (EP X pins σ Q) (X1P X pins σ E) s := by
  have hl : (us ++ []).length = ps.length := by rw [List.append_nil, ← r.length]; exact F.len _ _ _ _ h
  have b := hb s us I.kIn hl
  rw [List.append_nil] at b
  refine wpAny_call (codeAny_mono (F.run X.A X.stack s H ⟨us, []⟩ us vs Q E hr I.env0 b r h) fun res s' hq => ?_)
  cases res with
  | error ev =>
    obtain ⟨ea, cls, dx, ch, H', rfl, os, bare, un, hok, y, n1, n2, hE⟩ := hq
    refine ⟨ea, cls, dx, ch, H', s.heap, rfl, I.call' (ch := []) os un hok bare (fun b z => absurd z (by simp)), y, I.old hex, fun b hb => ?_, n1, n2, hE⟩
    cases q : s.heap.get? b with
    | none => rfl
    | some u =>
      obtain ⟨u', q'⟩ := un.there b u q (by simp)
      exact absurd (Nat.lt_of_lt_of_le (Heap.lt_size q') hb) (Nat.lt_irrefl _)
  | ok fl =>
    cases fl with
    | ret u => exact I.after hq
    | next => exact False.elim hq
    | brk => exact False.elim hq
    | cont => exact False.elim hq
def tCall1 (sp : Sp) (t : TA) : TE1 := fun σ H Q E => t σ H fun vs H1 => sp vs H1 Q E
theorem pa_nox {pins : List (Addr × Obj)} {σ : St} {H : Hp} {s : Shared} {Q : List V → Hp → Prop} {W : Value → Shared → Prop} (ha : PA X.nox es t) (I : Inv X pins σ H s) (q : t σ H Q) : wpAny (model X.prog X.w) X.A (spliced (backTo pos (starEach es X.env))) (AP X pins σ Q) W s :=
  wpAny_mono (ha pos pins s σ H Q (I.wish _) q) (fun _ _ ⟨vs, H', I', r, z⟩ => ⟨vs, H', I'.unwish, r, z⟩) fun _ _ z => False.elim z
end
section
variable {X : Cx} {pins : List (Addr × Obj)} {σ : St} {H : Hp} {s : Shared}
end
section
variable {X : Cx} {st b₀ : Stmt} {suite : List Stmt} {t1 : TS1} {ts : TS} {x : Str} {C : Addr} {bm bmB : List Value} {B newId initId : String} {np hpos pos : Pos}
end
end L2


end
section
set_option Elab.async false
set_option linter.all false
set_option maxRecDepth 100000
set_option maxHeartbeats 400000
namespace L2
open PySem PySem.Spec PyProof.Rows
section
variable {prog : Program} {w : World} {A : Around} {s : Shared} {R : Result → Shared → Prop} {value : Value}
end
section
variable {M : Model} {A : Around} {E : Value → Shared → Prop} {env : Env}
variable {nm q : Str} {C N : Addr} {bs bm : List Value} {hdct : Bool} {sn : List Str} {sub : List Value} {ab : Bool} {col : Option Bool} {dd : Option Addr} {k0 k1 k2 k3 k5 : Option Value} {newId : String}
end
section
variable {X : Cx} {E : XK} {x : Str} {C ea : Addr} {ps : List (Addr × Obj)} {bm bmB : List Value} {B newId initId : String} {np cpos kpos pos : Pos} {j : Nat}
end
end L2


end
section
set_option Elab.async false
set_option linter.all false
set_option maxRecDepth 100000
set_option maxHeartbeats 400000
namespace L2
open PySem PySem.Spec PyProof.Rows
/-- a function at f, with its promise -/
def FnV (P : Program) (w : World) (K : PySem.W.Frag) (mg : Str → Option Value) (base : Heap) (k : Nat) (f : Addr) (n : Nat) (sp : Sp) : Prop :=
  ∃ fd ps, FnOk P w K mg base (CX1 P w) k f fd ps sp ∧ Binds K fd ps [] ∧ PySem.W.keepIn K (.ref f) = true ∧ ps.length = n
theorem FnV.mono {P : Program} {w : World} {K : PySem.W.Frag} {mg : Str → Option Value} {base : Heap} {j k : Nat} {f : Addr} {n : Nat} {sp : Sp} (h : FnV P w K mg base j f n sp) (hj : j ≤ k) : FnV P w K mg base k f n sp := by
  obtain ⟨fd, ps, F, b, kp, l⟩ := h
  exact ⟨fd, ps, F.mono hj, b, kp, l⟩
/-- a method of the class at C, with its promise -/
def MeV (P : Program) (w : World) (K : PySem.W.Frag) (mg : Str → Option Value) (base : Heap) (k : Nat) (C : Addr) (m : Str) (sp : Sp) : Prop :=
  ∃ f fd ps, Meth K C m f ∧ FnOk P w K mg base (CX1 P w) k f fd ps sp ∧ Binds K fd ps []
section
variable {X : Cx} {C : Addr} {m x : Str} {k i : Nat} {sp : Sp} {ta : TE} {t : TA} {e o : Expr} {es : List Expr} {p pos apos : Pos} {pl : Sem Bool}
theorem pe_noxW {pins : List (Addr × Obj)} {σ : St} {H : Hp} {s : Shared} {Q : VK} {W : Value → Shared → Prop} (h : PE X.nox e ta) (I : Inv X pins σ H s) (q : ta σ H Q) : wpAny (model X.prog X.w) X.A (eval e X.env) (EP X pins σ Q) W s :=
  wpAny_mono (h pins s σ H Q (I.wish _) q) (fun _ _ ⟨v, H', I', r, z⟩ => ⟨v, H', I'.unwish, r, z⟩) fun _ _ z => False.elim z
end
section
variable {P : Program} {w : World} {K : PySem.W.Frag} {mg : Str → Option Value} {base : Heap}
theorem Fun.ok1 {x qual : Str} {st : Stmt} {f : Addr} {fd : FuncData} {N ps : List Str} {k : Nat} {sp : Sp} (F : Fun K x qual st f fd) (S : FnScope N ps (defScope st)) (len : ∀ vs H Q E, sp vs H Q E → vs.length = ps.length)
    (hbody : ∀ (cdv : Value) (A : Around) (outer : List Env) (s : Shared) (H : Hp) (vs : List V) (Q : VK) (E : XK), Room k (A.deeper (envOfC qual (defScope st) s.heap.objs.size f cdv)) → sp vs H Q E →
      ∃ t, PSs (cxOf (CX1 P w) P w K mg base N qual (defScope st) f cdv A outer s H E) (defBody st) t ∧ t { nx := fun _ H' => Q .non H', rt := Q } (start N vs) H) : FnOk P w K mg base (CX1 P w) (k + 1) f fd ps sp := by
  obtain ⟨oc, od, kV, doc, pm, an, cdv, ct, osl, rfl, lk, hcd⟩ := F.ex
  exact fn_of lk hcd S len fun A outer s H vs Q E hr hsp => hbody cdv A outer s H vs Q E hr hsp
end
end L2


end
section
set_option Elab.async false
set_option linter.all false
set_option maxRecDepth 100000
set_option maxHeartbeats 400000
namespace L2
open PySem PySem.Spec PyProof.Rows
section
variable {X : Cx}
/-- nothing is thrown -/
theorem throwsN : Throws X E0 := fun _ _ _ _ _ _ _ _ _ _ _ _ _ _ h => h.elim
end
section
variable {P : Program} {w : World} {K : PySem.W.Frag} {mg : Str → Option Value} {base : Heap} {N : List Str} {qual : Str} {scope : Scope} {f : Addr} {cd : Value} {A : Around} {outer : List Env} {s : Shared} {H : Hp} {E : XK}
end
end L2


end
section
set_option Elab.async false
set_option linter.all false
set_option maxRecDepth 100000
set_option maxHeartbeats 400000
namespace L2
open PySem PySem.Spec PyProof.Rows
/-- a class that is made by its __init__ -/
def MkV (P : Program) (w : World) (K : PySem.W.Frag) (mg : Str → Option Value) (base : Heap) (k : Nat) (x : Str) (C : Addr) (sp : Sp) : Prop :=
  ∃ f fd ps, Mk K C f ∧ FnOk P w K mg base CX0 k f fd ps sp ∧ Binds K fd ps [] ∧ mg x = some (.ref C)
section
variable {X : Cx} {e o : Expr} {es : List Expr} {t : TA} {ta : TE} {p pos apos : Pos} {j k : Nat} {x m : Str} {ps : List Str} {sp : Sp} {C : Addr} {E : XK} {pl : Sem Bool}
theorem MeV.mono {P : Program} {w : World} {K : PySem.W.Frag} {mg : Str → Option Value} {base : Heap} (G : MeV P w K mg base j C m sp) (hj : j ≤ k) : MeV P w K mg base k C m sp := by
  obtain ⟨f, fd, ps, a, F, b⟩ := G
  exact ⟨f, fd, ps, a, F.mono hj, b⟩
theorem pe_mk (G : MkV X.prog X.w X.K X.mg X.base j x C sp) (hr : Room k X.A) (hj : j + 1 ≤ k) (hg : Gl X x) (ha : PA X (e :: es) t) (hdb : (x == ("__debug__" : Str)) = false := by decide)
    (he : starEach (e :: es) X.env = (false, eval e X.env) :: starEach es X.env := by rfl) (hpl : (backTo pos (starEach es X.env)).any (·.1) = false := by rfl) : PE X (.Call (.Name x p) (e :: es) [] pos) (tMake C sp [] E0 t) := by
  obtain ⟨f, fd, ps, M, F, b, hm⟩ := G
  exact pe_make M F (hr.mono hj) hg hm b .nil pass0 ha hdb he hpl
end
end L2


end
section
set_option Elab.async false
set_option linter.all false
set_option maxRecDepth 100000
set_option maxHeartbeats 400000
namespace Tg
open PySem L2 Pl
def signB (c : Nat) : Bool := decide (32 ≤ c ∧ c ≤ 126 ∧ c ≠ 37)
def goodZ (z : Str) : Prop := z.length ≤ 10000000
def flatG : V → Prop
  | .non => True
  | .bl _ => True
  | .int _ => True
  | .str z => goodZ z
  | _ => False
/-- what a thing is, n tuples deep -/
def TT : Nat → Hp → V → Prop
  | 0, H, v => flatG v ∨ ∃ a, v = .ref a ∧ ((∃ xs, H a = some (.lst xs)) ∨ H a = some (.dK []) ∨ ∃ xs, H a = some (.tup xs) ∧ xs.length ≤ 100000)
  | n + 1, H, v => flatG v ∨ ∃ a, v = .ref a ∧ ((∃ xs, H a = some (.lst xs)) ∨ H a = some (.dK []) ∨ ∃ xs, H a = some (.tup xs) ∧ xs.length ≤ 100000 ∧ ∀ u ∈ xs, TT n H u)
theorem TT.mono : ∀ {n : Nat} {H H' : Hp} {v : V}, SameL H H' → TT n H v → TT n H' v
  | 0, H, H', v, s, h => by
    rcases h with h | ⟨a, e, h | h | ⟨xs, h, l⟩⟩
    · exact .inl h
    · obtain ⟨xs, h⟩ := h; exact .inr ⟨a, e, .inl (s.lst h)⟩
    · exact .inr ⟨a, e, .inr (.inl (s.dK h))⟩
    · exact .inr ⟨a, e, .inr (.inr ⟨xs, s.tup h, l⟩)⟩
  | n + 1, H, H', v, s, h => by
    rcases h with h | ⟨a, e, h | h | ⟨xs, h, l, p⟩⟩
    · exact .inl h
    · obtain ⟨xs, h⟩ := h; exact .inr ⟨a, e, .inl (s.lst h)⟩
    · exact .inr ⟨a, e, .inr (.inl (s.dK h))⟩
    · exact .inr ⟨a, e, .inr (.inr ⟨xs, s.tup h, l, fun u hu => TT.mono s (p u hu)⟩)⟩
theorem TT.flat {n : Nat} {H : Hp} {v : V} (h : flatG v) : TT n H v := by cases n <;> exact .inl h
theorem TT.ofT {n : Nat} {H : Hp} {a : Addr} {xs : List V} (h : H a = some (.tup xs)) (l : xs.length ≤ 100000) (p : ∀ u ∈ xs, TT n H u) : TT (n + 1) H (.ref a) := .inr ⟨a, rfl, .inr (.inr ⟨xs, h, l, p⟩)⟩
end Tg


end
section
set_option Elab.async false
set_option linter.all false
set_option maxRecDepth 100000
set_option maxHeartbeats 400000
namespace L2
open PySem PySem.Spec PyProof.Rows
section
variable {X : Cx}
end
end L2
namespace L2
open PySem PySem.Spec PyProof.Rows
end L2


end
section
set_option Elab.async false
set_option linter.all false
set_option maxRecDepth 100000
set_option maxHeartbeats 400000
namespace L2
open PySem PySem.Spec PyProof.Rows
section
variable {X : Cx}
end
end L2


end
section
set_option Elab.async false
set_option linter.all false
set_option maxRecDepth 100000
set_option maxHeartbeats 400000
namespace L2
open PySem PySem.Spec PyProof.Rows
end L2


end
section
set_option Elab.async false
set_option linter.all false
set_option maxRecDepth 100000
set_option maxHeartbeats 4000000
namespace PySem
section
variable {prog : Program} {w : World} {A : Around} {E : Value → Shared → Prop} {h : Heap} {g : Array GenState} {d : Drawn} {t : Nat} {os : OsState}
variable {nm q : Str} {C N : Addr} {bs bm bmB : List Value} {hdct : Bool} {sn : List Str} {sub : List Value} {ab : Bool} {col : Option Bool} {dd : Option Addr} {k0 k1 k2 k3 k5 : Option Value} {B newId initId : String}
end
end PySem


end
section
set_option Elab.async false
set_option linter.all false
set_option maxRecDepth 100000
set_option maxHeartbeats 1000000
namespace PySem.W
open PySem PySem.Spec PySem.Calls PyProof.Rows PySem.Builtin PySem.Builtin.ObjectAttr
abbrev bmV : List Value := [.type "ValueError", .type "Exception", .type "BaseException", .type "object"]
/-- an own class of exceptions straight under the own class CT, which is straight under ValueError -/
structure XCl (K : Frag) (C CT : Addr) : Prop where
  cl : ∃ nm q N bs sn sub ab col dd k0 k1 k2 k3 k5, K.lookup C = some (excClassObj nm q C N bs (.ref CT :: bmV) true sn sub ab col dd k0 k1 k2 k3 k5 "ValueError.__new__") ∧ nsOkIn K N = true
  tail : tailIn K bmV (.ref CT :: bmV) = true
  ga : findIn K (.ref C) "__getattribute__" = some (some (.builtin "BaseException.__getattribute__"))
  gt : findIn K (.ref C) "__getattr__" = some none
  sa : findIn K (.ref C) "__setattr__" = some (some (.builtin "object.__setattr__"))
  cc : findIn K (.ref C) "__class__" = some (some (.builtin "object.__class__"))
  cg : specialIn K (.builtin "object.__class__") "__get__" = some (some (.builtin "getset_descriptor.__get__"))
  ct : takesIn K (.builtin "object.__class__") = some true
section
variable {K : Frag} {C CT : Addr}
theorem XCl.cd (c : XCl K C CT) : ∃ cd, clsIn K C = some cd ∧ cd.mro = .ref C :: .ref CT :: bmV ∧ cd.hasDict = true := by
  obtain ⟨nm, q, N, bs, sn, sub, ab, col, dd, k0, k1, k2, k3, k5, lk, _⟩ := c.cl
  have e : clsIn K C = (match (excClassObj nm q C N bs (.ref CT :: bmV) true sn sub ab col dd k0 k1 k2 k3 k5 "ValueError.__new__") with | ⟨_, _, .cls cd, _⟩ => some cd | _ => none) := by unfold clsIn; rw [lk]
  exact ⟨_, e, rfl, rfl⟩
theorem XCl.has (c : XCl K C CT) : hasDictIn K C = true := by
  obtain ⟨cd, h, _, d⟩ := c.cd
  unfold hasDictIn; rw [h]; exact d
theorem XCl.mro (c : XCl K C CT) (T : Value) : mroIn K C T = some ((Value.ref C :: .ref CT :: bmV).contains T) := by
  obtain ⟨cd, h, m, _⟩ := c.cd
  unfold mroIn; rw [h, Option.bind_some, m]; rfl
end
section
variable {prog : Program} {w : World} {A : Around} {E : Value → Shared → Prop} {s : Shared} {K : Frag} {x C CT : Addr} {ox : Obj} {od : Option Obj} {name : Str}
end
end PySem.W


end
section
set_option Elab.async false
set_option linter.all false
set_option maxRecDepth 100000
set_option maxHeartbeats 1000000
namespace L2
open PySem PySem.Spec PyProof.Rows
/-- a caught one -/
def xC (e C : Addr) (dx : Option Addr) : HO := .ext fun h => ∃ o vs, h.get? e = some o ∧ o.cls = .ref C ∧ o.dict = dx ∧ o.data = .fields vs
/-- its dict -/
def xD (d : Addr) (fs : List (Str × V)) : HO := .ext fun h => ∃ mA, h.Ns1 d mA ∧ (∀ f, RelO (fs.lookup f) (mA f)) ∧ PySem.Within mA (fs.map (·.1))
/-- a caught exception of the class C, with its fields -/
def XAt (H : Hp) (a C : Addr) (fs : List (Str × V)) : Prop := (H a = some (xC a C none) ∧ fs = []) ∨ ∃ d, H a = some (xC a C (some d)) ∧ H d = some (xD d fs)
theorem XAt.same {H H' : Hp} {a C : Addr} {fs : List (Str × V)} (x : XAt H a C fs) (s : Same H H') : XAt H' a C fs := by
  rcases x with ⟨h, e⟩ | ⟨d, h, e⟩
  · exact .inl ⟨s _ _ h, e⟩
  · exact .inr ⟨d, s _ _ h, s _ _ e⟩
section
variable {P : Program} {w : World} {H : Hp} {h : Heap} {e C : Addr} {dx : Option Addr} {fs : List (Str × V)}
end
section
variable {X : Cx} {pins : List (Addr × Obj)} {σ : St} {H : Hp} {s : Shared} {a C CT : Addr} {fs : List (Str × V)}
end
section
variable {X : Cx} {pins : List (Addr × Obj)} {σ : St} {H H' : Hp} {s : Shared} {d e : Addr} {o : HO}
theorem Inv.off {φ : Heap → Prop} (I : Inv X pins σ H s) (he : H e = some (.ext φ)) (y : X.s₀.heap.get? e = none) (h3 : ∀ b, b ≠ e → H' b = H b) (hn : H' e = none) : Inv X pins σ H' s := by
  have ne : ∀ b, H b = none → b ≠ e := fun b q z => by rw [z, he] at q; cases q
  have nt : ∀ b u, H b = some u → (∀ ψ, u ≠ .ext ψ) → b ≠ e := fun b u q n z => by rw [z, he] at q; cases q; exact n _ rfl
  have tt : ∀ b xs, H b = some (.tup xs) → H' b = some (.tup xs) := fun b xs q => (h3 b (nt b _ q (fun _ z => by cases z))).trans q
  refine ⟨I.ok, I.os, I.bare, ⟨I.base.keep, I.base.slot, fun b u q n hx => ?_, I.base.there, fun b xs q => tt b xs (I.base.tups b xs q), fun b u xs q => ?_, fun b ps q => ?_⟩, I.loc, I.cell, (h3 _ (ne _ I.free)).trans I.free, fun x c q => (h3 _ (ne _ (I.freeC x c q))).trans (I.freeC x c q), fun p hp => ?_, fun b u q => ?_, I.len⟩
  · have z := I.base.free b u q n hx
    exact (h3 b (ne b z)).trans z
  · have z := I.base.frzs b u xs q
    exact (h3 b (nt b _ z (fun _ z => by cases z))).trans z
  · obtain ⟨m, z⟩ := I.base.tbls b ps q
    exact ⟨m, (h3 b (nt b _ z (fun _ z => by cases z))).trans z⟩
  · obtain ⟨a, b, r⟩ := I.pin p hp
    exact ⟨a, (h3 _ (ne _ b)).trans b, r⟩
  · have hb : b ≠ e := fun z => by rw [z, hn] at q; cases q
    rw [h3 b hb] at q
    exact (I.hok b u q).stay (fun c v _ r => r) (fun c r => (h3 c (nt c _ r (fun _ z => by cases z))).trans r) tt
end
section
variable {X : Cx} {pins : List (Addr × Obj)} {σ : St} {H : Hp} {s : Shared} {a C CT : Addr} {f : Str}
variable {o value : Expr} {pos pos' : Pos} {ta tv : TE}
end
end L2


end
section
set_option Elab.async false
set_option linter.all false
set_option maxRecDepth 100000
set_option maxHeartbeats 1000000
namespace PySem
section
variable {prog : Program} {w : World} {A : Around} {E : Value → Shared → Prop} {s : Shared} {K : W.Frag} {C CT e t : Addr} {dx : Option Addr}
end
section
variable {prog : Program} {w : World} {A : Around} {E : Value → Shared → Prop} {h : Heap} {g : Array GenState} {d : Drawn} {t : Nat} {os : OsState} {K : W.Frag} {C CT : Addr}
end
section
variable {M : Model} {A : Around} {E : Value → Shared → Prop} {env : Env}
variable {nm q : Str} {C N : Addr} {bs bm : List Value} {hdct : Bool} {sn : List Str} {sub : List Value} {ab : Bool} {col : Option Bool} {dd : Option Addr} {k0 k1 k2 k3 k5 : Option Value} {newId : String}
variable {nm' q' : Str} {CT N' : Addr} {bs' bm' : List Value} {hdct' : Bool} {sn' : List Str} {sub' : List Value} {ab' : Bool} {col' : Option Bool} {dd' : Option Addr} {j0 j1 j2 j3 j5 : Option Value} {newId' : String}
end
end PySem
namespace PySem.W
open PySem
def xFacts (K : Frag) (C : Addr) (fl : List Str) : Bool := findIn K (.ref C) "__getattribute__" == some (some (.builtin "BaseException.__getattribute__")) && (findIn K (.ref C) "__getattr__" == some none && (findIn K (.ref C) "__setattr__" == some (some (.builtin "object.__setattr__")) && (findIn K (.ref C) "__class__" == some (some (.builtin "object.__class__")) && fl.all fun f => findIn K (.ref C) f == some none)))
section
variable {K : Frag} {C CT : Addr} {fl : List Str}
theorem xFacts_of (h : xFacts K C fl = true) : findIn K (.ref C) "__getattribute__" = some (some (.builtin "BaseException.__getattribute__")) ∧ findIn K (.ref C) "__getattr__" = some none ∧ findIn K (.ref C) "__setattr__" = some (some (.builtin "object.__setattr__")) ∧
    findIn K (.ref C) "__class__" = some (some (.builtin "object.__class__")) ∧ ∀ f ∈ fl, findIn K (.ref C) f = some none := by
  unfold xFacts at h
  simp only [Bool.and_eq_true, beq_iff_eq, List.all_eq_true] at h
  exact h
theorem XCl.of (cl : ∃ nm q N bs sn sub ab col dd k0 k1 k2 k3 k5, K.lookup C = some (excClassObj nm q C N bs (.ref CT :: bmV) true sn sub ab col dd k0 k1 k2 k3 k5 "ValueError.__new__") ∧ nsOkIn K N = true) (tail : tailIn K bmV (.ref CT :: bmV) = true)
    (h : xFacts K C fl = true) (cg : specialIn K (.builtin "object.__class__") "__get__" = some (some (.builtin "getset_descriptor.__get__"))) (ct : takesIn K (.builtin "object.__class__") = some true) : XCl K C CT :=
  let ⟨a, b, c, d, _⟩ := xFacts_of h; ⟨cl, tail, a, b, c, d, cg, ct⟩
end
end PySem.W
namespace L2
open PySem PySem.Spec PyProof.Rows
section
variable {X : Cx} {x : Str} {CT : Addr} {e : Expr} {es : List Expr} {t : TA} {p pos apos cpos np : Pos} {pl : Sem Bool}
variable {E : XK} {C : Addr} {fl : List Str} {j k : Nat}
end
section
variable {X : Cx} {st b₀ : Stmt} {suite : List Stmt} {t1 : TS1} {ts : TS} {x n : Str} {CT : Addr} {np hpos pos : Pos} {i : Nat}
end
end L2


end
section
set_option Elab.async false
set_option linter.all false
set_option maxRecDepth 100000
set_option maxHeartbeats 1000000
namespace L2
open PySem PySem.Spec PyProof.Rows
inductive Dt where
  | v (x : V)
  | t (xs : List Dt)
  | l (xs : List Dt)
instance : Inhabited Dt := ⟨.v .non⟩
mutual
def eqD : Dt → Dt → Bool
  | .v x, .v y => eqV x y
  | .t xs, .t ys => eqDs xs ys
  | .l xs, .l ys => eqDs xs ys
  | _, _ => false
def eqDs : List Dt → List Dt → Bool
  | [], [] => true
  | x :: xs, y :: ys => eqD x y && eqDs xs ys
  | _, _ => false
end
/-- the value x is the data d, of at most n storeys -/
inductive Rep (K : PySem.W.Frag) (H : Hp) : Nat → Dt → V → Prop where
  | v {n : Nat} {x : V} (f : flatV x = true) : Rep K H n (.v x) x
  | t {n : Nat} {a : Addr} {ds : List Dt} {xs : List V} (h : SqT K H a xs) (e : ds.length = xs.length) (r : ∀ (i : Nat) d x, ds[i]? = some d → xs[i]? = some x → Rep K H n d x) : Rep K H (n + 1) (.t ds) (.ref a)
  | l {n : Nat} {a : Addr} {ds : List Dt} {xs : List V} (h : SqL K H a xs) (e : ds.length = xs.length) (r : ∀ (i : Nat) d x, ds[i]? = some d → xs[i]? = some x → Rep K H n d x) : Rep K H (n + 1) (.l ds) (.ref a)
theorem all_range_succ (n : Nat) (p : Nat → Bool) : (List.range (n + 1)).all p = (p 0 && (List.range n).all fun i => p (i + 1)) := by
  rw [List.range_succ_eq_map, List.all_cons, List.all_map]; rfl
theorem eqDs_eq : ∀ xs ys : List Dt, eqDs xs ys = ((List.range (min xs.length ys.length)).all (fun i => eqD (xs.getD i default) (ys.getD i default)) && (xs.length == ys.length))
  | [], [] => by simp [eqDs]
  | [], y :: ys => by simp [eqDs]
  | x :: xs, [] => by simp [eqDs]
  | x :: xs, y :: ys => by
    rw [eqDs, eqDs_eq xs ys, List.length_cons, List.length_cons, Nat.succ_min_succ, all_range_succ]
    simp only [List.getD_cons_zero, List.getD_cons_succ, Bool.and_assoc]
    have : (xs.length + 1 == ys.length + 1) = (xs.length == ys.length) := by rw [Bool.eq_iff_iff, beq_iff_eq, beq_iff_eq]; omega
    rw [this]
theorem eqDs_len {xs ys : List Dt} (h : xs.length = ys.length) : eqDs xs ys = (List.range xs.length).all (fun i => eqD (xs.getD i default) (ys.getD i default)) := by
  rw [eqDs_eq, ← h, Nat.min_self, beq_self_eq_true, Bool.and_true]
theorem eqDs_ne {xs ys : List Dt} (h : xs.length ≠ ys.length) : eqDs xs ys = false := by
  rw [eqDs_eq, beq_eq_false_iff_ne.mpr h, Bool.and_false]
section
variable {K : PySem.W.Frag} {H H' : Hp} {n m : Nat} {d d' : Dt} {x : V}
theorem Rep.mono (r : Rep K H n d x) : ∀ {m : Nat}, n ≤ m → Rep K H m d x := by
  induction r with
  | v f => exact fun _ => .v f
  | t h e _ ih =>
    intro m hm
    obtain ⟨k, rfl⟩ : ∃ k, m = k + 1 := ⟨m - 1, by omega⟩
    exact .t h e fun i d x a b => ih i d x a b (by omega)
  | l h e _ ih =>
    intro m hm
    obtain ⟨k, rfl⟩ : ∃ k, m = k + 1 := ⟨m - 1, by omega⟩
    exact .l h e fun i d x a b => ih i d x a b (by omega)
theorem Rep.same (r : Rep K H n d x) (s : Same H H') : Rep K H' n d x := by
  induction r with
  | v f => exact .v f
  | t h e _ ih => exact .t (Same.seqT s h) e ih
  | l h e _ ih => exact .l (Same.seq s h) e ih
/-- what equals itself -/
theorem Rep.self (r : Rep K H n d x) : eqD d d = true := by
  induction r with
  | v f => unfold eqD; exact eqV_refl f
  | t h e _ ih =>
    unfold eqD
    rw [eqDs_len rfl, List.all_eq_true]
    intro i hi
    rename_i ds xs _
    have hi := List.mem_range.mp hi
    have h1 : ds[i]? = some ds[i] := List.getElem?_eq_getElem hi
    have h2 : xs[i]? = some (xs[i]'(by omega)) := List.getElem?_eq_getElem (by omega)
    have := ih i _ _ h1 h2
    rwa [show ds.getD i default = ds[i] by simp [List.getD, h1]]
  | l h e _ ih =>
    unfold eqD
    rw [eqDs_len rfl, List.all_eq_true]
    intro i hi
    rename_i ds xs _
    have hi := List.mem_range.mp hi
    have h1 : ds[i]? = some ds[i] := List.getElem?_eq_getElem hi
    have h2 : xs[i]? = some (xs[i]'(by omega)) := List.getElem?_eq_getElem (by omega)
    have := ih i _ _ h1 h2
    rwa [show ds.getD i default = ds[i] by simp [List.getD, h1]]
end
section
variable {X : Cx} {pins : List (Addr × Obj)} {σ : St} {H : Hp} {s : Shared}
theorem Inv.tup_not_list {a : Addr} {xs ys : List V} (I : Inv X pins σ H s) (h : SqT X.K H a xs) (h' : SqL X.K H a ys) : False := by
  obtain ⟨its, r, ⟨o, e, c, _⟩, _⟩ := I.tuple h
  obtain ⟨its', r', ⟨o', n', e', c', _⟩, _⟩ := I.list h'
  rw [e] at e'; cases e'
  rw [c] at c'; exact absurd (Value.type.inj c') (by decide)
theorem Rep.det (I : Inv X pins σ H s) : ∀ {n m : Nat} {d d' : Dt} {x y : V}, Rep X.K H n d x → Rep X.K H m d' y → x = y → d = d' := by
  intro n m d d' x y r
  induction r generalizing m d' y with
  | v f =>
    intro r' e
    subst e
    cases r' with
    | v _ => rfl
    | t _ _ _ => exact absurd f (by simp [flatV])
    | l _ _ _ => exact absurd f (by simp [flatV])
  | t h e _ ih =>
    intro r' ee
    cases r' with
    | v f => subst ee; exact absurd f (by simp [flatV])
    | t h' e' r2 =>
      cases ee
      have := I.tuple_inj h h'
      subst this
      congr 1
      refine List.ext_getElem (by omega) fun i h1 h2 => ?_
      exact ih i _ _ (List.getElem?_eq_getElem h1) (List.getElem?_eq_getElem (show i < _ by omega)) (r2 i _ _ (List.getElem?_eq_getElem h2) (List.getElem?_eq_getElem (by omega))) rfl
    | l h' _ _ => cases ee; exact (I.tup_not_list h h').elim
  | l h e _ ih =>
    intro r' ee
    cases r' with
    | v f => subst ee; exact absurd f (by simp [flatV])
    | l h' e' r2 =>
      cases ee
      have := I.list_inj h h'
      subst this
      congr 1
      refine List.ext_getElem (by omega) fun i h1 h2 => ?_
      exact ih i _ _ (List.getElem?_eq_getElem h1) (List.getElem?_eq_getElem (show i < _ by omega)) (r2 i _ _ (List.getElem?_eq_getElem h2) (List.getElem?_eq_getElem (by omega))) rfl
    | t h' _ _ => cases ee; exact (I.tup_not_list h' h).elim
theorem getD_of {α : Type} {xs : List α} {i : Nat} {x d : α} (h : xs[i]? = some x) : xs.getD i d = x := by simp [List.getD, h]
theorem ne_units {A : Around} {n : Nat} (h : A.units + (n + 1) < cLine) : A.in1.units + n < cLine := by show A.units + 1 + n < cLine; omega
/-- == of data -/
theorem Rep.eqAt (I : Inv X pins σ H s) : ∀ (n : Nat) {A : Around} {d d' : Dt} {x y : V} {u v : Value}, A.units + n < cLine → Rep X.K H n d x → Rep X.K H n d' y → RelV x u → RelV y v → SeqAt.EqAt A s u v (eqD d d') := by
  intro n
  induction n with
  | zero =>
    intro A d d' x y u v hu r r' rx ry
    cases r with
    | v f =>
      cases r' with
      | v f' => unfold eqD; exact eqAt_V rx ry f f'
  | succ n ih =>
    intro A d d' x y u v hu r r' rx ry
    have hu0 : A.units < cLine := by omega
    have elems : ∀ {ds es : List Dt} {xs ys : List V} {us vs : List Value}, ds.length = xs.length → es.length = ys.length → (∀ (i : Nat) d x, ds[i]? = some d → xs[i]? = some x → Rep X.K H n d x) → (∀ (i : Nat) d x, es[i]? = some d → ys[i]? = some x → Rep X.K H n d x) →
        Vals xs us → Vals ys vs → ∀ j (h1 : j < us.toArray.size) (h2 : j < vs.toArray.size), SeqAt.EqAt A.in1 s us.toArray[j] vs.toArray[j] (eqD (ds.getD j default) (es.getD j default)) := by
      intro ds es xs ys us vs l1 l2 r1 r2 w1 w2 j h1 h2
      have m1 := w1.length
      have m2 := w2.length
      have j1 : j < xs.length := by have : j < us.length := by simpa using h1
                                    omega
      have j2 : j < ys.length := by have : j < vs.length := by simpa using h2
                                    omega
      have g1 : ds[j]? = some (ds[j]'(by omega)) := List.getElem?_eq_getElem _
      have g2 : es[j]? = some (es[j]'(by omega)) := List.getElem?_eq_getElem _
      have x1 : xs[j]? = some xs[j] := List.getElem?_eq_getElem _
      have x2 : ys[j]? = some ys[j] := List.getElem?_eq_getElem _
      obtain ⟨u1, e1, q1⟩ := w1.get x1
      obtain ⟨u2, e2, q2⟩ := w2.get x2
      rw [getD_of g1, getD_of g2]
      have k1 : us.toArray[j] = u1 := by
        have : us[j]? = some us[j] := List.getElem?_eq_getElem _
        rw [this] at e1; simpa using e1
      have k2 : vs.toArray[j] = u2 := by
        have : vs[j]? = some vs[j] := List.getElem?_eq_getElem _
        rw [this] at e2; simpa using e2
      rw [k1, k2]
      exact ih (ne_units hu) (r1 j _ _ g1 x1) (r2 j _ _ g2 x2) q1 q2
    cases r with
    | v f =>
      cases r' with
      | v f' => unfold eqD; exact eqAt_V rx ry f f'
      | t h e _ =>
        cases ry
        obtain ⟨its, _, p, _⟩ := I.tuple h
        unfold eqD
        cases x <;> first | (exact (Bool.false_ne_true f).elim) | skip
        · cases (show u = Value.none from rx); exact .none_tuple p hu0
        · cases (show u = Value.bool _ from rx); exact .bool_tuple _ p hu0
        · obtain ⟨t, rfl⟩ := rx; exact .int_tuple _ _ p hu0
        · obtain ⟨t, rfl⟩ := rx; exact .str_tuple _ _ p hu0
      | l h e _ =>
        cases ry
        obtain ⟨its, _, p, _⟩ := I.list h
        unfold eqD
        cases x <;> first | (exact (Bool.false_ne_true f).elim) | skip
        · cases (show u = Value.none from rx); exact .none_list p.isList hu0
        · cases (show u = Value.bool _ from rx); exact .bool_list _ p.isList hu0
        · obtain ⟨t, rfl⟩ := rx; exact .int_list _ _ p.isList hu0
        · obtain ⟨t, rfl⟩ := rx; exact .str_list _ _ p.isList hu0
    | t h e r1 =>
      rename_i a ds xs
      cases rx
      obtain ⟨its, w1, p, _⟩ := I.tuple h
      cases r' with
      | v f' =>
        unfold eqD
        cases y <;> first | (exact (Bool.false_ne_true f').elim) | skip
        · cases (show v = Value.none from ry); exact .tuple_none p hu0
        · cases (show v = Value.bool _ from ry); exact .tuple_bool _ p hu0
        · obtain ⟨t, rfl⟩ := ry; exact .tuple_int _ _ p hu0
        · obtain ⟨t, rfl⟩ := ry; exact .tuple_str _ _ p hu0
      | t h' e' r2 =>
        rename_i b es ys
        cases ry
        obtain ⟨its', w2, p', _⟩ := I.tuple h'
        by_cases ab : a = b
        · subst ab
          have z := Rep.det I (.t h e r1) (.t h' e' r2) rfl
          rw [← z, Rep.self (.t h e r1)]; exact .same _
        · have q := SeqAt.RcAt.tuples (A := A) (e := fun i => eqD (ds.getD i default) (es.getD i default)) p p' hu0 (elems e e' r1 r2 w1 w2)
          have sz : its.toArray.size = ds.length := by rw [List.size_toArray, ← w1.length, e]
          have sz' : its'.toArray.size = es.length := by rw [List.size_toArray, ← w2.length, e']
          rw [sz, sz', ← eqDs_eq] at q
          unfold eqD
          exact .of_refs ab q
      | l h' _ _ =>
        cases ry
        obtain ⟨its', w2, p', _⟩ := I.list h'
        unfold eqD
        exact .tuple_list p p'.isList hu0
    | l h e r1 =>
      rename_i a ds xs
      cases rx
      obtain ⟨its, w1, p, _⟩ := I.list h
      cases r' with
      | v f' =>
        unfold eqD
        cases y <;> first | (exact (Bool.false_ne_true f').elim) | skip
        · cases (show v = Value.none from ry); exact .list_none p.isList hu0
        · cases (show v = Value.bool _ from ry); exact .list_bool _ p.isList hu0
        · obtain ⟨t, rfl⟩ := ry; exact .list_int _ _ p.isList hu0
        · obtain ⟨t, rfl⟩ := ry; exact .list_str _ _ p.isList hu0
      | l h' e' r2 =>
        rename_i b es ys
        cases ry
        obtain ⟨its', w2, p', _⟩ := I.list h'
        by_cases ab : a = b
        · subst ab
          have z := Rep.det I (.l h e r1) (.l h' e' r2) rfl
          rw [← z, Rep.self (.l h e r1)]; exact .same _
        · have sz : its.toArray.size = ds.length := by rw [List.size_toArray, ← w1.length, e]
          have sz' : its'.toArray.size = es.length := by rw [List.size_toArray, ← w2.length, e']
          unfold eqD
          by_cases hl : ds.length = es.length
          · have q := SeqAt.RcAt.lists (A := A) (e := fun i => eqD (ds.getD i default) (es.getD i default)) p.isList p'.isList (by omega) hu0 (elems e e' r1 r2 w1 w2)
            rw [sz, ← eqDs_len hl] at q
            exact .of_refs ab q
          · rw [eqDs_ne hl]
            exact .of_refs ab (SeqAt.RcAt.lists_lengths p.isList p'.isList (by rw [sz, sz']; exact bne_iff_ne.mpr hl) hu0)
      | t h' _ _ =>
        cases ry
        obtain ⟨its', w2, p', _⟩ := I.tuple h'
        unfold eqD
        exact .list_tuple p.isList p' hu0
theorem Rep.elems (I : Inv X pins σ H s) {n : Nat} {A : Around} (hu : A.units + (n + 1) < cLine) {ds es : List Dt} {xs ys : List V} {us vs : List Value} (l1 : ds.length = xs.length) (l2 : es.length = ys.length)
    (r1 : ∀ (i : Nat) d x, ds[i]? = some d → xs[i]? = some x → Rep X.K H n d x) (r2 : ∀ (i : Nat) d x, es[i]? = some d → ys[i]? = some x → Rep X.K H n d x) (w1 : Vals xs us) (w2 : Vals ys vs) (j : Nat) (h1 : j < us.toArray.size) (h2 : j < vs.toArray.size) :
    SeqAt.EqAt A.in1 s us.toArray[j] vs.toArray[j] (eqD (ds.getD j default) (es.getD j default)) := by
  have m1 := w1.length
  have m2 := w2.length
  have j1 : j < xs.length := by have : j < us.length := by simpa using h1
                                omega
  have j2 : j < ys.length := by have : j < vs.length := by simpa using h2
                                omega
  have g1 : ds[j]? = some (ds[j]'(by omega)) := List.getElem?_eq_getElem _
  have g2 : es[j]? = some (es[j]'(by omega)) := List.getElem?_eq_getElem _
  have x1 : xs[j]? = some xs[j] := List.getElem?_eq_getElem _
  have x2 : ys[j]? = some ys[j] := List.getElem?_eq_getElem _
  obtain ⟨u1, e1, q1⟩ := w1.get x1
  obtain ⟨u2, e2, q2⟩ := w2.get x2
  rw [getD_of g1, getD_of g2]
  have k1 : us.toArray[j] = u1 := by
    have : us[j]? = some us[j] := List.getElem?_eq_getElem _
    rw [this] at e1; simpa using e1
  have k2 : vs.toArray[j] = u2 := by
    have : vs[j]? = some vs[j] := List.getElem?_eq_getElem _
    rw [this] at e2; simpa using e2
  rw [k1, k2]
  exact Rep.eqAt I n (ne_units hu) (r1 j _ _ g1 x1) (r2 j _ _ g2 x2) q1 q2
theorem Rep.rcNeAt (I : Inv X pins σ H s) {n : Nat} {A : Around} {d d' : Dt} {x y : V} {u v : Value} (hu : A.units + n < cLine) (r : Rep X.K H n d x) (r' : Rep X.K H n d' y) (rx : RelV x u) (ry : RelV y v) : SeqAt.RcNeAt A s u v (!eqD d d') := by
  have hu0 : A.units < cLine := by omega
  cases r with
  | v f =>
    cases r' with
    | v f' =>
      unfold eqD
      cases x <;> first | (exact (Bool.false_ne_true f).elim) | skip
      all_goals (cases y <;> first | (exact (Bool.false_ne_true f').elim) | skip)
      · cases (show u = Value.none from rx)
        cases (show v = Value.none from ry)
        exact SeqAt.RcNeAt.none_none
      · cases (show u = Value.none from rx)
        cases (show v = Value.bool _ from ry)
        exact SeqAt.RcNeAt.none_bool _
      · cases (show u = Value.none from rx)
        obtain ⟨tv, rfl⟩ := ry
        exact SeqAt.RcNeAt.none_int _ _
      · cases (show u = Value.none from rx)
        obtain ⟨tv, rfl⟩ := ry
        exact SeqAt.RcNeAt.none_str _ _
      · cases (show u = Value.bool _ from rx)
        cases (show v = Value.none from ry)
        exact SeqAt.RcNeAt.bool_none _
      · cases (show u = Value.bool _ from rx)
        cases (show v = Value.bool _ from ry)
        exact SeqAt.RcNeAt.bool_bool _ _
      · cases (show u = Value.bool _ from rx)
        obtain ⟨tv, rfl⟩ := ry
        exact SeqAt.RcNeAt.bool_int _ _ _
      · cases (show u = Value.bool _ from rx)
        obtain ⟨tv, rfl⟩ := ry
        exact SeqAt.RcNeAt.bool_str _ _ _
      · obtain ⟨tu, rfl⟩ := rx
        cases (show v = Value.none from ry)
        exact SeqAt.RcNeAt.int_none _ _
      · obtain ⟨tu, rfl⟩ := rx
        cases (show v = Value.bool _ from ry)
        exact SeqAt.RcNeAt.int_bool _ _ _
      · obtain ⟨tu, rfl⟩ := rx
        obtain ⟨tv, rfl⟩ := ry
        exact SeqAt.RcNeAt.int_int _ _ _ _
      · obtain ⟨tu, rfl⟩ := rx
        obtain ⟨tv, rfl⟩ := ry
        exact SeqAt.RcNeAt.int_str _ _ _ _
      · obtain ⟨tu, rfl⟩ := rx
        cases (show v = Value.none from ry)
        exact SeqAt.RcNeAt.str_none _ _
      · obtain ⟨tu, rfl⟩ := rx
        cases (show v = Value.bool _ from ry)
        exact SeqAt.RcNeAt.str_bool _ _ _
      · obtain ⟨tu, rfl⟩ := rx
        obtain ⟨tv, rfl⟩ := ry
        exact SeqAt.RcNeAt.str_int _ _ _ _
      · obtain ⟨tu, rfl⟩ := rx
        obtain ⟨tv, rfl⟩ := ry
        exact SeqAt.RcNeAt.str_str _ _ _ _
    | t h e _ =>
      cases ry
      obtain ⟨its, _, p, _⟩ := I.tuple h
      unfold eqD
      cases x <;> first | (exact (Bool.false_ne_true f).elim) | skip
      · cases (show u = Value.none from rx)
        exact SeqAt.RcNeAt.none_tuple p hu0
      · cases (show u = Value.bool _ from rx)
        exact SeqAt.RcNeAt.bool_tuple _ p hu0
      · obtain ⟨tu, rfl⟩ := rx
        exact SeqAt.RcNeAt.int_tuple _ _ p hu0
      · obtain ⟨tu, rfl⟩ := rx
        exact SeqAt.RcNeAt.str_tuple _ _ p hu0
    | l h e _ =>
      cases ry
      obtain ⟨its, _, p, _⟩ := I.list h
      unfold eqD
      cases x <;> first | (exact (Bool.false_ne_true f).elim) | skip
      · cases (show u = Value.none from rx)
        exact SeqAt.RcNeAt.none_list p.isList hu0
      · cases (show u = Value.bool _ from rx)
        exact SeqAt.RcNeAt.bool_list _ p.isList hu0
      · obtain ⟨tu, rfl⟩ := rx
        exact SeqAt.RcNeAt.int_list _ _ p.isList hu0
      · obtain ⟨tu, rfl⟩ := rx
        exact SeqAt.RcNeAt.str_list _ _ p.isList hu0
  | t h e r1 =>
    rename_i n a ds xs
    cases rx
    obtain ⟨its, w1, p, _⟩ := I.tuple h
    cases r' with
    | v f' =>
      unfold eqD
      cases y <;> first | (exact (Bool.false_ne_true f').elim) | skip
      · cases (show v = Value.none from ry)
        exact SeqAt.RcNeAt.tuple_none p hu0
      · cases (show v = Value.bool _ from ry)
        exact SeqAt.RcNeAt.tuple_bool _ p hu0
      · obtain ⟨tv, rfl⟩ := ry
        exact SeqAt.RcNeAt.tuple_int _ _ p hu0
      · obtain ⟨tv, rfl⟩ := ry
        exact SeqAt.RcNeAt.tuple_str _ _ p hu0
    | t h' e' r2 =>
      rename_i b es ys
      cases ry
      obtain ⟨its', w2, p', _⟩ := I.tuple h'
      have q := SeqAt.RcNeAt.tuples (A := A) (e := fun i => eqD (ds.getD i default) (es.getD i default)) p p' hu0 (Rep.elems I hu e e' r1 r2 w1 w2)
      have sz : its.toArray.size = ds.length := by rw [List.size_toArray, ← w1.length, e]
      have sz' : its'.toArray.size = es.length := by rw [List.size_toArray, ← w2.length, e']
      rw [sz, sz', ← eqDs_eq] at q
      unfold eqD
      exact q
    | l h' _ _ =>
      cases ry
      obtain ⟨its', w2, p', _⟩ := I.list h'
      unfold eqD
      exact SeqAt.RcNeAt.tuple_list p p'.isList hu0
  | l h e r1 =>
    rename_i n a ds xs
    cases rx
    obtain ⟨its, w1, p, _⟩ := I.list h
    cases r' with
    | v f' =>
      unfold eqD
      cases y <;> first | (exact (Bool.false_ne_true f').elim) | skip
      · cases (show v = Value.none from ry)
        exact SeqAt.RcNeAt.list_none p.isList hu0
      · cases (show v = Value.bool _ from ry)
        exact SeqAt.RcNeAt.list_bool _ p.isList hu0
      · obtain ⟨tv, rfl⟩ := ry
        exact SeqAt.RcNeAt.list_int _ _ p.isList hu0
      · obtain ⟨tv, rfl⟩ := ry
        exact SeqAt.RcNeAt.list_str _ _ p.isList hu0
    | l h' e' r2 =>
      rename_i b es ys
      cases ry
      obtain ⟨its', w2, p', _⟩ := I.list h'
      have sz : its.toArray.size = ds.length := by rw [List.size_toArray, ← w1.length, e]
      have sz' : its'.toArray.size = es.length := by rw [List.size_toArray, ← w2.length, e']
      unfold eqD
      by_cases hl : ds.length = es.length
      · have q := SeqAt.RcNeAt.lists (A := A) (e := fun i => eqD (ds.getD i default) (es.getD i default)) p.isList p'.isList (by omega) hu0 (Rep.elems I hu e e' r1 r2 w1 w2)
        rw [sz, ← eqDs_len hl] at q
        exact q
      · rw [eqDs_ne hl]
        exact SeqAt.RcNeAt.lists_lengths p.isList p'.isList (by rw [sz, sz']; exact bne_iff_ne.mpr hl) hu0
    | t h' _ _ =>
      cases ry
      obtain ⟨its', w2, p', _⟩ := I.tuple h'
      unfold eqD
      exact SeqAt.RcNeAt.list_tuple p.isList p' hu0
/-- ==, != of data of at most 60 storeys -/
def rD (K : PySem.W.Frag) (neg : Bool) : R2 := fun x y H Q => ∃ n d d', n ≤ 60 ∧ Rep K H n d x ∧ Rep K H n d' y ∧ Q (.bl (if neg then !eqD d d' else eqD d d')) H
theorem op_neD (hu : X.A.units + 64 < cLine) : OpR X (compareOp .NotEq) (rD X.K true) := by
  intro pins s σ H x y v u Q I rx ry h
  obtain ⟨n, d, d', hn, r, r', q⟩ := h
  exact Rep.rcNeAt I (A := X.A) (by omega) r r' rx ry X.prog X.w X.xe _ ⟨.bl _, H, I, rfl, q⟩
end
end L2


end
section
set_option Elab.async false
set_option linter.all false
set_option maxRecDepth 100000
set_option maxHeartbeats 1000000
namespace L2
open PySem PySem.Spec PyProof.Rows PySem.W
section
variable {X : Cx} {pins : List (Addr × Obj)} {σ : St} {H : Hp} {s : Shared} {A : Around} {E : Value → Shared → Prop}
end
end L2


end
section
set_option Elab.async false
set_option linter.all false
set_option maxRecDepth 100000
set_option maxHeartbeats 1000000
namespace L2
open PySem PySem.Spec PyProof.Rows
/-- not known to the object at the entry -/
def NF (X : Cx) (d : Addr) : Prop := ∀ o u, X.H₀ d ≠ some (.frz o u)
section
variable {X : Cx} {pins : List (Addr × Obj)} {σ : St} {H : Hp} {s : Shared} {d : Addr} {kvs : List (Key × V)}
theorem Inv.nf (I : Inv X pins σ H s) (h : H d = some (.dK kvs)) : NF X d := fun o u q => by
  have z := I.base.frzs d o u q
  rw [h] at z; cases z
end
/-- the keys of the frozen dict at d, in their order -/
def Itd (d : Addr) (ob : Obj) (kvs : List (Key × V)) : It :=
  ⟨fun i H => H d = some (.frz ob (.dK kvs)) ∧ i < kvs.length, fun i H x H' => H' = H ∧ ∃ k v, kvs[i]? = some (k, v) ∧ x = kV k, fun i H => H d = some (.frz ob (.dK kvs)) ∧ kvs.length ≤ i⟩
theorem KV.get {kvs : List (Key × V)} {vs : List (Key × Value)} (r : KV kvs vs) {i : Nat} {k : Key} {v : V} (h : kvs[i]? = some (k, v)) : ∃ u, vs[i]? = some (k, u) ∧ RelV v u := by
  induction r generalizing i with
  | nil => simp at h
  | cons a b ih =>
    cases i with
    | zero =>
      simp only [List.getElem?_cons_zero, Option.some.injEq] at h ⊢
      subst h
      rename_i q _ _
      obtain ⟨k', u⟩ := q
      exact ⟨u, by rw [show k = k' from a.1], a.2⟩
    | succ j =>
      simp only [List.getElem?_cons_succ] at h ⊢
      exact ih h
theorem KV.len {kvs : List (Key × V)} {vs : List (Key × Value)} (r : KV kvs vs) : kvs.length = vs.length := Paired.length r
/-- the dict is frozen while it is walked -/
def iDict (X : Cx) (tl : TE) : TI := fun σ H R => tl σ H fun x H1 => ∃ d kvs, x = .ref d ∧ H1 d = some (.dK kvs) ∧ ∀ ob, NF X d → R (Itd d ob kvs) (upd H1 d (.frz ob (.dK kvs)))
section
variable {X : Cx}
def Ends.thawed (X : Cx) (D : Ends) : Ends := { D with nx := fun σ H => ∃ d ob kvs, NF X d ∧ H d = some (.frz ob (.dK kvs)) ∧ D.nx σ (upd H d (.dK kvs)), rt := fun v H => ∃ d ob kvs, NF X d ∧ H d = some (.frz ob (.dK kvs)) ∧ D.rt v (upd H d (.dK kvs)) }
def sThaw (X : Cx) (t : TS) : TS := fun D σ H => t (D.thawed X) σ H
def tThaw (X : Cx) (te : TE) : TE := fun σ H Q => te σ H fun v H1 => ∃ d ob kvs, NF X d ∧ H1 d = some (.frz ob (.dK kvs)) ∧ Q v (upd H1 d (.dK kvs))
theorem tFor_dict {tl : TE} {g : TG} {tb : TS} {D : Ends} {σ : St} {H : Hp} : tFor (iDict X tl) g tb D σ H = tl σ H fun x H1 => ∃ d kvs, x = .ref d ∧ H1 d = some (.dK kvs) ∧ ∀ ob, NF X d → FoR (Itd d ob kvs) g tb D σ (upd H1 d (.frz ob (.dK kvs))) := rfl
theorem tLc_dict {tl : TE} {tt : TT} {te : TE} {σ : St} {H : Hp} {Q : VK} : tLc (iDict X tl) tt te σ H Q = tl σ H fun x H1 => ∃ d kvs, x = .ref d ∧ H1 d = some (.dK kvs) ∧ ∀ ob, NF X d → LcR (Itd d ob kvs) tt te σ Q (upd H1 d (.frz ob (.dK kvs))) := rfl
end
end L2


end
section
set_option Elab.async false
set_option linter.all false
set_option maxRecDepth 100000
set_option maxHeartbeats 1000000
namespace L2
open PySem PySem.Spec PyProof.Rows
theorem Room.u1 {k : Nat} {A : Around} (r : Room k A) : A.units + 1 < cLine := by have := r.units; omega
def SqE (b : Bool) (K : PySem.W.Frag) (H : Hp) (a : Addr) (xs : List V) : Prop := if b = true then SqT K H a xs else SqL K H a xs
def ItE (b : Bool) (K : PySem.W.Frag) (a : Addr) : It := if b = true then Itt K a else Itl K a
theorem SqE.same {b : Bool} {K : PySem.W.Frag} {H H' : Hp} {a : Addr} {xs : List V} (h : SqE b K H a xs) (s : Same H H') : SqE b K H' a xs := by
  cases b with
  | true => exact Same.seqT s h
  | false => exact Same.seq s h
theorem SqE.any {b : Bool} {K : PySem.W.Frag} {H : Hp} {a : Addr} {xs : List V} (h : SqE b K H a xs) : SqL K H a xs ∨ SqT K H a xs := by
  cases b with
  | true => exact .inr h
  | false => exact .inl h
def iSeq (K : PySem.W.Frag) (tl : TE) : TI := fun σ H R => tl σ H fun x H1 => ∃ a b, x = .ref a ∧ (∃ xs, SqE b K H1 a xs) ∧ R (ItE b K a) H1
section
variable {X : Cx} {tg : Expr}
end
theorem tFor_seq {K : PySem.W.Frag} {tl : TE} {g : TG} {tb : TS} {D : Ends} {σ : St} {H : Hp} : tFor (iSeq K tl) g tb D σ H = tl σ H fun x H1 => ∃ a b, x = .ref a ∧ (∃ xs, SqE b K H1 a xs) ∧ FoR (ItE b K a) g tb D σ H1 := rfl
end L2


end
section
set_option Elab.async false
set_option linter.all false
set_option maxRecDepth 100000
set_option maxHeartbeats 1000000
namespace PySem.W
open PySem
def clsFacts (K : Frag) (C : Addr) (fl : List Str) : Bool := plainGet K C Str.empty && (hasDictIn K C && (plainOver K C && (findIn K (.ref C) "__setattr__" == some (some (.builtin "object.__setattr__")) && (findIn K (.ref C) "__class__" == some (some (.builtin "object.__class__")) && (mroIn K C (.type "object") == some true && fl.all fun f => findIn K (.ref C) f == some none)))))
theorem clsFacts_of {K : Frag} {C : Addr} {fl : List Str} (h : clsFacts K C fl = true) : L2.Cls K C ∧ findIn K (.ref C) "__class__" = some (some (.builtin "object.__class__")) ∧ mroIn K C (.type "object") = some true ∧ ∀ f ∈ fl, L2.NoAttr K C f := by
  unfold clsFacts at h
  simp only [Bool.and_eq_true, beq_iff_eq, List.all_eq_true] at h
  obtain ⟨a, b, c, d, e, f, g⟩ := h
  exact ⟨⟨a, b, c, d⟩, e, f, g⟩
def mtxOk (K : Frag) (l : List Addr) (m : Nat → Nat → Bool) : Bool := (List.range l.length).all fun i => (List.range l.length).all fun j => kitOne K (.ref (l.getD i 0)) (.ref (l.getD j 0)) == some (m i j)
theorem mtx_of {K : Frag} {l : List Addr} {m : Nat → Nat → Bool} (h : mtxOk K l m = true) : ∀ i j, i < l.length → j < l.length → kitOne K (.ref (l.getD i 0)) (.ref (l.getD j 0)) = some (m i j) := by
  unfold mtxOk at h
  simp only [List.all_eq_true, List.mem_range, beq_iff_eq] at h
  exact fun i j hi hj => h i hi j hj
end PySem.W
namespace L2
open PySem PySem.Spec PyProof.Rows
/-- what is known of a class whose objects are made -/
structure ObC (K : PySem.W.Frag) (C : Addr) (fl : List Str) : Prop where
  cl : Cls K C
  cc : PySem.W.findIn K (.ref C) "__class__" = some (some (.builtin "object.__class__"))
  mo : PySem.W.mroIn K C (.type "object") = some true
  no : ∀ f ∈ fl, NoAttr K C f
  cg : PySem.W.specialIn K (.builtin "object.__class__") "__get__" = some (some (.builtin "getset_descriptor.__get__"))
  ct : PySem.W.takesIn K (.builtin "object.__class__") = some true
theorem ObC.of {K : PySem.W.Frag} {C : Addr} {fl : List Str} (h : PySem.W.clsFacts K C fl = true) (cg : PySem.W.specialIn K (.builtin "object.__class__") "__get__" = some (some (.builtin "getset_descriptor.__get__"))) (ct : PySem.W.takesIn K (.builtin "object.__class__") = some true) : ObC K C fl :=
  let ⟨a, b, c, d⟩ := PySem.W.clsFacts_of h; ⟨a, b, c, d, cg, ct⟩
theorem ObC.ty {K : PySem.W.Frag} {H : Hp} {C a dx : Addr} {fl : List Str} {fs : List (Str × V)} (c : ObC K C fl) (e : H a = some (.ins C dx fs)) : TyOf K H (.ref a) (.ref C) := .ins e c.cl c.cc c.cg c.ct c.mo
/-- o.m(..): the method of the object's own class -/
def tMethV (P : Program) (w : World) (K : PySem.W.Frag) (mg : Str → Option Value) (base : Heap) (k : Nat) (m : Str) (ta : TE) (t : TA) : TE1 := fun σ H Q E => ta σ H fun x H1 => ∃ a C dx fs sp, x = .ref a ∧ H1 a = some (.ins C dx fs) ∧ fs.lookup m = none ∧ Cls K C ∧ MeV P w K mg base k C m sp ∧ t σ H1 fun vs H2 => sp (x :: vs) H2 Q E
section
variable {X : Cx} {m : Str} {k : Nat} {ta : TE} {t : TA} {e o : Expr} {es : List Expr} {pos apos : Pos} {pl : Sem Bool}
theorem pe1_methV (he : PE X.nox o ta) (hr : Room k X.A) (hex : X.ex = []) (ha : PA X.nox (e :: es) t)
    (hst : starEach (e :: es) X.env = (false, eval e X.env) :: starEach es X.env := by rfl) (hpl : (backTo pos (starEach es X.env)).any (·.1) = false := by rfl)
    (ht : eval (.Call (.Attribute o m apos) (e :: es) [] pos) X.env = (do
      let ov ← eval o X.env
      standAt apos.atName
      let (f, first) ← holding [ov] (getMethod ov m pl)
      callWith pos f first (backTo pos (starEach (e :: es) X.env)) (backToKw pos (keywordEach [] X.env))) := by rfl) :
    PE1 X (.Call (.Attribute o m apos) (e :: es) [] pos) (tMethV X.prog X.w X.K X.mg X.base k m ta t) := by
  intro pins s σ H Q E I h
  refine PySem.W.methodCall_KW (pl := pl) (thn (pe_noxW he I h) fun u s1 ⟨y, H1, I1, rx, a, C, dx, fs, sp, ex, ea, l, c, G, q⟩ => ?_) ht
  obtain ⟨f, fd, ps, hm, F, hb⟩ := G
  subst ex
  obtain rfl : u = Value.ref a := rx
  refine getmeth_ok I1 ea c hm l ?_
  refine PySem.W.callWith_K (first := [.ref a]) (h₀ := X.base) I.ok.mod.kin hm.kp (thn (pa_nox ha I1 q) fun us s2 ⟨vs, H2, I2, r, q2⟩ => ⟨I2.kIn, ?_⟩) hst hpl
  exact run_fn1 (us := .ref a :: us) (vs := .ref a :: vs) F hr hb hex I2 (.cons rfl r) q2
theorem pe1_methV0 (he : PE X.nox o ta) (hr : Room k X.A) (hex : X.ex = [])
    (ht : eval (.Call (.Attribute o m apos) [] [] pos) X.env = (do
      let ov ← eval o X.env
      standAt apos.atName
      let (f, first) ← holding [ov] (getMethod ov m pl)
      callWith pos f first (backTo pos (starEach [] X.env)) (backToKw pos (keywordEach [] X.env))) := by rfl) :
    PE1 X (.Call (.Attribute o m apos) [] [] pos) (tMethV X.prog X.w X.K X.mg X.base k m ta tNil) := by
  intro pins s σ H Q E I h
  refine PySem.W.methodCall_KW (pl := pl) (thn (pe_noxW he I h) fun u s1 ⟨y, H1, I1, rx, a, C, dx, fs, sp, ex, ea, l, c, G, q⟩ => ?_) ht
  obtain ⟨f, fd, ps, hm, F, hb⟩ := G
  subst ex
  obtain rfl : u = Value.ref a := rx
  refine getmeth_ok I1 ea c hm l ?_
  exact PySem.W.callWith_K0 (first := [.ref a]) I1.kIn hm.kp (run_fn1 (us := [.ref a]) (vs := [.ref a]) F hr hb hex I1 (.cons rfl .nil) q)
/-- C() -/
theorem pe_mk0 {j : Nat} {x : Str} {C : Addr} {sp : Sp} {p : Pos} (G : MkV X.prog X.w X.K X.mg X.base j x C sp) (hr : Room k X.A) (hj : j + 1 ≤ k) (hg : Gl X x) (hdb : (x == ("__debug__" : Str)) = false := by decide) : PE X (.Call (.Name x p) [] [] pos) (tMake C sp [] E0 tNil) := by
  obtain ⟨f, fd, ps, M, F, b, hm⟩ := G
  exact pe_make0 M F (hr.mono hj) hg hm b .nil pass0 hdb
end
end L2


end
section
set_option Elab.async false
set_option linter.all false
set_option maxRecDepth 100000
set_option maxHeartbeats 1000000
namespace L2
open PySem PySem.Spec PyProof.Rows
inductive Fz (H : Hp) : Nat → V → Prop where
  | v {n : Nat} {x : V} (f : flatV x = true) : Fz H n x
  | t {n : Nat} {a : Addr} {xs : List V} (h : H a = some (.tup xs)) (r : ∀ x ∈ xs, Fz H n x) : Fz H (n + 1) (.ref a)
theorem Fz.sameT {H H' : Hp} {n : Nat} {x : V} (r : Fz H n x) (s : SameT H H') : Fz H' n x := by
  induction r with
  | v f => exact .v f
  | t h _ ih => exact .t (s _ _ h) ih
theorem Fz.same {H H' : Hp} {n : Nat} {x : V} (r : Fz H n x) (s : Same H H') : Fz H' n x := r.sameT s.t
theorem Fz.mono {H : Hp} {n : Nat} {x : V} (r : Fz H n x) : ∀ {m : Nat}, n ≤ m → Fz H m x := by
  induction r with
  | v f => exact fun _ => .v f
  | t h _ ih =>
    intro m hm
    obtain ⟨k, rfl⟩ : ∃ k, m = k + 1 := ⟨m - 1, by omega⟩
    exact .t h fun x hx => ih x hx (by omega)
theorem repsOf {K : PySem.W.Frag} {H : Hp} {n : Nat} : ∀ {xs : List V}, (∀ x ∈ xs, ∃ d, Rep K H n d x) → ∃ ds : List Dt, ds.length = xs.length ∧ ∀ (i : Nat) d x, ds[i]? = some d → xs[i]? = some x → Rep K H n d x
  | [], _ => ⟨[], rfl, fun i d x h => by simp at h⟩
  | x :: xs, h => by
    obtain ⟨d, hd⟩ := h x List.mem_cons_self
    obtain ⟨ds, l, r⟩ := repsOf (xs := xs) fun y hy => h y (List.mem_cons_of_mem _ hy)
    refine ⟨d :: ds, by simp [l], fun i d' x' e1 e2 => ?_⟩
    cases i with
    | zero => simp at e1 e2; subst e1 e2; exact hd
    | succ i => simp at e1 e2; exact r i d' x' e1 e2
theorem Fz.rep {K : PySem.W.Frag} {H : Hp} {n : Nat} {x : V} (r : Fz H n x) : ∃ d, Rep K H n d x := by
  induction r with
  | v f => exact ⟨_, .v f⟩
  | t h _ ih =>
    obtain ⟨ds, l, q⟩ := repsOf (K := K) ih
    exact ⟨.t ds, .t (SqT.of h) l q⟩
theorem Fz.pair {H : Hp} {n : Nat} {a : Addr} {x y : V} (h : H a = some (.tup [x, y])) (hx : Fz H n x) (hy : Fz H n y) : Fz H (n + 1) (.ref a) := .t h fun z hz => by
  rcases List.mem_cons.mp hz with e | hz
  · rw [e]; exact hx
  · rw [List.mem_singleton.mp hz]; exact hy
/-- a list at p, made behind H, whose items are data of tuples -/
structure Coll (H : Hp) (n : Nat) (p : Addr) (H1 : Hp) (xs : List V) : Prop where
  same : Same H H1
  at_ : H1 p = some (.lst xs)
  fz : ∀ x ∈ xs, Fz H1 n x
  new : H p = none
theorem Coll.start {H : Hp} {n : Nat} {p : Addr} (hp : H p = none) : Coll H n p (upd H p (.lst [])) [] := ⟨same_upd hp _, upd_same, (fun x hx => by cases hx), hp⟩
/-- behind what was made since, one item more -/
theorem Coll.more {H H1 H2 : Hp} {n : Nat} {p : Addr} {xs : List V} {x : V} (c : Coll H n p H1 xs) (s : Same H1 H2) (f : Fz H2 n x) : Coll H n p (upd H2 p (.lst (xs ++ [x]))) (xs ++ [x]) where
  same := fun b o hb => by rw [upd_ne (ne_of_none hb c.new)]; exact s _ _ (c.same _ _ hb)
  at_ := upd_same
  fz := fun y hy => by
    have st := sameT_lst (zs := xs ++ [x]) (s _ _ c.at_)
    rcases List.mem_append.mp hy with h | h
    · exact ((c.fz y h).same s).sameT st
    · rw [List.mem_singleton.mp h]; exact f.sameT st
  new := c.new
theorem Coll.pair {H H1 : Hp} {n : Nat} {p q : Addr} {xs : List V} (x y : V) (c : Coll H (n + 1) p H1 xs) (hq : H1 q = none) (fx : flatV x = true := by rfl) (fy : flatV y = true := by rfl) : Coll H (n + 1) p (upd (upd H1 q (.tup [x, y])) p (.lst (xs ++ [.ref q]))) (xs ++ [.ref q]) :=
  c.more (same_upd hq _) (Fz.pair upd_same (.v fx) (.v fy))
theorem two_ok {x y : V} : [x, y].length ≤ sizeLine := show 2 ≤ sizeLine by decide
theorem lcR_fm {J : It} {tt : TT} {te : TE} {σ : St} {H1 : Hp} {Q : VK} (xs : List V) (p : V → Bool) (f : V → V) (hz : xs.length ≤ sizeLine)
    (hgo : ∀ i H2, i < xs.length → Same H1 H2 → J.go i H2 ∧ ∀ x H', J.yld i H2 x H' → H' = H2 ∧ xs[i]? = some x) (hst : ∀ H2, Same H1 H2 → J.stop xs.length H2)
    (ht : ∀ (i : Nat) x H2 (R : Bool → Hp → Prop), xs[i]? = some x → Same H1 H2 → R (p x) H2 → tt (some x :: σ) H2 R)
    (he : ∀ (i : Nat) x H2 (R : VK), xs[i]? = some x → p x = true → Same H1 H2 → R (f x) H2 → te (some x :: σ) H2 R)
    (hq : ∀ D H2, H1 D = none → Same H1 H2 → H2 D = some (.lst ((xs.filter p).map f)) → Q (.ref D) H2) : LcR J tt te σ Q H1 := by
  intro D hD
  refine ⟨fun i m ys H2 => m = xs.length - i ∧ i ≤ xs.length ∧ ys = ((xs.take i).filter p).map f ∧ H2 D = some (.lst ys) ∧ Same H1 H2, ⟨_, rfl, Nat.zero_le _, by simp, upd_same, same_upd hD _⟩, ?_⟩
  rintro i m ys H2 ⟨rfl, hi, hy, hd, sm⟩
  refine ⟨hd, ?_⟩
  by_cases hlt : i < xs.length
  · obtain ⟨go, yl⟩ := hgo i H2 hlt sm
    have hl : ys.length ≤ i := by
      rw [hy, List.length_map]
      exact Nat.le_trans (List.length_filter_le _ _) (by rw [List.length_take]; omega)
    refine .inr ⟨go, by omega, fun x H' y => ?_⟩
    obtain ⟨e, hx⟩ := yl x H' y
    subst e
    have hn : ((xs.take (i + 1)).filter p).map f = if p x = true then ys ++ [f x] else ys := by
      rw [List.take_succ, hx, List.filter_append, List.map_append, ← hy]
      cases hp : p x <;> simp [hp]
    refine ht i x _ _ hx sm ?_
    cases hp : p x with
    | true =>
      rw [if_pos rfl]
      refine he i x _ _ hx hp sm ⟨hd, xs.length - (i + 1), by omega, rfl, hlt, ?_, upd_same, sm.updL hD _⟩
      rw [hn, hp, if_pos rfl]
    | false =>
      rw [if_neg Bool.false_ne_true]
      refine ⟨xs.length - (i + 1), by omega, rfl, hlt, ?_, hd, sm⟩
      rw [hn, hp, if_neg Bool.false_ne_true]
  · have e : i = xs.length := by omega
    subst e
    rw [List.take_length] at hy
    exact .inl ⟨hst H2 sm, hq D H2 hD sm (by rw [hd, hy])⟩
theorem lcM_tup {K : PySem.W.Frag} {a : Addr} {tt : TT} {te : TE} {σ : St} {H1 : Hp} {Q : VK} (xs : List V) (p : V → Bool) (f : V → V) (hx : SqT K H1 a xs) (hz : xs.length ≤ sizeLine)
    (ht : ∀ (i : Nat) x H2 (R : Bool → Hp → Prop), xs[i]? = some x → Same H1 H2 → R (p x) H2 → tt (some x :: σ) H2 R)
    (he : ∀ (i : Nat) x H2 (R : VK), xs[i]? = some x → p x = true → Same H1 H2 → R (f x) H2 → te (some x :: σ) H2 R)
    (hq : ∀ D H2, H1 D = none → Same H1 H2 → H2 D = some (.lst ((xs.filter p).map f)) → Q (.ref D) H2) : LcR (Itt K a) tt te σ Q H1 :=
  lcR_fm xs p f hz (fun i H2 hi s => ⟨⟨xs, xs[i], s.seqT hx, by simp [hi]⟩, fun x H' y => ⟨y.1, y.2 xs (s.seqT hx)⟩⟩) (fun H2 s => ⟨xs, s.seqT hx, Nat.le_refl _⟩) ht he hq
theorem rd_fld {K : PySem.W.Frag} {C a dx : Addr} {fl : List Str} {f : Str} {fs : List (Str × V)} {v : V} {i : Nat} {σ : St} {H : Hp} {Q : VK} (c : ObC K C fl) (hf : f ∈ fl) (hs : σ[i]? = some (some (.ref a))) (ha : H a = some (.ins C dx fs)) (hv : fs.lookup f = some v) (q : Q v H) : tFld K (tVar i) f σ H Q :=
  ⟨_, hs, a, C, dx, fs, v, rfl, ha, c.cl, c.no f hf, hv, q⟩
theorem rd_set {K : PySem.W.Frag} {C a dx : Addr} {fl : List Str} {f : Str} {fs : List (Str × V)} {i : Nat} {σ : St} {H H1 : Hp} {tv : TE} {D : Ends} {y : V} (c : ObC K C fl) (hf : f ∈ fl) (hs : σ[i]? = some (some (.ref a))) (hv : ∀ Q : VK, Q y H1 → tv σ H Q) (ha : H1 a = some (.ins C dx fs)) (l : fs.length < 1000) (q : D.nx σ (upd H1 a (.ins C dx (putF f y fs)))) : sFld K (tVar i) tv f D σ H :=
  hv _ ⟨_, hs, a, C, dx, fs, rfl, ha, c.cl, c.no f hf, l, q⟩
theorem upd_swap {H : Hp} {a b : Addr} {x y : HO} (h : a ≠ b) : upd (upd H a x) b y = upd (upd H b y) a x := by
  funext c
  by_cases h1 : c = b
  · subst h1; rw [upd_same, upd_ne (Ne.symm h), upd_same]
  · by_cases h2 : c = a
    · subst h2; rw [upd_same, upd_ne h1, upd_same]
    · rw [upd_ne h1, upd_ne h2, upd_ne h2, upd_ne h1]
/-- a list or a tuple of the own heap -/
def HE (b : Bool) (H : Hp) (e : Addr) (xs : List V) : Prop := H e = some (if b = true then .tup xs else .lst xs)
theorem HE.upd_ins {b : Bool} {H : Hp} {a e C dx : Addr} {o : HO} {fs : List (Str × V)} {xs : List V} (h : HE b H e xs) (ha : H a = some (.ins C dx fs)) : HE b (upd H a o) e xs := by
  have ne : e ≠ a := fun z => by
    unfold HE at h
    rw [z, ha] at h
    cases b <;> cases h
  unfold HE
  rw [upd_ne ne]
  exact h
theorem HE.same {b : Bool} {H H' : Hp} {e : Addr} {xs : List V} (h : HE b H e xs) (s : Same H H') : HE b H' e xs := s _ _ h
section
variable {P : Program} {w : World} {K : PySem.W.Frag} {mg : Str → Option Value} {base : Heap} {k i : Nat} {C D a dx : Addr} {m : Str} {sp : Sp} {fs : List (Str × V)} {fl : List Str} {σ : St} {H : Hp} {Q : VK} {E : XK} {t : TA} {b : Bool}
theorem rd_methV0 (hs : σ[i]? = some (some (.ref a))) (ha : H a = some (.ins C dx fs)) (l : fs.lookup m = none) (c : Cls K C) (M : MeV P w K mg base k C m sp) (q : sp [.ref a] H Q E) : tMethV P w K mg base k m (tVar i) tNil σ H Q E := ⟨_, hs, a, C, dx, fs, sp, rfl, ha, l, c, M, q⟩
theorem rd_methV (hs : σ[i]? = some (some (.ref a))) (ha : H a = some (.ins C dx fs)) (l : fs.lookup m = none) (c : Cls K C) (M : MeV P w K mg base k C m sp) (q : t σ H fun vs H2 => sp (.ref a :: vs) H2 Q E) : tMethV P w K mg base k m (tVar i) t σ H Q E := ⟨_, hs, a, C, dx, fs, sp, rfl, ha, l, c, M, q⟩
theorem rD_same {n : Nat} {d : Dt} {x y : V} {neg : Bool} (hn : n ≤ 60) (rx : Rep K H n d x) (ry : Rep K H n d y) (q : Q (.bl (!neg)) H) : rD K neg x y H Q := ⟨n, d, d, hn, rx, ry, by
  rw [Rep.self rx]
  cases neg <;> exact q⟩
end
theorem same_mk {H H' : Hp} {x dx : Addr} {o u : HO} (hx : H x = none) (hdx : H dx = none) (s : Same (upd (upd H dx u) x o) H') : Same H H' := fun b v hb => s _ _ (by rw [upd_ne (ne_of_none hb hx), upd_ne (ne_of_none hb hdx)]; exact hb)
theorem same_updN {H H' : Hp} {d : Addr} {o : HO} (s : Same H H') (n : H d = none) : Same H (upd H' d o) := fun b u hb => by
  rw [upd_ne (ne_of_none hb n)]; exact s b u hb
end L2


end
section
set_option Elab.async false
set_option linter.all false
set_option maxRecDepth 100000
set_option maxHeartbeats 1000000
namespace L2
open PySem PySem.Spec PyProof.Rows
def Itd1 (lo : Int) (n : Nat) : It := ⟨fun i _ => i < n, fun i H x H' => H' = H ∧ x = .int (lo - i), fun i _ => n ≤ i⟩
section
variable {X : Cx} {tg : Expr}
def iRngD (ta : TA) : TI := fun σ H R => ta σ H fun vs H1 => ∃ i j : Int, vs = [.int i, .int j, .int (-1)] ∧ (-(2 ^ 62) ≤ i ∧ i < 2 ^ 62 ∧ -(2 ^ 62) ≤ j ∧ j < 2 ^ 62) ∧ R (Itd1 i (i - j).toNat) H1
end
theorem tFor_rngD {ta : TA} {g : TG} {tb : TS} {D : Ends} {σ : St} {H : Hp} : tFor (iRngD ta) g tb D σ H = ta σ H fun vs H1 => ∃ i j : Int, vs = [.int i, .int j, .int (-1)] ∧ (-(2 ^ 62) ≤ i ∧ i < 2 ^ 62 ∧ -(2 ^ 62) ≤ j ∧ j < 2 ^ 62) ∧ FoR (Itd1 i (i - j).toNat) g tb D σ H1 := rfl
end L2


end
section
set_option Elab.async false
set_option linter.all false
set_option maxRecDepth 100000
set_option maxHeartbeats 1000000
namespace L2
open PySem PySem.Spec PyProof.Rows PySem.W
section
variable {X : Cx} {pins : List (Addr × Obj)} {σ : St} {H : Hp} {s : Shared} {A : Around} {E : Value → Shared → Prop}
end
section
variable {prog : Program} {w : World} {A : Around} {E : Value → Shared → Prop} {s : Shared} {T : String} {r d : Addr} {n : Nat} {P : Nat → Value → Prop} {OK : Heap → Prop}
end
end L2


end
section
set_option Elab.async false
set_option linter.all false
set_option maxRecDepth 100000
set_option maxHeartbeats 1000000
namespace L2
open PySem PySem.Spec PyProof.Rows PySem.W
section
variable {prog : Program} {w : World} {A : Around} {E : Value → Shared → Prop} {s : Shared}
end
/-- each once, in the order of their coming -/
def onceK {K : Type} [DecidableEq K] (ks : List K) : List K := ks.foldl (fun acc k => if k ∈ acc then acc else acc ++ [k]) []
section
variable {prog : Program} {w : World} {K : Type} [DecidableEq K] {knd : KeyKind prog w K} {A : Around} {E : Value → Shared → Prop} {s : Shared}
end
end L2


end
section
set_option Elab.async false
set_option linter.all false
set_option maxRecDepth 100000
set_option maxHeartbeats 1000000
namespace L2
open PySem PySem.Spec PyProof.Rows PySem.W
/-- set(e) as it is used by what takes it at once -/
def tSetK (K : PySem.W.Frag) (te : TE) (Q : List Key → Hp → Prop) : St → Hp → Prop := fun σ H => te σ H fun x H1 => ∃ l ks, x = .ref l ∧ SqL K H1 l (ks.map kV) ∧ ks.length < 4000 ∧ Q ks H1
section
variable {X : Cx} {e : Expr} {te : TE} {p pos p2 pos2 : Pos} {pins : List (Addr × Obj)} {σ : St} {H : Hp} {s : Shared}
def tLenSet (K : PySem.W.Frag) (te : TE) : TE := fun σ H Q => tSetK K te (fun ks H1 => Q (.int (onceK ks).length) H1) σ H
end
end L2


end
section
set_option Elab.async false
set_option linter.all false
set_option maxRecDepth 100000
set_option maxHeartbeats 1000000
namespace L2
open PySem PySem.Spec PyProof.Rows PySem.W
section
variable {X : Cx}
def rExtendE (K : PySem.W.Frag) : V → List V → Hp → VK → Prop := fun x vs H Q => ∃ l b xs zs, x = .ref l ∧ vs = [.ref b] ∧ H l = some (.lst xs) ∧ (SqL K H b zs ∨ SqT K H b zs) ∧ xs.length + zs.length ≤ sizeLine ∧ Q .non (upd H l (.lst (xs ++ zs)))
end
end L2


end
section
set_option Elab.async false
set_option linter.all false
set_option maxRecDepth 100000
set_option maxHeartbeats 1000000
namespace L2
open PySem PySem.Spec PyProof.Rows PySem.W
section
variable {X : Cx} {c : Expr} {a b : Stmt} {tc : TT} {ta tb : TS1} {pos : Pos}
end
end L2


end
section
set_option Elab.async false
set_option linter.all false
set_option maxRecDepth 100000
set_option maxHeartbeats 1000000
namespace L2
open PySem PySem.Spec PyProof.Rows
section
variable {X : Cx} {st b₀ : Stmt} {suite : List Stmt} {t1 : TS1} {ts : TS} {x n : Str} {D₀ CT : Addr} {np hpos pos : Pos} {i : Nat}
end
section
variable {X : Cx} {ea : Addr} {qs : List (Addr × Obj)}
end
end L2


end
section
set_option Elab.async false
set_option linter.all false
set_option maxRecDepth 100000
set_option maxHeartbeats 1000000
namespace PySem.W
open PySem
def clI (K : Frag) (C f : Addr) : Bool := (match findCls K (.ref C) (.type "type") "__init__" with | some (.val v) => v == .ref f | _ => false) && (specialIn K (.ref C) "__getattribute__" == some (some (.builtin "type.__getattribute__")) && readsIn K C (.type "type"))
end PySem.W
namespace L2
open PySem PySem.Spec PyProof.Rows
structure ClI (K : PySem.W.Frag) (C f : Addr) : Prop where
  sp : PySem.W.specialIn K (.ref C) "__getattribute__" = some (some (.builtin "type.__getattribute__"))
  rd : PySem.W.readsIn K C (.type "type") = true
  ini : PySem.W.findCls K (.ref C) (.type "type") "__init__" = some (.val (.ref f))
theorem ClI.of {K : PySem.W.Frag} {C f : Addr} (h : PySem.W.clI K C f = true) : ClI K C f := by
  unfold PySem.W.clI at h
  rw [Bool.and_eq_true, Bool.and_eq_true] at h
  obtain ⟨a, b, c⟩ := h
  refine ⟨beq_iff_eq.mp b, c, ?_⟩
  split at a
  · rename_i v e
    rw [e, beq_iff_eq.mp a]
  · exact (Bool.false_ne_true a).elim
/-- a class whose __init__ is called by those below it -/
def BaI (P : Program) (w : World) (K : PySem.W.Frag) (mg : Str → Option Value) (base : Heap) (k : Nat) (x : Str) (sp : Sp) : Prop :=
  ∃ C f fd ps, mg x = some (.ref C) ∧ ClI K C f ∧ PySem.W.keepIn K (.ref f) = true ∧ FnOk P w K mg base CX0 k f fd ps sp ∧ Binds K fd ps []
section
variable {X : Cx} {x : Str} {sp : Sp} {e : Expr} {es : List Expr} {t : TA} {p pos apos : Pos} {pl : Sem Bool} {j k : Nat}
theorem pe_bainit (G : BaI X.prog X.w X.K X.mg X.base j x sp) (hr : Room k X.A) (hj : j ≤ k) (hg : Gl X x) (ha : PA X (e :: es) t) (hdb : (x == ("__debug__" : Str)) = false := by decide)
    (he : starEach (e :: es) X.env = (false, eval e X.env) :: starEach es X.env := by rfl) (hpl : (backTo pos (starEach es X.env)).any (·.1) = false := by rfl)
    (ht : eval (.Call (.Attribute (.Name x p) "__init__" apos) (e :: es) [] pos) X.env = (do
      let ov ← eval (.Name x p) X.env
      standAt apos.atName
      let (f, first) ← holding [ov] (getMethod ov "__init__" pl)
      callWith pos f first (backTo pos (starEach (e :: es) X.env)) (backToKw pos (keywordEach [] X.env))) := by rfl) :
    PE X (.Call (.Attribute (.Name x p) "__init__" apos) (e :: es) [] pos) (tCall sp [] E0 t) := by
  obtain ⟨C, f, fd, ps, hm, T, kp, F, b⟩ := G
  intro pins s σ H Q I h
  refine PySem.W.methodCall_KW (pl := pl) (ld_glob I hg hm ?_ hdb) ht
  refine PySem.W.method_cls I.kIn T.sp (PySem.W.cls_value I.kIn T.rd T.ini rfl ?_)
  refine PySem.W.callWith_K (first := []) (h₀ := X.base) I.ok.mod.kin kp (thn (ha pos pins _ σ H _ (I.tok _) h) fun us s1 ⟨vs, H1, I1, r, q⟩ => ⟨I1.kIn, ?_⟩) he hpl
  rw [List.nil_append]
  exact run_fn F (hr.mono hj) b .nil pass0 I1 r q
end
end L2


end
section
set_option Elab.async false
set_option linter.all false
set_option maxRecDepth 100000
set_option maxHeartbeats 1000000
namespace L2
open PySem PySem.Spec PyProof.Rows
noncomputable instance : DecidableEq Dt := fun a b => Classical.propDecidable (a = b)
/-- a flat value that may stand in a key -/
def hV : V → Bool
  | .int _ => true
  | .str _ => true
  | .non => true
  | _ => false
mutual
def hD : Dt → Bool
  | .v x => hV x
  | .t xs => hDs xs
  | .l _ => false
def hDs : List Dt → Bool
  | [] => true
  | x :: xs => hD x && hDs xs
end
theorem hDs_mem : ∀ {xs : List Dt}, hDs xs = true → ∀ x ∈ xs, hD x = true
  | [], _, x, h => nomatch h
  | y :: ys, h, x, hx => by
    unfold hDs at h
    rw [Bool.and_eq_true] at h
    rcases List.mem_cons.mp hx with e | hx
    · rw [e]; exact h.1
    · exact hDs_mem h.2 x hx
theorem hDs_of : ∀ {xs : List Dt}, (∀ x ∈ xs, hD x = true) → hDs xs = true
  | [], _ => by unfold hDs; rfl
  | y :: ys, h => by
    unfold hDs
    rw [h y List.mem_cons_self, hDs_of fun x hx => h x (List.mem_cons_of_mem _ hx)]; rfl
mutual
def haD (w : World) : Dt → Int
  | .v (.int i) => hashInt i
  | .v (.str x) => hashStr w x
  | .v _ => reduceHash 0xFCA86420
  | .t xs => reduceHash (Builtin.Tuple.tupleHashOf (haDs w xs))
  | .l _ => 0
def haDs (w : World) : List Dt → List Int
  | [] => []
  | x :: xs => haD w x :: haDs w xs
end
mutual
def drD : Dt → Nat
  | .v _ => 1
  | .t xs => drDs xs + 1
  | .l _ => 0
def drDs : List Dt → Nat
  | [] => 0
  | x :: xs => drD x + drDs xs
end
theorem haDs_snoc (w : World) (y : Dt) : ∀ xs, haDs w (xs ++ [y]) = haDs w xs ++ [haD w y]
  | [] => by simp [haDs]
  | x :: xs => by rw [List.cons_append]; unfold haDs; rw [haDs_snoc w y xs]; rfl
theorem drDs_snoc (y : Dt) : ∀ xs, drDs (xs ++ [y]) = drDs xs + drD y
  | [] => by simp [drDs]
  | x :: xs => by
    rw [List.cons_append]
    have h1 : drDs (x :: (xs ++ [y])) = drD x + drDs (xs ++ [y]) := by rw [drDs]
    have h2 : drDs (x :: xs) = drD x + drDs xs := by rw [drDs]
    rw [h1, h2, drDs_snoc y xs]; omega
/-- the value u is the data d, of at most n storeys -/
def HasD (h : Heap) : Nat → Dt → Value → Prop
  | 0, .v x, u => hV x = true ∧ RelV x u
  | 0, .t _, _ => False
  | 0, .l _, _ => False
  | _ + 1, .v x, u => hV x = true ∧ RelV x u
  | n + 1, .t ds, u => ∃ (a : Addr) (its : List Value), u = .ref a ∧ IsTup h a its.toArray ∧ Paired (fun d v => HasD h n d v) ds its
  | _ + 1, .l _, _ => False
theorem HasD.flat {h : Heap} {n : Nat} {x : V} {u : Value} : HasD h n (.v x) u → hV x = true ∧ RelV x u := by
  cases n <;> exact id
theorem HasD.tup {h : Heap} {n : Nat} {ds : List Dt} {u : Value} (q : HasD h n (.t ds) u) : ∃ m a its, n = m + 1 ∧ u = .ref a ∧ IsTup h a (List.toArray its) ∧ Paired (fun d v => HasD h m d v) ds its := by
  cases n with
  | zero => exact q.elim
  | succ m => obtain ⟨a, its, e, p, r⟩ := q; exact ⟨m, a, its, rfl, e, p, r⟩
theorem relV_inj {x y : V} {u : Value} (hx : hV x = true) (hy : hV y = true) (r : RelV x u) (q : RelV y u) : x = y := by
  cases x <;> first | exact (Bool.false_ne_true hx).elim | skip
  all_goals (cases y <;> first | exact (Bool.false_ne_true hy).elim | skip)
  all_goals simp only [RelV] at r q
  all_goals first
    | rfl
    | (obtain ⟨t, rfl⟩ := r; obtain ⟨t', e⟩ := q; cases e; rfl)
    | (obtain ⟨t, rfl⟩ := r; obtain ⟨t', e⟩ := q; cases e)
    | (obtain ⟨t, rfl⟩ := r; cases q)
    | (subst r; obtain ⟨t', e⟩ := q; cases e)
theorem relV_ref {x : V} {a : Addr} (hx : hV x = true) (r : RelV x (.ref a)) : False := by
  cases x <;> first | exact (Bool.false_ne_true hx).elim | skip
  · cases (show Value.ref a = Value.none from r)
  · obtain ⟨t, e⟩ := r; cases e
  · obtain ⟨t, e⟩ := r; cases e
theorem isTup_inj {h : Heap} {a : Addr} {xs ys : List Value} (p : IsTup h a xs.toArray) (q : IsTup h a ys.toArray) : xs = ys := by
  obtain ⟨o, ho, _, n, hd⟩ := p
  obtain ⟨o', ho', _, n', hd'⟩ := q
  rw [ho] at ho'; cases ho'
  rw [hd] at hd'
  injection hd' with e _
  injection e
theorem paired_det {α β : Type} {F G : α → β → Prop} (det : ∀ a b u, F a u → G b u → a = b) : ∀ {xs ys : List α} {us : List β}, Paired F xs us → Paired G ys us → xs = ys
  | _, _, _, .nil, .nil => rfl
  | _, _, _, .cons r t, .cons r' t' => by rw [det _ _ _ r r', paired_det det t t']
theorem HasD.inj {h : Heap} : ∀ (n m : Nat) (x y : Dt) (u : Value), HasD h n x u → HasD h m y u → x = y := by
  intro n
  induction n with
  | zero =>
    intro m x y u p q
    cases x with
    | v x =>
      cases y with
      | v y => obtain ⟨a, b⟩ := p; obtain ⟨c, d⟩ := q.flat; rw [relV_inj a c b d]
      | t ds => obtain ⟨m, a, its, _, rfl, _⟩ := q.tup; exact (relV_ref p.1 p.2).elim
      | l _ => cases m <;> exact q.elim
    | t _ => exact p.elim
    | l _ => exact p.elim
  | succ n ih =>
    intro m x y u p q
    cases x with
    | v x =>
      cases y with
      | v y => obtain ⟨a, b⟩ := p; obtain ⟨c, d⟩ := q.flat; rw [relV_inj a c b d]
      | t ds => obtain ⟨m, a, its, _, rfl, _⟩ := q.tup; exact (relV_ref p.1 p.2).elim
      | l _ => cases m <;> exact q.elim
    | t ds =>
      obtain ⟨a, its, rfl, p1, r⟩ := p
      cases y with
      | v y => obtain ⟨c, d⟩ := q.flat; exact (relV_ref c d).elim
      | t es =>
        obtain ⟨m', a', its', _, e, p2, r2⟩ := q.tup
        cases e
        have := isTup_inj p1 p2
        subst this
        rw [paired_det (fun a b u h1 h2 => ih m' a b u h1 h2) r r2]
      | l _ => cases m <;> exact q.elim
    | l _ => exact p.elim
theorem HasD.keeps {h h' : Heap} {e : Addr} {o : Obj} {es ep} (ho : h.get? e = some o) (hd : o.data = .dict es ep) (hs : Heap.SameBut e h h') : ∀ (n : Nat) (d : Dt) (u : Value), HasD h n d u → HasD h' n d u := by
  intro n
  induction n with
  | zero => intro d u q; cases d <;> exact q
  | succ n ih =>
    intro d u q
    cases d with
    | v x => exact q
    | l x => exact q
    | t ds =>
      obtain ⟨a, its, rfl, ⟨o', ho', hc, m, hd'⟩, r⟩ := q
      have hne : a ≠ e := by
        intro z; subst z
        rw [ho] at ho'; cases ho'
        rw [hd] at hd'; exact nomatch hd'
      exact ⟨a, its, rfl, ⟨o', (hs.2 a hne).trans ho', hc, m, hd'⟩, Paired.mapP r fun d v z => ih d v z⟩
section
variable {prog : Program} {w : World} {E : Value → Shared → Prop}
theorem hash_V {A : Around} {s : Shared} {x : V} {u : Value} {Q : Int → Shared → Prop} (f : hV x = true) (r : RelV x u) (h : Q (haD w (.v x)) { s with toks := s.toks + drD (.v x) }) : wpAny (model prog w) A (pyHash u) Q E s := by
  have e1 : drD (.v x) = 1 := by rw [drD]
  rw [e1] at h
  cases x <;> first | exact (Bool.false_ne_true f).elim | skip
  · cases (show u = Value.none from r)
    rw [haD] at h
    exact PySem.W.pyHash_slot (T := "NoneType") rfl F.slot_NoneType_hash F.entry_NoneType_hash (F.args_NoneType_hash_1 _) (beq_builtin_none _) (.inl rfl) (wpAny_bind (wpAny_pure (wpAny_bind (wpAny_mkInt (wpAny_pure ⟨_, _, rfl, h⟩)))))
    all_goals (intros; rename_i z; cases z)
  · obtain ⟨t, rfl⟩ := r
    rw [haD] at h
    exact wpAny_pyHash_int h
  · obtain ⟨t, rfl⟩ := r
    rw [haD] at h
    exact wpAny_pyHash_str h
theorem hash_D : ∀ (n : Nat) {A : Around} {s : Shared} {d : Dt} {u : Value} {Q : Int → Shared → Prop}, A.units + n < cLine → HasD s.heap n d u → Q (haD w d) { s with toks := s.toks + drD d } → wpAny (model prog w) A (pyHash u) Q E s := by
  intro n
  induction n with
  | zero =>
    intro A s d u Q hu x h
    cases d with
    | v x' => exact hash_V x.1 x.2 h
    | t _ => exact x.elim
    | l _ => exact x.elim
  | succ n ih =>
    intro A s d u Q hu x h
    cases d with
    | v x' => exact hash_V x.1 x.2 h
    | l _ => exact x.elim
    | t ds =>
      obtain ⟨a, its, rfl, ⟨o, ho, hc, m, hd⟩, r⟩ := x
      refine PySem.W.pyHash_slot (T := "tuple") ⟨o, ho, hc⟩ F.slot_tuple_hash F.entry_tuple_hash (F.args_tuple_hash_1 _) (beq_builtin_none _) (.inr (by omega)) ?_
      show wpAny _ _ (Builtin.Tuple.tupleItemsOf (.ref a) >>= _) _ _ s
      refine wpAny_bind (wpAny_tupleItemsOf ho hd ?_)
      refine wpAny_bind ?_
      rw [← Array.forIn_toList]
      refine wpAny_forIn_list _
        (fun rest (b : Array Int) s' => ∃ done left, ds = done ++ left ∧ Paired (fun d v => HasD s.heap n d v) left rest ∧ b.toList = haDs w done ∧ s' = { s with toks := s.toks + drDs done })
        _ ?_ ?_ _ _ ⟨[], ds, rfl, by simpa using r, by simp [haDs], by simp [drDs]⟩
      · rintro x rest b s' ⟨done, left, rfl, hl, hb, rfl⟩
        cases hl with
        | @cons k _ ks' _ h1 hl' =>
          refine wpAny_bind (ih (s := { s with toks := s.toks + drDs done }) (by show A.units + 1 + n < _; omega) h1 ?_)
          first
            | exact wpAny_pure ⟨done ++ [k], ks', by simp, hl', by simp [hb, haDs_snoc], by simp [drDs_snoc, Nat.add_assoc]⟩
            | exact wpAny_bind (wpAny_pure (wpAny_pure ⟨done ++ [k], ks', by simp, hl', by simp [hb, haDs_snoc], by simp [drDs_snoc, Nat.add_assoc]⟩))
      · rintro b s' ⟨done, left, rfl, hl, hb, rfl⟩
        cases hl
        rw [List.append_nil] at h
        show wpAny _ _ (retInt (Builtin.Tuple.tupleHashOf b.toList)) _ _ _
        rw [hb]
        refine wpAny_bind (wpAny_mkInt (wpAny_pure ⟨_, _, rfl, ?_⟩))
        have e1 : haD w (.t done) = reduceHash (Builtin.Tuple.tupleHashOf (haDs w done)) := by rw [haD]
        have e2 : drD (.t done) = drDs done + 1 := by rw [drD]
        rw [e1, e2] at h
        exact h
end
theorem eqV_hV {x y : V} (hx : hV x = true) (hy : hV y = true) : eqV x y = decide (Dt.v x = Dt.v y) := by
  have : eqV x y = decide (x = y) := by
    cases x <;> first | exact (Bool.false_ne_true hx).elim | skip
    all_goals (cases y <;> first | exact (Bool.false_ne_true hy).elim | skip)
    all_goals first | (simp [eqV]; done) | (rw [eqV, Bool.eq_iff_iff, beq_iff_eq, decide_eq_true_iff]; exact ⟨fun e => by rw [e], fun e => by injection e⟩)
  rw [this, Bool.eq_iff_iff, decide_eq_true_iff, decide_eq_true_iff]
  exact ⟨fun e => by rw [e], fun e => by injection e⟩
theorem flat_hV {x : V} (h : hV x = true) : flatV x = true := by
  cases x <;> first | rfl | exact (Bool.false_ne_true h).elim
theorem lists_eq {ds es : List Dt} {e : Nat → Bool} (he : ∀ i, i < ds.length → i < es.length → e i = decide (ds.getD i default = es.getD i default)) : ((List.range (min ds.length es.length)).all e && (ds.length == es.length)) = decide (Dt.t ds = Dt.t es) := by
  rw [Bool.eq_iff_iff, decide_eq_true_iff, Bool.and_eq_true, beq_iff_eq, List.all_eq_true]
  constructor
  · rintro ⟨h1, h2⟩
    congr 1
    refine List.ext_getElem h2 fun i a b => ?_
    have := h1 i (List.mem_range.mpr (by omega))
    rw [he i a b, decide_eq_true_iff] at this
    rw [getD_of (List.getElem?_eq_getElem a), getD_of (List.getElem?_eq_getElem b)] at this
    exact this
  · intro h
    injection h with h
    subst h
    refine ⟨fun i hi => ?_, rfl⟩
    have := List.mem_range.mp hi
    rw [he i (by omega) (by omega), decide_eq_true_iff]
theorem paired_get {α β : Type} {F : α → β → Prop} : ∀ {xs : List α} {us : List β} {i : Nat} {x : α} {u : β}, Paired F xs us → xs[i]? = some x → us[i]? = some u → F x u
  | _, _, _, _, _, .nil, h, _ => by simp at h
  | _, _, 0, _, _, .cons r _, h, h' => by simp at h h'; rw [← h, ← h']; exact r
  | _, _, i + 1, _, _, .cons _ t, h, h' => paired_get (i := i) t (by simpa using h) (by simpa using h')
theorem eq_D : ∀ (n : Nat) {A : Around} {s : Shared} {d d' : Dt} {u v : Value}, A.units + n < cLine → HasD s.heap n d u → HasD s.heap n d' v → SeqAt.EqAt A s u v (decide (d = d')) := by
  intro n
  have flat : ∀ {A : Around} {s : Shared} {x y : V} {u v : Value}, hV x = true → RelV x u → hV y = true → RelV y v → SeqAt.EqAt A s u v (decide (Dt.v x = Dt.v y)) := fun f r f' r' => by
    rw [← eqV_hV f f']; exact eqAt_V r r' (flat_hV f) (flat_hV f')
  induction n with
  | zero =>
    intro A s d d' u v hu p q
    cases d with
    | v x =>
      cases d' with
      | v y => exact flat p.1 p.2 q.1 q.2
      | t _ => exact q.elim
      | l _ => exact q.elim
    | t _ => exact p.elim
    | l _ => exact p.elim
  | succ n ih =>
    intro A s d d' u v hu p q
    have hu0 : A.units < cLine := by omega
    cases d with
    | l _ => exact p.elim
    | v x =>
      cases d' with
      | l _ => exact q.elim
      | v y => exact flat p.1 p.2 q.1 q.2
      | t es =>
        obtain ⟨b, its', rfl, p2, r2⟩ := q
        obtain ⟨f, r⟩ := p
        rw [show decide (Dt.v x = Dt.t es) = false from decide_eq_false (fun z => nomatch z)]
        cases x <;> first | exact (Bool.false_ne_true f).elim | skip
        · cases (show u = Value.none from r); exact .none_tuple p2 hu0
        · obtain ⟨t, rfl⟩ := r; exact .int_tuple _ _ p2 hu0
        · obtain ⟨t, rfl⟩ := r; exact .str_tuple _ _ p2 hu0
    | t ds =>
      obtain ⟨a, its, rfl, p1, r1⟩ := id p
      cases d' with
      | l _ => exact q.elim
      | v y =>
        obtain ⟨f, r⟩ := q
        rw [show decide (Dt.t ds = Dt.v y) = false from decide_eq_false (fun z => nomatch z)]
        cases y <;> first | exact (Bool.false_ne_true f).elim | skip
        · cases (show v = Value.none from r); exact .tuple_none p1 hu0
        · obtain ⟨t, rfl⟩ := r; exact .tuple_int _ _ p1 hu0
        · obtain ⟨t, rfl⟩ := r; exact .tuple_str _ _ p1 hu0
      | t es =>
        obtain ⟨b, its', rfl, p2, r2⟩ := id q
        by_cases ab : a = b
        · subst ab
          rw [show decide (Dt.t ds = Dt.t es) = true from decide_eq_true (HasD.inj _ _ _ _ _ p q)]
          exact .same _
        · have l1 := Paired.length r1
          have l2 := Paired.length r2
          have z := SeqAt.RcAt.tuples (A := A) (e := fun i => decide (ds.getD i default = es.getD i default)) p1 p2 hu0 fun j h1 h2 => by
            have j1 : j < its.length := by simpa using h1
            have j2 : j < its'.length := by simpa using h2
            have g1 : ds[j]? = some (ds[j]'(by omega)) := List.getElem?_eq_getElem _
            have g2 : es[j]? = some (es[j]'(by omega)) := List.getElem?_eq_getElem _
            have w1 := paired_get r1 g1 (List.getElem?_eq_getElem j1)
            have w2 := paired_get r2 g2 (List.getElem?_eq_getElem j2)
            rw [getD_of g1, getD_of g2]
            exact ih (A := A.in1) (by show A.units + 1 + n < _; omega) w1 w2
          rw [List.size_toArray, List.size_toArray, ← l1, ← l2, lists_eq fun i _ _ => rfl] at z
          exact .of_refs ab z
section
variable {prog : Program} {w : World} {E : Value → Shared → Prop}
theorem quiet_V {A : Around} {s : Shared} {x : V} {u : Value} {m : Nat} {Q : Bool → Shared → Prop} (f : hV x = true) (r : RelV x u) (h : Q true s) : wpAny (model prog w) A (eqIsQuiet m u) Q E s := by
  have : carriedByValue u = true := by
    cases x <;> first | exact (Bool.false_ne_true f).elim | skip
    · cases (show u = Value.none from r); rfl
    · obtain ⟨t, rfl⟩ := r; rfl
    · obtain ⟨t, rfl⟩ := r; rfl
  rw [eqIsQuiet_byValue _ this]
  exact wpAny_pure h
theorem quiet_D : ∀ (n m : Nat) {A : Around} {s : Shared} {d : Dt} {u : Value} {Q : Bool → Shared → Prop}, n ≤ m → HasD s.heap n d u → Q true s → wpAny (model prog w) A (eqIsQuiet m u) Q E s := by
  intro n
  induction n with
  | zero =>
    intro m A s d u Q _ p h
    cases d with
    | v x => exact quiet_V p.1 p.2 h
    | t _ => exact p.elim
    | l _ => exact p.elim
  | succ n ih =>
    intro m A s d u Q hm p h
    cases d with
    | v x => exact quiet_V p.1 p.2 h
    | l _ => exact p.elim
    | t ds =>
      obtain ⟨k, rfl⟩ : ∃ k, m = k + 1 := ⟨m - 1, by omega⟩
      obtain ⟨a, its, rfl, ⟨o, ho, hc, j, hd⟩, r⟩ := p
      have hT : s.TypeIs (.ref a) "tuple" := ⟨o, ho, hc⟩
      unfold eqIsQuiet
      refine wpAny_bind (wpAny_specialOf hT F.slot_tuple_eq.lookup ?_)
      show wpAny _ _ (isInstance (.ref a) (.type "tuple") >>= _) _ _ s
      refine wpAny_bind (wpAny_isInstance hT isSubtype_tuple_tuple ?_)
      simp only [Bool.not_true, Bool.false_eq_true, if_false]
      refine wpAny_bind (wpAny_seqItems ho hd ?_)
      refine wpAny_bind ?_
      show wpAny _ _ (forIn its.toArray _ _) _ _ s
      rw [← Array.forIn_toList]
      refine wpAny_forIn_list _ (fun rest r s' => r.1 = none ∧ s' = s ∧ ∃ left, Paired (fun d v => HasD s.heap n d v) left rest) _ ?_ ?_ _ _ ⟨rfl, rfl, ds, by simpa using r⟩
      · rintro v rest r s' ⟨hr, rfl, left, hl⟩
        cases hl with
        | cons h1 hl' =>
          refine wpAny_bind (ih k (by omega) h1 ?_)
          simp only [Bool.not_true, Bool.false_eq_true, if_false]
          exact wpAny_pure ⟨rfl, rfl, _, hl'⟩
      · rintro ⟨r1, r2⟩ s' ⟨hr, rfl, _⟩
        simp only at hr
        subst hr
        exact wpAny_pure h
end
noncomputable def nestKind (prog : Program) (w : World) : HeapKind prog w Dt where
  is := fun h d a => HasD h 8 d (.ref a)
  hash := haD w
  draws := drD
  room := fun A => A.units + 8 < cLine
  inj := fun p q => HasD.inj _ _ _ _ _ p q
  keeps := fun p ho hd hs => HasD.keeps ho hd hs _ _ _ p
  pyHash := fun hu p h => hash_D 8 hu p h
  eqBool := fun hu p q h => eq_D 8 hu p q _ _ _ _ h
  quiet := fun p h => quiet_D 8 8 (Nat.le_refl _) p h
end L2


end
section
set_option Elab.async false
set_option linter.all false
set_option maxRecDepth 100000
set_option maxHeartbeats 1000000
namespace PySem
section
variable {prog : Program} {w : World} {K : Type} [DecidableEq K] {knd : HeapKind prog w K} {A : Around} {E : Value → Shared → Prop} {s : Shared}
end
end PySem
namespace L2
open PySem PySem.Spec PyProof.Rows
abbrev NX := List (Dt × Addr × V)
def NKV : NX → List (Dt × Addr × Value) → Prop := Paired fun p q => p.1 = q.1 ∧ p.2.1 = q.2.1 ∧ RelV p.2.2 q.2.2
def isN (P : Program) (w : World) (a : Addr) (xs : NX) (h : Heap) : Prop := xs.length ≤ sizeLine ∧ (a == sysModules) = false ∧ ∃ ys, NKV xs ys ∧ ∃ o es ep, h.get? a = some o ∧ o.ExactDict ∧ o.data = .dict es ep ∧ es.toList = ys.map (entryOfKey (nestKind P w)) ∧ (ys.map (·.1)).Nodup
/-- the dict at a, its keys tuples -/
def dN (P : Program) (w : World) (a : Addr) (xs : NX) : HO := .ext (isN P w a xs)
structure DnAt (P : Program) (w : World) (K : PySem.W.Frag) (H : Hp) (a : Addr) (xs : NX) : Prop where
  at_ : H a = some (dN P w a xs)
  keys : ∀ x ∈ xs, Rep K H 8 x.1 (.ref x.2.1) ∧ hD x.1 = true
noncomputable def valN (xs : NX) (d : Dt) : Option V := (xs.find? fun x => decide (x.1 = d)).map (·.2.2)
theorem paired_of {α β : Type} {F : α → β → Prop} : ∀ {xs : List α} {us : List β}, xs.length = us.length → (∀ (i : Nat) x u, xs[i]? = some x → us[i]? = some u → F x u) → Paired F xs us
  | [], [], _, _ => .nil
  | [], _ :: _, h, _ => by simp at h
  | _ :: _, [], h, _ => by simp at h
  | x :: xs, u :: us, h, f => .cons (f 0 _ _ rfl rfl) (paired_of (by simpa using h) fun i a b ha hb => f (i + 1) a b (by simpa using ha) (by simpa using hb))
theorem isN_stay {P : Program} {w : World} {a : Addr} {xs : NX} (h1 h2 : Heap) (p : isN P w a xs h1) (k : ∀ o, h1.get? a = some o → h2.get? a = some o) : isN P w a xs h2 := by
  obtain ⟨z, y, ys, r, o, es, ep, e, c⟩ := p
  exact ⟨z, y, ys, r, o, es, ep, k o e, c⟩
section
variable {X : Cx} {pins : List (Addr × Obj)} {σ : St} {H : Hp} {s : Shared} {a b : Addr} {xs : NX} {d : Dt}
theorem Rep.has (I : Inv X pins σ H s) {n : Nat} {x : V} (r : Rep X.K H n d x) : ∀ {u : Value}, hD d = true → RelV x u → HasD s.heap n d u := by
  induction r with
  | @v n x f =>
    intro u h r
    rw [hD] at h
    cases n <;> exact ⟨h, r⟩
  | t h e r1 ih =>
    intro u hh r
    cases (show u = Value.ref _ from r)
    rw [hD] at hh
    obtain ⟨its, w1, p, _⟩ := I.tuple h
    have l1 := w1.length
    refine ⟨_, its, rfl, p, paired_of (by omega) fun i d u hd hu => ?_⟩
    have hi := (List.getElem?_eq_some_iff.mp hu).1
    obtain ⟨u', e', r'⟩ := w1.get (i := i) (List.getElem?_eq_getElem (by omega))
    rw [hu] at e'; cases e'
    exact ih i d _ hd (List.getElem?_eq_getElem (by omega)) (hDs_mem hh d (List.mem_of_getElem? hd)) r'
  | l h e _ _ =>
    intro u hh _
    rw [hD] at hh; exact (Bool.false_ne_true hh).elim
theorem DnAt.dict (I : Inv X pins σ H s) (g : DnAt X.prog X.w X.K H a xs) : xs.length ≤ sizeLine ∧ (a == sysModules) = false ∧ ∃ ys, NKV xs ys ∧ s.heap.DictOfH (nestKind X.prog X.w) a ys := by
  obtain ⟨⟨z, y, ys, r, o, es, ep, h1, h2, h3, h4, h5⟩, _, _⟩ := (show ObjOk X.prog X.w H s.heap a (dN X.prog X.w a xs) from I.hok a _ g.at_)
  refine ⟨z, y, ys, r, o, es, ep, h1, h2, h3, h4, fun q hq => ?_, h5⟩
  obtain ⟨i, hi⟩ := List.mem_iff_getElem?.mp hq
  have l := Paired.length r
  have hp : xs[i]? = some (xs[i]'(by have := (List.getElem?_eq_some_iff.mp hi).1; omega)) := List.getElem?_eq_getElem _
  have z := paired_get r hp hi
  rw [← z.1, ← z.2.1]
  have k := g.keys _ (List.mem_of_getElem? hp)
  exact k.1.has I k.2 rfl
theorem NKV.val {xs : NX} {ys : List (Dt × Addr × Value)} (r : NKV xs ys) (d : Dt) : RelO (valN xs d) ((atKey ys d).map (·.2)) := by
  induction r with
  | nil => exact True.intro
  | @cons p q ps qs hq t ih =>
    unfold valN atKey
    rw [List.find?_cons, List.find?_cons, ← hq.1]
    by_cases e : p.1 = d
    · rw [decide_eq_true e]; exact hq.2.2
    · rw [decide_eq_false e]; exact ih
theorem NKV.none {xs : NX} {ys : List (Dt × Addr × Value)} (r : NKV xs ys) {d : Dt} (h : valN xs d = none) : atKey ys d = none := by
  have := r.val d
  rw [h] at this
  cases e : atKey ys d with
  | none => rfl
  | some p => rw [e] at this; exact this.elim
theorem NKV.some {xs : NX} {ys : List (Dt × Addr × Value)} (r : NKV xs ys) {d : Dt} : (valN xs d).isSome = (atKey ys d).isSome := by
  have := (r.val d).isSome_eq
  rw [Option.isSome_map] at this
  exact this
variable {A : Around} {E : Value → Shared → Prop}
theorem n_in {Q : Value → Shared → Prop} (hu : A.units + 9 < cLine) (I : Inv X pins σ H s) (g : DnAt X.prog X.w X.K H a xs) (r : Rep X.K H 8 d (.ref b)) (hd : hD d = true) (h : ∀ s', Inv X pins σ H s' → Q (.bool (valN xs d).isSome) s') :
    wpAny (model X.prog X.w) A (compareOp .In (.ref b) (.ref a)) Q E s := by
  obtain ⟨z, y, ys, rel, dd⟩ := g.dict I
  refine wpAny_in_heap (knd := nestKind X.prog X.w) (show A.units + 1 + 8 < cLine by omega) (r.has I hd rfl) y dd ?_
  rw [← rel.some]; exact h _ (I.tok _)
theorem n_get {v : V} {Q : Value → Shared → Prop} (hu : A.units + 9 < cLine) (I : Inv X pins σ H s) (g : DnAt X.prog X.w X.K H a xs) (r : Rep X.K H 8 d (.ref b)) (hd : hD d = true) (l : valN xs d = some v) (h : ∀ w' s', Inv X pins σ H s' → RelV v w' → Q w' s') :
    wpAny (model X.prog X.w) A (getItem (.ref a) (.ref b)) Q E s := by
  obtain ⟨z, y, ys, rel, dd⟩ := g.dict I
  obtain ⟨w', hw, rw'⟩ := RelO.some_of (v := v) (o := (atKey ys d).map (·.2)) (by rw [← l]; exact rel.val d)
  obtain ⟨p, hp, hp2⟩ := Option.map_eq_some_iff.mp hw
  refine wpAny_getItem_heap (knd := nestKind X.prog X.w) (show A.units + 1 + 8 < cLine by omega) (r.has I hd rfl) dd hp ?_
  rw [hp2]
  exact h w' _ (I.tok _) rw'
theorem n_put {v : V} {u : Value} {Q : Unit → Shared → Prop} (hu : A.units + 9 < cLine) (I : Inv X pins σ H s) (g : DnAt X.prog X.w X.K H a xs) (r : Rep X.K H 8 d (.ref b)) (hd : hD d = true) (l : valN xs d = none) (hl : xs.length < sizeLine) (rv : RelV v u)
    (h : ∀ s', Inv X pins σ (upd H a (dN X.prog X.w a (xs ++ [(d, b, v)]))) s' → Q () s') : wpAny (model X.prog X.w) A (setItem (.ref a) (.ref b) u) Q E s := by
  obtain ⟨z, y, ys, rel, dd⟩ := g.dict I
  refine wpAny_setItem_heap (knd := nestKind X.prog X.w) (hsz := by rw [← Paired.length rel]; exact z) (show A.units + 1 + 8 < cLine by omega) (r.has I hd rfl) dd fun h' dd' hs => h _ ?_
  obtain ⟨q, es, ep, hq, h2, h3, h4, _, h5⟩ := dd'
  rw [storedH_new (rel.none l)] at h4 h5
  refine d_write I (by rw [g.at_]; exact True.intro) hs ⟨q, hq⟩ ⟨⟨by rw [List.length_append]; exact hl, y, _, Paired.snoc rel ⟨rfl, rfl, rv⟩, q, es, ep, hq, h2, h3, h4, h5⟩, ⟨q, hq⟩, isN_stay⟩
theorem DnAt.typeIs (I : Inv X pins σ H s) (g : DnAt X.prog X.w X.K H a xs) : s.TypeIs (.ref a) "dict" := let ⟨_, _, _, _, dd⟩ := g.dict I; dd.typeIs
end
def tNIn (P : Program) (w : World) (K : PySem.W.Frag) (ty td : TE) : TE := fun σ H Q => ty σ H fun y H1 => td σ H1 fun x H2 => ∃ a b xs d, x = .ref a ∧ y = .ref b ∧ DnAt P w K H2 a xs ∧ Rep K H2 8 d (.ref b) ∧ hD d = true ∧ Q (.bl (valN xs d).isSome) H2
def tNGet (P : Program) (w : World) (K : PySem.W.Frag) (td ty : TE) : TE := fun σ H Q => td σ H fun x H1 => ty σ H1 fun y H2 => ∃ a b xs d v, x = .ref a ∧ y = .ref b ∧ DnAt P w K H2 a xs ∧ Rep K H2 8 d (.ref b) ∧ hD d = true ∧ valN xs d = some v ∧ Q v H2
def sNPut (P : Program) (w : World) (K : PySem.W.Frag) (td ty tv : TE) : TS := fun D σ H => tv σ H fun v H1 => td σ H1 fun x H2 => ty σ H2 fun y H3 => ∃ a b xs d, x = .ref a ∧ y = .ref b ∧ DnAt P w K H3 a xs ∧ Rep K H3 8 d (.ref b) ∧ hD d = true ∧ valN xs d = none ∧ xs.length < sizeLine ∧ D.nx σ (upd H3 a (dN P w a (xs ++ [(d, b, v)])))
def tNPop (P : Program) (w : World) (K : PySem.W.Frag) (td ty : TE) : TE := fun σ H Q => td σ H fun x H1 => ∃ a xs0, x = .ref a ∧ DnAt P w K H1 a xs0 ∧ ty σ H1 fun y H2 => ∃ b xs d j c v, y = .ref b ∧ DnAt P w K H2 a xs ∧ Rep K H2 8 d (.ref b) ∧ hD d = true ∧ xs[j]? = some (d, c, v) ∧ Q v (upd H2 a (dN P w a (xs.eraseIdx j)))
def tNNew (P : Program) (w : World) : TE := fun _ H Q => ∀ p, H p = none → Q (.ref p) (upd H p (dN P w p []))
section
variable {X : Cx} {o i e value : Expr} {pos pos' apos cpos : Pos} {td ty tv : TE}
theorem pc_nin (hu : X.A.units + 9 < cLine) (hi : PE X i ty) (ho : PE X o td) : PC X .In i o (tNIn X.prog X.w X.K ty td) := by
  intro pins s σ H Q I h
  refine thn (hi pins s σ H _ I h) fun iv s1 ⟨y, H1, I1, ry, q1⟩ => thn (ho pins s1 σ H1 _ I1 q1) fun u s2 ⟨x, H2, I2, rx, a, b, xs, d, ex, ey, g, r, hd, q2⟩ => ?_
  subst ex ey
  obtain rfl : u = Value.ref a := rx
  obtain rfl : iv = Value.ref b := ry
  exact n_in hu I2 g r hd fun s3 I3 => ⟨.bl (valN xs d).isSome, H2, I3, rfl, q2⟩
theorem pe_nget (hu : X.A.units + 9 < cLine) (ho : PE X o td) (hi : PE X i ty) (hs : NoSl i) : PE X (.Subscript o i pos) (tNGet X.prog X.w X.K td ty) := by
  intro pins s σ H Q I h
  refine subD_of PySem.F.slot_dict_getitem.lookup hs (thn (ho pins s σ H _ I h) fun u s1 ⟨x, H1, I1, rx, q1⟩ => thn (hi pins s1 σ H1 _ I1 q1) fun iv s2 ⟨y, H2, I2, ry, a, b, xs, d, v, ex, ey, g, r, hd, l, q2⟩ => ?_)
  subst ex ey
  obtain rfl : u = Value.ref a := rx
  obtain rfl : iv = Value.ref b := ry
  exact ⟨g.typeIs I2, n_get hu I2 g r hd l fun w' s3 I3 rw' => ⟨v, H2, I3, rw', q2⟩⟩
theorem ps_nput (hu : X.A.units + 9 < cLine) (ho : PE X o td) (hi : PE X i ty) (hv : PE X value tv) (hs : swapsWith value (some (.Subscript o i pos')) pos.line X.env = pure false) :
    PS X (.Assign [.Subscript o i pos'] value pos) (sNPut X.prog X.w X.K td ty tv) := by
  intro pins s σ H D I h
  refine wpAny_Assign_Subscript (thn (hv pins s σ H _ I h) fun r s1 ⟨v, H1, I1, rv, q1⟩ => thn (ho pins s1 σ H1 _ I1 q1) fun u s2 ⟨x, H2, I2, rx, q2⟩ => thn (hi pins s2 σ H2 _ I2 q2) fun iv s3 ⟨y, H3, I3, ry, a, b, xs, d, ex, ey, g, rp, hd, l, hl, q3⟩ => ?_) hs
  subst ex ey
  obtain rfl : u = Value.ref a := rx
  obtain rfl : iv = Value.ref b := ry
  exact n_put hu I3 g rp hd l hl rv fun s4 I4 => ⟨σ, _, I4, q3⟩
theorem dn_empty {P : Program} {w : World} {H : Hp} (h : Heap) (hb : sysModules < h.objs.size) : ObjOk P w H (h.push { cls := .type "dict", data := .dict #[] }) h.objs.size (dN P w h.objs.size []) :=
  ⟨⟨Nat.zero_le _, beq_eq_false_iff_ne.mpr (Ne.symm (Nat.ne_of_lt hb)), [], .nil, _, #[], 0, Heap.get?_push_size _ rfl, ⟨rfl, rfl, rfl⟩, rfl, rfl, List.nodup_nil⟩, ⟨_, Heap.get?_push_size _ rfl⟩, isN_stay⟩
theorem pe_dnewN : PE X (.Dict [] [] pos) (tNNew X.prog X.w) := fun pins s σ H Q I h =>
  wpAny_Dict_empty ⟨.ref s.heap.objs.size, _, I.laid (a := s.heap.objs.size) (o := dN X.prog X.w s.heap.objs.size []) (t' := s.toks) (fun _ _ q => Heap.get?_push_of_some _ q) (Nat.le_refl _) (dn_empty s.heap I.big), rfl, h _ (I.hok.fresh (Nat.le_refl _))⟩
end
theorem Room.u9 {k : Nat} {A : Around} (r : Room k A) : A.units + 9 < cLine := by have := r.un; omega
theorem DnAt.nil {P : Program} {w : World} {K : PySem.W.Frag} {H : Hp} {a : Addr} (h : H a = some (dN P w a [])) : DnAt P w K H a [] := ⟨h, fun x hx => nomatch hx⟩
end L2


end
section
set_option Elab.async false
set_option linter.all false
set_option maxRecDepth 100000
set_option maxHeartbeats 1000000
namespace L2
open PySem PySem.Spec PyProof.Rows
/-- the value y is the data d, of at most n storeys, of tracked tuples alone -/
def TD (H : Hp) : Nat → Dt → V → Prop
  | 0, .v x, y => hV x = true ∧ y = x
  | 0, .t _, _ => False
  | 0, .l _, _ => False
  | _ + 1, .v x, y => hV x = true ∧ y = x
  | n + 1, .t ds, y => ∃ (a : Addr) (xs : List V), y = .ref a ∧ H a = some (.tup xs) ∧ Paired (fun d v => TD H n d v) ds xs
  | _ + 1, .l _, _ => False
section
variable {H H' : Hp} {K : PySem.W.Frag}
theorem TD.flat {n : Nat} {x y : V} : TD H n (.v x) y → hV x = true ∧ y = x := by cases n <;> exact id
theorem TD.ofV {n : Nat} {x : V} (f : hV x = true) : TD H n (.v x) x := by cases n <;> exact ⟨f, rfl⟩
theorem TD.tup {n : Nat} {ds : List Dt} {y : V} (q : TD H n (.t ds) y) : ∃ m a xs, n = m + 1 ∧ y = .ref a ∧ H a = some (.tup xs) ∧ Paired (fun d v => TD H m d v) ds xs := by
  cases n with
  | zero => exact q.elim
  | succ m => obtain ⟨a, xs, e, h, r⟩ := q; exact ⟨m, a, xs, rfl, e, h, r⟩
theorem TD.ofT {n : Nat} {a : Addr} {xs : List V} {ds : List Dt} (h : H a = some (.tup xs)) (r : Paired (fun d v => TD H n d v) ds xs) : TD H (n + 1) (.t ds) (.ref a) := ⟨a, xs, rfl, h, r⟩
theorem TD.sameT (s : SameT H H') : ∀ (n : Nat) {d : Dt} {y : V}, TD H n d y → TD H' n d y := by
  intro n
  induction n with
  | zero => intro d y q; cases d <;> exact q
  | succ n ih =>
    intro d y q
    cases d with
    | v x => exact q
    | l x => exact q
    | t ds => obtain ⟨a, xs, e, h, r⟩ := q; exact ⟨a, xs, e, s _ _ h, Paired.mapP r fun d v z => ih z⟩
theorem TD.same {n : Nat} {d : Dt} {y : V} (q : TD H n d y) (s : Same H H') : TD H' n d y := TD.sameT s.t n q
theorem TD.mono : ∀ (n : Nat) {m : Nat} {d : Dt} {y : V}, n ≤ m → TD H n d y → TD H m d y := by
  intro n
  induction n with
  | zero =>
    intro m d y _ q
    cases d with
    | v x => obtain ⟨f, e⟩ := q; subst e; exact TD.ofV f
    | t _ => exact q.elim
    | l _ => exact q.elim
  | succ n ih =>
    intro m d y hm q
    cases d with
    | v x => obtain ⟨f, e⟩ := q; subst e; exact TD.ofV f
    | l _ => exact q.elim
    | t ds =>
      obtain ⟨a, xs, e, h, r⟩ := q
      obtain ⟨k, rfl⟩ : ∃ k, m = k + 1 := ⟨m - 1, by omega⟩
      exact ⟨a, xs, e, h, Paired.mapP r fun d v z => ih (by omega) z⟩
theorem TD.rep : ∀ (n : Nat) {d : Dt} {y : V}, TD H n d y → Rep K H n d y := by
  intro n
  induction n with
  | zero =>
    intro d y q
    cases d with
    | v x => obtain ⟨f, e⟩ := q; subst e; exact .v (flat_hV f)
    | t _ => exact q.elim
    | l _ => exact q.elim
  | succ n ih =>
    intro d y q
    cases d with
    | v x => obtain ⟨f, e⟩ := q; subst e; exact .v (flat_hV f)
    | l _ => exact q.elim
    | t ds =>
      obtain ⟨a, xs, e, h, r⟩ := q
      subst e
      exact .t (SqT.of h) (Paired.length r) fun i d x h1 h2 => ih (paired_get r h1 h2)
theorem TD.h : ∀ (n : Nat) {d : Dt} {y : V}, TD H n d y → hD d = true := by
  intro n
  induction n with
  | zero =>
    intro d y q
    cases d with
    | v x => rw [hD]; exact q.1
    | t _ => exact q.elim
    | l _ => exact q.elim
  | succ n ih =>
    intro d y q
    cases d with
    | v x => rw [hD]; exact q.1
    | l _ => exact q.elim
    | t ds =>
      obtain ⟨a, xs, e, h, r⟩ := q
      rw [hD]
      refine hDs_of fun x hx => ?_
      obtain ⟨i, hi⟩ := List.mem_iff_getElem?.mp hx
      have l := Paired.length r
      have hl := (List.getElem?_eq_some_iff.mp hi).1
      exact ih (paired_get r hi (List.getElem?_eq_getElem (show i < xs.length by omega)))
theorem TD.pair {n : Nat} {a : Addr} {x y : V} {d e : Dt} (h : H a = some (.tup [x, y])) (hx : TD H n d x) (hy : TD H n e y) : TD H (n + 1) (.t [d, e]) (.ref a) := TD.ofT h (.cons hx (.cons hy .nil))
end
def SameX (S : List Addr) (H H' : Hp) : Prop := ∀ b o, b ∉ S → H b = some o → H' b = some o
section
variable {S : List Addr} {H H' H1 H2 : Hp}
theorem SameX.refl (S : List Addr) (H : Hp) : SameX S H H := fun _ _ _ e => e
theorem Same.x (s : Same H H') (S : List Addr) : SameX S H H' := fun b o _ e => s b o e
theorem SameX.trans (a : SameX S H H1) (b : SameX S H1 H2) : SameX S H H2 := fun c o n e => b c o n (a c o n e)
theorem SameX.upd {a : Addr} {o : HO} (s : SameX S H H') (h : a ∈ S) : SameX S H (L2.upd H' a o) := fun b u n e => by
  rw [upd_ne (fun z => n (by rw [z]; exact h))]; exact s b u n e
theorem SameX.mono {S' : List Addr} (s : SameX S H H') (h : ∀ a ∈ S, a ∈ S') : SameX S' H H' := fun b o n e => s b o (fun z => n (h b z)) e
end
end L2
namespace L2
open PySem PySem.Spec PyProof.Rows
section
variable {α β : Type} [DecidableEq β]
theorem find_key (g : α → β) : ∀ {xs : List α} {x : α}, (xs.map g).Nodup → x ∈ xs → xs.find? (fun y => decide (g y = g x)) = some x
  | [], _, _, h => nomatch h
  | y :: ys, x, nd, h => by
    rw [List.map_cons, List.nodup_cons] at nd
    rw [List.find?_cons]
    rcases List.mem_cons.mp h with e | h
    · subst e; rw [decide_eq_true rfl]
    · have : g y ≠ g x := fun e => nd.1 (by rw [e]; exact List.mem_map_of_mem h)
      rw [decide_eq_false this]
      exact find_key g nd.2 h
theorem find_no (g : α → β) {xs : List α} {b : β} (h : ∀ x ∈ xs, g x ≠ b) : xs.find? (fun y => decide (g y = b)) = none := by
  rw [List.find?_eq_none]
  intro x hx z
  exact h x hx (of_decide_eq_true z)
end
theorem valV_mapF {α κ : Type} [DecidableEq κ] (f : α → κ × V) (xs : List α) (k : κ) : valV (xs.map f) k = (xs.find? fun x => decide ((f x).1 = k)).map fun x => (f x).2 := by
  unfold valV
  rw [List.find?_map, Option.map_map]
  rfl
theorem valN_map {α : Type} (f : α → Dt × Addr × V) (xs : List α) (k : Dt) : valN (xs.map f) k = (xs.find? fun x => decide ((f x).1 = k)).map fun x => (f x).2.2 := by
  unfold valN
  rw [List.find?_map, Option.map_map]
  rfl
end L2


end
section
set_option Elab.async false
set_option linter.all false
set_option maxRecDepth 100000
set_option maxHeartbeats 1000000
namespace L2
open PySem PySem.Spec PyProof.Rows
section
variable {X : Cx}
end
theorem TDs.of {H : Hp} {n : Nat} {Pd : Dt → Prop} : ∀ {xs : List V}, (∀ x ∈ xs, ∃ d, TD H n d x ∧ Pd d) → ∃ ds : List Dt, Paired (fun d v => TD H n d v) ds xs ∧ ∀ d ∈ ds, Pd d
  | [], _ => ⟨[], .nil, fun d h => nomatch h⟩
  | x :: xs, h => by
    obtain ⟨d, hd, pd⟩ := h x List.mem_cons_self
    obtain ⟨ds, r, p⟩ := TDs.of (xs := xs) fun y hy => h y (List.mem_cons_of_mem _ hy)
    exact ⟨d :: ds, .cons hd r, fun e he => by
      rcases List.mem_cons.mp he with z | z
      · rw [z]; exact pd
      · exact p e z⟩
theorem TDs.sameT {H H' : Hp} {n : Nat} {es : List Dt} {xs : List V} (r : Paired (fun d v => TD H n d v) es xs) (s : SameT H H') : Paired (fun d v => TD H' n d v) es xs := Paired.mapP r fun _ _ z => TD.sameT s n z
theorem TDs.mono {H : Hp} {n m : Nat} {es : List Dt} {xs : List V} (r : Paired (fun d v => TD H n d v) es xs) (h : n ≤ m) : Paired (fun d v => TD H m d v) es xs := Paired.mapP r fun _ _ z => TD.mono n h z
/-- a list of flat values as data -/
theorem TDs.flat {H : Hp} {n : Nat} : ∀ {vs : List V}, (∀ v ∈ vs, hV v = true) → Paired (fun d v => TD H n d v) (vs.map Dt.v) vs
  | [], _ => .nil
  | v :: vs, h => .cons (TD.ofV (h v List.mem_cons_self)) (TDs.flat fun x hx => h x (List.mem_cons_of_mem _ hx))
def tMethE (P : Program) (w : World) (K : PySem.W.Frag) (mg : Str → Option Value) (base : Heap) (k : Nat) (m : Str) (ta : TE1) (t : TA) : TE1 := fun σ H Q E => ta σ H (fun x H1 => ∃ a C dx fs sp, x = .ref a ∧ H1 a = some (.ins C dx fs) ∧ fs.lookup m = none ∧ Cls K C ∧ MeV P w K mg base k C m sp ∧ t σ H1 fun vs H2 => sp (x :: vs) H2 Q E) E
section
variable {X : Cx} {m : Str} {k : Nat} {ta : TE1} {t : TA} {e o : Expr} {es : List Expr} {pos apos : Pos} {pl : Sem Bool}
end
end L2


end
section
set_option Elab.async false
set_option linter.all false
set_option maxRecDepth 100000
set_option maxHeartbeats 1000000
open L2
namespace Tr
def keyD : Dt → V
  | .t (.v k :: _) => k
  | _ => .non
/-- how a page is told -/
def tdOf (l : Int) (es : List Dt) : Dt := .t [.v (.int l), .t es]
def hdOf (k : V) (n : Int) : Dt := .t [.v k, .v (.int n)]
def fstK : List Dt → V
  | [] => .non
  | e :: _ => keyD e
theorem tdOf_inj {l l' : Int} {es es' : List Dt} (h : tdOf l es = tdOf l' es') : l = l' ∧ es = es' := by
  unfold tdOf at h
  injection h with h
  injection h with h1 h
  injection h with h2 h
  injection h1 with h1
  injection h1 with h1
  injection h2 with h2
  exact ⟨h1, h2⟩
theorem hdOf_inj {k k' : V} {n n' : Int} (h : hdOf k n = hdOf k' n') : k = k' ∧ n = n' := by
  unfold hdOf at h
  injection h with h
  injection h with h1 h
  injection h with h2 h
  injection h1 with h1
  injection h2 with h2
  injection h2 with h2
  exact ⟨h1, h2⟩
section
variable (lv : V → Nat)
def step (l : Int) (parts : List (List Dt)) (e : Dt) : List (List Dt) :=
  if parts = [] ∨ l < lv (keyD e) then parts ++ [[e]] else parts.dropLast ++ [parts.getLast?.getD [] ++ [e]]
def cutF (l : Int) (es : List Dt) : List (List Dt) := es.foldl (step lv l) []
structure CutD (l : Int) (es : List Dt) (parts : List (List Dt)) : Prop where
  flat : parts.flatten = es
  full : ∀ part ∈ parts, part ≠ []
  head : ∀ (i : Nat) x r, 0 < i → parts[i]? = some (x :: r) → l < lv (keyD x)
  rest : ∀ x r, (x :: r) ∈ parts → ∀ y ∈ r, (lv (keyD y) : Int) ≤ l
variable {lv} {l : Int} {es : List Dt} {parts : List (List Dt)}
theorem CutD.nil : CutD lv l [] [] := ⟨rfl, (fun _ h => by cases h), (fun i x r _ h => by simp at h), (fun x r h => by cases h)⟩
theorem CutD.more {x : Dt} (c : CutD lv l es parts) (h : parts = [] ∨ l < lv (keyD x)) : CutD lv l (es ++ [x]) (parts ++ [[x]]) where
  flat := by rw [List.flatten_append, c.flat]; simp
  full := fun part hp => by
    rcases List.mem_append.mp hp with z | z
    · exact c.full part z
    · have : part = [x] := by simpa using z
      rw [this]; simp
  head := fun i y r hi e => by
    by_cases hl : i < parts.length
    · rw [List.getElem?_append_left hl] at e; exact c.head i y r hi e
    · rw [List.getElem?_append_right (by omega)] at e
      have h0 : i - parts.length = 0 := by
        cases q : i - parts.length with
        | zero => rfl
        | succ m => rw [q] at e; simp at e
      rw [h0] at e
      simp at e
      rcases h with z | z
      · rw [z] at h0; simp at h0; omega
      · rw [← e.1]; exact z
  rest := fun y r hp z hz => by
    rcases List.mem_append.mp hp with w | w
    · exact c.rest y r w z hz
    · have : y :: r = [x] := by simpa using w
      cases this
      cases hz
theorem CutD.on {x : Dt} {ini : List (List Dt)} {last : List Dt} (c : CutD lv l es (ini ++ [last])) (h : (lv (keyD x) : Int) ≤ l) : CutD lv l (es ++ [x]) (ini ++ [last ++ [x]]) where
  flat := by have := c.flat; simp at this ⊢; rw [← this]; simp
  full := fun part hp => by
    rcases List.mem_append.mp hp with z | z
    · exact c.full part (List.mem_append_left _ z)
    · have : part = last ++ [x] := by simpa using z
      rw [this]; simp
  head := fun i y r hi e => by
    by_cases hl : i < ini.length
    · rw [List.getElem?_append_left hl] at e
      exact c.head i y r hi (by rw [List.getElem?_append_left hl]; exact e)
    · rw [List.getElem?_append_right (by omega)] at e
      have h0 : i - ini.length = 0 := by
        cases q : i - ini.length with
        | zero => rfl
        | succ m => rw [q] at e; simp at e
      rw [h0] at e
      have hne := c.full last (by simp)
      match last, hne, e, c with
      | z :: zs, _, e, c =>
        simp at e
        rw [← e.1]
        exact c.head i z zs hi (by rw [List.getElem?_append_right (by omega), h0]; rfl)
  rest := fun y r hp z hz => by
    rcases List.mem_append.mp hp with w | w
    · exact c.rest y r (List.mem_append_left _ w) z hz
    · have w : y :: r = last ++ [x] := by simpa using w
      have hne := c.full last (by simp)
      match last, hne, w, c with
      | u :: us, _, w, c =>
        simp at w
        obtain ⟨rfl, rfl⟩ := w
        rcases List.mem_append.mp hz with v | v
        · exact c.rest y us (by simp) z v
        · have : z = x := by simpa using v
          rw [this]; exact h
theorem snoc_of {α : Type} : ∀ {xs : List α}, xs ≠ [] → ∃ ini last, xs = ini ++ [last]
  | [], h => absurd rfl h
  | [x], _ => ⟨[], x, rfl⟩
  | x :: y :: ys, _ => by
    obtain ⟨ini, last, e⟩ := snoc_of (xs := y :: ys) (by simp)
    exact ⟨x :: ini, last, by rw [e]; rfl⟩
theorem CutD.step {x : Dt} (c : CutD lv l es parts) : CutD lv l (es ++ [x]) (step lv l parts x) := by
  unfold Tr.step
  split
  · rename_i h; exact c.more h
  · rename_i h
    have h1 : parts ≠ [] := fun z => h (.inl z)
    obtain ⟨ini, last, rfl⟩ := snoc_of h1
    have : (lv (keyD x) : Int) ≤ l := by have : ¬ l < lv (keyD x) := fun z => h (.inr z); omega
    simpa using c.on this
theorem cutF_snoc (es : List Dt) (x : Dt) : cutF lv l (es ++ [x]) = step lv l (cutF lv l es) x := by
  unfold cutF; rw [List.foldl_append]; rfl
theorem snoc_rec {α : Type} {C : List α → Prop} (h0 : C []) (h1 : ∀ xs x, C xs → C (xs ++ [x])) (xs : List α) : C xs := by
  have : ∀ n (xs : List α), xs.length = n → C xs := by
    intro n
    induction n with
    | zero => intro xs h; rw [List.length_eq_zero_iff.mp h]; exact h0
    | succ n ih =>
      intro xs h
      obtain ⟨ini, last, rfl⟩ := snoc_of (xs := xs) (by intro z; rw [z] at h; simp at h)
      exact h1 _ _ (ih ini (by simpa using h))
  exact this _ xs rfl
theorem cutF_ok (l : Int) : ∀ es, CutD lv l es (cutF lv l es) := snoc_rec CutD.nil fun xs x c => by rw [cutF_snoc]; exact c.step
theorem cutF_ne {es : List Dt} (h : es ≠ []) : cutF lv l es ≠ [] := fun z => h (by have := (cutF_ok (lv := lv) l es).flat; rw [z] at this; exact this.symm)
/-- where no level lies above, there is one part -/
theorem cutF_one {es : List Dt} (hne : es ≠ []) (h : ∀ e ∈ es, (lv (keyD e) : Int) ≤ l) : cutF lv l es = [es] := by
  have c := cutF_ok (lv := lv) l es
  match q : cutF lv l es with
  | [] => exact absurd q (cutF_ne hne)
  | [p] => rw [q] at c; have := c.flat; simp at this; rw [this]
  | p :: p2 :: r =>
    rw [q] at c
    have hp2 := c.full p2 (by simp)
    match p2, hp2 with
    | x :: xs, _ =>
      have h1 := c.head 1 x xs (by omega) rfl
      have h2 : x ∈ es := by rw [← c.flat]; simp
      have := h x h2
      omega
end
structure Fn (tbl : List (Int × Dt)) : Prop where
  num : ∀ n d d', (n, d) ∈ tbl → (n, d') ∈ tbl → d = d'
  dat : ∀ n n' d, (n, d) ∈ tbl → (n', d) ∈ tbl → n = n'
/-- the heads of the pages made of these parts -/
inductive Heads (tbl : List (Int × Dt)) (l : Int) : List (List Dt) → List Dt → Prop
  | nil : Heads tbl l [] []
  | cons {part : List Dt} {parts : List (List Dt)} {hs : List Dt} {n : Int} (h : (n, tdOf l part) ∈ tbl) (r : Heads tbl l parts hs) : Heads tbl l (part :: parts) (hdOf (fstK part) n :: hs)
section
variable {tbl tbl' : List (Int × Dt)} {l : Int} {parts : List (List Dt)} {hs : List Dt}
theorem Heads.mono (h : Heads tbl l parts hs) (s : ∀ x ∈ tbl, x ∈ tbl') : Heads tbl' l parts hs := by
  induction h with
  | nil => exact .nil
  | cons h _ ih => exact .cons (s _ h) ih
theorem Heads.snoc {part : List Dt} {n : Int} (h : Heads tbl l parts hs) (m : (n, tdOf l part) ∈ tbl) : Heads tbl l (parts ++ [part]) (hs ++ [hdOf (fstK part) n]) := by
  induction h with
  | nil => exact .cons m .nil
  | cons h _ ih => exact .cons h ih
theorem Heads.length (h : Heads tbl l parts hs) : hs.length = parts.length := by
  induction h with
  | nil => rfl
  | cons _ _ ih => simp [ih]
/-- the same parts have the same heads -/
theorem Heads.det (f : Fn tbl) (h : Heads tbl l parts hs) : ∀ {hs' : List Dt}, Heads tbl l parts hs' → hs = hs' := by
  induction h with
  | nil => intro hs' h'; cases h'; rfl
  | cons h _ ih =>
    intro hs' h'
    cases h' with
    | cons h2 r2 => rw [f.dat _ _ _ h h2, ih r2]
/-- the same heads have the same parts -/
theorem Heads.inj (f : Fn tbl) (h : Heads tbl l parts hs) : ∀ {parts' : List (List Dt)}, Heads tbl l parts' hs → parts = parts' := by
  induction h with
  | nil => intro p h'; cases h'; rfl
  | @cons part parts hs n h r ih =>
    intro p h'
    generalize e : hdOf (fstK part) n :: hs = q at h'
    cases h' with
    | nil => cases e
    | @cons part' parts' hs' n' h2 r2 =>
      injection e with e1 e2
      obtain ⟨_, en⟩ := hdOf_inj e1
      subst en
      have := f.num _ _ _ h h2
      rw [(tdOf_inj this).2, ih (by rw [e2]; exact r2)]
theorem Heads.get (h : Heads tbl l parts hs) : ∀ {i : Nat} {x : Dt}, hs[i]? = some x → ∃ part n, parts[i]? = some part ∧ x = hdOf (fstK part) n ∧ (n, tdOf l part) ∈ tbl := by
  induction h with
  | nil => intro i x e; simp at e
  | @cons part parts hs n h r ih =>
    intro i x e
    cases i with
    | zero => simp at e; exact ⟨part, n, rfl, e.symm, h⟩
    | succ i => simp at e; obtain ⟨p, n, a, b⟩ := ih e; exact ⟨p, n, by simpa using a, b⟩
end
/-- L 0 are the rows, L (j + 1) the heads of the pages of level j, up to the level top of the root -/
structure Chain (lv : V → Nat) (tbl : List (Int × Dt)) (rows : List Dt) (top : Nat) (L : Nat → List Dt) : Prop where
  low : L 0 = rows
  up : ∀ j, j ≤ top → Heads tbl j (cutF lv j (L j)) (L (j + 1))
  one : (L (top + 1)).length = 1
  two : ∀ j, 1 ≤ j → j ≤ top → 1 < (L j).length
section
variable {lv : V → Nat} {tbl tbl' : List (Int × Dt)} {rows rows' : List Dt} {top top' : Nat} {L L' : Nat → List Dt}
theorem Chain.mono (c : Chain lv tbl rows top L) (s : ∀ x ∈ tbl, x ∈ tbl') : Chain lv tbl' rows top L := ⟨c.low, fun j h => (c.up j h).mono s, c.one, c.two⟩
/-- the same store, the same rows: the same tree -/
theorem Chain.det (f : Fn tbl) (c : Chain lv tbl rows top L) (c' : Chain lv tbl rows top' L') : top = top' ∧ ∀ j, j ≤ top + 1 → L j = L' j := by
  have key : ∀ j, j ≤ top + 1 → j ≤ top' + 1 → L j = L' j := by
    intro j
    induction j with
    | zero => intro _ _; rw [c.low, c'.low]
    | succ j ih =>
      intro h h'
      have e := ih (by omega) (by omega)
      have u := c.up j (by omega)
      have u' := c'.up j (by omega)
      rw [e] at u
      exact u.det f u'
  have e : top = top' := by
    rcases Nat.lt_trichotomy top top' with h | h | h
    · have := c'.two (top + 1) (by omega) (by omega)
      rw [← key (top + 1) (by omega) (by omega), c.one] at this; omega
    · exact h
    · have := c.two (top' + 1) (by omega) (by omega)
      rw [key (top' + 1) (by omega) (by omega), c'.one] at this; omega
  subst e
  exact ⟨rfl, fun j h => key j h h⟩
/-- the root's own page -/
theorem Chain.root (c : Chain lv tbl rows top L) : ∃ k n, L (top + 1) = [hdOf k n] ∧ (n, tdOf top (L top)) ∈ tbl ∧ cutF lv top (L top) = [L top] := by
  have u := c.up top (Nat.le_refl _)
  have l := u.length
  rw [c.one] at l
  match q : cutF lv top (L top), l with
  | [p], _ =>
    have fl := (cutF_ok (lv := lv) (top : Int) (L top)).flat
    rw [q] at fl
    simp at fl
    subst fl
    rw [q] at u
    generalize L (top + 1) = hs at u
    cases u with
    | cons h r => cases r; exact ⟨_, _, rfl, h, rfl⟩
end
def numD : Dt → Int
  | .t [_, .v (.int n)] => n
  | _ => 0
theorem numD_hd (k : V) (n : Int) : numD (hdOf k n) = n := rfl
section
variable {lv : V → Nat} {tbl : List (Int × Dt)} {l : Int} {parts : List (List Dt)} {hs rows : List Dt} {top : Nat} {L : Nat → List Dt}
theorem Heads.keys (h : Heads tbl l parts hs) : hs.map keyD = parts.map fstK := by
  induction h with
  | nil => rfl
  | cons h r ih => rw [List.map_cons, List.map_cons, ih]; rfl
theorem fst_sub : ∀ {parts : List (List Dt)}, (∀ p ∈ parts, p ≠ []) → (parts.map fstK).Sublist (parts.flatten.map keyD)
  | [], _ => List.Sublist.refl _
  | p :: ps, h => by
    have ih := fst_sub (parts := ps) fun q hq => h q (List.mem_cons_of_mem _ hq)
    match p, h p List.mem_cons_self with
    | e :: r, _ =>
      rw [List.map_cons, List.flatten_cons, List.cons_append, List.map_cons, List.map_append]
      exact List.Sublist.cons₂ _ (ih.trans (List.sublist_append_right _ _))
theorem Heads.mem (h : Heads tbl l parts hs) {x : Dt} (hx : x ∈ hs) : ∃ part ∈ parts, ∃ n, x = hdOf (fstK part) n ∧ (n, tdOf l part) ∈ tbl := by
  induction h with
  | nil => cases hx
  | @cons part parts hs n h r ih =>
    rcases List.mem_cons.mp hx with e | hx
    · exact ⟨part, List.mem_cons_self, n, e, h⟩
    · obtain ⟨p, hp, q⟩ := ih hx; exact ⟨p, List.mem_cons_of_mem _ hp, q⟩
theorem Heads.nodup (f : Fn tbl) (h : Heads tbl l parts hs) (full : ∀ p ∈ parts, p ≠ []) (nd : (parts.flatten.map keyD).Nodup) : (hs.map numD).Nodup := by
  induction h with
  | nil => exact List.nodup_nil
  | @cons part parts hs n h r ih =>
    rw [List.flatten_cons, List.map_append, List.nodup_append] at nd
    rw [List.map_cons, List.nodup_cons]
    refine ⟨fun z => ?_, ih (fun p hp => full p (List.mem_cons_of_mem _ hp)) nd.2.1⟩
    obtain ⟨x, hx, ex⟩ := List.mem_map.mp z
    obtain ⟨p, hp, m, rfl, hm⟩ := r.mem hx
    rw [numD_hd, numD_hd] at ex
    subst ex
    have := (tdOf_inj (f.num _ _ _ h hm)).2
    subst this
    match part, full part List.mem_cons_self with
    | e :: es, _ =>
      exact nd.2.2 (keyD e) (by simp) (keyD e) (List.mem_map_of_mem (List.mem_flatten.mpr ⟨_, hp, List.mem_cons_self⟩)) rfl
theorem Chain.keys (c : Chain lv tbl rows top L) : ∀ j, j ≤ top + 1 → ((L j).map keyD).Sublist (rows.map keyD) := by
  intro j
  induction j with
  | zero => intro _; rw [c.low]; exact List.Sublist.refl _
  | succ j ih =>
    intro h
    have u := c.up j (by omega)
    have k := cutF_ok (lv := lv) (j : Int) (L j)
    rw [u.keys]
    refine (fst_sub k.full).trans ?_
    rw [k.flat]
    exact ih (by omega)
end
/-- the levels made so far: below j pages -/
structure Part (lv : V → Nat) (tbl : List (Int × Dt)) (rows : List Dt) (j : Nat) (L : Nat → List Dt) : Prop where
  low : L 0 = rows
  up : ∀ i, i < j → Heads tbl i (cutF lv i (L i)) (L (i + 1))
  two : ∀ i, 1 ≤ i → i < j → 1 < (L i).length
section
variable {lv : V → Nat} {tbl tbl' : List (Int × Dt)} {rows hs : List Dt} {j : Nat} {L : Nat → List Dt}
theorem Part.start (h : Heads tbl 0 (cutF lv 0 rows) hs) : Part lv tbl rows 1 (fun i => if i = 0 then rows else hs) where
  low := rfl
  up := fun i hi => by
    obtain rfl : i = 0 := by omega
    exact h
  two := fun i h1 h2 => by omega
theorem Part.next (p : Part lv tbl rows j L) (s : ∀ x ∈ tbl, x ∈ tbl') (hj : 1 ≤ j) (h2 : 1 < (L j).length) (h : Heads tbl' j (cutF lv j (L j)) hs) : Part lv tbl' rows (j + 1) (fun i => if i = j + 1 then hs else L i) where
  low := by show (if 0 = j + 1 then hs else L 0) = rows; rw [if_neg (by omega)]; exact p.low
  up := fun i hi => by
    show Heads tbl' i (cutF lv i (if i = j + 1 then hs else L i)) (if i + 1 = j + 1 then hs else L (i + 1))
    rw [if_neg (by omega)]
    by_cases e : i = j
    · subst e; rw [if_pos rfl]; exact h
    · rw [if_neg (by omega)]; exact (p.up i (by omega)).mono s
  two := fun i h1 hi => by
    show 1 < (if i = j + 1 then hs else L i).length
    rw [if_neg (by omega)]
    by_cases e : i = j
    · subst e; exact h2
    · exact p.two i h1 (by omega)
theorem Part.full (p : Part lv tbl rows j L) (hr : rows ≠ []) : ∀ i, i ≤ j → L i ≠ [] := by
  intro i
  induction i with
  | zero => intro _; rw [p.low]; exact hr
  | succ i ih =>
    intro h z
    have u := p.up i (by omega)
    have l := u.length
    rw [z] at l
    exact cutF_ne (ih (by omega)) (List.length_eq_zero_iff.mp l.symm)
/-- no level lies above the seventh -/
theorem Part.top (p : Part lv tbl rows j L) (h6 : ∀ k, lv k ≤ 6) (hr : rows ≠ []) (hj : 7 ≤ j) : (L 7).length = 1 := by
  have u := p.up 6 (by omega)
  rw [cutF_one (p.full hr 6 (by omega)) (fun e _ => by have := h6 (keyD e); omega)] at u
  rw [u.length]; rfl
end
end Tr


end
section
set_option Elab.async false
set_option linter.all false
set_option maxRecDepth 100000
set_option maxHeartbeats 1000000
namespace L2
open PySem PySem.Spec PyProof.Rows
inductive FzH (H : Hp) : Nat → V → Prop where
  | v {n : Nat} {x : V} (f : hV x = true) : FzH H n x
  | t {n : Nat} {a : Addr} {xs : List V} (h : H a = some (.tup xs)) (r : ∀ x ∈ xs, FzH H n x) : FzH H (n + 1) (.ref a)
theorem FzH.sameT {H H' : Hp} {n : Nat} {x : V} (r : FzH H n x) (s : SameT H H') : FzH H' n x := by
  induction r with
  | v f => exact .v f
  | t h _ ih => exact .t (s _ _ h) ih
theorem FzH.same {H H' : Hp} {n : Nat} {x : V} (r : FzH H n x) (s : Same H H') : FzH H' n x := r.sameT s.t
theorem FzH.mono {H : Hp} {n : Nat} {x : V} (r : FzH H n x) : ∀ {m : Nat}, n ≤ m → FzH H m x := by
  induction r with
  | v f => exact fun _ => .v f
  | t h _ ih =>
    intro m hm
    obtain ⟨k, rfl⟩ : ∃ k, m = k + 1 := ⟨m - 1, by omega⟩
    exact .t h fun x hx => ih x hx (by omega)
theorem FzH.pair {H : Hp} {n : Nat} {a : Addr} {x y : V} (h : H a = some (.tup [x, y])) (hx : FzH H n x) (hy : FzH H n y) : FzH H (n + 1) (.ref a) := .t h fun z hz => by
  rcases List.mem_cons.mp hz with e | hz
  · rw [e]; exact hx
  · rw [List.mem_singleton.mp hz]; exact hy
/-- a list at p, made behind H, whose items are data of tuples -/
structure CollH (H : Hp) (n : Nat) (p : Addr) (H1 : Hp) (xs : List V) : Prop where
  same : Same H H1
  at_ : H1 p = some (.lst xs)
  fz : ∀ x ∈ xs, FzH H1 n x
  new : H p = none
theorem CollH.start {H : Hp} {n : Nat} {p : Addr} (hp : H p = none) : CollH H n p (upd H p (.lst [])) [] := ⟨same_upd hp _, upd_same, (fun x hx => by cases hx), hp⟩
/-- behind what was made since, one item more -/
theorem CollH.more {H H1 H2 : Hp} {n : Nat} {p : Addr} {xs : List V} {x : V} (c : CollH H n p H1 xs) (s : Same H1 H2) (f : FzH H2 n x) : CollH H n p (upd H2 p (.lst (xs ++ [x]))) (xs ++ [x]) where
  same := fun b o hb => by rw [upd_ne (ne_of_none hb c.new)]; exact s _ _ (c.same _ _ hb)
  at_ := upd_same
  fz := fun y hy => by
    have st := sameT_lst (zs := xs ++ [x]) (s _ _ c.at_)
    rcases List.mem_append.mp hy with h | h
    · exact ((c.fz y h).same s).sameT st
    · rw [List.mem_singleton.mp h]; exact f.sameT st
  new := c.new
theorem CollH.pair {H H1 : Hp} {n : Nat} {p q : Addr} {xs : List V} (x y : V) (c : CollH H (n + 1) p H1 xs) (hq : H1 q = none) (fx : hV x = true := by rfl) (fy : hV y = true := by rfl) : CollH H (n + 1) p (upd (upd H1 q (.tup [x, y])) p (.lst (xs ++ [.ref q]))) (xs ++ [.ref q]) :=
  c.more (same_upd hq _) (FzH.pair upd_same (.v fx) (.v fy))
theorem FzH.td {H : Hp} {n : Nat} {x : V} (r : FzH H n x) : ∃ d, TD H n d x := by
  induction r with
  | v f => exact ⟨_, TD.ofV f⟩
  | t h _ ih =>
    obtain ⟨ds, q, _⟩ := TDs.of (Pd := fun _ => True) fun x hx => by obtain ⟨d, hd⟩ := ih x hx; exact ⟨d, hd, trivial⟩
    exact ⟨.t ds, TD.ofT h q⟩
end L2


end
section
set_option Elab.async false
set_option linter.all false
set_option maxRecDepth 100000
set_option maxHeartbeats 1000000
namespace L2
open PySem PySem.Spec PyProof.Rows
section
variable {a b c d e u : TS} {D : Ends} {σ : St} {H : Hp}
/-- what comes behind the first, the first two .. statements is not opened -/
theorem rd_gen1 (h : ∀ R : St → Hp → Prop, (∀ σ H, u D σ H → R σ H) → a { D with nx := R } σ H) : tSeq a u D σ H := h (u D) fun _ _ z => z
theorem rd_gen2 (h : ∀ R : St → Hp → Prop, (∀ σ H, u D σ H → R σ H) → tSeq a b { D with nx := R } σ H) : tSeq a (tSeq b u) D σ H := h (u D) fun _ _ z => z
theorem rd_gen5 (h : ∀ R : St → Hp → Prop, (∀ σ H, u D σ H → R σ H) → tSeq a (tSeq b (tSeq c (tSeq d e))) { D with nx := R } σ H) : tSeq a (tSeq b (tSeq c (tSeq d (tSeq e u)))) D σ H := h (u D) fun _ _ z => z
end
section
variable {X : Cx}
theorem foldl_size : ∀ (n : Nat) (z acc : Array Nat), ((List.replicate n z).foldl (· ++ ·) acc).size = acc.size + z.size * n := by
  intro n z
  induction n with
  | zero => intro acc; rfl
  | succ n ih => intro acc; rw [List.replicate_succ, List.foldl_cons, ih, Array.size_append, Nat.mul_succ]; omega
theorem foldl_list : ∀ (n : Nat) (z acc : Array Nat), ((List.replicate n z).foldl (· ++ ·) acc).toList = acc.toList ++ (List.replicate n z.toList).flatten := by
  intro n z
  induction n with
  | zero => intro acc; simp
  | succ n ih => intro acc; rw [List.replicate_succ, List.foldl_cons, ih, Array.toList_append, List.replicate_succ, List.flatten_cons, List.append_assoc]
/-- a text, n times -/
def rRepN : R2 := fun x y H Q => ∃ (z : Str) (n : Int), x = .str z ∧ y = .int n ∧ -1000 ≤ n ∧ n ≤ 1000 ∧ z.length ≤ 100 ∧ ∀ r : Str, r.cps.toList = (List.replicate n.toNat z.cps.toList).flatten → Q (.str r) H
theorem op_repN : OpR X (binaryOp .Mult) rRepN := by
  intro pins s σ H x y v u Q I rx ry h
  obtain ⟨z, n, rfl, rfl, h0, h1, hz, q⟩ := h
  obtain ⟨t, rfl⟩ := rx
  obtain ⟨t', rfl⟩ := ry
  have hmul : z.length * n.toNat ≤ 100000 := Nat.le_trans (Nat.mul_le_mul hz (show n.toNat ≤ 1000 by omega)) (by decide)
  refine PySem.P.mul_str (by rw [decide_eq_false (by omega), decide_eq_false (by omega)]; rfl) (fun hn _ => ?_) (fun _ _ => ?_) ?_
  · have : ((2 : Int) ^ 63 - 1) / (n : Int) ≥ ((2 : Int) ^ 63 - 1) / 100000 := by
      refine (Int.le_ediv_iff_mul_le (by omega)).mpr ?_
      have : ((2 : Int) ^ 63 - 1) / 100000 * (n : Int) ≤ ((2 : Int) ^ 63 - 1) / 100000 * 100000 := Int.mul_le_mul_of_nonneg_left (by omega) (by decide)
      exact Int.le_trans this (by decide)
    have e : ((2 : Int) ^ 63 - 1) / 100000 = 92233720368547 := by decide
    omega
  · generalize z.length * n.toNat = m at hmul ⊢
    have hs : 100000 ≤ sizeLine := by decide
    exact decide_eq_false (by omega)
  · by_cases hn : n < 1
    · rw [if_pos hn]
      exact ⟨by decide, ⟨.str _, H, I.tok _, ⟨_, rfl⟩, q _ (by rw [show n.toNat = 0 by omega]; rfl)⟩⟩
    · rw [if_neg hn]
      by_cases h2 : (n == 1 || z.length == 0) = true
      · rw [if_pos h2]
        rw [Bool.or_eq_true, beq_iff_eq, beq_iff_eq] at h2
        refine ⟨.str z, H, I, ⟨_, rfl⟩, q z ?_⟩
        rcases h2 with e | e
        · rw [e]; simp
        · have : z.cps.toList = [] := List.eq_nil_of_length_eq_zero e
          rw [this]
          simp
      · rw [if_neg h2]
        refine ⟨?_, ⟨.str _, H, I.tok _, ⟨_, rfl⟩, q _ (by rw [foldl_list]; rfl)⟩⟩
        show ((List.replicate n.toNat z.cps).foldl (· ++ ·) #[]).size ≤ sizeLine
        rw [foldl_size]
        have hs : 100000 ≤ sizeLine := by decide
        have : z.cps.size * n.toNat ≤ 100000 := hmul
        simp; omega
end
end L2


end
section
set_option Elab.async false
set_option linter.all false
set_option maxRecDepth 100000
set_option maxHeartbeats 1000000
namespace L2
open PySem PySem.Spec PyProof.Rows
section
variable {X : Cx}
def isT (z : Str) : Value → Bool
  | .str y _ => decide (y = z)
  | _ => false
theorem any_isT {z : Str} : ∀ {zs : List Str} {us : List Value}, Vals (zs.map V.str) us → us.any (isT z) = decide (z ∈ zs)
  | [], _, h => by cases h; simp
  | y :: zs, _, h => by
    cases h with
    | cons r t =>
      obtain ⟨k, rfl⟩ := r
      rw [List.any_cons, any_isT t]
      show (decide (y = z) || decide (z ∈ zs)) = decide (z ∈ y :: zs)
      rw [Bool.eq_iff_iff, Bool.or_eq_true, decide_eq_true_iff, decide_eq_true_iff, decide_eq_true_iff, List.mem_cons, eq_comm (a := z)]
theorem eq_isT {A : Around} {s : Shared} {z : Str} {k : Tok} {zs : List Str} {us : List Value} (r : Vals (zs.map V.str) us) : ∀ y ∈ us, SeqAt.EqAt A s y (.str z k) (isT z y) := by
  intro y hy
  obtain ⟨i, hi, e⟩ := List.mem_iff_getElem.mp hy
  have l := r.length
  rw [List.length_map] at l
  have rv : ∃ z' k', y = .str z' k' := by
    have go : ∀ {zs : List Str} {us : List Value}, Vals (zs.map V.str) us → ∀ y ∈ us, ∃ z' k', y = .str z' k' := by
      intro zs
      induction zs with
      | nil => intro us h y hy; cases h; cases hy
      | cons z zs ih =>
        intro us h y hy
        cases h with
        | cons r t =>
          obtain ⟨k, rfl⟩ := r
          rcases List.mem_cons.mp hy with e | h2
          · exact ⟨z, k, e⟩
          · exact ih t y h2
    exact go r y hy
  obtain ⟨z', k', rfl⟩ := rv
  have := eqAt_V (A := A) (s := s) (show RelV (.str z') (.str z' k') from ⟨k', rfl⟩) (show RelV (.str z) (.str z k) from ⟨k, rfl⟩) rfl rfl
  rw [show eqV (.str z') (.str z) = isT z (.str z' k') from ?_] at this
  · exact this
  · show (z' == z) = decide (z' = z)
    rw [Bool.eq_iff_iff, beq_iff_eq, decide_eq_true_iff]
def rInT (K : PySem.W.Frag) (neg : Bool) : R2 := fun x y H Q => ∃ (z : Str) (b : Addr) (zs : List Str), x = .str z ∧ y = .ref b ∧ SqT K H b (zs.map V.str) ∧ Q (.bl (if neg then !decide (z ∈ zs) else decide (z ∈ zs))) H
theorem op_notinT : OpR X (compareOp .NotIn) (rInT X.K true) := by
  intro pins s σ H x y v u Q I rx ry h
  obtain ⟨z, b, zs, rfl, rfl, hb, q⟩ := h
  obtain ⟨t, rfl⟩ := rx
  cases ry
  obtain ⟨its, r, p, _⟩ := I.tuple hb
  refine SeqAt.notIn_tupleAt (isT z) p (fun y hy => eq_isT r y (by simpa using hy)) ⟨.bl (!decide (z ∈ zs)), H, I, ?_, q⟩
  rw [← Array.any_toList]
  rw [any_isT r]; rfl
end
end L2


end
section
set_option Elab.async false
set_option linter.all false
set_option maxRecDepth 100000
set_option maxHeartbeats 4000000
namespace My
open PySem L2 Pl Th Tr
theorem cxOf_K {CX : CXT} {P : Program} {w : World} {K : PySem.W.Frag} {mg : Str → Option Value} {base : Heap} {N : List Str} {qual : Str} {scope : Scope} {f : Addr} {cd : Value} {A : Around} {outer : List Env} {s : Shared} {H : Hp} {E : XK} : (cxOf CX P w K mg base N qual scope f cd A outer s H E).K = K := rfl
theorem cxOf_P {CX : CXT} {P : Program} {w : World} {K : PySem.W.Frag} {mg : Str → Option Value} {base : Heap} {N : List Str} {qual : Str} {scope : Scope} {f : Addr} {cd : Value} {A : Around} {outer : List Env} {s : Shared} {H : Hp} {E : XK} : (cxOf CX P w K mg base N qual scope f cd A outer s H E).prog = P := rfl
theorem cxOf_w {CX : CXT} {P : Program} {w : World} {K : PySem.W.Frag} {mg : Str → Option Value} {base : Heap} {N : List Str} {qual : Str} {scope : Scope} {f : Addr} {cd : Value} {A : Around} {outer : List Env} {s : Shared} {H : Hp} {E : XK} : (cxOf CX P w K mg base N qual scope f cd A outer s H E).w = w := rfl
theorem blk_K {X : Cx} {sc : Scope} {x : Str} {M : List Str} {cl : List (Str × Addr)} {C : Addr} {s : Shared} {H : Hp} {fp : List Addr} : (blk X sc x M cl C s H fp).K = X.K := rfl
local macro_rules | `(tactic| walk_at "rd") => `(tactic| simp (maxSteps := 1000000) only [cxOf_K, blk_K, tFor_rng1, tFor_rng2, tFor_list, tFor_tup, tFor_str, tLc_rng1, tLc_list, tLc_tup, tLc_str, tSeq, tNext, tSetLc, rIxL, rIxT, rIxS, rLtV, rIn, rEqL, rJoin, rCat, rSlL, rSlS, Int.reduceLT, Int.reduceLE, Int.reduceToNat, tIfS, tTest, tB, tNot, tAnd, tOr, tAndV, tOrV, tNotV, tOp, tUn, tVar, tC, tRet, tRetN, tAsg, gName, tDrop, tCB, tCall, tCons, tNil, tTup, tLst, rI, rI0, rU, rEq, rNe, scal, tBM, tBM0, rAppend, tChain, tSl, tPart, tNoPart, tFmtI, tFmtS, tJoinF, tParts, empty_add, tSortK, tSortKB, tDGet1, tDPop1, rExtendE, tFor_rngD, tLenSet, tSetK, tFor_seq, tDNewK, sDPut, tDGet, tDIn, tDNotIn, tThaw, tLc_dict, tFor_dict, sThaw, Ends.thawed, cxOf_P, cxOf_w, tCall1, tMethE, tNIn, tNGet, sNPut, tNPop, tNNew, tIf, tFor_zip, gTup, gCons, gNil, rAll, tDNew, tLc_rng2, rEqN, tYes,  List.getElem?_cons_zero, List.getElem?_cons_succ, List.set_cons_zero, List.set_cons_succ, Option.some.injEq, V.int.injEq, V.bl.injEq, V.str.injEq, V.ref.injEq, exists_eq_left, exists_eq_left', exists_eq_right, exists_and_left, List.cons.injEq, and_true, true_and, List.append_nil, decide_eq_true_eq, Bool.not_eq_true', decide_eq_false_iff_not, Bool.not_true, Bool.not_false, if_true, if_false, Bool.true_eq_false, Bool.false_eq_true, reduceCtorEq, exists_const, exists_false, false_and, and_false, not_true_eq_false, not_false_eq_true, ite_true, ite_false])
local macro_rules | `(tactic| walk_at "side") => `(tactic| first | omega | decide | (unfold CDiv; omega) | (refine CMul.ok ?_; unfold CMul; omega) | (unfold CMul; omega) | (unfold CPow; omega) | (unfold CDiv; decide) | (unfold CPow; decide))
local macro_rules | `(tactic| walk_at "go") => `(tactic| (repeat refine And.intro (by walk_at "side") ?_))

def top (i : Nat) : Stmt := PySem.Challenge.pw_twigtable_k38_columns_unlike.main.body.getD i (.Pass ⟨0, 0, 0, 0⟩)
def topM (i j : Nat) : Stmt := match top i with | .ClassDef _ _ _ body _ _ _ _ _ _ _ => body.getD j (.Pass ⟨0, 0, 0, 0⟩) | s => s
abbrev s_Page_init : Stmt := topM 5 0
theorem sc_Page_init : FnScope ["self", "level", "entries"] ["self", "level", "entries"] (defScope s_Page_init) := ⟨rfl, rfl, rfl, by decide +kernel, rfl, by decide +kernel, by decide +kernel⟩
abbrev s_Page_told : Stmt := topM 5 1
theorem sc_Page_told : FnScope ["self"] ["self"] (defScope s_Page_told) := ⟨rfl, rfl, rfl, by decide +kernel, rfl, by decide +kernel, by decide +kernel⟩
abbrev s_Pages_init : Stmt := topM 9 0
theorem sc_Pages_init : FnScope ["self"] ["self"] (defScope s_Pages_init) := ⟨rfl, rfl, rfl, by decide +kernel, rfl, by decide +kernel, by decide +kernel⟩
abbrev s_columns_unlike : Stmt := top 11
theorem sc_columns_unlike : FnScope ["one", "other", "put_in", "dropped"] ["one", "other"] (defScope s_columns_unlike) := ⟨rfl, rfl, rfl, by decide +kernel, rfl, by decide +kernel, by decide +kernel⟩
abbrev s__law_cell : Stmt := top 13
theorem sc__law_cell : FnScope ["_law_script", "_law_k"] ["_law_script", "_law_k"] (defScope s__law_cell) := ⟨rfl, rfl, rfl, by decide +kernel, rfl, by decide +kernel, by decide +kernel⟩
abbrev s__law_columns : Stmt := top 14
theorem sc__law_columns : FnScope ["_law_cell_here", "_law_letters", "_law_many", "_law_at", "_law_found", "_law_k", "_law_first", "_law_second"] ["_law_cell_here"] (defScope s__law_columns) := ⟨rfl, rfl, rfl, by decide +kernel, rfl, by decide +kernel, by decide +kernel⟩
abbrev s__law_alike : Stmt := top 15
theorem sc__law_alike : FnScope ["_law_found", "_law_due"] ["_law_found", "_law_due"] (defScope s__law_alike) := ⟨rfl, rfl, rfl, by decide +kernel, rfl, by decide +kernel, by decide +kernel⟩
abbrev s_Leaf_init : Stmt := topM 6 0
theorem sc_Leaf_init : FnScope ["self", "rows"] ["self", "rows"] (defScope s_Leaf_init) := ⟨rfl, rfl, rfl, by decide +kernel, rfl, by decide +kernel, by decide +kernel⟩
abbrev s_Twig_init : Stmt := topM 7 0
theorem sc_Twig_init : FnScope ["self", "level", "heads"] ["self", "level", "heads"] (defScope s_Twig_init) := ⟨rfl, rfl, rfl, by decide +kernel, rfl, by decide +kernel, by decide +kernel⟩
abbrev s_Pages_kept : Stmt := topM 9 1
theorem sc_Pages_kept : FnScope ["self", "page", "told", "number"] ["self", "page"] (defScope s_Pages_kept) := ⟨rfl, rfl, rfl, by decide +kernel, rfl, by decide +kernel, by decide +kernel⟩
abbrev s_law : Stmt := top 16
theorem sc_law : FnScope ["_law_script", "_law_pages", "_law_one", "_law_other", "_law_added", "_law_dropped", "_law_columns_here", "_law_k", "_law_way", "_law_root", "_law_tables"] ["_law_script"] (defScope s_law) := ⟨rfl, rfl, rfl, by decide +kernel, rfl, by decide +kernel, by decide +kernel⟩
structure Zs (mg : Str → Option Value) : Prop where
  isinstance : mg "isinstance" = none
  len : mg "len" = none
  list : mg "list" = none
  range : mg "range" = none
  tuple : mg "tuple" = none
def isaM (i j : Nat) : Bool := ([(0, 0), (1, 0), (1, 1), (2, 0), (2, 2), (3, 3)] : List (Nat × Nat)).contains (i, j)
structure Tx (K : PySem.W.Frag) (mg : Str → Option Value) (CT : Addr) (cs : Nat → Addr) (ob : Nat → Addr) : Prop where
  mg_Page : mg "Page" = some (.ref (ob 0))
  mg_Leaf : mg "Leaf" = some (.ref (ob 1))
  mg_Twig : mg "Twig" = some (.ref (ob 2))
  mg_Pages : mg "Pages" = some (.ref (ob 3))
  ob_ : ∀ i, i < 4 → ObC K (ob i) ["level", "rows", "heads", "entries", "told_by_number", "number_by_told", "count"]
  isa : ∀ i j, i < 4 → j < 4 → PySem.W.kitOne K (.ref (ob i)) (.ref (ob j)) = some (isaM i j)
section
variable {K : PySem.W.Frag}
theorem kit_int_tup : PySem.W.kitOne K (.type "int") (.type "tuple") = some false := by rfl
theorem kit_str_tup : PySem.W.kitOne K (.type "str") (.type "tuple") = some false := by rfl
theorem kit_non_tup : PySem.W.kitOne K (.type "NoneType") (.type "tuple") = some false := by rfl
theorem kit_bl_tup : PySem.W.kitOne K (.type "bool") (.type "tuple") = some false := by rfl
theorem kit_lst_tup : PySem.W.kitOne K (.type "list") (.type "tuple") = some false := by rfl
theorem kit_dct_tup : PySem.W.kitOne K (.type "dict") (.type "tuple") = some false := by rfl
theorem kit_tup_tup : PySem.W.kitOne K (.type "tuple") (.type "tuple") = some true := by rfl
theorem kit_tup_str : PySem.W.kitOne K (.type "tuple") (.type "str") = some false := by rfl
theorem kit_bl_str : PySem.W.kitOne K (.type "bool") (.type "str") = some false := by rfl
theorem kit_lst_str : PySem.W.kitOne K (.type "list") (.type "str") = some false := by rfl
theorem kit_dct_str : PySem.W.kitOne K (.type "dict") (.type "str") = some false := by rfl
theorem kit_tup_lst : PySem.W.kitOne K (.type "tuple") (.type "list") = some false := by rfl
theorem kit_lst_lst : PySem.W.kitOne K (.type "list") (.type "list") = some true := by rfl
theorem kit_non_bool : PySem.W.kitOne K (.type "NoneType") (.type "bool") = some false := by rfl
theorem kit_str_bool : PySem.W.kitOne K (.type "str") (.type "bool") = some false := by rfl
theorem kit_tup_bool : PySem.W.kitOne K (.type "tuple") (.type "bool") = some false := by rfl
theorem kit_lst_bool : PySem.W.kitOne K (.type "list") (.type "bool") = some false := by rfl
theorem kit_dct_bool : PySem.W.kitOne K (.type "dict") (.type "bool") = some false := by rfl
theorem kit_non_int : PySem.W.kitOne K (.type "NoneType") (.type "int") = some false := by rfl
theorem kit_tup_int : PySem.W.kitOne K (.type "tuple") (.type "int") = some false := by rfl
theorem kit_lst_int : PySem.W.kitOne K (.type "list") (.type "int") = some false := by rfl
theorem kit_dct_int : PySem.W.kitOne K (.type "dict") (.type "int") = some false := by rfl
end
theorem one_sz (v : V) : [v].length ≤ sizeLine := show 1 ≤ sizeLine by decide
theorem small_le {n : Nat} (h : n ≤ 1000) : n ≤ sizeLine := Nat.le_of_lt (small1000 h)
theorem at0 (x : V) (r : List V) : atI (x :: r) 0 = some x := atI_nat (j := 0) rfl
theorem at1 (x y : V) (r : List V) : atI (x :: y :: r) 1 = some y := atI_nat (j := 1) rfl
theorem mem_of_ix {P : V → Prop} {ys : List V} (py : ∀ (i : Nat) y, ys[i]? = some y → P y) : ∀ v ∈ ys, P v := fun v hv => by
  obtain ⟨i, hi, e⟩ := List.mem_iff_getElem.mp hv
  exact py i v (by rw [List.getElem?_eq_getElem hi, e])
/-- isinstance of a plain value, against tuple and bool -/
theorem isTup_plain {K : PySem.W.Frag} {H : Hp} {Q : VK} {v : V} (p : plainV v) (q : Q (.bl false) H) : rIsI K [v, .ty "tuple"] H Q := by
  cases v with
  | non => exact isI_of .non kit_non_tup q
  | int i => exact isI_of (.int i) kit_int_tup q
  | str z => exact isI_of (.str z) kit_str_tup q
  | _ => exact p.elim
theorem isBool_plain {K : PySem.W.Frag} {H : Hp} {Q : VK} {v : V} (p : plainV v) (q : Q (.bl false) H) : rIsI K [v, .ty "bool"] H Q := by
  cases v with
  | non => exact isI_of .non kit_non_bool q
  | int i => exact isI_of (.int i) kit_int_bool q
  | str z => exact isI_of (.str z) kit_str_bool q
  | _ => exact p.elim

/-- a page's fields -/
def pgF (tw : Bool) (l : Int) (t : Addr) : List (Str × V) := putF (if tw = true then "heads" else "rows") (.ref t) (putF "entries" (.ref t) (putF "level" (.int l) []))
theorem ob12 {tw : Bool} : (if tw = true then 2 else 1) < 4 := by cases tw <;> decide
/-- a page of the level l with the entries es -/
def PgD (ob : Nat → Addr) (H : Hp) (a : Addr) (l : Int) (es : List Dt) : Prop :=
  ∃ tw dx t, tw = decide (l ≠ 0) ∧ H a = some (.ins (ob (if tw = true then 2 else 1)) dx (pgF tw l t)) ∧ TD H 7 (.t es) (.ref t)
theorem PgD.same {ob : Nat → Addr} {H H' : Hp} {a : Addr} {l : Int} {es : List Dt} (h : PgD ob H a l es) (s : Same H H') : PgD ob H' a l es := by
  obtain ⟨tw, dx, t, e, h1, h2⟩ := h
  exact ⟨tw, dx, t, e, s _ _ h1, h2.same s⟩
section
variable {K : PySem.W.Frag} {mg : Str → Option Value} {CT : Addr} {cs ob : Nat → Addr} {a t dx : Addr} {tw : Bool} {l : Int} {i : Nat} {σ : St} {H : Hp} {Q : VK}
theorem rd_level (T : Tx K mg CT cs ob) (hs : σ[i]? = some (some (.ref a))) (ha : H a = some (.ins (ob (if tw = true then 2 else 1)) dx (pgF tw l t))) (q : Q (.int l) H) : tFld K (tVar i) "level" σ H Q :=
  rd_fld (T.ob_ _ ob12) (by decide) hs ha (by cases tw <;> rfl) q
theorem rd_entries (T : Tx K mg CT cs ob) (hs : σ[i]? = some (some (.ref a))) (ha : H a = some (.ins (ob (if tw = true then 2 else 1)) dx (pgF tw l t))) (q : Q (.ref t) H) : tFld K (tVar i) "entries" σ H Q :=
  rd_fld (T.ob_ _ ob12) (by decide) hs ha (by cases tw <;> rfl) q
end
theorem at0' {x : V} {xs : List V} (h : xs[0]? = some x) : atI xs 0 = some x := atI_nat (j := 0) h
def sp_Page_told (_ : PySem.W.Frag) (ob : Nat → Addr) : Sp := fun vs H Q _ => ∃ a l es, vs = [.ref a] ∧ PgD ob H a l es ∧ ∀ r H', Same H H' → H r = none → TD H' 8 (tdOf l es) (.ref r) → Q (.ref r) H'
seal PE PT PW PA PS PSs PI PG PIfs PGs PO in
theorem ok_Page_told {P : Program} {w : World} {K : PySem.W.Frag} {mg : Str → Option Value} {base : Heap} {CT : Addr} {cs : Nat → Addr} {ob : Nat → Addr} {f : Addr} {fd : FuncData} (Z : Zs mg) (T : Tx K mg CT cs ob) (F : Fun K "told" "Page.told" s_Page_told f fd) : FnOk P w K mg base (CX1 P w) 1 f fd ["self"] (sp_Page_told K ob) := by
  refine F.ok1 sc_Page_told (fun vs H Q E h => ?_) (fun cdv A outer s H vs Q E hr h => ?_)
  · obtain ⟨a, l, es, rfl, _⟩ := h; rfl
  obtain ⟨a, l, es, rfl, hP, q⟩ := h
  refine ⟨_, (pss_one (ps_ret (pe_tup (pa_c (pe_fld (pv 0) rfl) (pa_c (pe_fld (pv 0) rfl) pa_nil))))), ?_⟩
  refine rd_start (σ := [some (.ref a)]) rfl ?_
  walk_at "rd"
  obtain ⟨tw, dx, t, _, ha, ht⟩ := hP
  exact rd_level T rfl ha (rd_entries T rfl ha ⟨two_ok, fun p hp => q p _ (same_upd hp _) hp (TD.pair upd_same (.ofV rfl) (ht.same (same_upd hp _)))⟩)
def sp_Page_init (K : PySem.W.Frag) (ob : Nat → Addr) : Sp := fun vs H Q _ => ∃ a tw dx l e b xs, vs = [.ref a, .int l, .ref e] ∧ H a = some (.ins (ob (if tw = true then 2 else 1)) dx []) ∧ HE b H e xs ∧ xs.length ≤ 900 ∧
  ∀ t H', H' a = some (.ins (ob (if tw = true then 2 else 1)) dx (putF "entries" (.ref t) (putF "level" (.int l) []))) → H' t = some (.tup xs) → (∀ fs, Same (upd H a (.ins (ob (if tw = true then 2 else 1)) dx fs)) (upd H' a (.ins (ob (if tw = true then 2 else 1)) dx fs))) → Q .non H'
seal PE PT PW PA PS PSs PI PG PIfs PGs PO in
theorem ok_Page_init {P : Program} {w : World} {K : PySem.W.Frag} {mg : Str → Option Value} {base : Heap} {CT : Addr} {cs : Nat → Addr} {ob : Nat → Addr} {f : Addr} {fd : FuncData} (Z : Zs mg) (T : Tx K mg CT cs ob) (F : Fun K "__init__" "Page.__init__" s_Page_init f fd) : FnOk P w K mg base CX0 1 f fd ["self", "level", "entries"] (sp_Page_init K ob) := by
  refine F.ok sc_Page_init (fun vs H Q E h => ?_) (fun cdv A outer s H vs Q E hr h => ?_)
  · obtain ⟨a, tw, dx, l, e, b, xs, rfl, _⟩ := h; rfl
  obtain ⟨a, tw, dx, l, e, b, xs, rfl, ha, he, lx, q⟩ := h
  refine ⟨_, (@pss_cons _ _ _ _ _ (ps_fld (pv 0) (pv 1) rfl)
      (pss_one (ps_fld (pv 0) (pe_callTy call_tuple_of rfl (Z.tuple) bo_tuple (pa_c (pv 2) pa_nil)) rfl))), ?_⟩
  refine rd_start (σ := [some (.ref a), some (.int l), some (.ref e)]) rfl ?_
  walk_at "rd"
  have c := T.ob_ _ (ob12 (tw := tw))
  generalize ob (if tw = true then 2 else 1) = C at *
  refine rd_set c (by decide) rfl (y := .int l) (H1 := H) (fun Q q => ⟨_, rfl, q⟩) ha (by decide) ?_
  have he1 : HE b _ e xs := HE.upd_ins (o := .ins C dx (putF "level" (.int l) [])) he ha
  have last : ∀ (t : Addr) (H1 : Hp), H1 a = some (.ins C dx (putF "level" (.int l) [])) → H1 t = some (.tup xs) → (∀ fs, Same (upd H a (.ins C dx fs)) (upd H1 a (.ins C dx fs))) → Q .non (upd H1 a (.ins C dx (putF "entries" (.ref t) (putF "level" (.int l) [])))) := by
    intro t H1 h1 ht hsame
    have ta : t ≠ a := fun z => by rw [z, h1] at ht; cases ht
    exact q t _ upd_same (by rw [upd_ne ta]; exact ht) fun fs => by rw [upd_upd]; exact hsame fs
  cases b with
  | false =>
    refine ⟨_, rfl, e, rfl, xs, .inl ⟨SqL.of he1, fun t ht => ⟨_, rfl, a, C, dx, _, rfl, same_upd ht _ _ _ upd_same, c.cl, c.no _ (by decide), show 1 < 1000 by decide, ?_⟩⟩⟩
    have ta : t ≠ a := fun z => by rw [z, upd_same] at ht; cases ht
    refine last t _ (same_upd ht _ _ _ upd_same) upd_same fun fs => ?_
    rw [upd_swap (Ne.symm ta), upd_upd, ← upd_swap (Ne.symm ta)]
    exact same_upd (by rw [upd_ne ta] at ht ⊢; exact ht) _
  | true =>
    refine ⟨_, rfl, e, rfl, xs, .inr ⟨SqT.of he1, ⟨_, rfl, a, C, dx, _, rfl, upd_same, c.cl, c.no _ (by decide), show 1 < 1000 by decide, ?_⟩⟩⟩
    exact last e _ upd_same he1 fun fs => by rw [upd_upd]; exact Same.refl _
theorem sameT_ins {H H' : Hp} {a C dx C' dx' : Addr} {fs fs' : List (Str × V)} (ha : H a = some (.ins C dx fs)) (s : Same (upd H a (.ins C' dx' fs')) H') : SameT H H' := fun b xs e => s _ _ (by rw [upd_ne (ne_of e ha (by intro z; cases z))]; exact e)
def sp_Leaf_init (K : PySem.W.Frag) (ob : Nat → Addr) : Sp := fun vs H Q _ => ∃ a dx e b xs es, vs = [.ref a, .ref e] ∧ H a = some (.ins (ob 1) dx []) ∧ HE b H e xs ∧ Paired (fun d v => TD H 6 d v) es xs ∧ xs.length ≤ 900 ∧ ∀ dx fs H', Same (upd H a (.ins (ob 1) dx fs)) H' → PgD ob H' a 0 es → Q .non H'
seal PE PT PW PA PS PSs PI PG PIfs PGs PO in
theorem ok_Leaf_init {P : Program} {w : World} {K : PySem.W.Frag} {mg : Str → Option Value} {base : Heap} {CT : Addr} {cs : Nat → Addr} {ob : Nat → Addr} {f : Addr} {fd : FuncData} (Z : Zs mg) (T : Tx K mg CT cs ob) (B_Page : BaI P w K mg base 1 "Page" (sp_Page_init K ob)) (F : Fun K "__init__" "Leaf.__init__" s_Leaf_init f fd) : FnOk P w K mg base CX0 2 f fd ["self", "rows"] (sp_Leaf_init K ob) := by
  refine F.ok sc_Leaf_init (fun vs H Q E h => ?_) (fun cdv A outer s H vs Q E hr h => ?_)
  · obtain ⟨a, dx, e, b, xs, es, rfl, _⟩ := h; rfl
  obtain ⟨a, dx, e, b, xs, es, rfl, ha, he, re, lx, q⟩ := h
  refine ⟨_, (@pss_cons _ _ _ _ _ (ps_expr (pe_bainit B_Page (k := 1) hr (by decide) rfl (pa_c (pv 0) (pa_c pe_int (pa_c (pv 1) pa_nil)))))
      (pss_one (ps_fld (pv 0) (pe_fld (pv 0) rfl) rfl))), ?_⟩
  refine rd_start (σ := [some (.ref a), some (.ref e)]) rfl ?_
  walk_at "rd"
  have c := T.ob_ 1 (by decide)
  refine ⟨a, false, dx, 0, e, b, xs, rfl, ha, he, lx, fun t H1 h1 ht hs => ?_⟩
  have ta : t ≠ a := fun z => by rw [z, h1] at ht; cases ht
  refine rd_set c (by decide) rfl (y := .ref t) (H1 := H1) (fun Q q => rd_fld c (by decide) rfl h1 rfl q) h1 (show 2 < 1000 by decide) ?_
  exact q dx _ _ (hs _) ⟨false, dx, t, rfl, upd_same, TD.ofT (by rw [upd_ne ta]; exact ht) (TDs.sameT re (sameT_ins ha (hs _)))⟩
def sp_Twig_init (K : PySem.W.Frag) (ob : Nat → Addr) : Sp := fun vs H Q _ => ∃ a dx l e b xs es, vs = [.ref a, .int l, .ref e] ∧ l ≠ 0 ∧ H a = some (.ins (ob 2) dx []) ∧ HE b H e xs ∧ Paired (fun d v => TD H 6 d v) es xs ∧ xs.length ≤ 900 ∧ ∀ dx fs H', Same (upd H a (.ins (ob 2) dx fs)) H' → PgD ob H' a l es → Q .non H'
seal PE PT PW PA PS PSs PI PG PIfs PGs PO in
theorem ok_Twig_init {P : Program} {w : World} {K : PySem.W.Frag} {mg : Str → Option Value} {base : Heap} {CT : Addr} {cs : Nat → Addr} {ob : Nat → Addr} {f : Addr} {fd : FuncData} (Z : Zs mg) (T : Tx K mg CT cs ob) (B_Page : BaI P w K mg base 1 "Page" (sp_Page_init K ob)) (F : Fun K "__init__" "Twig.__init__" s_Twig_init f fd) : FnOk P w K mg base CX0 2 f fd ["self", "level", "heads"] (sp_Twig_init K ob) := by
  refine F.ok sc_Twig_init (fun vs H Q E h => ?_) (fun cdv A outer s H vs Q E hr h => ?_)
  · obtain ⟨a, dx, l, e, b, xs, es, rfl, _⟩ := h; rfl
  obtain ⟨a, dx, l, e, b, xs, es, rfl, hl, ha, he, re, lx, q⟩ := h
  refine ⟨_, (@pss_cons _ _ _ _ _ (ps_expr (pe_bainit B_Page (k := 1) hr (by decide) rfl (pa_c (pv 0) (pa_c (pv 1) (pa_c (pv 2) pa_nil)))))
      (pss_one (ps_fld (pv 0) (pe_fld (pv 0) rfl) rfl))), ?_⟩
  refine rd_start (σ := [some (.ref a), some (.int l), some (.ref e)]) rfl ?_
  walk_at "rd"
  have c := T.ob_ 2 (by decide)
  refine ⟨a, true, dx, l, e, b, xs, rfl, ha, he, lx, fun t H1 h1 ht hs => ?_⟩
  have ta : t ≠ a := fun z => by rw [z, h1] at ht; cases ht
  refine rd_set c (by decide) rfl (y := .ref t) (H1 := H1) (fun Q q => rd_fld c (by decide) rfl h1 rfl q) h1 (show 2 < 1000 by decide) ?_
  exact q dx _ _ (hs _) ⟨true, dx, t, (decide_eq_true hl).symm, upd_same, TD.ofT (by rw [upd_ne ta]; exact ht) (TDs.sameT re (sameT_ins ha (hs _)))⟩
--@SPLIT
/-- what a store holds: the number, how the page is told, where that tuple lies -/
abbrev StL := List (Int × Dt × Addr)
def stF (d1 d2 : Addr) (c : Int) : List (Str × V) := putF "count" (.int c) (putF "number_by_told" (.ref d2) (putF "told_by_number" (.ref d1) []))
def numOf (x : Int × Dt × Addr) : Key × V := (.inl x.1, .ref x.2.2)
def tolOf (x : Int × Dt × Addr) : Dt × Addr × V := (x.2.1, x.2.2, .int x.1)
/-- a page's data: its first entry begins with a key -/
def PgSh (d : Dt) : Prop := ∃ l k r, ∃ es : List Dt, d = tdOf l (.t (.v k :: r) :: es) ∧ hV k = true ∧ es.length < 900
structure StAt (P : Program) (w : World) (ob : Nat → Addr) (H : Hp) (p d1 d2 : Addr) (st : StL) (c : Int) : Prop where
  obj : ∃ dx, H p = some (.ins (ob 3) dx (stF d1 d2 c))
  num : H d1 = some (.dK (st.map numOf))
  tol : H d2 = some (dN P w d2 (st.map tolOf))
  td : ∀ x ∈ st, TD H 8 x.2.1 (.ref x.2.2)
  sh : ∀ x ∈ st, PgSh x.2.1
  lt : ∀ x ∈ st, x.1 < c
  nn : (st.map (·.1)).Nodup
  nd : (st.map (·.2.1)).Nodup
  few : st.length ≤ 20000
section
variable {P : Program} {w : World} {K : PySem.W.Frag} {ob : Nat → Addr} {H H' : Hp} {p d1 d2 : Addr} {st : StL} {c : Int}
theorem StAt.pd1 (h : StAt P w ob H p d1 d2 st c) : p ≠ d1 := by
  obtain ⟨dx, e⟩ := h.obj
  exact ne_of e h.num (by intro z; cases z)
theorem StAt.pd2 (h : StAt P w ob H p d1 d2 st c) : p ≠ d2 := by
  obtain ⟨dx, e⟩ := h.obj
  exact ne_of e h.tol (by intro z; cases z)
theorem StAt.d12 (h : StAt P w ob H p d1 d2 st c) : d1 ≠ d2 := ne_of h.num h.tol (by intro z; cases z)
/-- nothing of the store itself was touched -/
theorem StAt.keep (h : StAt P w ob H p d1 d2 st c) (s : SameT H H') (hp : H' p = H p) (h1 : H' d1 = H d1) (h2 : H' d2 = H d2) : StAt P w ob H' p d1 d2 st c :=
  ⟨by rw [hp]; exact h.obj, by rw [h1]; exact h.num, by rw [h2]; exact h.tol, fun x hx => TD.sameT s 8 (h.td x hx), h.sh, h.lt, h.nn, h.nd, h.few⟩
theorem StAt.same (h : StAt P w ob H p d1 d2 st c) (s : Same H H') : StAt P w ob H' p d1 d2 st c := by
  obtain ⟨dx, e⟩ := h.obj
  exact h.keep s.t (by rw [s _ _ e, e]) (by rw [s _ _ h.num, h.num]) (by rw [s _ _ h.tol, h.tol])
theorem StAt.dn (h : StAt P w ob H p d1 d2 st c) : DnAt P w K H d2 (st.map tolOf) := ⟨h.tol, fun x hx => by
  obtain ⟨y, hy, rfl⟩ := List.mem_map.mp hx
  exact ⟨(h.td y hy).rep, (h.td y hy).h⟩⟩
theorem StAt.get (h : StAt P w ob H p d1 d2 st c) {x : Int × Dt × Addr} (hx : x ∈ st) : valV (st.map numOf) (.inl x.1) = some (.ref x.2.2) := by
  rw [valV_mapF]
  have : (fun y : Int × Dt × Addr => decide ((numOf y).1 = (Sum.inl x.1 : Key))) = fun y => decide (y.1 = x.1) := by
    funext y
    exact decide_eq_decide.mpr ⟨fun e => by injection e, fun e => by show Sum.inl _ = _; rw [e]⟩
  rw [this, find_key (fun y : Int × Dt × Addr => y.1) h.nn hx]; rfl
theorem StAt.getN (h : StAt P w ob H p d1 d2 st c) {x : Int × Dt × Addr} (hx : x ∈ st) : valN (st.map tolOf) x.2.1 = some (.int x.1) := by
  rw [valN_map]
  have := find_key (fun y : Int × Dt × Addr => y.2.1) h.nd hx
  rw [show (fun y : Int × Dt × Addr => decide ((tolOf y).1 = x.2.1)) = fun y => decide (y.2.1 = x.2.1) from rfl, this]; rfl
theorem StAt.fun_ (h : StAt P w ob H p d1 d2 st c) {n : Int} {d d' : Dt} {t t' : Addr} (h1 : (n, d, t) ∈ st) (h2 : (n, d', t') ∈ st) : d = d' ∧ t = t' := by
  have e1 := find_key (fun y : Int × Dt × Addr => y.1) h.nn h1
  have e2 := find_key (fun y : Int × Dt × Addr => y.1) h.nn h2
  have e := e1.symm.trans e2
  injection e with e
  injection e with _ e
  injection e with a b
  exact ⟨a, b⟩
theorem St_no {st : StL} {n : Int} (h : ∀ x ∈ st, x.1 ≠ n) : valV (st.map numOf) (.inl n) = none := by
  rw [valV_mapF]
  have : (fun y : Int × Dt × Addr => decide ((numOf y).1 = (Sum.inl n : Key))) = fun y => decide (y.1 = n) := by
    funext y
    exact decide_eq_decide.mpr ⟨fun e => by injection e, fun e => by show Sum.inl _ = _; rw [e]⟩
  rw [this, find_no (fun y : Int × Dt × Addr => y.1) h]; rfl
theorem St_noN {st : StL} {d : Dt} (h : ∀ x ∈ st, x.2.1 ≠ d) : valN (st.map tolOf) d = none := by
  rw [valN_map]
  have := find_no (fun y : Int × Dt × Addr => y.2.1) h
  rw [show (fun y : Int × Dt × Addr => decide ((tolOf y).1 = d)) = fun y => decide (y.2.1 = d) from rfl, this]; rfl
theorem sameT_st (h : StAt P w ob H p d1 d2 st c) (s : SameX [p, d1, d2] H H') : SameT H H' := fun b xs e => s b _ (fun z => by
  obtain ⟨dx, eo⟩ := h.obj
  rcases List.mem_cons.mp z with z | z
  · rw [z, eo] at e; cases e
  rcases List.mem_cons.mp z with z | z
  · rw [z, h.num] at e; cases e
  · rw [List.mem_singleton.mp z, h.tol] at e; cases e) e
end
def sp_Pages_init (P : Program) (w : World) (ob : Nat → Addr) : Sp := fun vs H Q _ => ∃ p dx, vs = [.ref p] ∧ H p = some (.ins (ob 3) dx []) ∧ ∀ d1 d2 H' dx fs, H d1 = none → H d2 = none → Same (upd H p (.ins (ob 3) dx fs)) H' → StAt P w ob H' p d1 d2 [] 0 → Q .non H'
seal PE PT PW PA PS PSs PI PG PIfs PGs PO in
theorem ok_Pages_init {P : Program} {w : World} {K : PySem.W.Frag} {mg : Str → Option Value} {base : Heap} {CT : Addr} {cs : Nat → Addr} {ob : Nat → Addr} {f : Addr} {fd : FuncData} (Z : Zs mg) (T : Tx K mg CT cs ob) (F : Fun K "__init__" "Pages.__init__" s_Pages_init f fd) : FnOk P w K mg base CX0 1 f fd ["self"] (sp_Pages_init P w ob) := by
  refine F.ok sc_Pages_init (fun vs H Q E h => ?_) (fun cdv A outer s H vs Q E hr h => ?_)
  · obtain ⟨a, dx, rfl, _⟩ := h; rfl
  obtain ⟨a, dx, rfl, ha, q⟩ := h
  refine ⟨_, (@pss_cons _ _ _ _ _ (ps_fld (pv 0) pe_dnewK rfl)
      (@pss_cons _ _ _ _ _ (ps_fld (pv 0) pe_dnewN rfl)
      (pss_one (ps_fld (pv 0) pe_int rfl)))), ?_⟩
  refine rd_start (σ := [some (.ref a)]) rfl ?_
  walk_at "rd"
  have c := T.ob_ 3 (by decide)
  intro p hp
  have pa : a ≠ p := fun z => by rw [← z, ha] at hp; cases hp
  refine ⟨_, rfl, a, ob 3, dx, _, rfl, by rw [upd_ne pa]; exact ha, c.cl, c.no _ (by decide), by decide, ?_⟩
  intro p2 hp2
  have pa2 : a ≠ p2 := fun z => by rw [← z, upd_same] at hp2; cases hp2
  have hp2' : upd H p (.dK []) p2 = none := by rw [upd_ne (Ne.symm pa2)] at hp2; exact hp2
  have pp : p2 ≠ p := fun z => by rw [z, upd_same] at hp2'; cases hp2'
  have hp2'' : H p2 = none := by rw [upd_ne pp] at hp2'; exact hp2'
  refine ⟨_, rfl, a, ob 3, dx, putF "told_by_number" (.ref p) [], rfl, by rw [upd_ne pa2]; exact upd_same, c.cl, c.no _ (by decide), (show 1 < 1000 by decide), ?_⟩
  refine ⟨_, rfl, a, ob 3, dx, putF "number_by_told" (.ref p2) (putF "told_by_number" (.ref p) []), rfl, upd_same, c.cl, c.no _ (by decide), (show 2 < 1000 by decide), ?_⟩
  show Q V.non _
  rw [upd_upd]
  refine q p p2 _ dx (stF p p2 0) hp hp2'' (fun b o hb => ?_) ⟨⟨dx, upd_same⟩, ?_, ?_, (fun x hx => nomatch hx), (fun x hx => nomatch hx), (fun x hx => nomatch hx), List.nodup_nil, List.nodup_nil, Nat.zero_le _⟩
  · by_cases e : b = a
    · rw [e, upd_same] at hb ⊢; exact hb
    · rw [upd_ne e] at hb ⊢
      rw [upd_ne (ne_of_none hb hp2''), upd_ne e, upd_ne (ne_of_none hb hp)]; exact hb
  · rw [upd_ne (Ne.symm pa), upd_ne (Ne.symm pp), upd_ne (Ne.symm pa)]; exact upd_same
  · rw [upd_ne (Ne.symm pa2)]; exact upd_same
def sp_Pages_kept (P : Program) (w : World) (ob : Nat → Addr) : Sp := fun vs H Q E => ∃ p d1 d2 st c a l es, vs = [.ref p, .ref a] ∧ StAt P w ob H p d1 d2 st c ∧ PgD ob H a l es ∧ PgSh (tdOf l es) ∧ st.length < 20000 ∧
  (∀ n t, (n, tdOf l es, t) ∈ st → ∀ H', Same H H' → Q (.int n) H') ∧
  ((∀ x ∈ st, x.2.1 ≠ tdOf l es) → ∀ t H', SameX [p, d1, d2] H H' → StAt P w ob H' p d1 d2 (st ++ [(c, tdOf l es, t)]) (c + 1) → Q (.int c) H')
seal PE PT PW PA PS PSs PI PG PIfs PGs PO in
theorem ok_Pages_kept {P : Program} {w : World} {K : PySem.W.Frag} {mg : Str → Option Value} {base : Heap} {CT : Addr} {cs : Nat → Addr} {ob : Nat → Addr} {f : Addr} {fd : FuncData} (Z : Zs mg) (T : Tx K mg CT cs ob) (M_Page_told : MeV P w K mg base 1 (ob 0) "told" (sp_Page_told K ob)) (M_Leaf_told : MeV P w K mg base 1 (ob 1) "told" (sp_Page_told K ob)) (M_Twig_told : MeV P w K mg base 1 (ob 2) "told" (sp_Page_told K ob)) (F : Fun K "kept" "Pages.kept" s_Pages_kept f fd) : FnOk P w K mg base (CX1 P w) 2 f fd ["self", "page"] (sp_Pages_kept P w ob) := by
  refine F.ok1 sc_Pages_kept (fun vs H Q E h => ?_) (fun cdv A outer s H vs Q E hr h => ?_)
  · obtain ⟨p, d1, d2, st, c, a, l, es, rfl, _⟩ := h; rfl
  obtain ⟨p, d1, d2, st, c, a, l, es, rfl, hS, hP, hsh, few, q1, q2⟩ := h
  refine ⟨_, (@pss_cons _ _ _ _ _ (ps_set (i := 2) sc_Pages_kept.nd rfl (Or.inl rfl) (PE1.pe (pe1_methV0 (k := 1) (pv 1) hr rfl) throws0))
      (@pss_cons _ _ _ _ _ (ps_if (pt_cmp (pc_nin hr.u9 (pv 2) (pe_fld (pv 0) rfl))) (pss_one (ps_ret (pe_nget hr.u9 (pe_fld (pv 0) rfl) (pv 2) (fun _ _ => rfl)))) pss_nil)
      (@pss_cons _ _ _ _ _ (ps_set (i := 3) sc_Pages_kept.nd rfl (Or.inl rfl) (pe_fld (pv 0) rfl))
      (@pss_cons _ _ _ _ _ (ps_dput hr.u1 (pe_fld (pv 0) rfl) (pv 3) (pv 2) rfl)
      (@pss_cons _ _ _ _ _ (ps_nput hr.u9 (pe_fld (pv 0) rfl) (pv 2) (pv 3) rfl)
      (@pss_cons _ _ _ _ _ (ps_fld (pv 0) (pe_op op_add (pv 3) pe_int) rfl)
      (pss_one (ps_ret (pv 3))))))))), ?_⟩
  refine rd_start (σ := [some (.ref p), some (.ref a), none, none]) rfl ?_
  walk_at "rd"
  obtain ⟨dx, ho⟩ := hS.obj
  have cc := T.ob_ 3 (by decide)
  obtain ⟨tw, dxa, t0, etw, ha, ht⟩ := id hP
  have Mt : MeV P w K mg base 1 (ob (if tw = true then 2 else 1)) "told" (sp_Page_told K ob) := by cases tw with | true => exact M_Twig_told | false => exact M_Leaf_told
  refine rd_methV0 rfl ha (by cases tw <;> rfl) (T.ob_ _ ob12).cl Mt ⟨a, l, es, rfl, hP, fun r H1 s1 hr1 t1 => ?_⟩
  have hS1 := hS.same s1
  have ho1 := s1 _ _ ho
  refine rd_fld cc (by decide) rfl ho1 rfl ⟨d2, rfl, r, rfl, _, hS1.dn, tdOf l es, t1.rep, t1.h, ?_⟩
  by_cases hx : ∃ x ∈ st, x.2.1 = tdOf l es
  · obtain ⟨⟨n, d, t⟩, hm, e⟩ := hx
    dsimp only at e
    subst e
    have g := hS1.getN hm
    dsimp only at g
    rw [g, if_pos (show (some (V.int n)).isSome = true from rfl)]
    exact rd_fld cc (by decide) rfl ho1 rfl ⟨d2, rfl, r, rfl, _, hS1.dn, tdOf l es, t1.rep, t1.h, _, g, q1 n t hm _ s1⟩
  · have hx' : ∀ x ∈ st, x.2.1 ≠ tdOf l es := fun x h e => hx ⟨x, h, e⟩
    have hc : ∀ x ∈ st, x.1 ≠ c := fun x h e => by have := hS.lt x h; omega
    rw [St_noN hx', if_neg (by decide)]
    refine rd_fld cc (by decide) rfl ho1 rfl ?_
    refine rd_fld cc (by decide) rfl ho1 rfl ⟨d1, rfl, _, DPut.k (k := .inl c) hS1.num (by rw [List.length_map, sizeLine_eq]; omega), ?_⟩
    rw [putK_new _ (St_no hc)]
    have sx2 : SameX [p, d1, d2] H1 (upd H1 d1 (.dK (st.map numOf ++ [(.inl c, .ref r)]))) := (SameX.refl _ _).upd (by simp)
    have st2 := sameT_st hS1 sx2
    refine rd_fld cc (by decide) rfl (by rw [upd_ne hS.pd1]; exact ho1) rfl ⟨d2, rfl, r, rfl, st.map tolOf, ⟨by rw [upd_ne (Ne.symm hS.d12)]; exact hS1.tol, fun x hx => ?_⟩, tdOf l es, (TD.sameT st2 8 t1).rep, t1.h, St_noN hx', by rw [List.length_map, sizeLine_eq]; omega, ?_⟩
    · obtain ⟨y, hy, rfl⟩ := List.mem_map.mp hx
      exact ⟨(TD.sameT st2 8 (hS1.td y hy)).rep, (hS1.td y hy).h⟩
    generalize e2 : upd H1 d1 (.dK (st.map numOf ++ [(.inl c, .ref r)])) = H2 at sx2 st2
    have sx3 : SameX [p, d1, d2] H1 (upd H2 d2 (dN P w d2 (st.map tolOf ++ [(tdOf l es, r, .int c)]))) := sx2.upd (by simp)
    have p3 : upd H2 d2 (dN P w d2 (st.map tolOf ++ [(tdOf l es, r, .int c)])) p = some (.ins (ob 3) dx (stF d1 d2 c)) := by rw [upd_ne hS.pd2, ← e2, upd_ne hS.pd1]; exact ho1
    refine rd_set (fs := stF d1 d2 c) cc (by decide) rfl (y := .int (c + 1)) (H1 := upd H2 d2 (dN P w d2 (st.map tolOf ++ [(tdOf l es, r, .int c)]))) (fun Q q => by
      simp only [tOp, tVar, tC, rI0]
      exact ⟨_, rfl, c, 1, rfl, rfl, q⟩) p3 (show 3 < 1000 by decide) ?_
    have sx4 : SameX [p, d1, d2] H1 (upd (upd H2 d2 (dN P w d2 (st.map tolOf ++ [(tdOf l es, r, .int c)]))) p (.ins (ob 3) dx (stF d1 d2 (c + 1)))) := sx3.upd (by simp)
    have st4 := sameT_st hS1 sx4
    refine ⟨_, rfl, q2 hx' r _ ((s1.x _).trans sx4) ⟨⟨dx, upd_same⟩, ?_, ?_, fun x hx => ?_, fun x hx => ?_, fun x hx => ?_, ?_, ?_, ?_⟩⟩
    · rw [upd_ne (Ne.symm hS.pd1), upd_ne hS.d12, ← e2, upd_same, List.map_append]; rfl
    · rw [upd_ne (Ne.symm hS.pd2), upd_same, List.map_append]; rfl
    · rcases List.mem_append.mp hx with h | h
      · exact TD.sameT st4 8 (hS1.td x h)
      · rw [List.mem_singleton.mp h]; exact TD.sameT st4 8 t1
    · rcases List.mem_append.mp hx with h | h
      · exact hS.sh x h
      · rw [List.mem_singleton.mp h]; exact hsh
    · rcases List.mem_append.mp hx with h | h
      · have := hS.lt x h; omega
      · rw [List.mem_singleton.mp h]; show c < c + 1; omega
    · rw [List.map_append, List.nodup_append]
      refine ⟨hS.nn, by simp, fun a ha b hb e => ?_⟩
      obtain ⟨y, hy, rfl⟩ := List.mem_map.mp ha
      simp at hb
      exact hc y hy (by rw [e, hb])
    · rw [List.map_append, List.nodup_append]
      refine ⟨hS.nd, by simp, fun a ha b hb e => ?_⟩
      obtain ⟨y, hy, rfl⟩ := List.mem_map.mp ha
      simp at hb
      exact hx' y hy (by rw [e, hb])
    · rw [List.length_append]; show _ + 1 ≤ 20000; omega
--@SPLIT
def sp_columns_unlike (_ : PySem.W.Frag) : Sp := fun vs H Q _ => ∃ (t1 t2 a1 a2 : Addr) (x1 x2 : V) (us zs : List Str), vs = [.ref t1, .ref t2] ∧ H t1 = some (.tup [.ref a1, x1]) ∧ H a1 = some (.tup (us.map V.str)) ∧ H t2 = some (.tup [.ref a2, x2]) ∧ H a2 = some (.tup (zs.map V.str)) ∧ us.length ≤ 900 ∧ zs.length ≤ 900 ∧
  ∀ r r1 r2 H', Same H H' → H r1 = none → H r2 = none → r1 ≠ r2 → H' r = some (.tup [.ref r1, .ref r2]) → H' r1 = some (.lst ((zs.filter fun z => !decide (z ∈ us)).map V.str)) → H' r2 = some (.lst ((us.filter fun z => !decide (z ∈ zs)).map V.str)) → Q (.ref r) H'
seal PE PT PW PA PS PSs PI PG PIfs PGs PO in
theorem ok_columns_unlike {P : Program} {w : World} {K : PySem.W.Frag} {mg : Str → Option Value} {base : Heap} {CT : Addr} {cs : Nat → Addr} {ob : Nat → Addr} {f : Addr} {fd : FuncData} (Z : Zs mg) (T : Tx K mg CT cs ob) (F : Fun K "columns_unlike" "columns_unlike" s_columns_unlike f fd) : FnOk P w K mg base CX0 1 f fd ["one", "other"] (sp_columns_unlike K) := by
  refine F.ok sc_columns_unlike (fun vs H Q E h => ?_) (fun cdv A outer s H vs Q E hr h => ?_)
  · obtain ⟨t1, t2, a1, a2, x1, x2, us, zs, rfl, _⟩ := h; rfl
  obtain ⟨t1, t2, a1, a2, x1, x2, us, zs, rfl, h1, g1, h2, g2, lu, lz, q⟩ := h
  refine ⟨_, (@pss_cons _ _ _ _ _ (ps_lcomp (j := 2) ["one", "other", "put_in", "dropped"] rfl sc_columns_unlike.nd rfl rfl (blkOk (N := ["one", "other", "put_in", "dropped"]) (dsc := defScope s_columns_unlike) rfl rfl (by decide +kernel)) (pi_tup (pe_ix ix_tup (pv 1) pe_int (fun _ _ => rfl))) (fun _ _ _ _ _ => (pif_one (pt_cmpR (r := rInT K true) op_notinT (pv 0) (pe_ix (r := rIxT K) ix_tup (pv 1) pe_int (fun _ _ => rfl)) rfl))) (fun _ _ _ _ _ => (pv 0)))
      (@pss_cons _ _ _ _ _ (ps_lcomp (j := 3) ["one", "other", "put_in", "dropped"] rfl sc_columns_unlike.nd rfl rfl (blkOk (N := ["one", "other", "put_in", "dropped"]) (dsc := defScope s_columns_unlike) rfl rfl (by decide +kernel)) (pi_tup (pe_ix ix_tup (pv 0) pe_int (fun _ _ => rfl))) (fun _ _ _ _ _ => (pif_one (pt_cmpR (r := rInT K true) op_notinT (pv 0) (pe_ix (r := rIxT K) ix_tup (pv 2) pe_int (fun _ _ => rfl)) rfl))) (fun _ _ _ _ _ => (pv 0)))
      (pss_one (ps_ret (pe_tup (pa_c (pv 2) (pa_c (pv 3) pa_nil))))))), ?_⟩
  refine rd_start (σ := [some (.ref t1), some (.ref t2), none, none]) rfl ?_
  walk_at "rd"
  have pick : ∀ (us zs : List Str), ((zs.map V.str).filter (fun v => match v with | .str z => !decide (z ∈ us) | _ => false)).map id = (zs.filter fun z => !decide (z ∈ us)).map V.str := fun us zs => by
    rw [List.map_id, List.filter_map]; rfl
  refine ⟨_, SqT.of h2, _, at0 _ _, a2, rfl, ⟨_, SqT.of g2⟩, lcM_tup (zs.map V.str) (fun v => match v with | .str z => !decide (z ∈ us) | _ => false) id (SqT.of g2) (small_le (by rw [List.length_map]; omega)) (fun i x H2 R hx s r => ?_) (fun i x H2 R hx _ s r => ?_) fun r1 H2 hr1 s2 hd => ?_⟩
  · rw [List.getElem?_map] at hx
    obtain ⟨z, _, rfl⟩ := Option.map_eq_some_iff.mp hx
    walk_at "rd"
    exact ⟨_, SqT.of (s _ _ h1), _, at0 _ _, z, a1, us, rfl, rfl, SqT.of (s _ _ g1), _, rfl, r⟩
  · walk_at "rd"
    exact r
  rw [pick] at hd
  refine ⟨_, SqT.of (s2 _ _ h1), _, at0 _ _, a1, rfl, ⟨_, SqT.of (s2 _ _ g1)⟩, lcM_tup (us.map V.str) (fun v => match v with | .str z => !decide (z ∈ zs) | _ => false) id (SqT.of (s2 _ _ g1)) (small_le (by rw [List.length_map]; omega)) (fun i x H3 R hx s r => ?_) (fun i x H3 R hx _ s r => ?_) fun r2 H3 hr2 s3 hd2 => ?_⟩
  · rw [List.getElem?_map] at hx
    obtain ⟨z, _, rfl⟩ := Option.map_eq_some_iff.mp hx
    walk_at "rd"
    exact ⟨_, SqT.of (s _ _ (s2 _ _ h2)), _, at0 _ _, z, a2, zs, rfl, rfl, SqT.of (s _ _ (s2 _ _ g2)), _, rfl, r⟩
  · walk_at "rd"
    exact r
  rw [pick] at hd2
  have n2 : H r2 = none := by
    cases e : H r2 with
    | none => rfl
    | some o => rw [s2 _ _ e] at hr2; cases hr2
  refine ⟨two_ok, fun r hr => ?_⟩
  exact q r r1 r2 _ (s2.trans (s3.trans (same_upd hr _))) hr1 n2 (ne_of_none hd hr2) upd_same (same_upd hr _ _ _ (s3 _ _ hd)) (same_upd hr _ _ _ hd2)
--@SPLIT
def sp__law_cell (K : PySem.W.Frag) : Sp := fun vs H Q _ => ∃ (a : Addr) (ns : List Int) (k : Nat), vs = [.ref a, .int k] ∧ SqL K H a (ns.map V.int) ∧ ns.length ≤ 63 ∧ ∀ c, Q (.int c) H
seal PE PT PW PA PS PSs PI PG PIfs PGs PO in
theorem ok__law_cell {P : Program} {w : World} {K : PySem.W.Frag} {mg : Str → Option Value} {base : Heap} {CT : Addr} {cs : Nat → Addr} {ob : Nat → Addr} {f : Addr} {fd : FuncData} (Z : Zs mg) (T : Tx K mg CT cs ob) (F : Fun K "_law_cell" "_law_cell" s__law_cell f fd) : FnOk P w K mg base CX0 1 f fd ["_law_script", "_law_k"] (sp__law_cell K) := by
  refine F.ok sc__law_cell (fun vs H Q E h => ?_) (fun cdv A outer s H vs Q E hr h => ?_)
  · obtain ⟨a, ns, k, rfl, _⟩ := h; rfl
  obtain ⟨a, ns, k, rfl, hS, hl, q⟩ := h
  refine ⟨_, (@pss_cons _ _ _ _ _ (ps_if (pt_cmpR op_lt (pv 1) (pe_callB call_len_seq rfl (Z.len) bo_len (pa_c (pv 0) pa_nil)) (nomark _)) (pss_one (ps_ret (pe_ix ix_list (pv 0) (pv 1) (fun _ _ => rfl)))) pss_nil)
      (pss_one (ps_ret pe_int))), ?_⟩
  refine rd_start (σ := [some (.ref a), some (.int k)]) rfl ?_
  walk_at "rd"
  refine ⟨_, .inl hS, ite2 (fun h => ?_) fun _ => ?_⟩
  · rw [List.length_map] at h
    have hk : k < ns.length := by omega
    exact ⟨_, hS, .int ns[k], atI_nat (j := k) (by simp [hk]), q _⟩
  · exact q 0
theorem at_some {α : Type} {l : List α} {k : Int} (h0 : 0 ≤ k) (h1 : k < (l.length : Int)) : ∃ c, atI l k = some c := by
  have hk : k.toNat < l.length := by omega
  have ek : k = ((k.toNat : Nat) : Int) := by omega
  have h := atI_nat (xs := l) (j := k.toNat) (List.getElem?_eq_getElem hk)
  rw [← ek] at h
  exact ⟨_, h⟩
theorem letter {i : Int} (h0 : 0 ≤ i) (h1 : i < 26) : atI (Str.ofString "abcdefghijklmnopqrstuvwxyz").cps.toList i = some (97 + i.toNat) := by
  have h : ∀ n : Fin 26, (Str.ofString "abcdefghijklmnopqrstuvwxyz").cps.toList[n.val]? = some (97 + n.val) := by decide +kernel
  have := atI_nat (h ⟨i.toNat, by omega⟩)
  rwa [show ((i.toNat : Nat) : Int) = i by omega] at this
/-- the signs of a column -/
def colL (c : Int) (k : Nat) : List Nat :=
  if c / 9680 % 3 = 0 then List.replicate (c / 11 % (2 + c % 11 - 1)).toNat 109 ++ ([97 + (10 * ((k : Int) / 10) + c / 121 % 5).toNat, 97 + ((k : Int) % 10 + c / 605 % 16).toNat] ++ List.replicate (2 + c % 11 - c / 11 % (2 + c % 11 - 1) - 2).toNat 109)
  else if c / 9680 % 3 = 1 then [97 + ((k : Int) / 2 + c / 605 % 11).toNat] ++ List.replicate ((k : Int) % 2).toNat 98
  else [97 + (10 * ((k : Int) / 10) + c / 121 % 5).toNat, 97 + ((k : Int) % 10 + c / 605 % 16).toNat] ++ List.replicate ((k : Int) * (k : Int) % 7).toNat 109
theorem colL_inj (c : Int) {k k' : Nat} (h : colL c k = colL c k') : k = k' := by
  unfold colL at h
  split at h
  · have h := List.append_cancel_left h
    simp only [List.cons_append, List.cons.injEq] at h
    obtain ⟨a, b, _⟩ := h
    omega
  split at h
  · simp only [List.cons_append, List.nil_append, List.cons.injEq] at h
    obtain ⟨a, b⟩ := h
    have := congrArg List.length b
    rw [List.length_replicate, List.length_replicate] at this
    omega
  · simp only [List.cons_append, List.cons.injEq] at h
    obtain ⟨a, b, _⟩ := h
    omega
theorem cols_nodup {c : Int} {zs : List Str} {n : Nat} (h : zs.map (fun z => z.cps.toList) = (List.range n).map (colL c)) : zs.Nodup := by
  have : ((List.range n).map (colL c)).Nodup := List.pairwise_map.mpr (List.Pairwise.imp (fun {a b} hne e => hne (colL_inj c e)) List.nodup_range)
  rw [← h] at this
  exact List.Pairwise.imp (fun {a b} hne e => hne (by rw [e])) (List.pairwise_map.mp this)
def sp__law_columns (_ : PySem.W.Frag) : Sp := fun vs H Q _ => ∃ c : Int, vs = [.int c] ∧ ∀ r (zs : List Str) H', Same H H' → H r = none → H' r = some (.lst (zs.map V.str)) → zs.length = 30 → zs.Nodup → Q (.ref r) H'
seal PE PT PW PA PS PSs PI PG PIfs PGs PO in
theorem ok__law_columns {P : Program} {w : World} {K : PySem.W.Frag} {mg : Str → Option Value} {base : Heap} {CT : Addr} {cs : Nat → Addr} {ob : Nat → Addr} {f : Addr} {fd : FuncData} (Z : Zs mg) (T : Tx K mg CT cs ob) (F : Fun K "_law_columns" "_law_columns" s__law_columns f fd) : FnOk P w K mg base CX0 1 f fd ["_law_cell_here"] (sp__law_columns K) := by
  refine F.ok sc__law_columns (fun vs H Q E h => ?_) (fun cdv A outer s H vs Q E hr h => ?_)
  · obtain ⟨c, rfl, _⟩ := h; rfl
  obtain ⟨c, rfl, q⟩ := h
  refine ⟨_, (@pss_cons _ _ _ _ _ (ps_set (i := 1) sc__law_columns.nd rfl (Or.inl rfl) pe_str)
      (@pss_cons _ _ _ _ _ (ps_set (i := 2) sc__law_columns.nd rfl (Or.inl rfl) (pe_op op_add pe_int (pe_op op_mod (pv 0) pe_int)))
      (@pss_cons _ _ _ _ _ (ps_set (i := 3) sc__law_columns.nd rfl (Or.inl rfl) (pe_op op_mod (pe_op op_fdiv (pv 0) pe_int) (pe_op op_sub (pv 2) pe_int)))
      (@pss_cons _ _ _ _ _ (ps_set (i := 4) sc__law_columns.nd rfl (Or.inl rfl) (pe_lst pa_nil))
      (@pss_cons _ _ _ _ _ (ps_for PassesOwn.never rfl (pi_range1 rfl (Z.range) (pa_c pe_int pa_nil)) (pg_name (i := 5) sc__law_columns.nd rfl (Or.inl rfl)) (@pss_cons _ _ _ _ _ (ps_set (i := 6) sc__law_columns.nd rfl (Or.inl rfl) (pe_ix ix_str (pv 1) (pe_op op_add (pe_op op_mulB pe_int (pe_op op_fdiv (pv 5) pe_int)) (pe_op op_mod (pe_op op_fdiv (pv 0) pe_int) pe_int)) (fun _ _ => rfl)))
      (@pss_cons _ _ _ _ _ (ps_set (i := 7) sc__law_columns.nd rfl (Or.inl rfl) (pe_ix ix_str (pv 1) (pe_op op_add (pe_op op_mod (pv 5) pe_int) (pe_op op_mod (pe_op op_fdiv (pv 0) pe_int) pe_int)) (fun _ _ => rfl)))
      (pss_one (ps_if (pt_cmpR op_eq (pe_op op_mod (pe_op op_fdiv (pv 0) pe_int) pe_int) pe_int (nomark _)) (pss_one (ps_expr (pe_bm PySem.F.plainAttrs_list PySem.F.slot_list_append PySem.F.type_list_append mt_append (pv 4) (pa_c (pe_op op_add_str (pe_op op_add_str (pe_op op_add_str (pe_op op_repN pe_str (pv 3)) (pv 6)) (pv 7)) (pe_op op_repN pe_str (pe_op op_sub (pe_op op_sub (pv 2) (pv 3)) pe_int))) pa_nil)))) (pss_one (ps_if (pt_cmpR op_eq (pe_op op_mod (pe_op op_fdiv (pv 0) pe_int) pe_int) pe_int (nomark _)) (pss_one (ps_expr (pe_bm PySem.F.plainAttrs_list PySem.F.slot_list_append PySem.F.type_list_append mt_append (pv 4) (pa_c (pe_op op_add_str (pe_ix ix_str (pv 1) (pe_op op_add (pe_op op_fdiv (pv 5) pe_int) (pe_op op_mod (pe_op op_fdiv (pv 0) pe_int) pe_int)) (fun _ _ => rfl)) (pe_op op_repN pe_str (pe_op op_mod (pv 5) pe_int))) pa_nil)))) (pss_one (ps_expr (pe_bm PySem.F.plainAttrs_list PySem.F.slot_list_append PySem.F.type_list_append mt_append (pv 4) (pa_c (pe_op op_add_str (pe_op op_add_str (pv 6) (pv 7)) (pe_op op_repN pe_str (pe_op op_mod (pe_op op_mulB (pv 5) (pv 5)) pe_int))) pa_nil)))))))))))
      (pss_one (ps_ret (pv 4)))))))), ?_⟩
  refine rd_start (σ := [some (.int c), none, none, none, none, none, none, none]) rfl ?_
  walk_at "rd"
  refine ⟨by walk_at "side", by omega, by decide, fun p hp => ⟨by decide, by decide, ?_⟩⟩
  have m_ : (Str.ofString "m").cps.toList = [109] := by decide
  have b_ : (Str.ofString "b").cps.toList = [98] := by decide
  have rep : ∀ (n x : Nat), (List.replicate n [x]).flatten = List.replicate n x := fun n x => by
    induction n with
    | zero => rfl
    | succ n ih => rw [List.replicate_succ, List.flatten_cons, ih, List.replicate_succ]; rfl
  have len_ : ∀ z : Str, z.length = z.cps.toList.length := fun z => rfl
  have app_ : ∀ x y : Str, (x ++ y).cps.toList = x.cps.toList ++ y.cps.toList := fun x y => Array.toList_append
  have at9 : 0 ≤ c / 11 % (2 + c % 11 - 1) ∧ c / 11 % (2 + c % 11 - 1) < 2 + c % 11 - 1 := ⟨Int.emod_nonneg _ (by omega), Int.emod_lt_of_pos _ (by omega)⟩
  refine foR_range (fun i σ' H' => ∃ (zs : List Str) (x5 x6 x7 : Option V), σ' = [some (.int c), some (.str (Str.ofString "abcdefghijklmnopqrstuvwxyz")), some (.int (2 + c % 11)), some (.int (c / 11 % (2 + c % 11 - 1))), some (.ref p), x5, x6, x7] ∧ Same H H' ∧ H' p = some (.lst (zs.map V.str)) ∧ zs.map (fun z => z.cps.toList) = (List.range i).map (colL c)) ⟨[], _, _, _, rfl, same_upd hp _, upd_same, rfl⟩ ?_ ?_
  · rintro i σ' H' hi ⟨zs, x5, x6, x7, rfl, s1, g1, e1⟩
    have lz : zs.length = i := by have := congrArg List.length e1; simpa using this
    have put : ∀ z : Str, z.cps.toList = colL c i → ∃ (zs' : List Str), upd H' p (.lst (zs.map V.str ++ [.str z])) p = some (.lst (zs'.map V.str)) ∧ zs'.map (fun z => z.cps.toList) = (List.range (i + 1)).map (colL c) := fun z hz => ⟨zs ++ [z], by rw [upd_same]; simp, by rw [List.map_append, e1, List.range_succ, List.map_append]; simp [hz]⟩
    walk_at "rd"
    simp only [Int.zero_add]
    have hs : 100000 ≤ sizeLine := by decide
    have ab : (Str.ofString "abcdefghijklmnopqrstuvwxyz").length ≤ sizeLine := by decide
    refine ⟨by walk_at "side", by walk_at "side", by walk_at "side", ab, _, letter (by omega) (by omega), by walk_at "side", ab, _, letter (by omega) (by omega), by walk_at "side", ite2 (fun h => ?_) fun h => ?_⟩
    · refine ⟨.inl ⟨rfl, _, SqL.of g1⟩, _, _, rfl, rfl, by omega, by omega, by decide, fun r1 h1 => ⟨r1, rfl, ?_⟩⟩
      rw [m_, rep] at h1
      refine ⟨?_, ?_, _, _, rfl, rfl, by omega, by omega, by decide, fun r2 h2 => ⟨r2, rfl, ?_, _, g1, small1000 (by rw [List.length_map]; omega), ?_⟩⟩
      · rw [len_ r1, h1, List.length_replicate]; show _ + 1 ≤ _; omega
      · rw [len_, app_, h1, List.length_append, List.length_replicate]; show _ + 1 + 1 ≤ _; omega
      · rw [m_, rep] at h2
        rw [len_ r2, h2, len_, app_, app_, h1, List.length_append, List.length_append, List.length_replicate, List.length_replicate]; show _ + 1 + 1 + _ ≤ _; omega
      · rw [m_, rep] at h2
        obtain ⟨zs', g', e'⟩ := put _ (show (r1 ++ ⟨#[97 + (10 * ((i : Int) / 10) + c / 121 % 5).toNat]⟩ ++ ⟨#[97 + ((i : Int) % 10 + c / 605 % 16).toNat]⟩ ++ r2 : Str).cps.toList = colL c i by
          rw [app_, app_, app_, h1, h2]
          unfold colL
          rw [if_pos h]
          simp only [List.append_assoc]; rfl)
        exact ⟨zs', _, _, _, ⟨rfl, rfl, rfl⟩, same_updN s1 hp, g', e'⟩
    refine ⟨by walk_at "side", ite2 (fun h' => ?_) fun h' => ?_⟩
    · refine ⟨.inl ⟨rfl, _, SqL.of g1⟩, by walk_at "side", by walk_at "side", ab, _, letter (by omega) (by omega), _, _, rfl, rfl, by omega, by omega, by decide, fun r1 h1 => ⟨r1, rfl, ?_, _, g1, small1000 (by rw [List.length_map]; omega), ?_⟩⟩
      · rw [b_, rep] at h1
        rw [len_ r1, h1, List.length_replicate]; show 1 + _ ≤ _; omega
      · rw [b_, rep] at h1
        obtain ⟨zs', g', e'⟩ := put _ (show (⟨#[97 + ((i : Int) / 2 + c / 605 % 11).toNat]⟩ ++ r1 : Str).cps.toList = colL c i by
          rw [app_, h1]
          unfold colL
          rw [if_neg h, if_pos h'])
        exact ⟨zs', _, _, _, ⟨rfl, rfl, rfl⟩, same_updN s1 hp, g', e'⟩
    · refine ⟨.inl ⟨rfl, _, SqL.of g1⟩, show 1 + 1 ≤ _ by omega, by walk_at "side", _, _, rfl, rfl, by omega, by omega, by decide, fun r1 h1 => ⟨r1, rfl, ?_, _, g1, small1000 (by rw [List.length_map]; omega), ?_⟩⟩
      · rw [m_, rep] at h1
        rw [len_ r1, h1, List.length_replicate]; show 1 + 1 + _ ≤ _; omega
      · rw [m_, rep] at h1
        obtain ⟨zs', g', e'⟩ := put _ (show (⟨#[97 + (10 * ((i : Int) / 10) + c / 121 % 5).toNat]⟩ ++ ⟨#[97 + ((i : Int) % 10 + c / 605 % 16).toNat]⟩ ++ r1 : Str).cps.toList = colL c i by
          rw [app_, app_, h1]
          unfold colL
          rw [if_neg h, if_neg h']; rfl)
        exact ⟨zs', _, _, _, ⟨rfl, rfl, rfl⟩, same_updN s1 hp, g', e'⟩
  · rintro σ' H' ⟨zs, x5, x6, x7, rfl, s1, g1, e1⟩
    walk_at "rd"
    exact q p zs H' s1 hp g1 (by have := congrArg List.length e1; simpa using this) (cols_nodup e1)
--@SPLIT
theorem rep_strs {K : PySem.W.Frag} {H : Hp} {b : Addr} {zs : List Str} (hb : H b = some (.lst (zs.map V.str))) : Rep K H 1 (.l (zs.map fun z => .v (.str z))) (.ref b) := .l (SqL.of hb) (by simp) fun i d x h1 h2 => by
  rw [List.getElem?_map] at h1 h2
  obtain ⟨z, e, rfl⟩ := Option.map_eq_some_iff.mp h1
  rw [e] at h2
  cases h2
  exact .v rfl
def sp__law_alike (_ : PySem.W.Frag) : Sp := fun vs H Q _ => ∃ (t d r1 r2 a1 a2 : Addr) (us zs : List Str), vs = [.ref t, .ref d] ∧ H t = some (.tup [.ref r1, .ref r2]) ∧ H d = some (.tup [.ref a1, .ref a2]) ∧ H r1 = some (.lst (us.map V.str)) ∧ H r2 = some (.lst (zs.map V.str)) ∧ H a1 = some (.lst (us.map V.str)) ∧ H a2 = some (.lst (zs.map V.str)) ∧ r1 ≠ r2 ∧ ∀ H', SameX [r1, r2] H H' → Q (.bl true) H'
seal PE PT PW PA PS PSs PI PG PIfs PGs PO in
theorem ok__law_alike {P : Program} {w : World} {K : PySem.W.Frag} {mg : Str → Option Value} {base : Heap} {CT : Addr} {cs : Nat → Addr} {ob : Nat → Addr} {f : Addr} {fd : FuncData} (Z : Zs mg) (T : Tx K mg CT cs ob) (F : Fun K "_law_alike" "_law_alike" s__law_alike f fd) : FnOk P w K mg base CX0 1 f fd ["_law_found", "_law_due"] (sp__law_alike K) := by
  refine F.ok sc__law_alike (fun vs H Q E h => ?_) (fun cdv A outer s H vs Q E hr h => ?_)
  · obtain ⟨t, d, r1, r2, a1, a2, us, zs, rfl, _⟩ := h; rfl
  obtain ⟨t, d, r1, r2, a1, a2, us, zs, rfl, ht, hd, h1, h2, g1, g2, ne, q⟩ := h
  refine ⟨_, (@pss_cons _ _ _ _ _ (ps_if (PW.pt (pw_or (pt_not (pt_val (pe_callB call_isinst rfl (Z.isinstance) bo_isinstance (pa_c (pv 0) (pa_c (pe_bltn rfl (Z.tuple) bo_tuple (v := .ty "tuple") rfl) pa_nil))) (fun _ => rfl))) (pw_or1 (pt_cmpR op_ne (pe_callB call_len_seq rfl (Z.len) bo_len (pa_c (pv 0) pa_nil)) pe_int (nomark _))))) (pss_one (ps_ret pe_bl)) pss_nil)
      (@pss_cons _ _ _ _ _ (ps_if (PW.pt (pw_or (pt_not (pt_val (pe_callB call_isinst rfl (Z.isinstance) bo_isinstance (pa_c (pe_ix ix_tup (pv 0) pe_int (fun _ _ => rfl)) (pa_c (pe_bltn rfl (Z.list) bo_list (v := .ty "list") rfl) pa_nil))) (fun _ => rfl))) (pw_or1 (pt_not (pt_val (pe_callB call_isinst rfl (Z.isinstance) bo_isinstance (pa_c (pe_ix ix_tup (pv 0) pe_int (fun _ _ => rfl)) (pa_c (pe_bltn rfl (Z.list) bo_list (v := .ty "list") rfl) pa_nil))) (fun _ => rfl)))))) (pss_one (ps_ret pe_bl)) pss_nil)
      (@pss_cons _ _ _ _ _ (ps_if (PW.pt (pw_or (pt_cmpR (op_neD (hr.units)) (pe_ix ix_tup (pv 0) pe_int (fun _ _ => rfl)) (pe_ix ix_tup (pv 1) pe_int (fun _ _ => rfl)) (nomark _)) (pw_or1 (pt_cmpR (op_neD (hr.units)) (pe_ix ix_tup (pv 0) pe_int (fun _ _ => rfl)) (pe_ix ix_tup (pv 1) pe_int (fun _ _ => rfl)) (nomark _))))) (pss_one (ps_ret pe_bl)) pss_nil)
      (@pss_cons _ _ _ _ _ (ps_expr (pe_bm0 PySem.F.plainAttrs_list PySem.F.slot_list_clear PySem.F.type_list_clear mt_clear (pe_ix ix_tup (pv 0) pe_int (fun _ _ => rfl))))
      (@pss_cons _ _ _ _ _ (ps_expr (pe_bm0 PySem.F.plainAttrs_list PySem.F.slot_list_clear PySem.F.type_list_clear mt_clear (pe_ix ix_tup (pv 0) pe_int (fun _ _ => rfl))))
      (pss_one (ps_ret pe_bl))))))), ?_⟩
  refine rd_start (σ := [some (.ref t), some (.ref d)]) rfl ?_
  walk_at "rd"
  refine isI_of (.tup ht) kit_tup_tup ⟨_, rfl, ?_⟩
  rw [if_neg (by decide)]
  refine ⟨_, .inr (SqT.of ht), ?_⟩
  rw [if_neg (fun z => z rfl)]
  refine ⟨_, SqT.of ht, _, at0 _ _, isI_of (.lst h1) kit_lst_lst ⟨_, rfl, ?_⟩⟩
  rw [if_neg (by decide)]
  refine ⟨_, SqT.of ht, _, at1 _ _ _, isI_of (.lst h2) kit_lst_lst ⟨_, rfl, ?_⟩⟩
  rw [if_neg (by decide)]
  refine ⟨_, SqT.of ht, _, at0 _ _, _, SqT.of hd, _, at0 _ _, rD_same (n := 1) (by decide) (rep_strs h1) (rep_strs g1) ⟨_, rfl, ?_⟩⟩
  rw [if_neg (by decide)]
  refine ⟨_, SqT.of ht, _, at1 _ _ _, _, SqT.of hd, _, at1 _ _ _, rD_same (n := 1) (by decide) (rep_strs h2) (rep_strs g2) ⟨_, rfl, ?_⟩⟩
  rw [if_neg (by decide)]
  refine ⟨_, SqT.of ht, _, at0 _ _, .inl ⟨rfl, _, SqL.of h1⟩, r1, _, rfl, rfl, h1, ?_⟩
  have tr : t ≠ r1 := ne_of ht h1 (by intro z; cases z)
  have ht1 : upd H r1 (.lst []) t = some (.tup [.ref r1, .ref r2]) := by rw [upd_ne tr]; exact ht
  have h21 : upd H r1 (.lst []) r2 = some (.lst (zs.map V.str)) := by rw [upd_ne (Ne.symm ne)]; exact h2
  exact ⟨_, SqT.of ht1, _, at1 _ _ _, .inl ⟨rfl, _, SqL.of h21⟩, r2, _, rfl, rfl, h21, q _ (((SameX.refl _ _).upd (by simp)).upd (by simp))⟩
theorem pick_eq {ps : List (Str × Int)} (nd : (ps.map (·.1)).Nodup) (P Q : Str × Int → Bool) : ((ps.filter P).map (·.1)).filter (fun z => !decide (z ∈ (ps.filter Q).map (·.1))) = (ps.filter fun p => P p && !Q p).map (·.1) := by
  have key : ∀ p ∈ ps, decide (p.1 ∈ (ps.filter Q).map (·.1)) = Q p := fun p hp => by
    rw [Bool.eq_iff_iff, decide_eq_true_iff]
    constructor
    · intro h
      obtain ⟨p', h', e⟩ := List.mem_map.mp h
      obtain ⟨m', q'⟩ := List.mem_filter.mp h'
      have f1 := find_key (fun y : Str × Int => y.1) nd hp
      have f2 := find_key (fun y : Str × Int => y.1) nd m'
      rw [e, f1] at f2
      injection f2 with f2
      rw [f2]; exact q'
    · intro h
      exact List.mem_map.mpr ⟨p, List.mem_filter.mpr ⟨hp, h⟩, rfl⟩
  rw [List.filter_map, List.filter_filter]
  congr 1
  refine List.filter_congr fun p hp => ?_
  simp only [Function.comp]
  rw [key p hp, Bool.and_comm]
section
variable {P : Program} {w : World} {K : PySem.W.Frag} {ob : Nat → Addr} {H H' : Hp} {p d1 d2 : Addr} {st : StL} {c : Int}
theorem StAt.off (h : StAt P w ob H p d1 d2 st c) {b : Addr} {o : HO} (hb : H b = some o) (h1 : ∀ C dx fs, o ≠ .ins C dx fs) (h2 : ∀ kvs, o ≠ .dK kvs) (h3 : ∀ φ, o ≠ .ext φ) : b ∉ [p, d1, d2] := fun z => by
  obtain ⟨dx, eo⟩ := h.obj
  simp only [List.mem_cons, List.not_mem_nil, or_false] at z
  rcases z with z | z | z
  · rw [z, eo] at hb; injection hb with hb; exact h1 _ _ _ hb.symm
  · rw [z, h.num] at hb; injection hb with hb; exact h2 _ hb.symm
  · rw [z, h.tol] at hb; injection hb with hb; exact h3 _ hb.symm
theorem StAt.lst (h : StAt P w ob H p d1 d2 st c) (s : SameX [p, d1, d2] H H') {b : Addr} {xs : List V} (hb : H b = some (.lst xs)) : H' b = some (.lst xs) := s _ _ (h.off hb (by intros; intro z; cases z) (by intros; intro z; cases z) (by intros; intro z; cases z)) hb
theorem StAt.seq (h : StAt P w ob H p d1 d2 st c) (s : SameX [p, d1, d2] H H') {b : Addr} {xs : List V} (hb : SqL K H b xs) : SqL K H' b xs := by
  rcases hb with hb | hb
  · rcases hb with hb | ⟨o, hb⟩
    · exact .inl (.inl (h.lst s hb))
    · exact .inl (.inr ⟨o, s _ _ (h.off hb (by intros; intro z; cases z) (by intros; intro z; cases z) (by intros; intro z; cases z)) hb⟩)
  · exact .inr hb
end
/-- which columns are in the lists -/
def sOne (p : Str × Int) : Bool := decide (p.2 % 2 = 1)
def sOth (p : Str × Int) : Bool := decide (2 ≤ p.2)
def sAdd (p : Str × Int) : Bool := decide (p.2 = 2)
def sDro (p : Str × Int) : Bool := decide (p.2 = 1)
def liV (f : Str × Int → Bool) (ps : List (Str × Int)) : List V := ((ps.filter f).map (·.1)).map V.str
theorem liV_t {f : Str × Int → Bool} {ps : List (Str × Int)} {x : Str × Int} (h : f x = true) : liV f ps ++ [.str x.1] = liV f (ps ++ [x]) := by unfold liV; rw [List.filter_append]; simp [h]
theorem liV_f {f : Str × Int → Bool} {ps : List (Str × Int)} {x : Str × Int} (h : f x = false) : liV f ps = liV f (ps ++ [x]) := by unfold liV; rw [List.filter_append]; simp [h]
theorem liV_len {f : Str × Int → Bool} {ps : List (Str × Int)} : (liV f ps).length ≤ ps.length := by unfold liV; rw [List.length_map, List.length_map]; exact List.length_filter_le _ _
structure A4 (H : Hp) (p1 p2 p3 p4 : Addr) (ps : List (Str × Int)) : Prop where
  at1 : H p1 = some (.lst (liV sOne ps))
  at2 : H p2 = some (.lst (liV sOth ps))
  at3 : H p3 = some (.lst (liV sAdd ps))
  at4 : H p4 = some (.lst (liV sDro ps))
structure L4 (H0 H : Hp) (p1 p2 p3 p4 : Addr) (a b c d : List (Str × Int)) : Prop where
  same : Same H0 H
  at1 : H p1 = some (.lst (liV sOne a))
  at2 : H p2 = some (.lst (liV sOth b))
  at3 : H p3 = some (.lst (liV sAdd c))
  at4 : H p4 = some (.lst (liV sDro d))
  new : H0 p1 = none ∧ H0 p2 = none ∧ H0 p3 = none ∧ H0 p4 = none
  nd : p1 ≠ p2 ∧ p1 ≠ p3 ∧ p1 ≠ p4 ∧ p2 ≠ p3 ∧ p2 ≠ p4 ∧ p3 ≠ p4
section
variable {H0 H H' : Hp} {p1 p2 p3 p4 : Addr} {a b c d a' : List (Str × Int)}
theorem L4.go (h : L4 H0 H p1 p2 p3 p4 a b c d) (s : Same H H') : L4 H0 H' p1 p2 p3 p4 a b c d := ⟨h.same.trans s, s _ _ h.at1, s _ _ h.at2, s _ _ h.at3, s _ _ h.at4, h.new, h.nd⟩
theorem L4.up1 (h : L4 H0 H p1 p2 p3 p4 a b c d) : L4 H0 (upd H p1 (.lst (liV sOne a'))) p1 p2 p3 p4 a' b c d := ⟨same_updN h.same h.new.1, upd_same, by rw [upd_ne (Ne.symm h.nd.1)]; exact h.at2, by rw [upd_ne (Ne.symm h.nd.2.1)]; exact h.at3, by rw [upd_ne (Ne.symm h.nd.2.2.1)]; exact h.at4, h.new, h.nd⟩
theorem L4.up2 (h : L4 H0 H p1 p2 p3 p4 a b c d) : L4 H0 (upd H p2 (.lst (liV sOth a'))) p1 p2 p3 p4 a a' c d := ⟨same_updN h.same h.new.2.1, by rw [upd_ne h.nd.1]; exact h.at1, upd_same, by rw [upd_ne (Ne.symm h.nd.2.2.2.1)]; exact h.at3, by rw [upd_ne (Ne.symm h.nd.2.2.2.2.1)]; exact h.at4, h.new, h.nd⟩
theorem L4.up3 (h : L4 H0 H p1 p2 p3 p4 a b c d) : L4 H0 (upd H p3 (.lst (liV sAdd a'))) p1 p2 p3 p4 a b a' d := ⟨same_updN h.same h.new.2.2.1, by rw [upd_ne h.nd.2.1]; exact h.at1, by rw [upd_ne h.nd.2.2.2.1]; exact h.at2, upd_same, by rw [upd_ne (Ne.symm h.nd.2.2.2.2.2)]; exact h.at4, h.new, h.nd⟩
theorem L4.up4 (h : L4 H0 H p1 p2 p3 p4 a b c d) : L4 H0 (upd H p4 (.lst (liV sDro a'))) p1 p2 p3 p4 a b c a' := ⟨same_updN h.same h.new.2.2.2, by rw [upd_ne h.nd.2.2.1]; exact h.at1, by rw [upd_ne h.nd.2.2.2.2.1]; exact h.at2, by rw [upd_ne h.nd.2.2.2.2.2]; exact h.at3, upd_same, h.new, h.nd⟩
end
def sp_law (K : PySem.W.Frag) : Sp := fun vs H Q _ => ∃ (a : Addr) (ns : List Int), vs = [.ref a] ∧ SqL K H a (ns.map V.int) ∧ ns.length ≤ 63 ∧ ∀ H', Q (.bl true) H'
seal PE PT PW PA PS PSs PI PG PIfs PGs PO in
theorem ok_law {P : Program} {w : World} {K : PySem.W.Frag} {mg : Str → Option Value} {base : Heap} {CT : Addr} {cs : Nat → Addr} {ob : Nat → Addr} {f : Addr} {fd : FuncData} (Z : Zs mg) (T : Tx K mg CT cs ob) (G__law_columns : Cal P w K mg base 1 "_law_columns" ["_law_cell_here"] (sp__law_columns K)) (G__law_alike : Cal P w K mg base 1 "_law_alike" ["_law_found", "_law_due"] (sp__law_alike K)) (G__law_cell : Cal P w K mg base 1 "_law_cell" ["_law_script", "_law_k"] (sp__law_cell K)) (G_columns_unlike : Cal P w K mg base 1 "columns_unlike" ["one", "other"] (sp_columns_unlike K)) (K_Pages : MkV P w K mg base 1 "Pages" (ob 3) (sp_Pages_init P w ob)) (M_Pages_kept : MeV P w K mg base 2 (ob 3) "kept" (sp_Pages_kept P w ob)) (K_Leaf : MkV P w K mg base 2 "Leaf" (ob 1) (sp_Leaf_init K ob)) (F : Fun K "law" "law" s_law f fd) : FnOk P w K mg base CX0 4 f fd ["_law_script"] (sp_law K) := by
  refine F.ok sc_law (fun vs H Q E h => by obtain ⟨a, ns, rfl, _⟩ := h; rfl) (fun cdv A outer s H vs Q E hr h => ?_)
  obtain ⟨a, ns, rfl, hS, h63, q⟩ := h
  refine ⟨_, (@pss_cons _ _ _ _ _ (ps_set (i := 1) sc_law.nd rfl (Or.inl rfl) (pe_mk0 K_Pages (k := 3) hr (by decide) rfl))
      (@pss_cons _ _ _ _ _ (ps_set (i := 2) sc_law.nd rfl (Or.inl rfl) (pe_lst pa_nil))
      (@pss_cons _ _ _ _ _ (ps_set (i := 3) sc_law.nd rfl (Or.inl rfl) (pe_lst pa_nil))
      (@pss_cons _ _ _ _ _ (ps_set (i := 4) sc_law.nd rfl (Or.inl rfl) (pe_lst pa_nil))
      (@pss_cons _ _ _ _ _ (ps_set (i := 5) sc_law.nd rfl (Or.inl rfl) (pe_lst pa_nil))
      (@pss_cons _ _ _ _ _ (ps_set (i := 6) sc_law.nd rfl (Or.inl rfl) (pe_cal G__law_columns (k := 3) hr (by decide) rfl (pa_c (pe_cal G__law_cell (k := 3) hr (by decide) rfl (pa_c (pv 0) (pa_c pe_int pa_nil))) pa_nil)))
      (@pss_cons _ _ _ _ _ (ps_for PassesOwn.never rfl (pi_range1 rfl (Z.range) (pa_c pe_int pa_nil)) (pg_name (i := 7) sc_law.nd rfl (Or.inl rfl)) (@pss_cons _ _ _ _ _ (ps_set (i := 8) sc_law.nd rfl (Or.inl rfl) (pe_op op_mod (pe_cal G__law_cell (k := 3) hr (by decide) rfl (pa_c (pv 0) (pa_c (pe_op op_add pe_int (pv 7)) pa_nil))) pe_int))
      (@pss_cons _ _ _ _ _ (ps_if (pt_cmpR op_eq (pe_op op_mod (pv 8) pe_int) pe_int (nomark _)) (pss_one (ps_expr (pe_bm PySem.F.plainAttrs_list PySem.F.slot_list_append PySem.F.type_list_append mt_append (pv 2) (pa_c (pe_ix ix_list (pv 6) (pv 7) (fun _ _ => rfl)) pa_nil)))) pss_nil)
      (@pss_cons _ _ _ _ _ (ps_if (pt_cmpR op_ge (pv 8) pe_int (nomark _)) (pss_one (ps_expr (pe_bm PySem.F.plainAttrs_list PySem.F.slot_list_append PySem.F.type_list_append mt_append (pv 3) (pa_c (pe_ix ix_list (pv 6) (pv 7) (fun _ _ => rfl)) pa_nil)))) pss_nil)
      (@pss_cons _ _ _ _ _ (ps_if (pt_cmpR op_eq (pv 8) pe_int (nomark _)) (pss_one (ps_expr (pe_bm PySem.F.plainAttrs_list PySem.F.slot_list_append PySem.F.type_list_append mt_append (pv 5) (pa_c (pe_ix ix_list (pv 6) (pv 7) (fun _ _ => rfl)) pa_nil)))) pss_nil)
      (pss_one (ps_if (pt_cmpR op_eq (pv 8) pe_int (nomark _)) (pss_one (ps_expr (pe_bm PySem.F.plainAttrs_list PySem.F.slot_list_append PySem.F.type_list_append mt_append (pv 4) (pa_c (pe_ix ix_list (pv 6) (pv 7) (fun _ _ => rfl)) pa_nil)))) pss_nil)))))))
      (@pss_cons _ _ _ _ _ (ps_set (i := 9) sc_law.nd rfl (Or.inl rfl) pe_non)
      (@pss_cons _ _ _ _ _ (ps_if (PW.pt (pw_and (pt_cmpR op_gt (pe_callB call_len_seq rfl (Z.len) bo_len (pa_c (pv 2) pa_nil)) pe_int (nomark _)) (pw_and1 (pt_cmpR op_eq (pe_op op_mod (pe_cal G__law_cell (k := 3) hr (by decide) rfl (pa_c (pv 0) (pa_c pe_int pa_nil))) pe_int) pe_int (nomark _))))) (pss_one (ps_set (i := 9) sc_law.nd rfl (Or.inl rfl) (PE1.pe (pe1_methV (k := 3) (pv 1) hr rfl (pa_c (pe_mk K_Leaf (k := 3) hr (by decide) rfl (pa_c (pe_lst (pa_c (pe_tup (pa_c (pe_op op_mod (pe_cal G__law_cell (k := 3) hr (by decide) rfl (pa_c (pv 0) (pa_c pe_int pa_nil))) (pe_op op_pow pe_int pe_int)) (pa_c (pe_tup (pa_c (pe_tup (pa_c (pe_ix ix_list (pv 2) pe_int (fun _ _ => rfl)) (pa_c pe_int pa_nil))) pa_nil)) pa_nil))) pa_nil)) pa_nil)) pa_nil)) throwsN))) pss_nil)
      (@pss_cons _ _ _ _ _ (ps_set (i := 10) sc_law.nd rfl (Or.inl rfl) (pe_lst (pa_c (pe_tup (pa_c (pe_callTy call_tuple_of rfl (Z.tuple) bo_tuple (pa_c (pv 2) pa_nil)) (pa_c (pv 9) pa_nil))) (pa_c (pe_tup (pa_c (pe_callTy call_tuple_of rfl (Z.tuple) bo_tuple (pa_c (pv 3) pa_nil)) (pa_c pe_non pa_nil))) pa_nil))))
      (@pss_cons _ _ _ _ _ (ps_for PassesOwn.never rfl (pi_range1 rfl (Z.range) (pa_c pe_int pa_nil)) (pg_name (i := 7) sc_law.nd rfl (Or.inl rfl)) (@pss_cons _ _ _ _ _ (ps_if (pt_not (pt_val (pe_cal G__law_alike (k := 3) hr (by decide) rfl (pa_c (pe_cal G_columns_unlike (k := 3) hr (by decide) rfl (pa_c (pe_ix ix_list (pv 10) pe_int (fun _ _ => rfl)) (pa_c (pe_ix ix_list (pv 10) pe_int (fun _ _ => rfl)) pa_nil))) (pa_c (pe_tup (pa_c (pv 4) (pa_c (pv 5) pa_nil))) pa_nil))) (fun _ => rfl))) (pss_one (ps_ret pe_bl)) pss_nil)
      (pss_one (ps_if (pt_not (pt_val (pe_cal G__law_alike (k := 3) hr (by decide) rfl (pa_c (pe_cal G_columns_unlike (k := 3) hr (by decide) rfl (pa_c (pe_ix ix_list (pv 10) pe_int (fun _ _ => rfl)) (pa_c (pe_ix ix_list (pv 10) pe_int (fun _ _ => rfl)) pa_nil))) (pa_c (pe_tup (pa_c (pv 5) (pa_c (pv 4) pa_nil))) pa_nil))) (fun _ => rfl))) (pss_one (ps_ret pe_bl)) pss_nil))))
      (pss_one (ps_ret (pe_cal G__law_alike (k := 3) hr (by decide) rfl (pa_c (pe_cal G_columns_unlike (k := 3) hr (by decide) rfl (pa_c (pe_ix ix_list (pv 10) pe_int (fun _ _ => rfl)) (pa_c (pe_ix ix_list (pv 10) pe_int (fun _ _ => rfl)) pa_nil))) (pa_c (pe_tup (pa_c (pe_lst pa_nil) (pa_c (pe_lst pa_nil) pa_nil))) pa_nil)))))))))))))))), ?_⟩
  refine rd_start (σ := [some (.ref a), none, none, none, none, none, none, none, none, none, none]) rfl ?_
  refine rd_gen5 fun R hR => ?_
  walk_at "rd"
  intro x0 dx0 hx0 hdx0 hne0
  refine ⟨x0, dx0, rfl, upd_same, fun d1 d2 H1 dx fs _ _ s1 st1 => ⟨rfl, ?_⟩⟩
  have S1 : Same H H1 := by rw [upd_upd] at s1; exact same_mk hx0 hdx0 s1
  refine ⟨by decide, fun p1 hp1 => ⟨by decide, fun p2 hp2 => ⟨by decide, fun p3 hp3 => ⟨by decide, fun p4 hp4 => ?_⟩⟩⟩⟩
  have n12 : p2 ≠ p1 := fun z => by rw [z, upd_same] at hp2; cases hp2
  have n13 : p3 ≠ p1 := fun z => by rw [z, upd_ne (Ne.symm n12), upd_same] at hp3; cases hp3
  have n23 : p3 ≠ p2 := fun z => by rw [z, upd_same] at hp3; cases hp3
  have n34 : p4 ≠ p3 := fun z => by rw [z, upd_same] at hp4; cases hp4
  have n24 : p4 ≠ p2 := fun z => by rw [z, upd_ne (Ne.symm n23), upd_same] at hp4; cases hp4
  have n14 : p4 ≠ p1 := fun z => by rw [z, upd_ne (Ne.symm n13), upd_ne (Ne.symm n12), upd_same] at hp4; cases hp4
  rw [upd_ne n34, upd_ne n24, upd_ne n14] at hp4
  rw [upd_ne n23, upd_ne n13] at hp3
  rw [upd_ne n12] at hp2
  have l4 : L4 H1 (upd (upd (upd (upd H1 p1 (.lst [])) p2 (.lst [])) p3 (.lst [])) p4 (.lst [])) p1 p2 p3 p4 [] [] [] [] := ⟨same_updN (same_updN (same_updN (same_upd hp1 _) hp2) hp3) hp4, by rw [upd_ne (Ne.symm n14), upd_ne (Ne.symm n13), upd_ne (Ne.symm n12)]; exact upd_same, by rw [upd_ne (Ne.symm n24), upd_ne (Ne.symm n23)]; exact upd_same, by rw [upd_ne (Ne.symm n34)]; exact upd_same, upd_same, ⟨hp1, hp2, hp3, hp4⟩, ⟨Ne.symm n12, Ne.symm n13, Ne.symm n14, Ne.symm n23, Ne.symm n24, Ne.symm n34⟩⟩
  generalize upd (upd (upd (upd H1 p1 (.lst [])) p2 (.lst [])) p3 (.lst [])) p4 (.lst []) = H2 at l4 ⊢
  refine hR _ _ (rd_gen2 fun R2 hR2 => ?_)
  clear hR
  have fin : ∀ (ps : List (Str × Int)) (H3 : Hp) (x6 : Addr) (x7 x8 : Option V), L4 H1 H3 p1 p2 p3 p4 ps ps ps ps → (ps.map (·.1)).Nodup → ps.length ≤ 30 → (∀ q ∈ ps, 0 ≤ q.2 ∧ q.2 < 4) → R2 [some (.ref a), some (.ref x0), some (.ref p1), some (.ref p2), some (.ref p3), some (.ref p4), some (.ref x6), x7, x8, none, none] H3 := by
    intro ps H3 x6 x7 x8 l3 nd lps hw
    refine hR2 _ _ (rd_gen2 fun R3 hR3 => ?_)
    clear hR2
    walk_at "rd"
    have fin2 : ∀ (H4 : Hp) (root : V), A4 H4 p1 p2 p3 p4 ps → R3 [some (.ref a), some (.ref x0), some (.ref p1), some (.ref p2), some (.ref p3), some (.ref p4), some (.ref x6), x7, x8, some root, none] H4 := by
      intro H4 root l4
      refine hR3 _ _ (rd_gen1 fun R4 hR4 => ?_)
      clear hR3
      have eA : ((ps.filter sOth).map (·.1)).filter (fun z => !decide (z ∈ (ps.filter sOne).map (·.1))) = (ps.filter sAdd).map (·.1) := by
        rw [pick_eq nd]
        congr 1
        refine List.filter_congr fun q hq => ?_
        have := hw q hq
        unfold sOth sOne sAdd
        rw [Bool.eq_iff_iff, Bool.and_eq_true, Bool.not_eq_true', decide_eq_true_iff, decide_eq_false_iff_not, decide_eq_true_iff]
        omega
      have eD : ((ps.filter sOne).map (·.1)).filter (fun z => !decide (z ∈ (ps.filter sOth).map (·.1))) = (ps.filter sDro).map (·.1) := by
        rw [pick_eq nd]
        congr 1
        refine List.filter_congr fun q hq => ?_
        have := hw q hq
        unfold sOth sOne sDro
        rw [Bool.eq_iff_iff, Bool.and_eq_true, Bool.not_eq_true', decide_eq_true_iff, decide_eq_false_iff_not, decide_eq_true_iff]
        omega
      have lO : ((ps.filter sOne).map (·.1)).length ≤ 900 := by rw [List.length_map]; exact Nat.le_trans (List.length_filter_le _ _) (by omega)
      have lT : ((ps.filter sOth).map (·.1)).length ≤ 900 := by rw [List.length_map]; exact Nat.le_trans (List.length_filter_le _ _) (by omega)
      have fin4 : ∀ (G : Hp) (tl T1 T2 u1 u2 : Addr), Same H4 G → G tl = some (.lst [.ref T1, .ref T2]) → G T1 = some (.tup [.ref u1, root]) → G u1 = some (.tup (liV sOne ps)) → G T2 = some (.tup [.ref u2, .non]) → G u2 = some (.tup (liV sOth ps)) → R4 [some (.ref a), some (.ref x0), some (.ref p1), some (.ref p2), some (.ref p3), some (.ref p4), some (.ref x6), x7, x8, some root, some (.ref tl)] G := by
        intro G tl T1 T2 u1 u2 sG g0 g1 g2 g3 g4
        have a3 := sG _ _ l4.at3
        have a4 := sG _ _ l4.at4
        refine hR4 _ _ ?_
        clear hR4
        have al : ∀ (t r1 r2 : Addr) (GA GB : Hp) (us zs : List Str) (Qn : VK), Same G GA → G r1 = none → G r2 = none → r1 ≠ r2 → GA t = some (.tup [.ref r1, .ref r2]) → GA r1 = some (.lst (us.map V.str)) → GA r2 = some (.lst (zs.map V.str)) → ∀ (q3 q4 d : Addr), GA q3 = some (.lst (us.map V.str)) → GA q4 = some (.lst (zs.map V.str)) → GA d = none → (∀ G', Same G G' → Qn (.bl true) G') → sp__law_alike K [.ref t, .ref d] (upd GA d (.tup [.ref q3, .ref q4])) Qn E0 := by
          intro t r1 r2 GA GB us zs Qn sA n1 n2 ne ht h1 h2 q3 q4 d h3 h4 hd qn
          have sd := same_upd hd (.tup [.ref q3, .ref q4])
          refine ⟨t, d, r1, r2, q3, q4, us, zs, rfl, sd _ _ ht, upd_same, sd _ _ h1, sd _ _ h2, sd _ _ h3, sd _ _ h4, ne, fun G' sx => qn G' fun b o hb => sx b o (fun z => ?_) (sd _ _ (sA _ _ hb))⟩
          simp only [List.mem_cons, List.not_mem_nil, or_false] at z
          rcases z with z | z
          · rw [z, n1] at hb; cases hb
          · rw [z, n2] at hb; cases hb
        walk_at "rd"
        have up : ∀ {X : Hp} {r : Addr}, Same G X → X r = none → G r = none := fun {X r} s h => by
          cases e : G r with
          | none => rfl
          | some o => rw [s _ _ e] at h; cases h
        refine ⟨by decide, by decide, ?_⟩
        refine foR_range (fun i σ' H' => ∃ x7', σ' = [some (.ref a), some (.ref x0), some (.ref p1), some (.ref p2), some (.ref p3), some (.ref p4), some (.ref x6), x7', x8, some root, some (.ref tl)] ∧ Same G H') ⟨_, rfl, Same.refl _⟩ ?_ ?_
        · rintro i σ' H' hi ⟨x7', rfl, s1⟩
          walk_at "rd"
          refine ⟨_, SqL.of (s1 _ _ g0), _, at0 _ _, _, SqL.of (s1 _ _ g0), _, at1 _ _ _, ?_⟩
          refine ⟨T1, T2, u1, u2, root, .non, _, _, rfl, s1 _ _ g1, s1 _ _ g2, s1 _ _ g3, s1 _ _ g4, lO, lT, fun r r1 r2 GA sA n1 n2 ne hr h1 h2 => ?_⟩
          rw [eA] at h1
          rw [eD] at h2
          have s2 := s1.trans sA
          refine ⟨two_ok, fun d hd => al r r1 r2 GA GA _ _ _ s2 (up s1 n1) (up s1 n2) ne hr h1 h2 p3 p4 d (s2 _ _ a3) (s2 _ _ a4) hd fun G3 s3 => ⟨true, rfl, ?_⟩⟩
          rw [if_neg (by decide)]
          refine ⟨_, SqL.of (s3 _ _ g0), _, at1 _ _ _, _, SqL.of (s3 _ _ g0), _, at0 _ _, ?_⟩
          refine ⟨T2, T1, u2, u1, .non, root, _, _, rfl, s3 _ _ g3, s3 _ _ g4, s3 _ _ g1, s3 _ _ g2, lT, lO, fun r r1 r2 GA sA n1 n2 ne hr h1 h2 => ?_⟩
          rw [eD] at h1
          rw [eA] at h2
          have s4 := s3.trans sA
          refine ⟨two_ok, fun d hd => al r r1 r2 GA GA _ _ _ s4 (up s3 n1) (up s3 n2) ne hr h1 h2 p4 p3 d (s4 _ _ a4) (s4 _ _ a3) hd fun G5 s5 => ⟨true, rfl, ?_⟩⟩
          rw [if_neg (by decide)]
          exact s5
        · rintro σ' H' ⟨x7', rfl, s1⟩
          walk_at "rd"
          refine ⟨_, SqL.of (s1 _ _ g0), _, at0 _ _, _, SqL.of (s1 _ _ g0), _, at0 _ _, ?_⟩
          refine ⟨T1, T1, u1, u1, root, root, _, _, rfl, s1 _ _ g1, s1 _ _ g2, s1 _ _ g1, s1 _ _ g2, lO, lO, fun r r1 r2 GA sA n1 n2 ne hr h1 h2 => ?_⟩
          have s2 := s1.trans sA
          have nil_ : ∀ us : List Str, us.filter (fun z => !decide (z ∈ us)) = [] := fun us => List.filter_eq_nil_iff.mpr fun z hz => by simp [hz]
          rw [nil_] at h1 h2
          refine ⟨by decide, fun e1 he1 => ⟨by decide, fun e2 he2 => ⟨two_ok, fun d hd => ?_⟩⟩⟩
          have w1 := same_upd he1 (.lst [])
          have w2 := same_upd he2 (.lst [])
          exact al r r1 r2 _ GA [] [] _ (s2.trans (w1.trans w2)) (up s1 n1) (up s1 n2) ne (w2 _ _ (w1 _ _ hr)) (w2 _ _ (w1 _ _ h1)) (w2 _ _ (w1 _ _ h2)) e1 e2 d (w2 _ _ upd_same) upd_same hd fun G' _ => q G'
      walk_at "rd"
      refine ⟨_, .inl ⟨SqL.of l4.at1, fun u1 hu1 => ⟨two_ok, fun T1 hT1 => ⟨_, .inl ⟨SqL.of (same_upd hT1 _ _ _ (same_upd hu1 _ _ _ l4.at2)), fun u2 hu2 => ⟨two_ok, fun T2 hT2 => ⟨two_ok, fun tl htl => ?_⟩⟩⟩⟩⟩⟩⟩
      have e5 := same_upd htl (.lst [.ref T1, .ref T2])
      have e4 := (same_upd hT2 (.tup [.ref u2, .non])).trans e5
      have e3 := (same_upd hu2 (.tup (liV sOth ps))).trans e4
      have e2 := (same_upd hT1 (.tup [.ref u1, root])).trans e3
      have e1 := (same_upd hu1 (.tup (liV sOne ps))).trans e2
      exact fin4 _ tl T1 T2 u1 u2 e1 upd_same (e3 _ _ upd_same) (e2 _ _ upd_same) (e5 _ _ upd_same) (e4 _ _ upd_same)
    clear hR3
    refine ⟨_, .inl (SqL.of l3.at1), ite2 (fun h1 => ?_) fun h1 => ?_⟩
    · refine ⟨a, ns, 1, rfl, (S1.trans l3.same).seq hS, h63, fun c1 => ⟨c1, rfl, ite2 (fun h2 => ?_) fun h2 => ?_⟩⟩
      · have st3 := st1.same l3.same
        obtain ⟨dx3, ho3⟩ := st3.obj
        refine rd_methV rfl ho3 rfl (T.ob_ 3 (by decide)).cl (M_Pages_kept.mono (by decide)) ?_
        walk_at "rd"
        unfold tMake
        walk_at "rd"
        have at3 := l3.at1
        obtain ⟨z0, r0, e0⟩ : ∃ (z0 : Str) (r0 : List V), liV sOne ps = .str z0 :: r0 := by
          cases e : (ps.filter sOne).map (·.1) with
          | nil => unfold liV at h1; rw [e] at h1; simp at h1
          | cons z r => exact ⟨z, r.map V.str, by unfold liV; rw [e]; rfl⟩
        rw [e0] at at3
        refine ⟨a, ns, 1, rfl, (S1.trans l3.same).seq hS, h63, fun c2 => ⟨by walk_at "side", c2, rfl, by decide, _, SqL.of at3, _, at0 _ _, two_ok, fun q1 hq1 => ⟨one_sz _, fun q2 hq2 => ⟨two_ok, fun q3 hq3 => ⟨one_sz _, fun q4 hq4 => ?_⟩⟩⟩⟩⟩
        have e4 := same_upd hq4 (.lst [.ref q3])
        have e3 := (same_upd hq3 (.tup [.int (c2 % 10 ^ 9), .ref q2])).trans e4
        have e2 := (same_upd hq2 (.tup [.ref q1])).trans e3
        have e1 := (same_upd hq1 (.tup [.str z0, .int 7])).trans e2
        have b4 : upd (upd (upd (upd H3 q1 (.tup [.str z0, .int 7])) q2 (.tup [.ref q1])) q3 (.tup [.int (c2 % 10 ^ 9), .ref q2])) q4 (.lst [.ref q3]) q4 = _ := upd_same
        have b3 := e4 _ _ (show upd (upd (upd H3 q1 (.tup [.str z0, .int 7])) q2 (.tup [.ref q1])) q3 (.tup [.int (c2 % 10 ^ 9), .ref q2]) q3 = some _ from upd_same)
        have b2 := e3 _ _ (show upd (upd H3 q1 (.tup [.str z0, .int 7])) q2 (.tup [.ref q1]) q2 = some _ from upd_same)
        have b1 := e2 _ _ (show upd H3 q1 (.tup [.str z0, .int 7]) q1 = some _ from upd_same)
        clear e2 e3 e4
        generalize upd (upd (upd (upd H3 q1 (.tup [.str z0, .int 7])) q2 (.tup [.ref q1])) q3 (.tup [.int (c2 % 10 ^ 9), .ref q2])) q4 (.lst [.ref q3]) = HL at e1 b1 b2 b3 b4 ⊢
        have td : TD HL 6 (.t [.v (.int (c2 % 10 ^ 9)), .t [.t [.v (.str z0), .v (.int 7)]]]) (.ref q3) := TD.mono 3 (by decide) (TD.pair b3 (.ofV rfl) (TD.ofT b2 (.cons (TD.pair b1 (.ofV rfl) (.ofV rfl)) .nil)))
        intro x dx hx hdx hne
        have sH : Same HL (upd (upd HL dx (.own x)) x (.ins (ob 1) dx [])) := same_mk hx hdx (Same.refl _)
        refine ⟨x, dx, q4, false, [.ref q3], [_], rfl, upd_same, sH _ _ b4, .cons (td.same sH) .nil, show 1 ≤ 900 by decide, fun dx3 fs H5 s5 pgd => ⟨rfl, ?_⟩⟩
        have s35 : Same H3 H5 := e1.trans (by rw [upd_upd] at s5; exact same_mk hx hdx s5)
        have st5 := st3.same s35
        refine ⟨x0, d1, d2, [], 0, x, 0, _, rfl, st5, pgd, ⟨0, _, _, [], rfl, rfl, by decide⟩, by decide, (fun n t h => nomatch h), fun _ t H6 sx _ => ?_⟩
        exact fin2 H6 (.int 0) ⟨st5.lst sx (s35 _ _ l3.at1), st5.lst sx (s35 _ _ l3.at2), st5.lst sx (s35 _ _ l3.at3), st5.lst sx (s35 _ _ l3.at4)⟩
      · exact fin2 _ _ ⟨l3.at1, l3.at2, l3.at3, l3.at4⟩
    · exact fin2 _ _ ⟨l3.at1, l3.at2, l3.at3, l3.at4⟩
  clear hR2
  walk_at "rd"
  refine ⟨a, ns, 0, rfl, (S1.trans l4.same).seq hS, h63, fun c0 => ⟨c0, rfl, fun rc zs H3 s3 hrc hrc3 lz ndz => ⟨by decide, by decide, ?_⟩⟩⟩
  have l3 := l4.go s3
  refine foR_range (fun i σ' H' => ∃ (ps : List (Str × Int)) (x7 x8 : Option V), σ' = [some (.ref a), some (.ref x0), some (.ref p1), some (.ref p2), some (.ref p3), some (.ref p4), some (.ref rc), x7, x8, none, none] ∧ L4 H1 H' p1 p2 p3 p4 ps ps ps ps ∧ H' rc = some (.lst (zs.map V.str)) ∧ ps.map (·.1) = zs.take i ∧ ∀ q ∈ ps, 0 ≤ q.2 ∧ q.2 < 4) ⟨[], _, _, rfl, l3, hrc3, by simp, (fun q h => nomatch h)⟩ ?_ ?_
  · rintro i σ' H' hi ⟨ps, x7, x8, rfl, l, hrc', e1, hw⟩
    have hz : zs[i]? = some (zs[i]'(by omega)) := List.getElem?_eq_getElem _
    generalize zs[i]'(by omega) = z at hz
    have lps : ps.length = i := by
      have := congrArg List.length e1
      rw [List.length_map, List.length_take] at this
      omega
    have rcn : ∀ q, q ∈ [p1, p2, p3, p4] → rc ≠ q := fun q hm z => by
      have hrc2 : H2 q ≠ none := by
        simp only [List.mem_cons, List.not_mem_nil, or_false] at hm
        rcases hm with rfl | rfl | rfl | rfl
        · rw [l4.at1]; simp
        · rw [l4.at2]; simp
        · rw [l4.at3]; simp
        · rw [l4.at4]; simp
      rw [← z, hrc] at hrc2
      exact hrc2 rfl
    have r1 := rcn p1 (by simp)
    have r2 := rcn p2 (by simp)
    have r3 := rcn p3 (by simp)
    have r4 := rcn p4 (by simp)
    have col : ∀ {G : Hp}, G rc = some (.lst (zs.map V.str)) → ∃ xs, SqL K G rc xs ∧ ∃ x, atI xs (0 + (i : Int)) = some x ∧ x = .str z := fun {G} h => ⟨_, SqL.of h, _, by rw [Int.zero_add]; exact atI_nat (by rw [List.getElem?_map, hz]; rfl), rfl⟩
    refine rd_gen1 fun Ra hRa => ?_
    have fa : ∀ wy : Int, 0 ≤ wy → wy < 4 → Ra [some (.ref a), some (.ref x0), some (.ref p1), some (.ref p2), some (.ref p3), some (.ref p4), some (.ref rc), some (.int (0 + (i : Int))), some (.int wy), none, none] H' := by
      intro wy w0 w4
      refine hRa _ _ (rd_gen1 fun Rb hRb => ?_)
      clear hRa
      have fb : ∀ G, L4 H1 G p1 p2 p3 p4 (ps ++ [(z, wy)]) ps ps ps → G rc = some (.lst (zs.map V.str)) → Rb [some (.ref a), some (.ref x0), some (.ref p1), some (.ref p2), some (.ref p3), some (.ref p4), some (.ref rc), some (.int (0 + (i : Int))), some (.int wy), none, none] G := by
        intro G lG hG
        refine hRb _ _ (rd_gen1 fun Rc hRc => ?_)
        clear hRb
        have fc : ∀ G, L4 H1 G p1 p2 p3 p4 (ps ++ [(z, wy)]) (ps ++ [(z, wy)]) ps ps → G rc = some (.lst (zs.map V.str)) → Rc [some (.ref a), some (.ref x0), some (.ref p1), some (.ref p2), some (.ref p3), some (.ref p4), some (.ref rc), some (.int (0 + (i : Int))), some (.int wy), none, none] G := by
          intro G lG hG
          refine hRc _ _ (rd_gen1 fun Rd hRd => ?_)
          clear hRc
          have fd : ∀ G, L4 H1 G p1 p2 p3 p4 (ps ++ [(z, wy)]) (ps ++ [(z, wy)]) ps (ps ++ [(z, wy)]) → G rc = some (.lst (zs.map V.str)) → Rd [some (.ref a), some (.ref x0), some (.ref p1), some (.ref p2), some (.ref p3), some (.ref p4), some (.ref rc), some (.int (0 + (i : Int))), some (.int wy), none, none] G := by
            intro G lG hG
            refine hRd _ _ ?_
            clear hRd
            have fin3 : ∀ G, L4 H1 G p1 p2 p3 p4 (ps ++ [(z, wy)]) (ps ++ [(z, wy)]) (ps ++ [(z, wy)]) (ps ++ [(z, wy)]) → G rc = some (.lst (zs.map V.str)) → ∃ ps', L4 H1 G p1 p2 p3 p4 ps' ps' ps' ps' ∧ G rc = some (.lst (zs.map V.str)) ∧ ps'.map (·.1) = zs.take (i + 1) ∧ ∀ q ∈ ps', 0 ≤ q.2 ∧ q.2 < 4 := fun G lG hG => ⟨_, lG, hG, by rw [List.map_append, e1, List.take_add_one, hz]; rfl, fun q hq => by
              rcases List.mem_append.mp hq with h | h
              · exact hw q h
              · rw [List.mem_singleton.mp h]; exact ⟨w0, w4⟩⟩
            walk_at "rd"
            obtain ⟨xs, sq, x, ax, rfl⟩ := col hG
            refine ite2 (fun h => ?_) fun h => ?_
            · refine ⟨.inl ⟨rfl, _, SqL.of lG.at3⟩, xs, sq, _, ax, _, lG.at3, small1000 (by have := liV_len (f := sAdd) (ps := ps); omega), ?_⟩
              rw [show (V.str z) = .str ((z, wy) : Str × Int).1 from rfl, liV_t (show sAdd (z, wy) = true from decide_eq_true h)]
              obtain ⟨ps', g1, g2, g3, g4⟩ := fin3 _ lG.up3 (by rw [upd_ne r3]; exact hG)
              exact ⟨ps', _, _, ⟨rfl, rfl⟩, g1, g2, g3, g4⟩
            · obtain ⟨ps', g1, g2, g3, g4⟩ := fin3 _ ⟨lG.same, lG.at1, lG.at2, by rw [← liV_f (show sAdd (z, wy) = false from decide_eq_false h)]; exact lG.at3, lG.at4, lG.new, lG.nd⟩ hG
              exact ⟨ps', _, _, ⟨rfl, rfl⟩, g1, g2, g3, g4⟩
          walk_at "rd"
          obtain ⟨xs, sq, x, ax, rfl⟩ := col hG
          refine ite2 (fun h => ?_) fun h => ?_
          · refine ⟨.inl ⟨rfl, _, SqL.of lG.at4⟩, xs, sq, _, ax, _, lG.at4, small1000 (by have := liV_len (f := sDro) (ps := ps); omega), ?_⟩
            rw [show (V.str z) = .str ((z, wy) : Str × Int).1 from rfl, liV_t (show sDro (z, wy) = true from decide_eq_true h)]
            exact fd _ lG.up4 (by rw [upd_ne r4]; exact hG)
          · exact fd _ ⟨lG.same, lG.at1, lG.at2, lG.at3, by rw [← liV_f (show sDro (z, wy) = false from decide_eq_false h)]; exact lG.at4, lG.new, lG.nd⟩ hG
        walk_at "rd"
        obtain ⟨xs, sq, x, ax, rfl⟩ := col hG
        refine ite2 (fun h => ?_) fun h => ?_
        · refine ⟨.inl ⟨rfl, _, SqL.of lG.at2⟩, xs, sq, _, ax, _, lG.at2, small1000 (by have := liV_len (f := sOth) (ps := ps); omega), ?_⟩
          rw [show (V.str z) = .str ((z, wy) : Str × Int).1 from rfl, liV_t (show sOth (z, wy) = true from decide_eq_true h)]
          exact fc _ lG.up2 (by rw [upd_ne r2]; exact hG)
        · exact fc _ ⟨lG.same, lG.at1, by rw [← liV_f (show sOth (z, wy) = false from decide_eq_false h)]; exact lG.at2, lG.at3, lG.at4, lG.new, lG.nd⟩ hG
      walk_at "rd"
      obtain ⟨xs, sq, x, ax, rfl⟩ := col hrc'
      refine ite2 (fun h => ?_) fun h => ?_
      · refine ⟨.inl ⟨rfl, _, SqL.of l.at1⟩, xs, sq, _, ax, _, l.at1, small1000 (by have := liV_len (f := sOne) (ps := ps); omega), ?_⟩
        rw [show (V.str z) = .str ((z, wy) : Str × Int).1 from rfl, liV_t (show sOne (z, wy) = true from decide_eq_true h)]
        exact fb _ l.up1 (by rw [upd_ne r1]; exact hrc')
      · exact fb _ ⟨l.same, by rw [← liV_f (show sOne (z, wy) = false from decide_eq_false h)]; exact l.at1, l.at2, l.at3, l.at4, l.new, l.nd⟩ hrc'
    clear hRa
    walk_at "rd"
    refine ⟨a, ns, 2 + i, by rw [Int.zero_add]; rfl, (S1.trans l.same).seq hS, h63, fun cw => ⟨cw, rfl, ?_⟩⟩
    exact fa _ (by omega) (by omega)
  · rintro σ' H' ⟨ps, x7, x8, rfl, l, hrc', e1, hw⟩
    have lps : ps.length ≤ 30 := by
      have := congrArg List.length e1
      rw [List.length_map, List.length_take] at this
      omega
    exact fin ps H' rc x7 x8 l (by rw [e1]; exact (List.take_sublist _ _).nodup ndz) lps hw
theorem law_sp {K : PySem.W.Frag} {H : Hp} {a : Addr} {ns : List Int} (hl : ns.length ≤ 63) (_ : ∀ i ∈ ns, Builtin.Int.intBits i ≤ 2 ^ 20) (hS : SqL K H a (ns.map V.int)) : sp_law K [.ref a] H (fun v _ => v = .bl true) fun _ _ _ => False :=
  ⟨a, ns, rfl, hS, hl, fun _ => rfl⟩
--@SPLIT
theorem all_mk {l : PySem.W.OpenLaw} {w : World} {K : PySem.W.Frag} {h : Heap} {mg : Str → Option Value} {fa : Addr} (X : K.In h) (G : h.Ns mainGlobals mg) (hfa : mg "law" = some (.ref fa))
    (ta : PySem.W.specialIn K (.builtin "object.__class__") "__get__" = some (some (.builtin "getset_descriptor.__get__"))) (tb : PySem.W.takesIn K (.builtin "object.__class__") = some true)
    {O0 : Addr} (oa0 : PySem.W.nsIn K mainGlobals "Page" = some (some (.ref O0))) (of0 : PySem.W.clsFacts K O0 ["level", "rows", "heads", "entries", "told_by_number", "number_by_told", "count"] = true)
    {O1 : Addr} (oa1 : PySem.W.nsIn K mainGlobals "Leaf" = some (some (.ref O1))) (of1 : PySem.W.clsFacts K O1 ["level", "rows", "heads", "entries", "told_by_number", "number_by_told", "count"] = true)
    (om1 : PySem.W.makesIn K O1 = true) (ok1 : PySem.W.keepIn K (.ref O1) = true)
    {O2 : Addr} (oa2 : PySem.W.nsIn K mainGlobals "Twig" = some (some (.ref O2))) (of2 : PySem.W.clsFacts K O2 ["level", "rows", "heads", "entries", "told_by_number", "number_by_told", "count"] = true)
    (om2 : PySem.W.makesIn K O2 = true) (ok2 : PySem.W.keepIn K (.ref O2) = true)
    {O3 : Addr} (oa3 : PySem.W.nsIn K mainGlobals "Pages" = some (some (.ref O3))) (of3 : PySem.W.clsFacts K O3 ["level", "rows", "heads", "entries", "told_by_number", "number_by_told", "count"] = true)
    (om3 : PySem.W.makesIn K O3 = true) (ok3 : PySem.W.keepIn K (.ref O3) = true)
    (oo : PySem.W.mtxOk K [O0, O1, O2, O3] isaM = true)
    {f1 : Addr} {od1 an1 : Option Addr} {sl1 : Array (Option Value)} {oc1 kV1 dc1 pm1 cd1 ct1 : Value}
    (a1_0 : PySem.W.findIn K (.ref O0) "__init__" = some (some (.ref f1)))
    (j1 : PySem.W.isFn K (.ref f1) = true)
    (l1 : K.lookup f1 = some ⟨oc1, od1, .func (PySem.W.fnOf "__init__" "Page.__init__" (defArgs s_Page_init) (defBody s_Page_init) (defScope s_Page_init) .none kV1 dc1 pm1 an1 cd1 ct1), sl1⟩) (c1 : PySem.W.codeIn K cd1 "Page.__init__" = true) (k1 : PySem.W.keepIn K (.ref f1) = true)
    (e1 : PySem.W.clI K O0 f1 = true)
    {f2 : Addr} {od2 an2 : Option Addr} {sl2 : Array (Option Value)} {oc2 kV2 dc2 pm2 cd2 ct2 : Value}
    (a2_0 : PySem.W.findIn K (.ref O0) "told" = some (some (.ref f2)))
    (a2_1 : PySem.W.findIn K (.ref O1) "told" = some (some (.ref f2)))
    (a2_2 : PySem.W.findIn K (.ref O2) "told" = some (some (.ref f2)))
    (j2 : PySem.W.isFn K (.ref f2) = true)
    (l2 : K.lookup f2 = some ⟨oc2, od2, .func (PySem.W.fnOf "told" "Page.told" (defArgs s_Page_told) (defBody s_Page_told) (defScope s_Page_told) .none kV2 dc2 pm2 an2 cd2 ct2), sl2⟩) (c2 : PySem.W.codeIn K cd2 "Page.told" = true) (k2 : PySem.W.keepIn K (.ref f2) = true)
    {f3 : Addr} {od3 an3 : Option Addr} {sl3 : Array (Option Value)} {oc3 kV3 dc3 pm3 cd3 ct3 : Value}
    (a3_3 : PySem.W.findIn K (.ref O3) "__init__" = some (some (.ref f3)))
    (j3 : PySem.W.isFn K (.ref f3) = true)
    (l3 : K.lookup f3 = some ⟨oc3, od3, .func (PySem.W.fnOf "__init__" "Pages.__init__" (defArgs s_Pages_init) (defBody s_Pages_init) (defScope s_Pages_init) .none kV3 dc3 pm3 an3 cd3 ct3), sl3⟩) (c3 : PySem.W.codeIn K cd3 "Pages.__init__" = true) (k3 : PySem.W.keepIn K (.ref f3) = true)
    {f4 : Addr} {od4 an4 : Option Addr} {sl4 : Array (Option Value)} {oc4 kV4 dc4 pm4 cd4 ct4 : Value}
    (a4 : PySem.W.nsIn K mainGlobals "columns_unlike" = some (some (.ref f4)))
    (l4 : K.lookup f4 = some ⟨oc4, od4, .func (PySem.W.fnOf "columns_unlike" "columns_unlike" (defArgs s_columns_unlike) (defBody s_columns_unlike) (defScope s_columns_unlike) .none kV4 dc4 pm4 an4 cd4 ct4), sl4⟩) (c4 : PySem.W.codeIn K cd4 "columns_unlike" = true) (k4 : PySem.W.keepIn K (.ref f4) = true)
    {f5 : Addr} {od5 an5 : Option Addr} {sl5 : Array (Option Value)} {oc5 kV5 dc5 pm5 cd5 ct5 : Value}
    (a5 : PySem.W.nsIn K mainGlobals "_law_cell" = some (some (.ref f5)))
    (l5 : K.lookup f5 = some ⟨oc5, od5, .func (PySem.W.fnOf "_law_cell" "_law_cell" (defArgs s__law_cell) (defBody s__law_cell) (defScope s__law_cell) .none kV5 dc5 pm5 an5 cd5 ct5), sl5⟩) (c5 : PySem.W.codeIn K cd5 "_law_cell" = true) (k5 : PySem.W.keepIn K (.ref f5) = true)
    {f6 : Addr} {od6 an6 : Option Addr} {sl6 : Array (Option Value)} {oc6 kV6 dc6 pm6 cd6 ct6 : Value}
    (a6 : PySem.W.nsIn K mainGlobals "_law_columns" = some (some (.ref f6)))
    (l6 : K.lookup f6 = some ⟨oc6, od6, .func (PySem.W.fnOf "_law_columns" "_law_columns" (defArgs s__law_columns) (defBody s__law_columns) (defScope s__law_columns) .none kV6 dc6 pm6 an6 cd6 ct6), sl6⟩) (c6 : PySem.W.codeIn K cd6 "_law_columns" = true) (k6 : PySem.W.keepIn K (.ref f6) = true)
    {f7 : Addr} {od7 an7 : Option Addr} {sl7 : Array (Option Value)} {oc7 kV7 dc7 pm7 cd7 ct7 : Value}
    (a7 : PySem.W.nsIn K mainGlobals "_law_alike" = some (some (.ref f7)))
    (l7 : K.lookup f7 = some ⟨oc7, od7, .func (PySem.W.fnOf "_law_alike" "_law_alike" (defArgs s__law_alike) (defBody s__law_alike) (defScope s__law_alike) .none kV7 dc7 pm7 an7 cd7 ct7), sl7⟩) (c7 : PySem.W.codeIn K cd7 "_law_alike" = true) (k7 : PySem.W.keepIn K (.ref f7) = true)
    {f8 : Addr} {od8 an8 : Option Addr} {sl8 : Array (Option Value)} {oc8 kV8 dc8 pm8 cd8 ct8 : Value}
    (a8_1 : PySem.W.findIn K (.ref O1) "__init__" = some (some (.ref f8)))
    (j8 : PySem.W.isFn K (.ref f8) = true)
    (l8 : K.lookup f8 = some ⟨oc8, od8, .func (PySem.W.fnOf "__init__" "Leaf.__init__" (defArgs s_Leaf_init) (defBody s_Leaf_init) (defScope s_Leaf_init) .none kV8 dc8 pm8 an8 cd8 ct8), sl8⟩) (c8 : PySem.W.codeIn K cd8 "Leaf.__init__" = true) (k8 : PySem.W.keepIn K (.ref f8) = true)
    {f9 : Addr} {od9 an9 : Option Addr} {sl9 : Array (Option Value)} {oc9 kV9 dc9 pm9 cd9 ct9 : Value}
    (a9_2 : PySem.W.findIn K (.ref O2) "__init__" = some (some (.ref f9)))
    (j9 : PySem.W.isFn K (.ref f9) = true)
    (l9 : K.lookup f9 = some ⟨oc9, od9, .func (PySem.W.fnOf "__init__" "Twig.__init__" (defArgs s_Twig_init) (defBody s_Twig_init) (defScope s_Twig_init) .none kV9 dc9 pm9 an9 cd9 ct9), sl9⟩) (c9 : PySem.W.codeIn K cd9 "Twig.__init__" = true) (k9 : PySem.W.keepIn K (.ref f9) = true)
    {f10 : Addr} {od10 an10 : Option Addr} {sl10 : Array (Option Value)} {oc10 kV10 dc10 pm10 cd10 ct10 : Value}
    (a10_3 : PySem.W.findIn K (.ref O3) "kept" = some (some (.ref f10)))
    (j10 : PySem.W.isFn K (.ref f10) = true)
    (l10 : K.lookup f10 = some ⟨oc10, od10, .func (PySem.W.fnOf "kept" "Pages.kept" (defArgs s_Pages_kept) (defBody s_Pages_kept) (defScope s_Pages_kept) .none kV10 dc10 pm10 an10 cd10 ct10), sl10⟩) (c10 : PySem.W.codeIn K cd10 "Pages.kept" = true) (k10 : PySem.W.keepIn K (.ref f10) = true)
    {f11 : Addr} {od11 an11 : Option Addr} {sl11 : Array (Option Value)} {oc11 kV11 dc11 pm11 cd11 ct11 : Value}
    (a11 : PySem.W.nsIn K mainGlobals "law" = some (some (.ref f11)))
    (l11 : K.lookup f11 = some ⟨oc11, od11, .func (PySem.W.fnOf "law" "law" (defArgs s_law) (defBody s_law) (defScope s_law) .none kV11 dc11 pm11 an11 cd11 ct11), sl11⟩) (c11 : PySem.W.codeIn K cd11 "law" = true) (k11 : PySem.W.keepIn K (.ref f11) = true)
    (z1 : PySem.W.nsIn K mainGlobals "isinstance" = some none)
    (z2 : PySem.W.nsIn K mainGlobals "len" = some none)
    (z3 : PySem.W.nsIn K mainGlobals "list" = some none)
    (z4 : PySem.W.nsIn K mainGlobals "range" = some none)
    (z5 : PySem.W.nsIn K mainGlobals "tuple" = some none)
    : ∃ fd : FuncData, (∀ (s : Shared) (v : Value), BindsTo s fd ⟨[v], []⟩ [("_law_script", v)]) ∧ ∀ base : Heap, K.In base → base.Ns mainGlobals mg → FnOk l.prog w K mg base CX0 4 fa fd ["_law_script"] (sp_law K) := by
  have e := hfa.symm.trans (PySem.W.mg_of X G a11)
  cases e
  have F1 := fun_mk (st := s_Page_init) l1 c1 k1
  have b1 := F1.binds (ps := ["self", "level", "entries"]) fun _ _ _ _ _ _ us hl => match us, hl with | [_, _, _], _ => rfl
  have F2 := fun_mk (st := s_Page_told) l2 c2 k2
  have b2 := F2.binds (ps := ["self"]) fun _ _ _ _ _ _ us hl => match us, hl with | [_], _ => rfl
  have F3 := fun_mk (st := s_Pages_init) l3 c3 k3
  have b3 := F3.binds (ps := ["self"]) fun _ _ _ _ _ _ us hl => match us, hl with | [_], _ => rfl
  have F4 := fun_mk (st := s_columns_unlike) l4 c4 k4
  have b4 := F4.binds (ps := ["one", "other"]) fun _ _ _ _ _ _ us hl => match us, hl with | [_, _], _ => rfl
  have F5 := fun_mk (st := s__law_cell) l5 c5 k5
  have b5 := F5.binds (ps := ["_law_script", "_law_k"]) fun _ _ _ _ _ _ us hl => match us, hl with | [_, _], _ => rfl
  have F6 := fun_mk (st := s__law_columns) l6 c6 k6
  have b6 := F6.binds (ps := ["_law_cell_here"]) fun _ _ _ _ _ _ us hl => match us, hl with | [_], _ => rfl
  have F7 := fun_mk (st := s__law_alike) l7 c7 k7
  have b7 := F7.binds (ps := ["_law_found", "_law_due"]) fun _ _ _ _ _ _ us hl => match us, hl with | [_, _], _ => rfl
  have F8 := fun_mk (st := s_Leaf_init) l8 c8 k8
  have b8 := F8.binds (ps := ["self", "rows"]) fun _ _ _ _ _ _ us hl => match us, hl with | [_, _], _ => rfl
  have F9 := fun_mk (st := s_Twig_init) l9 c9 k9
  have b9 := F9.binds (ps := ["self", "level", "heads"]) fun _ _ _ _ _ _ us hl => match us, hl with | [_, _, _], _ => rfl
  have F10 := fun_mk (st := s_Pages_kept) l10 c10 k10
  have b10 := F10.binds (ps := ["self", "page"]) fun _ _ _ _ _ _ us hl => match us, hl with | [_, _], _ => rfl
  have F11 := fun_mk (st := s_law) l11 c11 k11
  have b11 := F11.binds (ps := ["_law_script"]) fun _ _ _ _ _ _ us hl => match us, hl with | [_], _ => rfl
  have Z : Zs mg := ⟨PySem.W.mg_none_of X G z1, PySem.W.mg_none_of X G z2, PySem.W.mg_none_of X G z3, PySem.W.mg_none_of X G z4, PySem.W.mg_none_of X G z5⟩
  have T : Tx K mg 0 (fun _ => 0) (fun i => [O0, O1, O2, O3].getD i 0) := ⟨PySem.W.mg_of X G oa0,
    PySem.W.mg_of X G oa1,
    PySem.W.mg_of X G oa2,
    PySem.W.mg_of X G oa3,
    fun i hi => match i, hi with | 0, _ => ObC.of of0 ta tb | 1, _ => ObC.of of1 ta tb | 2, _ => ObC.of of2 ta tb | 3, _ => ObC.of of3 ta tb | m + 4, h => absurd h (by omega),
    PySem.W.mtx_of oo⟩
  refine ⟨PySem.W.fnOf "law" "law" (defArgs s_law) (defBody s_law) (defScope s_law) .none kV11 dc11 pm11 an11 cd11 ct11, fun s v => .of_eq rfl, fun base _ _ => ?_⟩
  have B_Page : BaI l.prog w K mg base 1 "Page" (sp_Page_init K (fun i => [O0, O1, O2, O3].getD i 0)) := ⟨O0, _, _, _, PySem.W.mg_of X G oa0, ClI.of e1, k1, ok_Page_init Z T  F1, b1⟩
  have M_Page_told : MeV l.prog w K mg base 1 O0 "told" (sp_Page_told K (fun i => [O0, O1, O2, O3].getD i 0)) := ⟨_, _, _, ⟨a2_0, j2, k2⟩, ok_Page_told Z T  F2, b2⟩
  have M_Leaf_told : MeV l.prog w K mg base 1 O1 "told" (sp_Page_told K (fun i => [O0, O1, O2, O3].getD i 0)) := ⟨_, _, _, ⟨a2_1, j2, k2⟩, ok_Page_told Z T  F2, b2⟩
  have M_Twig_told : MeV l.prog w K mg base 1 O2 "told" (sp_Page_told K (fun i => [O0, O1, O2, O3].getD i 0)) := ⟨_, _, _, ⟨a2_2, j2, k2⟩, ok_Page_told Z T  F2, b2⟩
  have K_Pages : MkV l.prog w K mg base 1 "Pages" O3 (sp_Pages_init l.prog w (fun i => [O0, O1, O2, O3].getD i 0)) := ⟨_, _, _, ⟨om3, a3_3, j3, ok3⟩, ok_Pages_init Z T  F3, b3, PySem.W.mg_of X G oa3⟩
  have C_columns_unlike : Cal l.prog w K mg base 1 "columns_unlike" ["one", "other"] (sp_columns_unlike K) := ⟨_, _, ok_columns_unlike Z T  F4, b4, k4, PySem.W.mg_of X G a4⟩
  have C__law_cell : Cal l.prog w K mg base 1 "_law_cell" ["_law_script", "_law_k"] (sp__law_cell K) := ⟨_, _, ok__law_cell Z T  F5, b5, k5, PySem.W.mg_of X G a5⟩
  have C__law_columns : Cal l.prog w K mg base 1 "_law_columns" ["_law_cell_here"] (sp__law_columns K) := ⟨_, _, ok__law_columns Z T  F6, b6, k6, PySem.W.mg_of X G a6⟩
  have C__law_alike : Cal l.prog w K mg base 1 "_law_alike" ["_law_found", "_law_due"] (sp__law_alike K) := ⟨_, _, ok__law_alike Z T  F7, b7, k7, PySem.W.mg_of X G a7⟩
  have K_Leaf : MkV l.prog w K mg base 2 "Leaf" O1 (sp_Leaf_init K (fun i => [O0, O1, O2, O3].getD i 0)) := ⟨_, _, _, ⟨om1, a8_1, j8, ok1⟩, ok_Leaf_init Z T B_Page F8, b8, PySem.W.mg_of X G oa1⟩
  have K_Twig : MkV l.prog w K mg base 2 "Twig" O2 (sp_Twig_init K (fun i => [O0, O1, O2, O3].getD i 0)) := ⟨_, _, _, ⟨om2, a9_2, j9, ok2⟩, ok_Twig_init Z T B_Page F9, b9, PySem.W.mg_of X G oa2⟩
  have M_Pages_kept : MeV l.prog w K mg base 2 O3 "kept" (sp_Pages_kept l.prog w (fun i => [O0, O1, O2, O3].getD i 0)) := ⟨_, _, _, ⟨a10_3, j10, k10⟩, ok_Pages_kept Z T M_Page_told M_Leaf_told M_Twig_told F10, b10⟩
  exact ok_law Z T C__law_columns C__law_alike C__law_cell C_columns_unlike K_Pages M_Pages_kept K_Leaf F11
end My
def PySem.W.Fast.tw701110455912874841 : Nat := 0
def PySem.W.Fast.tw3414741983766439614 : Nat := 0
def PySem.W.Fast.tw18380589094702104393 : Nat := 0
def PySem.W.Fast.tw4229000320358385804 : Nat := 0
def PySem.W.Fast.tw12861760232056228074 : Nat := 0
def PySem.W.Fast.tw16842526509164129600 : Nat := 0
def PySem.W.Fast.tw4345018157062575836 : Nat := 0
def PySem.W.Fast.tw10167839235675497526 : Nat := 0
def PySem.W.Fast.tw16130447264230528469 : Nat := 0
def PySem.W.Fast.tw15199551255178204974 : Nat := 0
def PySem.W.Fast.tw4110926384991678854 : Nat := 0
def PySem.W.Fast.tw12874813398722882785 : Nat := 0
def PySem.W.Fast.tw10906132593258576913 : Nat := 0
def PySem.W.Fast.tw5230443558630204107 : Nat := 0
def PySem.W.Fast.tw5589194459132321962 : Nat := 0
def PySem.W.Fast.tw17893020705926770379 : Nat := 0
def PySem.W.Fast.tw6951872550360713903 : Nat := 0
open PySem PySem.W PyProof.Rows
set_option maxRecDepth 100000 in
set_option maxHeartbeats 0 in
theorem PySem.Challenge.cw_twigtable_k38_columns_unlike_holds : PySem.Challenge.rw_twigtable_k38_columns_unlike.Holds := by
  w_on; o_law; k_head; (case hw => w_witness2)
  k_fill
  refine L2.walk_ofB (l := PySem.Challenge.rw_twigtable_k38_columns_unlike) (n := 63) (k := 4) (x := "_law_script") (CX := fun _ => L2.CX0) (sp := My.sp_law) rfl (by decide) rfl ⟨rfl, by decide, by decide⟩ (fun w h Y => PySem.W.kIn_of Y) ?F ?S ?C
  case F =>
    intro w mg fa h KX G hmg
    refine' My.all_mk KX G hmg ?ta ?tb ?oa0 ?of0 ?oa1 ?of1 ?om1 ?ok1 ?oa2 ?of2 ?om2 ?ok2 ?oa3 ?of3 ?om3 ?ok3 ?oo ?a1_0 ?j1 ?l1 ?c1 ?k1 ?e1 ?a2_0 ?a2_1 ?a2_2 ?j2 ?l2 ?c2 ?k2 ?a3_3 ?j3 ?l3 ?c3 ?k3 ?a4 ?l4 ?c4 ?k4 ?a5 ?l5 ?c5 ?k5 ?a6 ?l6 ?c6 ?k6 ?a7 ?l7 ?c7 ?k7 ?a8_1 ?j8 ?l8 ?c8 ?k8 ?a9_2 ?j9 ?l9 ?c9 ?k9 ?a10_3 ?j10 ?l10 ?c10 ?k10 ?a11 ?l11 ?c11 ?k11 ?z1 ?z2 ?z3 ?z4 ?z5
    (case ta => (first | rfl | kernel_rfl | decide +kernel))
    (case tb => (first | rfl | kernel_rfl | decide +kernel))
    (case oa0 => k_is)
    (case of0 => (first | rfl | kernel_rfl | decide +kernel))
    (case oa1 => k_is)
    (case of1 => (first | rfl | kernel_rfl | decide +kernel))
    (case om1 => k_is)
    (case ok1 => k_is)
    (case oa2 => k_is)
    (case of2 => (first | rfl | kernel_rfl | decide +kernel))
    (case om2 => k_is)
    (case ok2 => k_is)
    (case oa3 => k_is)
    (case of3 => (first | rfl | kernel_rfl | decide +kernel))
    (case om3 => k_is)
    (case ok3 => k_is)
    (case oo => (first | rfl | kernel_rfl | decide +kernel))
    (case a1_0 => k_is)
    (case j1 => k_is)
    (case l1 => k_is)
    (case c1 => k_is)
    (case k1 => k_is)
    (case e1 => (first | rfl | kernel_rfl | decide +kernel))
    (case a2_0 => k_is)
    (case a2_1 => k_is)
    (case a2_2 => k_is)
    (case j2 => k_is)
    (case l2 => k_is)
    (case c2 => k_is)
    (case k2 => k_is)
    (case a3_3 => k_is)
    (case j3 => k_is)
    (case l3 => k_is)
    (case c3 => k_is)
    (case k3 => k_is)
    (case a4 => k_is)
    (case l4 => k_is)
    (case c4 => k_is)
    (case k4 => k_is)
    (case a5 => k_is)
    (case l5 => k_is)
    (case c5 => k_is)
    (case k5 => k_is)
    (case a6 => k_is)
    (case l6 => k_is)
    (case c6 => k_is)
    (case k6 => k_is)
    (case a7 => k_is)
    (case l7 => k_is)
    (case c7 => k_is)
    (case k7 => k_is)
    (case a8_1 => k_is)
    (case j8 => k_is)
    (case l8 => k_is)
    (case c8 => k_is)
    (case k8 => k_is)
    (case a9_2 => k_is)
    (case j9 => k_is)
    (case l9 => k_is)
    (case c9 => k_is)
    (case k9 => k_is)
    (case a10_3 => k_is)
    (case j10 => k_is)
    (case l10 => k_is)
    (case c10 => k_is)
    (case k10 => k_is)
    (case a11 => k_is)
    (case l11 => k_is)
    (case c11 => k_is)
    (case k11 => k_is)
    (case z1 => k_is)
    (case z2 => k_is)
    (case z3 => k_is)
    (case z4 => k_is)
    (case z5 => k_is)
  case S => exact fun w H a ns hl hb hO hS => My.law_sp hl hb hS
  case C => exact fun _ _ _ _ _ z => z


end
